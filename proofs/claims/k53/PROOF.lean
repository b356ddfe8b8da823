import PyProof.Rows.All
import Wide.All
import OpenK.AllK
import Wide.FinOn
import HandS.Base
import HandS.Call
import HandS.Exc
import HandS.List
import HandS.Comp
import HandS.Ends
import HandS.ExcOwn
import HandS.ExcInit
import HandS.OwnEq
import HandS.Words
import HandS.Defaults
import HandS.Head0
import HandS.Head1
import HandS.Head2
import HandS.HeadHook1
import HandS.HeadHook2
import HandS.IsInst
import HandS.ExcField
import HandS.Conv
import HandS.WordsExc
import HandS.Star
import HandS.TupAny
import HandS.Gcd
import KE.DataAny
import HandS.TupMul
import HandS.TupLen
import HandS.DictTup
import HandS.Zip
import HandS.Iter
import HandS.Dict
import HandS.Walk
import KE.GoesMore
import HandS.Strs
import HandS.Style
import KE.KRevSl
import HandS.HotCalls
import HandS.ExcIs
import HandS.MakeKw
import HandS.ExcInitHot
import HandS.HeadEnd
import PySem.Challenge.RW_wishunseen_k53_polynomials_through_point
set_option Elab.async false
set_option linter.all false
set_option maxRecDepth 100000
set_option maxHeartbeats 4000000
/-! try with several clauses «except C as n», and with clauses without a name among them -/
namespace WU
open PySem PySem.Spec PyProof.Rows L2
/-- a clause: the class, its name's slot (if it has one), what the suite does -/
abbrev Cl := Value × Option Nat × (Addr → Value → Option Addr → TS)
/-- behind a named suite the slot is empty -/
def wiped (i : Nat) (D : Ends) : Ends := { nx := fun z h => D.nx (z.set i none) h, rt := D.rt, bk := fun z h => D.bk (z.set i none) h, ct := fun z h => D.ct (z.set i none) h }
def suiteOf (i : Option Nat) (ts : TS) (D : Ends) (σ : L2.St) (H : Hp) (a : Addr) : Prop :=
  match i with
  | some j => ts (wiped j D) (σ.set j (some (V.ref a))) H
  | none => ts D σ H
/-- what the clauses wish of an exception that leaves the body -/
def wCls (K : PySem.W.Frag) (Wout : WX) (D : Ends) : List Cl → WX
  | [] => Wout
  | q :: r => fun cls d σ H => ∃ b, PySem.W.exmOne K cls q.1 = some b ∧ (b = true → ∀ a, H a = none → suiteOf q.2.1 (q.2.2 a cls d) D σ H a) ∧ (b = false → wCls K Wout D r cls d σ H)
inductive Clauses (X : Cx) : List ExceptHandler → List Cl → Prop
  | nil : Clauses X [] []
  | named {x n : Str} {i : Nat} {c : Value} {ts : Addr → Value → Option Addr → TS} {b : Stmt} {su : List Stmt} {p q : Pos} {hs : List ExceptHandler} {l : List Cl}
      (hi : X.N[i]? = some n) (hl : X.env.kindOf n = some .local) (hc : Names X x c)
      (hsu : ∀ (a : Addr) (oe : Obj) (cls : Value) (d : Option Addr) (pn : List (Addr × Obj)), Zc cls d oe → (∃ vs, oe.data = .fields vs) → PSs (X.suite a ((a, oe) :: pn)) (b :: su) (ts a cls d))
      (r : Clauses X hs l) : Clauses X (.ExceptHandler (some (.Name x p)) (some n) (b :: su) q :: hs) ((c, some i, ts) :: l)
section
variable {X : Cx} {body : List Stmt} {h₀ : ExceptHandler} {hds : List ExceptHandler} {l : List Cl} {pos : Pos} {tb : WX → TS} {Wout : WX}
theorem ps_try_cls (hst : X.stack = X.env :: X.outer) (hfr : X.env.frame = some X.env.locals) (hN : X.N.Nodup) (tk : Takes X Wout)
    (hb : ∀ (W : WX) (pn : List (Addr × Obj)) (xe : Value → Shared → Prop), Takes (X.tr pn xe) W →
      PassesOwn (model X.prog X.w) X.A X.env xe → PSs (X.tr pn xe) body (tb W))
    (hh : Clauses X (h₀ :: hds) l) : PS X (.Try body (h₀ :: hds) [] [] pos) (fun D σ H => tb (wCls X.K Wout D l) D σ H) := by
  constructor
  intro pins s σ H D I h
  have okX := I.ok
  have frA : X.A.frames = some (X.env :: X.outer) := okX.frames.trans (congrArg some hst)
  apply wpAny_Try_except
  let xe1 : Value → Shared → Prop := fun e s₁ => wpAny (model X.prog X.w) X.A (noteFrame e X.env) (fun _ s₂ =>
    wpAny (model X.prog X.w) X.A (setFlight e none) (fun _ s₃ => wpAny (model X.prog X.w) X.A (handleBy e X.env (h₀ :: hds))
      (SP X pins D) X.xe s₃) X.xe s₂) X.xe s₁
  have taken : Takes (X.tr (X.pn ++ pins) xe1) (wCls X.K Wout D l) := by
    rintro u st ⟨a, B, sI, pins', σ', H', cls, d, rfl, J', nb, up, sky, na, os, ag, wish⟩
    have J : Inv X pins σ' H' sI := J'.ofTry okX
    rw [show (X.tr (X.pn ++ pins) xe1).stack = X.env :: X.outer from hst] at sky
    show wpAny (model X.prog X.w) X.A (noteFrame (Value.ref a) X.env) _ _ _
    refine Sky.land Zc.steady frA hfr sky fun hA flA upA => ?_
    have JA : Inv X pins σ' H' { st with heap := hA } := J.landed nb flA.1 (up.trans upA) os ag
    obtain ⟨oA, vA, eA, zA, dA⟩ := flA.there
    have offF : a ∉ frs (X.env :: X.outer) := fun hm => by
      obtain ⟨_, o', e', hn⟩ := flA.2.2.1.mem hm
      cases eA.symm.trans e'
      exact hn _ dA
    have offL : a ≠ X.env.locals := by
      rintro rfl
      exact offF (List.mem_filterMap.mpr ⟨X.env, .head _, hfr⟩)
    have offO : a ∉ X.fs := fun hm => by
      obtain ⟨en, hen, q⟩ := List.mem_filterMap.mp hm
      exact offF (List.mem_filterMap.mpr ⟨en, .tail _ hen, q⟩)
    have SA := JA.suite eA dA na offL offO
    have isT : PySem.W.Looks (model X.prog X.w) hA (typeOf (.ref a)) cls := by
      intro A Q E s2 kk q
      refine wpAny_typeOf_ref (kk _ _ eA) ?_
      rw [zA.1]
      exact q
    have onward : ∀ {hs : List ExceptHandler} {l' : List Cl}, Clauses X hs l' → wCls X.K Wout D l' cls d σ' H' →
        wpAny (model X.prog X.w) X.A (handleBy (.ref a) X.env hs) (SP X pins D) X.xe { st with heap := hA } := by
      intro hs l' hk
      induction hk with
      | nil =>
        intro wout
        apply wpAny_handleBy_nil
        obtain ⟨_, _, _, oe, vs, T, oT, tt, he, hz, hd, h1, hr⟩ := id flA
        unfold PySem.passOn
        apply wpAny_bind
        refine wpAny_field he hd h1 ?_
        have nn : ¬ ((Value.ref T == Value.none) = true) := by simp
        rw [if_neg nn]
        have fin : wpAny (model X.prog X.w) X.A (setFlight (.ref a) X.env.frame) (fun _ s4 =>
            wpAny (model X.prog X.w) X.A (throw (.ref a) : Sem Flow) (SP X pins D) X.xe s4) X.xe { st with heap := hA } := by
          rw [hfr]
          refine HandSPX.setFlight_upZ flA fun hB hhB upB => ?_
          apply wpAny_throw
          apply tk
          refine ⟨a, B, sI, pins, σ', H', cls, d, rfl, J, nb, (up.trans upA).trans upB, ?_, na, os, ag, wout⟩
          right; right
          rw [hst]
          exact hhB
        first
          | exact wpAny_bind (wpAny_pure (wpAny_bind fin))
          | exact wpAny_bind fin
      | @named x n i c ts b su p q hs2 l2 hi hl hc hsu r ih =>
        rintro ⟨yes, hyn, onYes, onNo⟩
        refine wpAny_handleBy_cons (codeAny_handlers_test ?_) (by intro z; cases z)
        have hits := PySem.W.exm_one (M := model X.prog X.w) JA.kIn isT hyn
        have asked : ∀ {Q E : Value → Shared → Prop}, Q c { st with heap := hA } →
            wpAny (model X.prog X.w) (X.A.mark (some (.ref a))) (eval (.Name x p) X.env) Q E { st with heap := hA } := by
          intro Q E q
          obtain ⟨g1, g2, g3⟩ := hc
          rcases g3 with g3 | ⟨g3, g4, g5⟩
          · exact ld_glob (X := X.suite a ((a, oA) :: (X.pn ++ pins))) SA g1 g3 q g2
          · exact ld_blt (X := X.suite a ((a, oA) :: (X.pn ++ pins))) SA g1 g3 g4 q g5 g2
        apply asked
        refine hits.here ?_
        cases yes with
        | false => exact ih (onNo rfl)
        | true =>
          apply codeAny_handlers_suite_as
          refine HandSPX.lands_againZ flA fun hB flB upB => ?_
          have JB : Inv X pins σ' H' { st with heap := hB } := J.landed nb flB.1 ((up.trans upA).trans upB) os ag
          obtain ⟨oB, vB, eB, zB, dB⟩ := flB.there
          have SB := JB.suite eB dB na offL offO
          refine store_ok (X := X.suite a ((a, oB) :: (X.pn ++ pins))) (v := .ref a) SB hN hi (Or.inl hl) rfl (fun s5 S5 => ?_) (Or.inr hl)
          have runs := (hsu a oB cls d (X.pn ++ pins) zB ⟨_, dB⟩).run [] s5 _ H' _ S5 (onYes rfl a na)
          refine wpAny_mono runs (fun f s6 hsp => ?_) fun _ _ z => z.elim
          have left_ : ∀ {σ6 : L2.St} {H6 : Hp} {Q : Shared → Prop}, Inv (X.suite a ((a, oB) :: (X.pn ++ pins))) [] σ6 H6 s6 →
              (∀ s7, Inv X pins (σ6.set i none) H6 s7 → Q s7) →
              wpAny (model X.prog X.w) X.A (do bindName X.env n .none; unbindBehindTheSuite X.env n q) (fun _ s7 => Q s7) X.xe s6 :=
            fun S6 k => gone_ok (S6.unsuite okX) hN hi hl k
          match f, hsp with
          | .next, ⟨σ6, H6, S6, q6⟩ => exact left_ S6 fun s7 J7 => ⟨_, _, J7, q6⟩
          | .brk, ⟨σ6, H6, S6, q6⟩ => exact left_ S6 fun s7 J7 => ⟨_, _, J7, q6⟩
          | .cont, ⟨σ6, H6, S6, q6⟩ => exact left_ S6 fun s7 J7 => ⟨_, _, J7, q6⟩
          | .ret u, ⟨v6, σ6, H6, S6, r6, q6⟩ => exact left_ S6 fun s7 J7 => ⟨_, _, _, J7, r6, q6⟩
    exact onward hh wish
  have body_ := (hb _ (X.pn ++ pins) xe1 taken PassesOwn.looking).run [] s σ H D (I.toTry _) h
  refine wpAny_mono body_ (fun f s1 hsp => ?_) fun _ _ z => z
  match f, hsp with
  | .next, ⟨σ', H', J', q⟩ => exact wpAny_execs_nil ⟨σ', H', J'.ofTry okX, q⟩
  | .brk, ⟨σ', H', J', q⟩ => exact ⟨σ', H', J'.ofTry okX, q⟩
  | .cont, ⟨σ', H', J', q⟩ => exact ⟨σ', H', J'.ofTry okX, q⟩
  | .ret u, ⟨v, σ', H', J', r, q⟩ => exact ⟨v, σ', H', J'.ofTry okX, r, q⟩
end
end WU

set_option maxRecDepth 100000
set_option maxHeartbeats 4000000
namespace WU
open PySem PySem.Spec PyProof.Rows L2
/-! ### the head's facts -/
/-- the facts of the defs, and one more Bool -/
def hookB (n : Nat) (fn : List He.DefD) (ex : PySem.W.Frag → Bool) : PySem.W.Hook where
  α := He.AlD × Bool
  obs := fun s => (He.obsDG n [] fn s.heap.get?, ex (He.frG s.heap.get? (He.asD s.heap.get? n)))
  val := fun _ => (He.valD fn, true)
  says := fun _ h => ∃ K : PySem.W.Frag, K.In h ∧ He.SaysD [] fn K ∧ ex K = true
  of := fun _ _ e => ⟨_, He.frG_in, congrArg Prod.fst e, congrArg Prod.snd e⟩
  keeps := fun _ _ _ ⟨K, hK, c⟩ k => ⟨K, PySem.W.Frag.In.keeps hK k, c⟩
def obB (n : Nat) (fn : List He.DefD) (ex : PySem.W.Frag → Bool) (s : PySem.W.SharedT) : He.AlD × Bool :=
  (He.obsDG n [] fn (HandSHeadRun.getT s), ex (He.frG (HandSHeadRun.getT s) (He.asD (HandSHeadRun.getT s) n)))
theorem obB_eq {n : Nat} {fn : List He.DefD} {ex : PySem.W.Frag → Bool} (s : PySem.W.SharedT) : obB n fn ex s = (hookB n fn ex).obs s.abs := by
  have e : HandSHeadRun.getT s = s.abs.heap.get? := funext (HandSHeadRun.getT_eq s)
  unfold obB
  rw [e]
  rfl
theorem and2 {a b : Bool} (h : (a && b) = true) : a = true ∧ b = true := Bool.and_eq_true_iff.mp h
/-- names that the module leaves to the built-ins; names that stand for objects -/
def freeB (K : PySem.W.Frag) (xs : List Str) : Bool := xs.all fun x => decide (PySem.W.nsIn K mainGlobals x = some none)
def globB (K : PySem.W.Frag) (xs : List Str) : Bool := xs.all fun x => decide (PySem.W.nsIn K mainGlobals x = some (some (.ref (He.ga K x))))
section
variable {K : PySem.W.Frag} {h : Heap} {mg : Str → Option Value}
theorem freeB_ok (X : K.In h) (G : h.Ns mainGlobals mg) {xs : List Str} (c : freeB K xs = true) {x : Str} (hx : x ∈ xs) : mg x = none :=
  PySem.W.mg_none_of X G (of_decide_eq_true (List.all_eq_true.mp c x hx))
theorem globB_ok (X : K.In h) (G : h.Ns mainGlobals mg) {xs : List Str} (c : globB K xs = true) {x : Str} (hx : x ∈ xs) : mg x = some (.ref (He.ga K x)) :=
  PySem.W.mg_of X G (of_decide_eq_true (List.all_eq_true.mp c x hx))
end
/-! ### an own exception class over ValueError (or over own ones that are) -/
def oexShape (C : Addr) : Option Obj → Bool
  | some ⟨.type t, _, .cls ⟨_, _, .ref C' :: bm, _, _, true, _, _, _, _, false⟩, ⟨[_, _, _, _, some (.builtin id), _]⟩⟩ =>
    decide (t = "type") && (decide (C' = C) && (decide (id = "ValueError.__new__") && PySem.HandSPX.refsVE bm))
  | _ => false
def oexB (K : PySem.W.Frag) (C : Addr) : Bool :=
  oexShape C (K.lookup C) && (decide (PySem.W.findIn K (.ref C) "__setattr__" = some (some (.builtin "object.__setattr__"))) &&
    (decide (PySem.W.subIn K (.ref C) (.type "BaseException") = some true) && (decide (PySem.W.typeIn K (.ref C) = some (.type "type")) && PySem.W.keepIn K (.ref C))))
theorem oexB_ok {K : PySem.W.Frag} {C : Addr} (h : oexB K C = true) : OexC K C := by
  obtain ⟨h1, h⟩ := and2 h
  obtain ⟨h2, h⟩ := and2 h
  obtain ⟨h3, h⟩ := and2 h
  obtain ⟨h4, h5⟩ := and2 h
  refine ⟨?_, of_decide_eq_true h2, of_decide_eq_true h3, of_decide_eq_true h4, h5⟩
  unfold oexShape at h1
  split at h1
  · rename_i t dd nm bs C' bm N q sn sub ab col k0 k1 k2 k3 id k5 heq
    obtain ⟨e1, h1⟩ := and2 h1
    obtain ⟨e2, h1⟩ := and2 h1
    obtain ⟨e3, e4⟩ := and2 h1
    have q1 := of_decide_eq_true e1
    have q2 := of_decide_eq_true e2
    have q3 := of_decide_eq_true e3
    subst q1 q2 q3
    exact ⟨_, _, _, _, _, _, _, _, _, _, _, _, _, _, _, heq, e4⟩
  · cases h1
/-- what every body asks of an exception class X whose __init__ stands at fI and keeps one field f -/
structure Exc1 (K : PySem.W.Frag) (mg : Str → Option Value) (x : Str) (f : Str) : Prop where
  glob : mg x = some (.ref (He.ga K x))
  oex : OexC K (He.ga K x)
  no : PySem.W.findIn K (.ref (He.ga K x)) f = some none
  init : PySem.W.findIn K (.ref (He.ga K x)) "__init__" = some (some (.ref (He.ma K (He.ga K x) "__init__")))
  tI : PySem.W.typeIn K (.ref (He.ma K (He.ga K x) "__init__")) = some (.type "function")
def exc1B (K : PySem.W.Frag) (x f : Str) : Bool :=
  decide (PySem.W.nsIn K mainGlobals x = some (some (.ref (He.ga K x)))) && (oexB K (He.ga K x) && (decide (PySem.W.findIn K (.ref (He.ga K x)) f = some none) &&
    (decide (PySem.W.findIn K (.ref (He.ga K x)) "__init__" = some (some (.ref (He.ma K (He.ga K x) "__init__")))) && decide (PySem.W.typeIn K (.ref (He.ma K (He.ga K x) "__init__")) = some (.type "function")))))
theorem exc1B_ok {K : PySem.W.Frag} {h : Heap} {mg : Str → Option Value} (X : K.In h) (G : h.Ns mainGlobals mg) {x f : Str} (c : exc1B K x f = true) : Exc1 K mg x f := by
  obtain ⟨h1, c⟩ := and2 c
  obtain ⟨h2, c⟩ := and2 c
  obtain ⟨h3, c⟩ := and2 c
  obtain ⟨h4, h5⟩ := and2 c
  exact ⟨PySem.W.mg_of X G (of_decide_eq_true h1), oexB_ok h2, of_decide_eq_true h3, of_decide_eq_true h4, of_decide_eq_true h5⟩
/-- an if whose test is known by an equation -/
theorem iteTb {c : Bool} {A B : Prop} (hc : c = true) (h : A) : if c = true then A else B := by
  rw [if_pos hc]
  exact h
theorem iteFb {c : Bool} {A B : Prop} (hc : c = false) (h : B) : if c = true then A else B := by
  rw [if_neg (by rw [hc]; decide)]
  exact h
theorem iteD {c : Prop} [Decidable c] {A B : Prop} (h1 : c → A) (h2 : ¬ c → B) : if decide c = true then A else B := by
  by_cases h : c
  · rw [decide_eq_true h]
    exact iteT (h1 h)
  · rw [decide_eq_false h]
    exact iteF (h2 h)
theorem ixN_at {n q : Nat} (h : q < n) : ixN n (q : Int) = some q := by
  unfold ixN
  rw [if_pos (by omega), if_pos (by omega)]
  simp
/-! ### calls -/
/-- the name x stands for a def that keeps sp -/
structure Cal (P : Program) (w : World) (K : PySem.W.Frag) (mg : Str → Option Value) (base : Heap) (k : Nat) (x : Str) (f : Addr) (fd : FuncData) (ps : List Str) (sp : Sp) : Prop where
  glob : mg x = some (.ref f)
  kp : PySem.W.keepIn K (.ref f) = true
  binds : Binds K fd ps []
  ok : FnOk P w K mg base (L2.CX P w) k f fd ps sp
theorem passU {X : Cx} : Passes (L2.CX X.prog X.w) X E0 := fun _ _ _ _ _ _ _ ⟨_, _, _, _, _, _, _, _, _, _, _, _, z⟩ => z.elim
section
variable {X : Cx} {k : Nat} {x : Str} {f : Addr} {fd : FuncData} {ps : List Str} {sp : Sp} {E : XK} {e : Expr} {es : List Expr} {t : TA} {p pos : Pos}
theorem pe_cal (C : Cal X.prog X.w X.K X.mg X.base k x f fd ps sp) (hr : Room k X.A) (ha : PA X (e :: es) t) (hx : Passes (L2.CX X.prog X.w) X E) (hg : Gl X x := by rfl) (hdb : (x == ("__debug__" : Str)) = false := by decide)
    (he : starEach (e :: es) X.env = (false, eval e X.env) :: starEach es X.env := by rfl) (hpl : (backTo pos (starEach es X.env)).any (·.1) = false := by rfl) :
    PE X (.Call (.Name x p) (e :: es) [] pos) (tCall sp [] E t) := pe_call C.ok hr hg C.glob C.kp C.binds .nil hx ha hdb he hpl
theorem pe_calS {W : WX} (C : Cal X.prog X.w X.K X.mg X.base k x f fd ps sp) (hr : Room k X.A) (ha : PA X (e :: es) t) (tk : Takes X W) (hg : Gl X x := by rfl) (hdb : (x == ("__debug__" : Str)) = false := by decide)
    (he : starEach (e :: es) X.env = (false, eval e X.env) :: starEach es X.env := by rfl) (hpl : (backTo pos (starEach es X.env)).any (·.1) = false := by rfl) :
    PE X (.Call (.Name x p) (e :: es) [] pos) (tCallS sp (WE W) t) := pe_callS C.ok hr hg C.glob C.kp C.binds (fun σ => passAt tk σ) ha hdb he hpl
end
/-! ### raise X(e), X's __init__ keeping one field -/
/-- self.f = value -/
def spInit1 (K : PySem.W.Frag) (C : Addr) (f : Str) : Sp := fun vs H Q _ => ∃ (a : Addr) (y : V), vs = [.ref a, y] ∧ OexC K C ∧ PySem.W.findIn K (.ref C) f = some none ∧ H a = some (exo a C none) ∧
  ∀ dx, H dx = none → dx ≠ a → Q .non (upd (upd H dx (exd dx [(f, y)])) a (exo a C (some dx)))
/-- the reading: the error's class, its own dict, the heap behind -/
def tMk1 (C : Addr) (f : Str) (ta : TA) : L2.St → Hp → XK → Prop := fun σ H Q => ta σ H fun vs H1 => ∃ v, vs = [v] ∧ ∀ d H', Same H1 H' → H1 d = none → H' d = some (.xd [(f, v)]) → Q (.ref C) (some d) H'
/-- a reading that may be weakened -/
def lax (ta : TA) : TA := fun σ H Q => ∃ Q0 : List V → Hp → Prop, ta σ H Q0 ∧ ∀ vs H1, Q0 vs H1 → Q vs H1
theorem pa_lax {X : Cx} {es : List Expr} {ta : TA} (ha : PA X es ta) : PA X es (lax ta) :=
  ⟨fun pos pins s σ H Q I h => by
    obtain ⟨Q0, h0, hq⟩ := h
    refine wpAny_mono (ha.run pos pins s σ H Q0 I h0) (fun us s1 hu => ?_) fun _ _ z => z
    obtain ⟨vs, H1, I1, r, q⟩ := hu
    exact ⟨vs, H1, I1, r, hq vs H1 q⟩⟩
section
variable {X : Cx} {k : Nat} {x f : Str} {fd : FuncData} {q : Str} {e : Expr} {ta : TA} {p pos pos2 : Pos}
theorem pmk_1 (T : Exc1 X.K X.mg x f) (F : FnOk X.prog X.w X.K X.mg X.base (L2.CX X.prog X.w) k (He.ma X.K (He.ga X.K x) "__init__") fd ["self", q] (spInit1 X.K (He.ga X.K x) f)) (b : Binds X.K fd ["self", q] [])
    (hr : Room (k + 1) X.A) (ha : PA X [e] ta) (hg : Gl X x := by rfl) (hdb : (x == ("__debug__" : Str)) = false := by decide)
    (he : starEach (e :: []) X.env = (false, eval e X.env) :: starEach [] X.env := by rfl) (hpl : (backTo pos (starEach [] X.env)).any (·.1) = false := by rfl) :
    PMk X (.Call (.Name x p) [e] [] pos) (tMk1 (He.ga X.K x) f ta) := by
  intro pins s σ H Q I h
  refine pmk_oex (CX := L2.CX X.prog X.w) (dvs := []) T.oex T.init T.tI F hr b .nil passU hg T.glob (pa_lax ha) hdb he hpl pins s σ H Q I ⟨_, h, fun vs H1 hv => ?_⟩
  obtain ⟨v, rfl, kk⟩ := hv
  refine ⟨(show 1 ≤ 1000 by decide), fun a na => ⟨a, v, rfl, T.oex, T.no, upd_same, fun dx ndx hdx => ⟨rfl, dx, [(f, v)], upd_same, by rw [upd_ne hdx, upd_same], ?_, ?_⟩⟩⟩
  · rw [upd_ne hdx] at ndx
    exact ndx
  · rw [upd_ne hdx] at ndx
    refine kk dx _ (fun c o hc => ?_) ndx upd_same
    have c1 : c ≠ dx := ne_of_none hc ndx
    have c2 : c ≠ a := ne_of_none hc na
    rw [upd_ne c1, del_ne c2, upd_ne c2, upd_ne c1, upd_ne c2]
    exact hc
theorem ps_raise1 {W : WX} (hc : X.calm = true) (tk : Takes X W) (T : Exc1 X.K X.mg x f) (F : FnOk X.prog X.w X.K X.mg X.base (L2.CX X.prog X.w) k (He.ma X.K (He.ga X.K x) "__init__") fd ["self", q] (spInit1 X.K (He.ga X.K x) f)) (b : Binds X.K fd ["self", q] [])
    (hr : Room (k + 1) X.A) (ha : PA X [e] ta) (hg : Gl X x := by rfl) (hdb : (x == ("__debug__" : Str)) = false := by decide)
    (he : starEach (e :: []) X.env = (false, eval e X.env) :: starEach [] X.env := by rfl) (hpl : (backTo pos (starEach [] X.env)).any (·.1) = false := by rfl) :
    PS X (.Raise (some (.Call (.Name x p) [e] [] pos)) none pos2) (fun _ σ H => tMk1 (He.ga X.K x) f ta σ H fun cls d H' => W cls d σ H') :=
  ps_raise hc tk (pmk_1 T F b hr ha hg hdb he hpl)
end
end WU

namespace WU
open PySem PySem.Spec PyProof.Rows L2
def top (i : Nat) : Stmt := PySem.Challenge.pw_wishunseen_k53_polynomials_through_point.main.body.getD i (.Pass ⟨0, 0, 0, 0⟩)
abbrev sInvalidNumber_init : Stmt := inClass (top 2) 0
abbrev sInvalidShare_init : Stmt := inClass (top 3) 0
abbrev sInvalidMatrix_init : Stmt := inClass (top 4) 0
abbrev sInvalidLibrary_init : Stmt := inClass (top 5) 0
abbrev sInvalidPlan_init : Stmt := inClass (top 6) 0
abbrev sInvalidTape_init : Stmt := inClass (top 7) 0
abbrev sInvalidAnswers_init : Stmt := inClass (top 8) 0
abbrev sInvalidText_init : Stmt := inClass (top 9) 0
abbrev sInvalidLine_init : Stmt := inClass (top 10) 0
abbrev sUnknownWord_init : Stmt := inClass (top 11) 0
abbrev sUndefined_init : Stmt := inClass (top 12) 0
abbrev sNothingToUndo_init : Stmt := inClass (top 13) 0
abbrev sIsInt : Stmt := top 15
abbrev sIsNum : Stmt := top 16
abbrev sIsBel : Stmt := top 17
abbrev sSeq : Stmt := top 18
abbrev sLets : Stmt := top 19
abbrev sIsFld : Stmt := top 22
abbrev sCheck : Stmt := top 23
abbrev sInv : Stmt := top 24
abbrev s_is_matrix : Stmt := top 26
abbrev s_sum_to : Stmt := top 27
abbrev s_check_matrix : Stmt := top 28
abbrev s_width_of_rows : Stmt := top 29
abbrev s_turned_rows : Stmt := top 30
abbrev s_leads_of : Stmt := top 31
abbrev s_is_row : Stmt := top 32
abbrev s_reduced : Stmt := top 33
abbrev s_led_by_one : Stmt := top 34
abbrev s_cleared : Stmt := top 35
abbrev s_less : Stmt := top 36
abbrev s_polynomial_through : Stmt := top 38
abbrev s_value_at : Stmt := top 39
abbrev s_polynomial_near : Stmt := top 40
abbrev s_places_unlike : Stmt := top 41
abbrev s_power_rows : Stmt := top 42
abbrev s_less_times : Stmt := top 43
abbrev s_quotient : Stmt := top 44
abbrev s_law_pool : Stmt := top 46
abbrev s_law_draw : Stmt := top 47
abbrev s_law_same : Stmt := top 48
abbrev s_law_kind : Stmt := top 49
abbrev s_law_odd_field : Stmt := top 50
abbrev s_law_value : Stmt := top 51
abbrev s_law_as : Stmt := top 52
abbrev s_law_points : Stmt := top 53
abbrev s_law_refused : Stmt := top 54
abbrev s_law_values_hold : Stmt := top 55
abbrev s_law_through_holds : Stmt := top 56
abbrev sLaw : Stmt := top 57
theorem scInvalidNumber : FnScope ["self", "value"] ["self", "value"] (defScope sInvalidNumber_init) := ⟨rfl, rfl, rfl, by decide +kernel, rfl, by decide +kernel, by decide +kernel⟩
theorem bodyInvalidNumber (X : Cx) (hN : X.N = (["self", "value"] : List Str)) (hs : X.env.scope = defScope sInvalidNumber_init) : PSs X (defBody sInvalidNumber_init) (tOst X.K "value" (tVar 0) (tVar 1)) :=
  pss_one (ps_ost (pv 0 (by rw [hN] <;> rfl) (by rw [hs]; exact .inl rfl)) (pv 1 (by rw [hN] <;> rfl) (by rw [hs]; exact .inl rfl)))
theorem scInvalidShare : FnScope ["self", "value"] ["self", "value"] (defScope sInvalidShare_init) := ⟨rfl, rfl, rfl, by decide +kernel, rfl, by decide +kernel, by decide +kernel⟩
theorem bodyInvalidShare (X : Cx) (hN : X.N = (["self", "value"] : List Str)) (hs : X.env.scope = defScope sInvalidShare_init) : PSs X (defBody sInvalidShare_init) (tOst X.K "value" (tVar 0) (tVar 1)) :=
  pss_one (ps_ost (pv 0 (by rw [hN] <;> rfl) (by rw [hs]; exact .inl rfl)) (pv 1 (by rw [hN] <;> rfl) (by rw [hs]; exact .inl rfl)))
theorem scInvalidMatrix : FnScope ["self", "value"] ["self", "value"] (defScope sInvalidMatrix_init) := ⟨rfl, rfl, rfl, by decide +kernel, rfl, by decide +kernel, by decide +kernel⟩
theorem bodyInvalidMatrix (X : Cx) (hN : X.N = (["self", "value"] : List Str)) (hs : X.env.scope = defScope sInvalidMatrix_init) : PSs X (defBody sInvalidMatrix_init) (tOst X.K "value" (tVar 0) (tVar 1)) :=
  pss_one (ps_ost (pv 0 (by rw [hN] <;> rfl) (by rw [hs]; exact .inl rfl)) (pv 1 (by rw [hN] <;> rfl) (by rw [hs]; exact .inl rfl)))
theorem scInvalidLibrary : FnScope ["self", "value"] ["self", "value"] (defScope sInvalidLibrary_init) := ⟨rfl, rfl, rfl, by decide +kernel, rfl, by decide +kernel, by decide +kernel⟩
theorem bodyInvalidLibrary (X : Cx) (hN : X.N = (["self", "value"] : List Str)) (hs : X.env.scope = defScope sInvalidLibrary_init) : PSs X (defBody sInvalidLibrary_init) (tOst X.K "value" (tVar 0) (tVar 1)) :=
  pss_one (ps_ost (pv 0 (by rw [hN] <;> rfl) (by rw [hs]; exact .inl rfl)) (pv 1 (by rw [hN] <;> rfl) (by rw [hs]; exact .inl rfl)))
theorem scInvalidTape : FnScope ["self", "value"] ["self", "value"] (defScope sInvalidTape_init) := ⟨rfl, rfl, rfl, by decide +kernel, rfl, by decide +kernel, by decide +kernel⟩
theorem bodyInvalidTape (X : Cx) (hN : X.N = (["self", "value"] : List Str)) (hs : X.env.scope = defScope sInvalidTape_init) : PSs X (defBody sInvalidTape_init) (tOst X.K "value" (tVar 0) (tVar 1)) :=
  pss_one (ps_ost (pv 0 (by rw [hN] <;> rfl) (by rw [hs]; exact .inl rfl)) (pv 1 (by rw [hN] <;> rfl) (by rw [hs]; exact .inl rfl)))
theorem scInvalidAnswers : FnScope ["self", "value"] ["self", "value"] (defScope sInvalidAnswers_init) := ⟨rfl, rfl, rfl, by decide +kernel, rfl, by decide +kernel, by decide +kernel⟩
theorem bodyInvalidAnswers (X : Cx) (hN : X.N = (["self", "value"] : List Str)) (hs : X.env.scope = defScope sInvalidAnswers_init) : PSs X (defBody sInvalidAnswers_init) (tOst X.K "value" (tVar 0) (tVar 1)) :=
  pss_one (ps_ost (pv 0 (by rw [hN] <;> rfl) (by rw [hs]; exact .inl rfl)) (pv 1 (by rw [hN] <;> rfl) (by rw [hs]; exact .inl rfl)))
theorem scUnknownWord : FnScope ["self", "word"] ["self", "word"] (defScope sUnknownWord_init) := ⟨rfl, rfl, rfl, by decide +kernel, rfl, by decide +kernel, by decide +kernel⟩
theorem bodyUnknownWord (X : Cx) (hN : X.N = (["self", "word"] : List Str)) (hs : X.env.scope = defScope sUnknownWord_init) : PSs X (defBody sUnknownWord_init) (tOst X.K "word" (tVar 0) (tVar 1)) :=
  pss_one (ps_ost (pv 0 (by rw [hN] <;> rfl) (by rw [hs]; exact .inl rfl)) (pv 1 (by rw [hN] <;> rfl) (by rw [hs]; exact .inl rfl)))
theorem scUndefined : FnScope ["self", "what"] ["self", "what"] (defScope sUndefined_init) := ⟨rfl, rfl, rfl, by decide +kernel, rfl, by decide +kernel, by decide +kernel⟩
theorem bodyUndefined (X : Cx) (hN : X.N = (["self", "what"] : List Str)) (hs : X.env.scope = defScope sUndefined_init) : PSs X (defBody sUndefined_init) (tOst X.K "what" (tVar 0) (tVar 1)) :=
  pss_one (ps_ost (pv 0 (by rw [hN] <;> rfl) (by rw [hs]; exact .inl rfl)) (pv 1 (by rw [hN] <;> rfl) (by rw [hs]; exact .inl rfl)))
theorem scNothingToUndo : FnScope ["self", "word"] ["self", "word"] (defScope sNothingToUndo_init) := ⟨rfl, rfl, rfl, by decide +kernel, rfl, by decide +kernel, by decide +kernel⟩
theorem bodyNothingToUndo (X : Cx) (hN : X.N = (["self", "word"] : List Str)) (hs : X.env.scope = defScope sNothingToUndo_init) : PSs X (defBody sNothingToUndo_init) (tOst X.K "word" (tVar 0) (tVar 1)) :=
  pss_one (ps_ost (pv 0 (by rw [hN] <;> rfl) (by rw [hs]; exact .inl rfl)) (pv 1 (by rw [hN] <;> rfl) (by rw [hs]; exact .inl rfl)))
end WU

set_option maxRecDepth 100000
set_option maxHeartbeats 4000000
namespace WU
open PySem PySem.Spec PyProof.Rows L2
abbrev FnS (K : PySem.W.Frag) (x : Str) (st : Stmt) (f : Addr) (fd : FuncData) : Prop := FunD K x x (defArgs st) (defBody st) (defScope st) [] [] f fd
theorem small4k {n : Nat} (h : n ≤ 4000) : n < sizeLine := Nat.lt_of_le_of_lt h (by decide)
/-! ### any values -/
def isIB : V → Bool
  | .int _ => true
  | .bl _ => true
  | _ => false
def isB : V → Bool
  | .bl _ => true
  | _ => false
def isI : V → Bool
  | .int _ => true
  | _ => false
/-- the value has a type, of which int and bool are known -/
def Ty3 (K : PySem.W.Frag) (H : Hp) (v : V) : Prop := ∃ t, TyX K H v t ∧ PySem.W.kitOne K t (.type "int") = some (isIB v) ∧ PySem.W.kitOne K t (.type "bool") = some (isB v)
section
variable {K : PySem.W.Frag} {H : Hp}
theorem ty3_int (i : Int) : Ty3 K H (.int i) := ⟨_, .base (.int i), kit_ty (show kitB "int" "int" = some true by decide +kernel), kit_ty (show kitB "int" "bool" = some false by decide +kernel)⟩
theorem ty3_bl (b : Bool) : Ty3 K H (.bl b) := ⟨_, .base (.bl b), kit_ty (show kitB "bool" "int" = some true by decide +kernel), kit_ty (show kitB "bool" "bool" = some true by decide +kernel)⟩
theorem ty3_non : Ty3 K H .non := ⟨_, .base .non, kit_ty (show kitB "NoneType" "int" = some false by decide +kernel), kit_ty (show kitB "NoneType" "bool" = some false by decide +kernel)⟩
theorem ty3_str (z : Str) : Ty3 K H (.str z) := ⟨_, .base (.str z), kit_ty (show kitB "str" "int" = some false by decide +kernel), kit_ty (show kitB "str" "bool" = some false by decide +kernel)⟩
theorem ty3_lst {a : Addr} {xs : List V} (e : H a = some (.lst xs)) : Ty3 K H (.ref a) := ⟨_, .base (.lst e), kit_ty (show kitB "list" "int" = some false by decide +kernel), kit_ty (show kitB "list" "bool" = some false by decide +kernel)⟩
theorem ty3_tup {a : Addr} {xs : List V} (e : H a = some (.tup xs)) : Ty3 K H (.ref a) := ⟨_, .base (.tup e), kit_ty (show kitB "tuple" "int" = some false by decide +kernel), kit_ty (show kitB "tuple" "bool" = some false by decide +kernel)⟩
end
section
variable {P : Program} {w : World} {K : PySem.W.Frag} {mg : Str → Option Value} {base : Heap}
structure Blt (mg : Str → Option Value) : Prop where
  isi : mg "isinstance" = none
  int : mg "int" = none
  bool : mg "bool" = none
def spIsInt (K : PySem.W.Frag) : Sp := fun vs H Q _ => ∃ v, vs = [v] ∧ Ty3 K H v ∧ Q (.bl (isI v)) H
theorem scIsInt : FnScope ["value"] ["value"] (defScope sIsInt) := ⟨rfl, rfl, rfl, by decide +kernel, rfl, by decide +kernel, by decide +kernel⟩
theorem ok_isInt {f : Addr} {fd : FuncData} (F : FnS K "is_integer" sIsInt f fd) (B : Blt mg) : FnOk P w K mg base (L2.CX P w) 1 f fd ["value"] (spIsInt K) := by
  refine F.ok scIsInt (fun vs H Q E h => ?_) (fun cdv A outer s H vs Q E hr h => ?_)
  · obtain ⟨v, rfl, _⟩ := h
    rfl
  · obtain ⟨v, rfl, ⟨t, ht, h1, h2⟩, k⟩ := h
    refine ⟨_, pss_one (ps_ret (pe_and (pe_callB call_isi (by rfl) B.isi (by decide +kernel) (pa_cons (pv 0) (pa_cons (pe_bltn (v := .ty "int") (by rfl) B.int (by decide +kernel) rfl) pa_nil)))
      (pe_one (pe_not (pe_callB call_isi (by rfl) B.isi (by decide +kernel) (pa_cons (pv 0) (pa_cons (pe_bltn (v := .ty "bool") (by rfl) B.bool (by decide +kernel) rfl) pa_nil))))))), ?_⟩
    refine ⟨_, rfl, _, _, _, _, _, rfl, .ty "int", ht, h1, _, rfl, ?_⟩
    cases v with
    | int n =>
      refine iteT ⟨_, rfl, _, _, _, _, _, rfl, .ty "bool", ht, h2, _, rfl, k⟩
    | bl b => exact iteT ⟨_, rfl, _, _, _, _, _, rfl, .ty "bool", ht, h2, _, rfl, k⟩
    | _ => exact iteF k
theorem bN {x : Str} {st : Stmt} {f : Addr} {fd : FuncData} {ps : List Str} (F : FnS K x st f fd)
    (h : ∀ (kV doc pm : Value) (an : Option Addr) (cdv ct : Value) (us : List Value), us.length = ps.length → bindArgs (PySem.W.fnOf x x (defArgs st) (defBody st) (defScope st) .none kV doc pm an cdv ct) ⟨us, []⟩ = pure (ps.zip us)) : Binds K fd ps [] := F.bindsN h
theorem cal_mk {x : Str} {st : Stmt} {f : Addr} {fd : FuncData} {ps : List Str} {k : Nat} {sp : Sp} (F : FnS K x st f fd) (g : mg x = some (.ref f)) (ok : FnOk P w K mg base (L2.CX P w) k f fd ps sp)
    (h : ∀ (kV doc pm : Value) (an : Option Addr) (cdv ct : Value) (us : List Value), us.length = ps.length → bindArgs (PySem.W.fnOf x x (defArgs st) (defBody st) (defScope st) .none kV doc pm an cdv ct) ⟨us, []⟩ = pure (ps.zip us)) : Cal P w K mg base k x f fd ps sp :=
  ⟨g, F.kp, F.bindsN h, ok⟩
/-- whether it is a number; .. below n -/
def isN : V → Bool
  | .int i => decide (0 ≤ i)
  | _ => false
def isBel (n : Int) : V → Bool
  | .int i => decide (0 ≤ i) && decide (i < n)
  | _ => false
def spIsNum (K : PySem.W.Frag) : Sp := fun vs H Q _ => ∃ v, vs = [v] ∧ Ty3 K H v ∧ Q (.bl (isN v)) H
def spIsBel (K : PySem.W.Frag) : Sp := fun vs H Q _ => ∃ v n, vs = [v, .int n] ∧ Ty3 K H v ∧ Q (.bl (isBel n v)) H
theorem scIsNum : FnScope ["value"] ["value"] (defScope sIsNum) := ⟨rfl, rfl, rfl, by decide +kernel, rfl, by decide +kernel, by decide +kernel⟩
theorem ok_isNum {f f1 : Addr} {fd fd1 : FuncData} (F : FnS K "is_number" sIsNum f fd) (C1 : Cal P w K mg base 1 "is_integer" f1 fd1 ["value"] (spIsInt K)) : FnOk P w K mg base (L2.CX P w) 2 f fd ["value"] (spIsNum K) := by
  refine F.ok scIsNum (fun vs H Q E h => ?_) (fun cdv A outer s H vs Q E hr h => ?_)
  · obtain ⟨v, rfl, _⟩ := h
    rfl
  · obtain ⟨v, rfl, ht, k⟩ := h
    refine ⟨_, pss_one (ps_ret (pe_and (pe_cal C1 hr (pa_cons (pv 0) pa_nil) passU) (pe_one (pe_cmp (pc_ge (pv 0) pe_int))))), ?_⟩
    refine ⟨_, rfl, v, rfl, ht, _, rfl, ?_⟩
    cases v with
    | int n => exact iteT ⟨_, rfl, _, _, rfl, rfl, k⟩
    | _ => exact iteF k
theorem scIsBel : FnScope ["value", "limit"] ["value", "limit"] (defScope sIsBel) := ⟨rfl, rfl, rfl, by decide +kernel, rfl, by decide +kernel, by decide +kernel⟩
theorem ok_isBel {f f1 : Addr} {fd fd1 : FuncData} (F : FnS K "is_below" sIsBel f fd) (C1 : Cal P w K mg base 2 "is_number" f1 fd1 ["value"] (spIsNum K)) : FnOk P w K mg base (L2.CX P w) 3 f fd ["value", "limit"] (spIsBel K) := by
  refine F.ok scIsBel (fun vs H Q E h => ?_) (fun cdv A outer s H vs Q E hr h => ?_)
  · obtain ⟨v, n, rfl, _⟩ := h
    rfl
  · obtain ⟨v, n, rfl, ht, k⟩ := h
    refine ⟨_, pss_one (ps_ret (pe_and (pe_cal C1 hr (pa_cons (pv 0) pa_nil) passU) (pe_one (pe_cmp (pc_lt (pv 0) (pv 1)))))), ?_⟩
    refine ⟨_, rfl, v, rfl, ht, _, rfl, ?_⟩
    cases v with
    | int i =>
      have k' : Q (.bl (decide (0 ≤ i) && decide (i < n))) H := k
      show if decide (0 ≤ i) = true then _ else _
      by_cases h0 : 0 ≤ i
      · rw [decide_eq_true h0] at k' ⊢
        exact iteT ⟨_, rfl, _, rfl, _, _, rfl, rfl, k'⟩
      · rw [decide_eq_false h0] at k' ⊢
        exact iteF k'
    | _ => exact iteF k
/-- the primes to 31 -/
def primes : List Int := [2, 3, 5, 7, 11, 13, 17, 19, 23, 29, 31]
def isFld : V → Bool
  | .int i => inV (.int i) (primes.map V.int)
  | _ => false
def spIsFld (K : PySem.W.Frag) : Sp := fun vs H Q _ => ∃ v, vs = [v] ∧ Ty3 K H v ∧ Q (.bl (isFld v)) H
theorem scIsFld : FnScope ["p"] ["p"] (defScope sIsFld) := ⟨rfl, rfl, rfl, by decide +kernel, rfl, by decide +kernel, by decide +kernel⟩
theorem ok_isFld {f f1 fP : Addr} {fd fd1 : FuncData} (F : FnS K "is_field" sIsFld f fd) (C1 : Cal P w K mg base 1 "is_integer" f1 fd1 ["value"] (spIsInt K)) (gP : mg "PRIMES" = some (.ref fP)) (tP : ∀ H, SqT K H fP (primes.map V.int)) :
    FnOk P w K mg base (L2.CX P w) 2 f fd ["p"] (spIsFld K) := by
  refine F.ok scIsFld (fun vs H Q E h => ?_) (fun cdv A outer s H vs Q E hr h => ?_)
  · obtain ⟨v, rfl, _⟩ := h
    rfl
  · obtain ⟨v, rfl, ht, k⟩ := h
    refine ⟨_, pss_one (ps_ret (pe_and (pe_cal C1 hr (pa_cons (pv 0) pa_nil) passU) (pe_one (pe_cmpR op_in_seq (pv 0) (pe_glob (v := .ref fP) rfl gP rfl) rfl)))), ?_⟩
    refine ⟨_, rfl, v, rfl, ht, _, rfl, ?_⟩
    cases v with
    | int n => exact iteT ⟨_, rfl, _, _, rfl, .inr (tP H), rfl, by decide, k⟩
    | _ => exact iteF k
/-- an error of class C with its own dict at d, in a heap that has grown -/
def Errs (C : Addr) (f : Str) (v : V) (H : Hp) (E : XK) : Prop := ∀ d H', Same H H' → H d = none → H' d = some (.xd [(f, v)]) → E (.ref C) (some d) H'
def spCheck (K : PySem.W.Frag) : Sp := fun vs H Q E => ∃ v, vs = [v] ∧ Ty3 K H v ∧ (isFld v = true → Q .non H) ∧ (isFld v = false → Errs (He.ga K "InvalidNumber") "value" v H E)
theorem scCheck : FnScope ["p"] ["p"] (defScope sCheck) := ⟨rfl, rfl, rfl, by decide +kernel, rfl, by decide +kernel, by decide +kernel⟩
theorem ok_check {f f1 : Addr} {fd fd1 fdI : FuncData} (F : FnS K "check_field" sCheck f fd) (C1 : Cal P w K mg base 2 "is_field" f1 fd1 ["p"] (spIsFld K)) (T : Exc1 K mg "InvalidNumber" "value")
    (FI : FnOk P w K mg base (L2.CX P w) 1 (He.ma K (He.ga K "InvalidNumber") "__init__") fdI ["self", "value"] (spInit1 K (He.ga K "InvalidNumber") "value")) (bI : Binds K fdI ["self", "value"] []) :
    FnOk P w K mg base (L2.CX P w) 3 f fd ["p"] (spCheck K) := by
  refine F.ok scCheck (fun vs H Q E h => ?_) (fun cdv A outer s H vs Q E hr h => ?_)
  · obtain ⟨v, rfl, _⟩ := h
    rfl
  · obtain ⟨v, rfl, ht, kY, kN⟩ := h
    refine ⟨_, pss_one (ps_if (pt_not (pt_val (pe_cal C1 hr (pa_cons (pv 0) pa_nil) passU))) (pss_one (ps_raise1 rfl (takes_of rfl rfl rfl rfl) T FI bI hr (pa_cons (pv 0) pa_nil))) pss_nil), ?_⟩
    refine ⟨_, rfl, v, rfl, ht, _, rfl, ?_⟩
    cases e : isFld v with
    | true => exact iteF (kY e)
    | false => exact iteT ⟨_, rfl, v, rfl, kN e⟩
end
section
variable {P : Program} {w : World} {K : PySem.W.Frag} {mg : Str → Option Value} {base : Heap}
/-! ### the errors' __init__ -/
theorem ok_init1 {st : Stmt} {qual fld par : Str} {f C : Addr} {fd : FuncData} (F : FunD K "__init__" qual (defArgs st) (defBody st) (defScope st) [] [] f fd) (S : FnScope (("self" : Str) :: [par]) (("self" : Str) :: [par]) (defScope st))
    (body : ∀ X : Cx, X.N = (("self" : Str) :: [par]) → X.env.scope = defScope st → PSs X (defBody st) (tOst X.K fld (tVar 0) (tVar 1))) :
    FnOk P w K mg base (L2.CX P w) 1 f fd (("self" : Str) :: [par]) (spInit1 K C fld) := by
  refine F.ok S (fun vs H Q E h => ?_) (fun cdv A outer s H vs Q E hr h => ?_)
  · obtain ⟨a, y, rfl, _⟩ := h
    rfl
  · obtain ⟨a, y, rfl, hC, hno, ha, k⟩ := h
    refine ⟨_, body _ rfl rfl, ?_⟩
    exact ⟨_, rfl, _, rfl, a, C, rfl, hC, hno, .inl ⟨ha, fun dx n ne => k dx n ne⟩⟩
theorem fld_mem {p : Int} (h : isFld (.int p) = true) : p ∈ primes := by
  have h' : ((primes.map V.int).any fun y => eqV y (.int p)) = true := h
  obtain ⟨y, hy, e⟩ := List.any_eq_true.mp h'
  obtain ⟨q, hq, rfl⟩ := List.mem_map.mp hy
  have e' : (q == p) = true := e
  rw [← beq_iff_eq.mp e']
  exact hq
theorem mem_fld {p : Int} (h : p ∈ primes) : isFld (.int p) = true := by
  show ((primes.map V.int).any fun y => eqV y (.int p)) = true
  exact List.any_eq_true.mpr ⟨.int p, List.mem_map.mpr ⟨p, h, rfl⟩, by show (p == p) = true; simp⟩
theorem fld_le {p : Int} (h : p ∈ primes) : 2 ≤ p ∧ p ≤ 31 := by
  have all : ∀ q ∈ primes, 2 ≤ q ∧ q ≤ 31 := by decide
  exact all p h
/-- the built-ins that the law's helpers call -/
structure Blt2 (mg : Str → Option Value) : Prop extends Blt mg where
  len : mg "len" = none
  abs : mg "abs" = none
  range : mg "range" = none
  tuple : mg "tuple" = none
/-- numbers from 0 on -/
def Nn (ns : List Int) : Prop := ∀ n ∈ ns, 0 ≤ n
/-- _law_draws(script, many) -/
def spDraws (K : PySem.W.Frag) (many : Int) : Sp := fun vs H Q _ => ∃ (a : Addr) (ns : List Int), vs = [.ref a, .int many] ∧ SqL K H a (ns.map V.int) ∧ ns.length ≤ 63 ∧
  ∀ p ds H', Same H H' → H p = none → H' p = some (.lst (ds.map V.int)) → Nn ds → ds.length ≤ many.toNat → Q (.ref p) H'
def rMd : R2 := rI (fun _ j => j ≠ 0) fun i j => .int (i.fmod j)
def rDv : R2 := rI CDivN fun i j => .int (i.fdiv j)
def rMl : R2 := rI CMul fun i j => .int (i * j)
def rAd : R2 := rI0 fun i j => .int (i + j)
def tI1 (t : TE) : TE := tCB (fun xs H Q => (∃ i, xs = [V.int i] ∧ Q (.int i) H) ∨ ∃ k, xs = [V.bl k] ∧ Q (.int (if k then 1 else 0)) H) (tCons t tNil)
/-- the end of a turn: two mixings, one number put behind the others -/
def tTail (K : PySem.W.Frag) : TS := tSeq (tAsg (tOp rMd (tI1 (tOp rAd (tOp rAd (tOp rMl (tVar 2) (tC (.int 48271))) (tOp rMl (tVar 5) (tC (.int 69621)))) (tC (.int 11)))) (tC (.int 2147483647))) (gName 7))
  (tSeq (tAsg (tOp rMd (tI1 (tOp rAd (tOp rDv (tOp rMl (tVar 7) (tVar 7)) (tC (.int 4096))) (tVar 7))) (tC (.int 2147483629))) (gName 7))
    (tDrop (tBM K "list" rAppend (tVar 4) (tCons (tOp rMd (tI1 (tOp rAd (tOp rDv (tOp rMl (tVar 7) (tVar 7)) (tC (.int 4096))) (tOp rMl (tVar 5) (tC (.int 7919))))) (tC (.int 2147483629))) tNil))))
theorem fmod_bd (x : Int) {m : Int} (h : 0 < m) : 0 ≤ x.fmod m ∧ x.fmod m < m := ⟨Int.fmod_nonneg_of_pos x h, Int.fmod_lt_of_pos x h⟩
theorem tail_ok {D : Ends} {s0 s1 s3 s6 s7 : Option V} {c k : Int} {L : Addr} {ds : List Int} {H : Hp} (hL : H L = some (.lst (ds.map V.int))) (hl : ds.length ≤ 4000)
    (kk : ∀ (x : Int) (y : Option V), 0 ≤ x → D.nx [s0, s1, some (.int c), s3, some (.ref L), some (.int k), s6, y] (upd H L (.lst ((ds ++ [x]).map V.int)))) :
    tTail K D [s0, s1, some (.int c), s3, some (.ref L), some (.int k), s6, s7] H := by
  have b1 := fmod_bd (c * 48271 + k * 69621 + 11) (m := 2147483647) (by decide)
  refine ⟨_, rfl, _, _, rfl, rfl, .inr ⟨by decide, by decide⟩, _, rfl, _, _, rfl, rfl, .inr ⟨by decide, by decide⟩, _, _, rfl, rfl, _, _, rfl, rfl, .inl ⟨_, rfl, _, _, rfl, rfl, (show (2147483647 : Int) ≠ 0 by decide), ?_⟩⟩
  dsimp only
  generalize (c * 48271 + k * 69621 + 11).fmod 2147483647 = m at b1 ⊢
  have b2 := fmod_bd ((m * m).fdiv 4096 + m) (m := 2147483629) (by decide)
  refine ⟨_, rfl, _, rfl, _, _, rfl, rfl, .inl ⟨by omega, by omega⟩, _, _, rfl, rfl, ⟨by decide, by decide⟩, _, rfl, _, _, rfl, rfl, .inl ⟨_, rfl, _, _, rfl, rfl, (show (2147483629 : Int) ≠ 0 by decide), ?_⟩⟩
  dsimp only
  generalize ((m * m).fdiv 4096 + m).fmod 2147483629 = n at b2 ⊢
  refine ⟨_, rfl, .inl ⟨rfl, _, SqL.of hL⟩, ?_⟩
  refine ⟨_, rfl, _, rfl, _, _, rfl, rfl, .inl ⟨by omega, by omega⟩, _, _, rfl, rfl, ⟨by decide, by decide⟩, _, rfl, _, _, rfl, rfl, .inr ⟨by decide, by decide⟩, _, _, rfl, rfl, .inl ⟨_, rfl, _, _, rfl, rfl, (show (2147483629 : Int) ≠ 0 by decide), ?_⟩⟩
  refine ⟨L, _, _, rfl, rfl, hL, ?_, ?_⟩
  · rw [List.length_map]
    exact small4k hl
  · have b3 := fmod_bd ((n * n).fdiv 4096 + k * 7919) (m := 2147483629) (by decide)
    have q := kk _ (some (.int n)) b3.1
    rw [List.map_append] at q
    exact q
/-- the hand: the draws and the place in them -/
def HandAt (H : Hp) (a d : Addr) : Prop := ∃ (ds : List Int) (i : Int), H a = some (.lst [.ref d, .int i]) ∧ H d = some (.lst (ds.map V.int)) ∧ Nn ds ∧ 0 ≤ i
theorem hand_ne {H : Hp} {a d : Addr} {ds : List Int} {i : Int} (h1 : H a = some (.lst [.ref d, .int i])) (h2 : H d = some (.lst (ds.map V.int))) : a ≠ d := by
  refine ne_of h1 h2 fun z => ?_
  have z' : [V.ref d, V.int i] = ds.map V.int := HO.lst.inj z
  cases ds with
  | nil => cases z'
  | cons x r =>
    have z2 : V.ref d = V.int x := (List.cons.inj z').1
    cases z2
/-- all but what stands at a is as it was -/
def Keep (a : Addr) (H H' : Hp) : Prop := ∀ b o, b ≠ a → H b = some o → H' b = some o
theorem Keep.refl {a : Addr} {H : Hp} : Keep a H H := fun _ _ _ h => h
theorem Keep.trans {a : Addr} {H H1 H2 : Hp} (x : Keep a H H1) (y : Keep a H1 H2) : Keep a H H2 := fun b o n h => y b o n (x b o n h)
theorem Keep.of {a : Addr} {H H' : Hp} (h : Same H H') : Keep a H H' := fun b o _ e => h b o e
theorem Keep.new {a p : Addr} {o : HO} {H : Hp} (h : H p = none) : Keep a H (upd H p o) := fun b u _ e => by rw [upd_ne (ne_of_none e h)]; exact e
theorem same_new {p : Addr} {o : HO} {H : Hp} (h : H p = none) : Same H (upd H p o) := fun b u e => by rw [upd_ne (ne_of_none e h)]; exact e
theorem HandAt.same {H H' : Hp} {a d : Addr} (h : HandAt H a d) (s : Same H H') : HandAt H' a d := by
  obtain ⟨ds, i, h1, h2, h3, h4⟩ := h
  exact ⟨ds, i, s _ _ h1, s _ _ h2, h3, h4⟩
theorem HandAt.one {H : Hp} {a d : Addr} (h : HandAt H a d) : ∃ o, H a = some o := by
  obtain ⟨ds, i, h1, _⟩ := h
  exact ⟨_, h1⟩
theorem HandAt.two {H : Hp} {a d : Addr} (h : HandAt H a d) : ∃ o, H d = some o := by
  obtain ⟨ds, i, _, h2, _⟩ := h
  exact ⟨_, h2⟩
theorem HandAt.ne {H : Hp} {a d p : Addr} (h : HandAt H a d) (n : H p = none) : a ≠ p ∧ d ≠ p := by
  obtain ⟨o, e⟩ := h.one
  obtain ⟨u, e2⟩ := h.two
  exact ⟨ne_of_none e n, ne_of_none e2 n⟩
theorem HandAt.put {H : Hp} {a d p : Addr} {o : HO} (h : HandAt H a d) (n1 : a ≠ p) (n2 : d ≠ p) : HandAt (upd H p o) a d := by
  obtain ⟨ds, i, h1, h2, h3, h4⟩ := h
  exact ⟨ds, i, by rw [upd_ne n1]; exact h1, by rw [upd_ne n2]; exact h2, h3, h4⟩
theorem HandAt.new {H : Hp} {a d p : Addr} {o : HO} (h : HandAt H a d) (n : H p = none) : HandAt (upd H p o) a d := h.put (h.ne n).1 (h.ne n).2
def spTake : Sp := fun vs H Q _ => ∃ (a d : Addr) (many : Int), vs = [.ref a, .int many] ∧ 0 < many ∧ HandAt H a d ∧ ∀ r H', 0 ≤ r → r < many → HandAt H' a d → Keep a H H' → Q (.int r) H'
theorem fld_all {p : Int} (h2 : 2 ≤ p) (h31 : p ≤ 31) : (isFld (.int p) = true → ∀ j : Nat, (j : Int) < p - 2 → ¬ p.fmod (2 + (j : Int)) = 0) ∧ (isFld (.int p) = false → ∃ j : Nat, (j : Int) < p - 2 ∧ p.fmod (2 + (j : Int)) = 0) := by
  have t1 : ∀ n ∈ List.range 32, isFld (.int (n : Int)) = true → ∀ j ∈ List.range 32, (j : Int) < (n : Int) - 2 → ¬ (n : Int).fmod (2 + (j : Int)) = 0 := by decide +kernel
  have t2 : ∀ n ∈ List.range 32, 2 ≤ n → isFld (.int (n : Int)) = false → ∃ j ∈ List.range 32, (j : Int) < (n : Int) - 2 ∧ (n : Int).fmod (2 + (j : Int)) = 0 := by decide +kernel
  obtain ⟨n, rfl⟩ : ∃ n : Nat, p = (n : Int) := ⟨p.toNat, by omega⟩
  have hn : n ∈ List.range 32 := List.mem_range.mpr (by omega)
  refine ⟨fun h j hj => t1 n hn h j (List.mem_range.mpr (by omega)) hj, fun h => ?_⟩
  obtain ⟨j, _, h1, h2⟩ := t2 n hn (by omega) h
  exact ⟨j, h1, h2⟩
theorem fld_out {p : Int} (h : p < 2 ∨ 31 < p) : isFld (.int p) = false := by
  cases e : isFld (.int p) with
  | false => rfl
  | true =>
    have := fld_le (fld_mem e)
    omega
def ups (n : Nat) : List Int := ((List.range n).filter fun (j : Nat) => isFld (.int (2 + (j : Int)))).map fun (j : Nat) => 2 + (j : Int)
theorem ups_succ (n : Nat) : ups (n + 1) = if isFld (.int (2 + (n : Int))) = true then ups n ++ [2 + (n : Int)] else ups n := by
  unfold ups
  rw [List.range_succ, List.filter_append, List.map_append]
  cases h : isFld (.int (2 + (n : Int))) <;> simp [h]
theorem ups_len (n : Nat) : (ups n).length ≤ n := by
  unfold ups
  rw [List.length_map]
  exact Nat.le_trans (List.length_filter_le _ _) (by simp)
theorem ups_all : ups 30 = primes := by decide +kernel
def spLFd : Sp := fun vs H Q _ => ∃ (a d : Addr), vs = [.ref a] ∧ HandAt H a d ∧ ∀ p H', p ∈ primes → HandAt H' a d → Keep a H H' → Q (.int p) H'
end
end WU

set_option maxRecDepth 100000
set_option maxHeartbeats 8000000
namespace WU
open PySem PySem.Spec PyProof.Rows L2
/-! ### walking what may be a list or a tuple -/
def iSeq (K : PySem.W.Frag) (tl : TE) : TI := fun σ H R => tl σ H fun x H1 => ∃ a, x = .ref a ∧ (((∃ xs, SqL K H1 a xs) ∧ R (Itl K a) H1) ∨ ((∃ xs, SqT K H1 a xs) ∧ R (Itt K a) H1))
theorem pi_seq {X : Cx} {tg l : Expr} {tl : TE} (hl : PE X l tl) : PI X tg l (iSeq X.K tl) := by
  constructor
  intro pins st σ H R I h
  refine thn (hl.run pins st σ H _ I h) fun v t1 ⟨x, H2, J, rx, a, ea, q⟩ => ?_
  subst ea
  cases rx
  have fresh : ∀ b ∈ [t1.heap.objs.size], FpOk X pins H2 b := fun b hb => by
    cases List.mem_singleton.mp hb
    exact J.fpOk (Nat.le_refl _) (J.hok.fresh (Nat.le_refl _))
  rcases q with ⟨⟨xs, hq⟩, q⟩ | ⟨⟨xs, hq⟩, q⟩
  · obtain ⟨its, rv, pl, _⟩ := J.list hq
    apply wpAny_pyIter_list pl.isList
    exact ⟨_, [t1.heap.objs.size], _, _, H2, rfl, J.kept (t' := t1.toks) fun b o e => Heap.get?_push_of_some _ e, turn_list a _, ⟨_, Heap.get?_push_size _ rfl, rfl, rfl⟩, fresh, q⟩
  · obtain ⟨its, rv, pl, _⟩ := J.tuple hq
    apply wpAny_pyIter_tuple (show t1.heap.IsTuple a its.toArray from pl)
    exact ⟨_, [t1.heap.objs.size], _, _, H2, rfl, J.kept (t' := t1.toks) fun b o e => Heap.get?_push_of_some _ e, turn_tuple a _, ⟨_, Heap.get?_push_size _ rfl, rfl, rfl⟩, fresh, q⟩
/-! ### data -/
def tyName : PyData → String
  | .none => "NoneType"
  | .bool _ => "bool"
  | .int _ => "int"
  | .str _ => "str"
  | .list _ => "list"
  | .tuple _ => "tuple"
  | .dict _ => "dict"
def isSeq : PyData → Bool
  | .list _ => true
  | .tuple _ => true
  | _ => false
def belD (p : Int) : PyData → Bool
  | .int i => decide (0 ≤ i) && decide (i < p)
  | _ => false
/-- whether it is a sequence of n letters -/
def letsD (p n : Int) : PyData → Bool
  | .list ds => decide ((ds.length : Int) = n) && ds.all (belD p)
  | .tuple ds => decide ((ds.length : Int) = n) && ds.all (belD p)
  | _ => false
def smallD : PyData → Prop
  | .list ds => ds.length ≤ 200
  | .tuple ds => ds.length ≤ 200
  | _ => True
section
variable {K : PySem.W.Frag} {H H' : Hp}
theorem sqL_ty {a : Addr} {xs : List V} (h : SqL K H a xs) : TyX K H (.ref a) (.type "list") := by
  rcases h with (h | ⟨o, h⟩) | ⟨o, its, n, h1, h2, _⟩
  · exact .base (.lst h)
  · exact .base (.frz h)
  · exact .kList h1 h2
theorem sqT_ty {a : Addr} {xs : List V} (h : SqT K H a xs) : TyX K H (.ref a) (.type "tuple") := by
  rcases h with (h | ⟨o, h⟩) | ⟨o, its, n, h1, h2, _⟩
  · exact .base (.tup h)
  · exact .fTuple h
  · exact .kTuple h1 h2
theorem dp_ty {v : V} {d : PyData} (h : Dp K H v d) : TyX K H v (.type (tyName d)) := by
  cases h with
  | non => exact .base .non
  | bl b => exact .base (.bl b)
  | int i => exact .base (.int i)
  | str x => exact .base (.str x)
  | lst h _ => exact sqL_ty h
  | tup h _ => exact sqT_ty h
theorem dp_ty3 {v : V} {d : PyData} (h : Dp K H v d) : Ty3 K H v := by
  have t := dp_ty h
  cases h with
  | non => exact ty3_non
  | bl b => exact ty3_bl b
  | int i => exact ty3_int i
  | str x => exact ty3_str x
  | lst h _ => exact ⟨_, t, kit_ty (show kitB "list" "int" = some false by decide +kernel), kit_ty (show kitB "list" "bool" = some false by decide +kernel)⟩
  | tup h _ => exact ⟨_, t, kit_ty (show kitB "tuple" "int" = some false by decide +kernel), kit_ty (show kitB "tuple" "bool" = some false by decide +kernel)⟩
theorem dp_bel {v : V} {d : PyData} (h : Dp K H v d) (p : Int) : isBel p v = belD p d := by
  cases h <;> rfl
theorem kit_seq {d : PyData} : (∀ kvs, d ≠ .dict kvs) → PySem.W.kitAny K (.type (tyName d)) [.type "list", .type "tuple"] = some (isSeq d) := by
  intro nd
  cases d with
  | none => exact kitAny_cons (b := false) (kit_ty (show kitB "NoneType" "list" = some false by decide +kernel)) (fun _ => kitAny_cons (b := false) (kit_ty (show kitB "NoneType" "tuple" = some false by decide +kernel)) (fun _ => kitAny_nil) (fun h => nomatch h)) (fun h => nomatch h)
  | bool b => exact kitAny_cons (b := false) (kit_ty (show kitB "bool" "list" = some false by decide +kernel)) (fun _ => kitAny_cons (b := false) (kit_ty (show kitB "bool" "tuple" = some false by decide +kernel)) (fun _ => kitAny_nil) (fun h => nomatch h)) (fun h => nomatch h)
  | int i => exact kitAny_cons (b := false) (kit_ty (show kitB "int" "list" = some false by decide +kernel)) (fun _ => kitAny_cons (b := false) (kit_ty (show kitB "int" "tuple" = some false by decide +kernel)) (fun _ => kitAny_nil) (fun h => nomatch h)) (fun h => nomatch h)
  | str x => exact kitAny_cons (b := false) (kit_ty (show kitB "str" "list" = some false by decide +kernel)) (fun _ => kitAny_cons (b := false) (kit_ty (show kitB "str" "tuple" = some false by decide +kernel)) (fun _ => kitAny_nil) (fun h => nomatch h)) (fun h => nomatch h)
  | list xs => exact kitAny_cons (b := true) (kit_ty (show kitB "list" "list" = some true by decide +kernel)) (fun h => nomatch h) (fun _ => rfl)
  | tuple xs => exact kitAny_cons (b := false) (kit_ty (show kitB "tuple" "list" = some false by decide +kernel)) (fun _ => kitAny_cons (b := true) (kit_ty (show kitB "tuple" "tuple" = some true by decide +kernel)) (fun h => nomatch h) (fun _ => rfl)) (fun h => nomatch h)
  | dict kvs => exact absurd rfl (nd kvs)
theorem dp_nodict {v : V} {d : PyData} (h : Dp K H v d) : ∀ kvs, d ≠ .dict kvs := fun kvs z => by
  subst z
  cases h
theorem sqL_same {a : Addr} {xs : List V} (h : SqL K H a xs) (s : Same H H') : SqL K H' a xs := SqL.ext h s
theorem sqT_same {a : Addr} {xs : List V} (h : SqT K H a xs) (s : Same H H') : SqT K H' a xs := SqT.ext h s
mutual
theorem dp_same (s : Same H H') : ∀ {v : V} {d : PyData}, Dp K H v d → Dp K H' v d
  | _, _, .non => .non
  | _, _, .bl b => .bl b
  | _, _, .int i => .int i
  | _, _, .str x => .str x
  | _, _, .lst h k => .lst (sqL_same h s) (dps_same s k)
  | _, _, .tup h k => .tup (sqT_same h s) (dps_same s k)
theorem dps_same (s : Same H H') : ∀ {vs : List V} {ds : List PyData}, DpAll K H vs ds → DpAll K H' vs ds
  | _, _, .nil => .nil
  | _, _, .cons h k => .cons (dp_same s h) (dps_same s k)
end
theorem dps_len : ∀ {vs : List V} {ds : List PyData}, DpAll K H vs ds → vs.length = ds.length
  | _, _, .nil => rfl
  | _, _, .cons _ k => congrArg Nat.succ (dps_len k)
theorem dps_at : ∀ {vs : List V} {ds : List PyData} {i : Nat} {v : V}, DpAll K H vs ds → vs[i]? = some v → ∃ d, ds[i]? = some d ∧ Dp K H v d
  | _, _, _, _, .nil, e => by cases e
  | _, _, 0, _, .cons h _, e => by
    cases e
    exact ⟨_, rfl, h⟩
  | _, _, i + 1, _, .cons _ k, e => dps_at (i := i) k e
end
structure Blt3 (mg : Str → Option Value) : Prop extends Blt2 mg where
  lst : mg "list" = none
  all : mg "all" = none
section
variable {P : Program} {w : World} {K : PySem.W.Frag} {mg : Str → Option Value} {base : Heap}
def spSeq (K : PySem.W.Frag) : Sp := fun vs H Q _ => ∃ v d, vs = [v] ∧ Dp K H v d ∧ ∀ H', Same H H' → Q (.bl (isSeq d)) H'
theorem scSeq : FnScope ["value"] ["value"] (defScope sSeq) := ⟨rfl, rfl, rfl, by decide +kernel, rfl, by decide +kernel, by decide +kernel⟩
theorem ok_seq {f : Addr} {fd : FuncData} (F : FnS K "is_sequence" sSeq f fd) (B : Blt3 mg) : FnOk P w K mg base (L2.CX P w) 1 f fd ["value"] (spSeq K) := by
  refine F.ok scSeq (fun vs H Q E h => ?_) (fun cdv A outer s H vs Q E hr h => ?_)
  · obtain ⟨v, d, rfl, _⟩ := h
    rfl
  · obtain ⟨v, d, rfl, hd, k⟩ := h
    refine ⟨_, (pss_one (ps_ret (pe_callB call_isiT (by rfl) B.isi (by decide +kernel) (pa_cons (pv 0) (pa_cons (pe_tup (pa_cons (pe_bltn (v := .ty "list") (by rfl) B.lst (by decide +kernel) rfl) (pa_cons (pe_bltn (v := .ty "tuple") (by rfl) B.tuple (by decide +kernel) rfl) pa_nil))) pa_nil))))), ?_⟩
    refine ⟨_, rfl, (by show 2 ≤ sizeLine; decide), fun t ht => ⟨v, t, _, _, _, _, rfl, upd_same, .cons (.ty "list") (.cons (.ty "tuple") .nil), dp_ty (dp_same (same_new ht) hd), kit_seq (dp_nodict hd), k _ (same_new ht)⟩⟩
def spLets (K : PySem.W.Frag) : Sp := fun vs H Q _ => ∃ (p n : Int) (v : V) (d : PyData), vs = [.int p, .int n, v] ∧ Dp K H v d ∧ smallD d ∧ ∀ H', Same H H' → Q (.bl (letsD p n d)) H'
theorem scLets : FnScope ["p", "count", "value", "letter"] ["p", "count", "value"] (defScope sLets) := ⟨rfl, rfl, rfl, by decide +kernel, rfl, by decide +kernel, by decide +kernel⟩
theorem ok_lets {f f1 f2 : Addr} {fd fd1 fd2 : FuncData} (F : FnS K "are_letters" sLets f fd) (B : Blt3 mg) (CS : Cal P w K mg base 1 "is_sequence" f1 fd1 ["value"] (spSeq K)) (CB : Cal P w K mg base 3 "is_below" f2 fd2 ["value", "limit"] (spIsBel K)) :
    FnOk P w K mg base (L2.CX P w) 4 f fd ["p", "count", "value"] (spLets K) := by
  refine F.ok scLets (fun vs H Q E h => ?_) (fun cdv A outer s H vs Q E hr h => ?_)
  · obtain ⟨p, n, v, d, rfl, _⟩ := h
    rfl
  · obtain ⟨p, n, v, d, rfl, hd, hz, k⟩ := h
    have nd := scLets.nd
    have hr1 := hr.mono (show 1 ≤ 3 by decide)
    refine ⟨_, (pss_one (ps_ret (pe_and (pe_cal CS hr1 (pa_cons (pv 2) pa_nil) passU) (pe_and (pe_cmpR op_eq (pe_callB call_len_seq (by rfl) B.len (by decide +kernel) (pa_cons (pv 2) pa_nil)) (pv 1) (nomark _)) (pe_one (pe_callB (cr_all rfl) (by rfl) B.all (by decide +kernel) (pa_cons (pe_lc (own := [("letter", 3)]) (g := gName 3) (by rfl) nd (pi_seq (pv 2)) (blkOk_by (own := [("letter", 3)]) (N := ["p", "count", "value", "letter"]) (sc := defScope sLets) (by decide +kernel)) (fun _ _ _ _ _ => pg_name (i := 3) nd rfl (Or.inl rfl)) (fun _ _ _ _ _ => pts_nil) (fun _ _ _ _ _ => (pe_cal CB hr (pa_cons (pv 3) (pa_cons (pv 0) pa_nil)) passU))) pa_nil))))))), ?_⟩
    refine ⟨_, rfl, v, d, rfl, hd, fun H1 s1 => ⟨_, rfl, ?_⟩⟩
    have cs : (isSeq d = false ∧ letsD p n d = false) ∨ ∃ a xs ds, v = .ref a ∧ (SqL K H a xs ∨ SqT K H a xs) ∧ DpAll K H xs ds ∧ ds.length ≤ 200 ∧ isSeq d = true ∧ letsD p n d = (decide ((ds.length : Int) = n) && ds.all (belD p)) := by
      cases hd with
      | non => exact .inl ⟨rfl, rfl⟩
      | bl b => exact .inl ⟨rfl, rfl⟩
      | int i => exact .inl ⟨rfl, rfl⟩
      | str x => exact .inl ⟨rfl, rfl⟩
      | lst h q => exact .inr ⟨_, _, _, rfl, .inl h, q, hz, rfl, rfl⟩
      | tup h q => exact .inr ⟨_, _, _, rfl, .inr h, q, hz, rfl, rfl⟩
    rcases cs with ⟨e1, e2⟩ | ⟨a, xs, ds, rfl, hx, hds, hl, e1, e2⟩
    · rw [e1]
      rw [e2] at k
      exact iteF (k H1 s1)
    · refine iteTb e1 ?_
      rw [e2] at k
      have el := dps_len hds
      have hx1 : SqL K H1 a xs ∨ SqT K H1 a xs := hx.imp (fun h => sqL_same h s1) fun h => sqT_same h s1
      refine ⟨_, rfl, a, xs, rfl, hx1, _, rfl, rfl, _, rfl, ?_⟩
      refine iteD (fun hc => ?_) (fun hc => ?_)
      · have hc' : ((ds.length : Nat) : Int) = n := by
          rw [← el]
          exact V.int.inj hc
        rw [decide_eq_true hc', Bool.true_and] at k
        have st0 : ∀ D, H1 D = none → Same H1 (upd H1 D (.lst [])) ∧ upd H1 D (.lst []) D = some (.lst ((ds.take 0).map fun d => V.bl (belD p d))) := fun D hD => ⟨same_new hD, upd_same⟩
        have turn : ∀ (D : Addr), H1 D = none → ∀ (i : Nat) (y : V) (H2 : Hp), xs[i]? = some y → Same H1 H2 ∧ H2 D = some (.lst ((ds.take i).map fun d => V.bl (belD p d))) →
            isBel p y = belD p (ds.getD i .none) ∧ Ty3 K H2 y ∧ ((ds.take i).map fun d => V.bl (belD p d)).length < sizeLine ∧ Same H1 (upd H2 D (.lst (((ds.take i).map fun d => V.bl (belD p d)) ++ [.bl (isBel p y)]))) ∧
              upd H2 D (.lst (((ds.take i).map fun d => V.bl (belD p d)) ++ [.bl (isBel p y)])) D = some (.lst ((ds.take (i + 1)).map fun d => V.bl (belD p d))) := by
          rintro D hD i y H2 hi ⟨s2, eD⟩
          obtain ⟨di, hdi, hy⟩ := dps_at hds hi
          have eb := dp_bel hy p
          have eg : ds.getD i .none = di := by rw [List.getD_eq_getElem?_getD, hdi] <;> rfl
          refine ⟨by rw [eg]; exact eb, dp_ty3 (dp_same (s1.trans s2) hy), ?_, ?_, ?_⟩
          · rw [List.length_map, List.length_take]
            exact small1000 (by omega)
          · exact fun c o hc => by rw [upd_ne (ne_of_none hc hD)]; exact s2 c o hc
          · rw [upd_same, List.take_succ, hdi, List.map_append, eb]
            rfl
        have fin : ∀ (D : Addr) (H2 : Hp), Same H1 H2 → H2 D = some (.lst ((ds.take xs.length).map fun d => V.bl (belD p d))) → rAll K [.ref D] H2 Q := by
          intro D H2 s2 eD
          rw [el, List.take_length] at eD
          refine ⟨D, ds.map (belD p), rfl, SqL.of (by rw [eD, List.map_map]; rfl), ?_⟩
          have ea : (ds.map (belD p)).all id = ds.all (belD p) := by rw [List.all_map]; rfl
          rw [ea]
          exact k H2 (s1.trans s2)
        refine ⟨_, rfl, a, rfl, ?_⟩
        rcases hx1 with h | h
        · refine .inl ⟨⟨_, h⟩, fun D hD => lc_list (K := K) (a := a) (xs := xs) (fun i H2 => Same H1 H2 ∧ H2 D = some (.lst ((ds.take i).map fun d => V.bl (belD p d)))) (st0 D hD) (fun i H2 _ z => sqL_same h z.1) ?_ (fun H2 z => fin D H2 z.1 z.2)⟩
          rintro i y H2 hi z
          obtain ⟨t1, t2, t3, t4, t5⟩ := turn D hD i y H2 hi z
          exact ⟨rfl, _, rfl, _, rfl, y, p, rfl, t2, _, z.2, t3, t4, t5⟩
        · refine .inr ⟨⟨_, h⟩, fun D hD => lc_tup (K := K) (a := a) (xs := xs) (fun i H2 => Same H1 H2 ∧ H2 D = some (.lst ((ds.take i).map fun d => V.bl (belD p d)))) (st0 D hD) (fun i H2 _ z => sqT_same h z.1) ?_ (fun H2 z => fin D H2 z.1 z.2)⟩
          rintro i y H2 hi z
          obtain ⟨t1, t2, t3, t4, t5⟩ := turn D hD i y H2 hi z
          exact ⟨rfl, _, rfl, _, rfl, y, p, rfl, t2, _, z.2, t3, t4, t5⟩
      · have hc' : ¬ ((ds.length : Nat) : Int) = n := fun z => hc (congrArg V.int (by rw [el]; exact z))
        rw [decide_eq_false hc', Bool.false_and] at k
        exact k H1 s1
end
end WU

set_option maxRecDepth 100000
set_option maxHeartbeats 4000000
namespace WU
open PySem PySem.Spec PyProof.Rows L2
section
variable {P : Program} {w : World} {K : PySem.W.Frag} {mg : Str → Option Value} {base : Heap}
/-! ### the errors' __init__ -/
/-! ### inverse_of -/
/-- whether 1 + j is an inverse -/
def hit (p a : Int) (j : Nat) : Bool := decide ((a * (1 + (j : Int))).fmod p = 1)
def cnd (p a : Int) (n : Nat) : List Int := ((List.range n).filter (hit p a)).map fun (j : Nat) => 1 + (j : Int)
theorem cnd_succ (p a : Int) (n : Nat) : cnd p a (n + 1) = if hit p a n = true then cnd p a n ++ [1 + (n : Int)] else cnd p a n := by
  unfold cnd
  rw [List.range_succ, List.filter_append, List.map_append]
  by_cases h : hit p a n = true
  · rw [if_pos h]
    simp [h]
  · rw [if_neg h]
    simp [h]
theorem cnd_len (p a : Int) (n : Nat) : (cnd p a n).length ≤ n := by
  unfold cnd
  rw [List.length_map]
  exact Nat.le_trans (List.length_filter_le _ _) (by simp)
theorem cnd_none (p a : Int) (n : Nat) (h : ∀ j, j < n → hit p a j = false) : cnd p a n = [] := by
  induction n with
  | zero => rfl
  | succ n ih =>
    rw [cnd_succ, ih fun j hj => h j (by omega), if_neg (by rw [h n (by omega)]; decide)]
theorem cnd_grow (p a : Int) (n : Nat) : ∀ m, ∃ l, cnd p a (n + m) = cnd p a n ++ l
  | 0 => ⟨[], by simp⟩
  | m + 1 => by
    obtain ⟨l, e⟩ := cnd_grow p a n m
    rw [show n + (m + 1) = n + m + 1 from rfl, cnd_succ, e]
    split
    · exact ⟨l ++ [1 + ((n + m : Nat) : Int)], by simp⟩
    · exact ⟨l, rfl⟩
/-- the inverse: the first one -/
def inv (p a : Int) : Int := (cnd p a (p - 1).toNat).headD 0
theorem inv_first {p a : Int} {n : Nat} (hn : n < (p - 1).toNat) (h : ∀ j, j < n → hit p a j = false) (hh : hit p a n = true) : inv p a = 1 + (n : Int) := by
  obtain ⟨l, e⟩ := cnd_grow p a (n + 1) ((p - 1).toNat - (n + 1))
  rw [show n + 1 + ((p - 1).toNat - (n + 1)) = (p - 1).toNat by omega] at e
  unfold inv
  rw [e, cnd_succ, if_pos hh, cnd_none p a n h]
  rfl
theorem inv_there {p a : Int} (hp : p ∈ primes) (h0 : 0 < a) (h1 : a < p) : ∃ l, cnd p a (p - 1).toNat = inv p a :: l := by
  have all : ∀ q ∈ primes, ∀ n ∈ List.range 31, ¬ n = 0 → (n : Int) < q → (cnd q n (q - 1).toNat).isEmpty = false := by decide +kernel
  have hb := fld_le hp
  have e := all p hp a.toNat (List.mem_range.mpr (by omega)) (by omega) (by omega)
  rw [show ((a.toNat : Nat) : Int) = a by omega] at e
  unfold inv
  cases q : cnd p a (p - 1).toNat with
  | nil =>
    rw [q] at e
    cases e
  | cons x l => exact ⟨l, rfl⟩
def spInv (K : PySem.W.Frag) : Sp := fun vs H Q E => ∃ v u, vs = [v, u] ∧ Ty3 K H v ∧ Ty3 K H u ∧ (isFld v = false → Errs (He.ga K "InvalidNumber") "value" v H E) ∧
  ∀ p, v = .int p → isFld v = true → (isBel p u = false → Errs (He.ga K "InvalidNumber") "value" u H E) ∧ (u = .int 0 → Errs (He.ga K "Undefined") "what" (.str "inverse") H E) ∧
    ∀ a, u = .int a → 0 < a → a < p → ∀ H', Same H H' → Q (.int (inv p a)) H'
theorem scInv : FnScope ["p", "a", "b"] ["p", "a"] (defScope sInv) := ⟨rfl, rfl, rfl, by decide +kernel, rfl, by decide +kernel, by decide +kernel⟩
theorem ok_inv {f f1 f2 : Addr} {fd fd1 fd2 fdI fdU : FuncData} (F : FnS K "inverse_of" sInv f fd) (C1 : Cal P w K mg base 3 "check_field" f1 fd1 ["p"] (spCheck K)) (C2 : Cal P w K mg base 3 "is_below" f2 fd2 ["value", "limit"] (spIsBel K))
    (T : Exc1 K mg "InvalidNumber" "value") (TU : Exc1 K mg "Undefined" "what") (gR : mg "range" = none)
    (FI : FnOk P w K mg base (L2.CX P w) 1 (He.ma K (He.ga K "InvalidNumber") "__init__") fdI ["self", "value"] (spInit1 K (He.ga K "InvalidNumber") "value")) (bI : Binds K fdI ["self", "value"] [])
    (FU : FnOk P w K mg base (L2.CX P w) 1 (He.ma K (He.ga K "Undefined") "__init__") fdU ["self", "what"] (spInit1 K (He.ga K "Undefined") "what")) (bU : Binds K fdU ["self", "what"] []) :
    FnOk P w K mg base (L2.CX P w) 4 f fd ["p", "a"] (spInv K) := by
  refine F.ok scInv (fun vs H Q E h => ?_) (fun cdv A outer s H vs Q E hr h => ?_)
  · obtain ⟨v, u, rfl, _⟩ := h
    rfl
  · obtain ⟨v, u, rfl, hv, hu, kF, kk⟩ := h
    have nd := scInv.nd
    have hr2 : Room 2 _ := hr.mono (by decide)
    refine ⟨_, pss_cons (ps_expr (pe_cal (E := E) C1 hr (pa_cons (pv 0) pa_nil) (passes_call (takes_of rfl rfl rfl rfl) (fun _ _ _ _ h => h))))
      (pss_cons (ps_if (pt_not (pt_val (pe_cal C2 hr (pa_cons (pv 1) (pa_cons (pv 0) pa_nil)) passU))) (pss_one (ps_raise1 rfl (takes_of rfl rfl rfl rfl) T FI bI hr2 (pa_cons (pv 1) pa_nil))) pss_nil)
      (pss_cons (ps_if (pt_cmpR op_eq (pv 1) pe_int (nomark _)) (pss_one (ps_raise1 rfl (takes_of rfl rfl rfl rfl) TU FU bU hr2 (pa_cons pe_str pa_nil))) pss_nil)
      (pss_one (ps_ret (pe_ix ix_list (pe_lc (own := [("b", 2)]) (g := gName 2) (by rfl) nd (pi_range2 (by rfl) gR (pa_cons pe_int (pa_cons (pv 0) pa_nil))) (blkOk_by (own := [("b", 2)]) (N := ["p", "a", "b"]) (sc := defScope sInv) (by decide +kernel))
        (fun _ _ _ _ _ => pg_name (i := 2) nd rfl (Or.inl rfl)) (fun _ _ _ _ _ => pts_one (pt_cmpR op_eq (pe_op op_modN (pe_op op_mul (pv 1) (pv 2)) (pv 0)) pe_int (nomark _))) (fun _ _ _ _ _ => pv 2)) pe_int (fun _ _ => rfl)))))), ?_⟩
    refine ⟨_, rfl, v, rfl, hv, fun e => ?_, kF⟩
    cases v with
    | int p =>
      obtain ⟨kB, k0, kI⟩ := kk p rfl e
      refine ⟨_, rfl, _, rfl, u, p, rfl, hu, _, rfl, ?_⟩
      cases eb : isBel p u with
      | false => exact iteT ⟨_, rfl, u, rfl, kB eb⟩
      | true =>
        refine iteF ?_
        cases u with
        | int a =>
          have eb' : (decide (0 ≤ a) && decide (a < p)) = true := eb
          obtain ⟨e0, e1⟩ := and2 eb'
          have h0 := of_decide_eq_true e0
          have h1 := of_decide_eq_true e1
          refine ⟨_, rfl, rfl, _, rfl, ?_⟩
          show if decide (V.int a = V.int 0) = true then _ else _
          by_cases ha : a = 0
          · subst ha
            exact iteT ⟨.str "inverse", rfl, k0 rfl⟩
          · rw [decide_eq_false fun z => ha (V.int.inj z)]
            refine iteF ?_
            have hp := fld_mem e
            have hb := fld_le hp
            refine ⟨_, rfl, ?_⟩
            refine ⟨1, p, rfl, (by omega), fun D hD => ?_⟩
            refine lc_range (lo := 1) (n := (p - 1).toNat) (fun i H' => Same H H' ∧ H' D = some (.lst ((cnd p a i).map V.int))) ⟨fun c o hc => by rw [upd_ne (ne_of_none hc hD)]; exact hc, upd_same⟩ ?_ ?_
            · rintro i H' hi ⟨s1, s2⟩
              refine ⟨rfl, ?_⟩
              refine ⟨_, rfl, _, rfl, a, _, rfl, rfl, .inl ⟨by omega, by omega⟩, _, rfl, _, p, rfl, rfl, (by omega), rfl, _, rfl, ?_⟩
              have ec := cnd_succ p a i
              have ed : decide (V.int ((a * (1 + (i : Int))).fmod p) = V.int 1) = hit p a i := by
                unfold hit
                by_cases z : (a * (1 + (i : Int))).fmod p = 1
                · rw [decide_eq_true z, decide_eq_true (congrArg V.int z)]
                · rw [decide_eq_false z, decide_eq_false fun q => z (V.int.inj q)]
              show if decide (V.int ((a * (1 + (i : Int))).fmod p) = V.int 1) = true then _ else _
              rw [ed]
              cases q : hit p a i with
              | true =>
                rw [if_pos q] at ec
                refine iteT ⟨_, rfl, _, s2, ?_, fun c o hc => ?_, ?_⟩
                · rw [List.length_map]
                  exact small1000 (Nat.le_trans (cnd_len p a i) (by omega))
                · rw [upd_ne (ne_of_none hc hD)]
                  exact s1 c o hc
                · rw [upd_same, ec, List.map_append]
                  rfl
              | false =>
                rw [if_neg (by rw [q]; decide)] at ec
                refine iteF ⟨s1, ?_⟩
                rw [ec]
                exact s2
            · rintro H' ⟨s1, s2⟩
              obtain ⟨l, el⟩ := inv_there hp (show 0 < a by omega) h1
              rw [el] at s2
              refine ⟨_, _, _, _, rfl, rfl, SqL.of s2, atI_nat (j := 0) rfl, kI a rfl (by omega) h1 H' s1⟩
        | _ => cases eb
    | _ => cases e
end
end WU

set_option maxRecDepth 100000
set_option maxHeartbeats 4000000
namespace WU
open PySem PySem.Spec PyProof.Rows L2
section
variable {P : Program} {w : World} {K : PySem.W.Frag} {mg : Str → Option Value} {base : Heap} {S : Addr}
/-- what is asked of the class Share, at S -/
structure ShC (K : PySem.W.Frag) (mg : Str → Option Value) (S : Addr) : Prop where
  g : mg "Share" = some (.ref S)
  cl : Cls K S
  nT : NoAttr K S "top"
  nB : NoAttr K S "bottom"
  ha : PySem.W.findIn K (.ref S) "__class__" = some (some (.builtin "object.__class__"))
  hn : PySem.W.specialIn K (.builtin "object.__class__") "__get__" = some (some (.builtin "getset_descriptor.__get__"))
  htk : PySem.W.takesIn K (.builtin "object.__class__") = some true
  hm : PySem.W.mroIn K S (.type "object") = some true
  kS : PySem.W.kitOne K (.ref S) (.ref S) = some true
  kI : PySem.W.kitOne K (.ref S) (.type "int") = some false
  kB : PySem.W.kitOne K (.ref S) (.type "bool") = some false
theorem nTB : ¬ (("top" : Str) = "bottom") := by decide +kernel
def shf (t b : Int) : List (Str × V) := putF "bottom" (.int b) (putF "top" (.int t) [])
theorem shf_top (t b : Int) : (shf t b).lookup ("top" : Str) = some (.int t) := by
  unfold shf
  rw [lookup_putF, if_neg nTB, lookup_putF, if_pos rfl]
theorem shf_bot (t b : Int) : (shf t b).lookup ("bottom" : Str) = some (.int b) := by
  unfold shf
  rw [lookup_putF, if_pos rfl]
/-- a Share stands at p -/
def ShAt (S : Addr) (H : Hp) (p : Addr) (t b : Int) : Prop := ∃ dx, H p = some (.ins S dx (shf t b))
theorem ShC.ty {H : Hp} {p : Addr} {t b : Int} (C : ShC K mg S) (h : ShAt S H p t b) : TyX K H (.ref p) (.ref S) := by
  obtain ⟨dx, h⟩ := h
  exact .base (.ins h C.cl C.ha C.hn C.htk C.hm)
theorem ShC.ty3 {H : Hp} {p : Addr} {t b : Int} (C : ShC K mg S) (h : ShAt S H p t b) : Ty3 K H (.ref p) := ⟨_, C.ty h, C.kI, C.kB⟩
def spSI (S : Addr) : Sp := fun vs H Q _ => ∃ (p dx : Addr) (n : Int), vs = [.ref p, .int n, .int 1] ∧ H p = some (.ins S dx []) ∧ 0 ≤ n ∧
  ∀ H', ShAt S H' p n 1 → (∀ b o, b ≠ p → H b = some o → H' b = some o) → Q .non H'
/-- two Shares of the same numbers -/
def ShR (S : Addr) : Addr → Addr → Hp → Prop := fun a b H => ∃ t u, ShAt S H a t u ∧ ShAt S H b t u
end
end WU

set_option maxRecDepth 100000
set_option maxHeartbeats 8000000
namespace WU
open PySem PySem.Spec PyProof.Rows L2
section
variable {P : Program} {w : World} {K : PySem.W.Frag} {mg : Str → Option Value} {base : Heap} {S : Addr}
/-- flat, or an object -/
def FR (x : V) : Prop := flatV x = true ∨ ∃ p, x = .ref p
/-- one of the odd values, none of them the hand at a -/
def OddV (S a : Addr) (H : Hp) (v : V) : Prop := flatV v = true ∨ ∃ p, v = .ref p ∧ p ≠ a ∧ ((∃ t b, ShAt S H p t b) ∨ ∃ xs, (H p = some (.lst xs) ∨ H p = some (.tup xs)) ∧ ∀ x ∈ xs, FR x)
theorem OddV.keep {a : Addr} {H H' : Hp} {v : V} (h : OddV S a H v) (k : Keep a H H') : OddV S a H' v := by
  rcases h with h | ⟨p, rfl, ne, h⟩
  · exact .inl h
  · refine .inr ⟨p, rfl, ne, ?_⟩
    rcases h with ⟨t, b, dx, h⟩ | ⟨xs, h, hx⟩
    · exact .inl ⟨t, b, dx, k _ _ ne h⟩
    · exact .inr ⟨xs, h.elim (fun h => .inl (k _ _ ne h)) fun h => .inr (k _ _ ne h), hx⟩
theorem OddV.fr {a : Addr} {H : Hp} {v : V} (h : OddV S a H v) : FR v := by
  rcases h with h | ⟨p, rfl, _⟩
  · exact .inl h
  · exact .inr ⟨p, rfl⟩
theorem OddV.ty3 {a : Addr} {H : Hp} {v : V} (C : ShC K mg S) (h : OddV S a H v) : Ty3 K H v := by
  rcases h with h | ⟨p, rfl, _, h⟩
  · cases v with
    | non => exact ty3_non
    | bl b => exact ty3_bl b
    | int i => exact ty3_int i
    | str z => exact ty3_str z
    | _ => cases h
  · rcases h with ⟨t, b, h⟩ | ⟨xs, h | h, _⟩
    · exact C.ty3 h
    · exact ty3_lst h
    · exact ty3_tup h
theorem sh_make {H : Hp} {x y : Addr} {n : Int} {G : Hp → Prop} {E : XK} (hx : H x = none) (hy : H y = none) (hn : 0 ≤ n) (k : ∀ H', ShAt S H' x n 1 → Same H H' → G H') :
    spSI S [.ref x, .int n, .int 1] (upd (upd H y (.own x)) x (.ins S y [])) (fun v H2 => v = .non ∧ G H2) E :=
  ⟨x, y, n, rfl, upd_same, hn, fun H' sh kp => ⟨rfl, k H' sh fun b o hb => kp b o (ne_of_none hb hx) (by rw [upd_ne (ne_of_none hb hx), upd_ne (ne_of_none hb hy)]; exact hb)⟩⟩
theorem ShAt.same {H H' : Hp} {p : Addr} {t b : Int} (h : ShAt S H p t b) (s : Same H H') : ShAt S H' p t b := by
  obtain ⟨dx, e⟩ := h
  exact ⟨dx, s _ _ e⟩
def spOdd (S : Addr) (n : Nat) : Sp := fun vs H Q _ => ∃ (a d : Addr) (m : Int), vs = [.ref a, .int m] ∧ 0 ≤ m ∧ m < n ∧ HandAt H a d ∧ ∀ v H', OddV S a H' v → HandAt H' a d → Keep a H H' → Q v H'
end
end WU

set_option maxRecDepth 100000
set_option maxHeartbeats 8000000
namespace WU
open PySem PySem.Spec PyProof.Rows L2
section
variable {P : Program} {w : World} {K : PySem.W.Frag} {mg : Str → Option Value} {base : Heap} {S : Addr}
def spLN (S : Addr) : Sp := fun vs H Q _ => ∃ (a d : Addr), vs = [.ref a] ∧ HandAt H a d ∧ ∀ v H', OddV S a H' v → isFld v = false → HandAt H' a d → Keep a H H' → Q v H'
def spLI : Sp := fun vs H Q _ => ∃ (a p : Int), vs = [.int a, .int p] ∧ p ∈ primes ∧ 0 < a ∧ a < p ∧ Q (.int (inv p a)) H
theorem cnd_hit {p a : Int} {n : Nat} {x : Int} {l : List Int} (h : cnd p a n = x :: l) : ∃ j : Nat, j < n ∧ hit p a j = true := by
  have hx : x ∈ cnd p a n := by rw [h]; exact List.mem_cons_self
  unfold cnd at hx
  obtain ⟨j, hj, _⟩ := List.mem_map.mp hx
  obtain ⟨h1, h2⟩ := List.mem_filter.mp hj
  exact ⟨j, List.mem_range.mp h1, h2⟩
end
end WU

set_option maxRecDepth 100000
set_option maxHeartbeats 8000000
namespace WU
open PySem PySem.Spec PyProof.Rows L2
section
variable {X : Cx}
theorem dps_ints {K : PySem.W.Frag} {H : Hp} : ∀ ns : List Int, DpAll K H (ns.map V.int) (ns.map PyData.int)
  | [] => .nil
  | n :: ns => .cons (.int n) (dps_ints ns)
theorem plain_ints : ∀ ns : List Int, PyData.plainAll (ns.map PyData.int) = true
  | [] => rfl
  | n :: ns => plain_ints ns
theorem any_ints : ∀ ns : List Int, (ns.map PyData.int).any PyData.truthy = ns.any fun n => decide (n ≠ 0)
  | [] => rfl
  | n :: ns => by
    rw [List.map_cons, List.any_cons, List.any_cons, any_ints ns]
    congr 1
    show (n != 0) = _
    by_cases h : n = 0 <;> simp [h]
/-- any(a tuple of ints) -/
def rAnyT (K : PySem.W.Frag) : List V → Hp → VK → Prop := fun vs H Q => ∃ (a : Addr) (ns : List Int), vs = [V.ref a] ∧ SqT K H a (ns.map V.int) ∧ Q (.bl (ns.any fun n => decide (n ≠ 0))) H
theorem cr_anyT (hc : X.calm = true) : CallR X (.builtin "any") (rAnyT X.K) := by
  intro pins s σ H vs us Q I r h
  obtain ⟨a, ns, rfl, hs, q⟩ := h
  obtain ⟨its, rv, hl, _⟩ := I.tuple hs
  rw [Vals.ref1 r]
  obtain ⟨as, hr⟩ := Dp.readsAll I (ns.map PyData.int) _ its (dps_ints ns) rv
  refine PySem.W.any_tuple_data (I.ok.hd hc) (show s.heap.IsTuple a its.toArray from hl) hr (plain_ints ns) (fun x hx => ?_) fun h' tk hk => ?_
  · obtain ⟨n, _, rfl⟩ := List.mem_map.mp hx
    trivial
  · rw [any_ints]
    exact ⟨.bl _, H, I.kept fun b o eo => hk b o eo, rfl, q⟩
end
end WU

set_option maxRecDepth 100000
set_option maxHeartbeats 8000000
namespace WU
open PySem PySem.Spec PyProof.Rows L2
theorem tuple_mul1 (l : Addr) (items : Array Value) (n : Nat) (dd : Option Addr) (sl : Array (Option Value)) (u : Tok) :
    Meets (Builtin.«tuple.__mul__» ⟨[.ref l, .int 1 u], []⟩) (fun _ R s => s.heap.get? l = some { cls := .type "tuple", dict := dd, data := .seq items n, slots := sl } ∧ R (.ok (.ret (Value.ref l))) { s with heap := s.heap, toks := s.toks }) :=
  .of_wp fun prog w A R s h => by
    obtain ⟨hp, g, d, tk, os⟩ := s
    obtain ⟨hl, h⟩ := h
    have f1 := AutoSeq1.idx_int
    have c0 : (decide ((1 : Int) < -(2 ^ 63)) || decide ((1 : Int) ≥ 2 ^ 63)) = false := by decide
    have c1 : (items.isEmpty || (1 : Int) == 1) = true := by simp
    wp_walk using wpAny_loadPart' hl
    repeat (first
      | (refine wpAny_ite_false (decide_eq_false (by rw [c0]; exact Bool.false_ne_true)) ?_; wp_walk using wpAny_loadPart' hl)
      | (refine wpAny_ite_true (decide_eq_true c1) ?_; wp_walk using wpAny_loadPart' hl))
    exact ⟨_, rfl, h⟩
theorem tuple_mul0 (l : Addr) (items : Array Value) (n : Nat) (dd : Option Addr) (sl : Array (Option Value)) (u : Tok) (hi : items.isEmpty = false) :
    Meets (Builtin.«tuple.__mul__» ⟨[.ref l, .int 0 u], []⟩) (fun _ R s => s.heap.get? l = some { cls := .type "tuple", dict := dd, data := .seq items n, slots := sl } ∧
      R (.ok (.ret (Value.ref s.heap.objs.size))) { s with heap := s.heap.push { cls := Value.type "tuple", data := Data.seq #[] }, toks := s.toks }) :=
  .of_wp fun prog w A R s h => by
    obtain ⟨hp, g, d, tk, os⟩ := s
    obtain ⟨hl, h⟩ := h
    have f1 := AutoSeq1.idx_int
    have c0 : (decide ((0 : Int) < -(2 ^ 63)) || decide ((0 : Int) ≥ 2 ^ 63)) = false := by decide
    have c1 : (items.isEmpty || (0 : Int) == 1) = false := by rw [hi]; decide
    have c2 : (decide ((0 : Int) ≤ 0) || items.isEmpty) = true := by rw [decide_eq_true (Int.le_refl 0)]; rfl
    wp_walk using wpAny_loadPart' hl
    repeat (first
      | (refine wpAny_ite_false (decide_eq_false (by rw [c0]; exact Bool.false_ne_true)) ?_; wp_walk using wpAny_loadPart' hl)
      | (refine wpAny_ite_false (decide_eq_false (by rw [c1]; exact Bool.false_ne_true)) ?_; wp_walk using wpAny_loadPart' hl)
      | (refine wpAny_ite_true (decide_eq_true c2) ?_; wp_walk using wpAny_loadPart' hl))
    exact ⟨_, rfl, h⟩
/-- (v,) * k, k from 0 on -/
def rRepA (K : PySem.W.Frag) : R2 := fun x y H Q => ∃ (l : Addr) (k : Nat) (xs : List V), x = .ref l ∧ y = .int k ∧ H l = some (.tup xs) ∧ xs ≠ [] ∧ k ≤ 1000 ∧ xs.length ≤ 1000 ∧ ∀ p H', Same H H' → H' p = some (.tup (List.replicate k xs).flatten) → Q (.ref p) H'
section
variable {X : Cx}
theorem op_repA : OpR X (binaryOp .Mult) (rRepA X.K) := by
  intro pins s σ H x y v u Q I rx ry h
  obtain ⟨l, k, xs, rfl, rfl, hT, hne, h2, hz, q⟩ := h
  by_cases hk : 2 ≤ k
  · refine op_repT pins s σ H _ _ v u Q I rx ry ⟨l, (k : Int), xs, rfl, rfl, SqT.of hT, hne, by omega, by omega, hz, fun p hp => q p _ (same_new hp) ?_⟩
    rw [upd_same]
    rfl
  · cases rx
    obtain ⟨t, rfl⟩ := ry
    obtain ⟨its, r, ⟨⟨cls, dd, data, sl⟩, ho, hc, n, hd⟩, hs⟩ := I.tuple (SqT.of hT)
    simp only at hc hd
    subst hc hd
    have hle : its.length = xs.length := r.length.symm
    have hi : its.toArray.isEmpty = false := by
      cases its with
      | nil => exact absurd (List.eq_nil_of_length_eq_zero hle.symm) hne
      | cons a b => rfl
    have hk2 : k = 0 ∨ k = 1 := by omega
    rcases hk2 with rfl | rfl
    · refine wpAny_binaryOp_repeat_ref (T := "tuple") (U := "int") (by decide) ⟨_, ho, rfl⟩ (fun s' => typeIs_int s' 0 t) noFill_tuple_mul PySem.F.fills_int_mul PySem.F.slot_int_rmul repeat_tuple PySem.F.slot_int_index.lookup
        (call_meets PySem.F.slot_int_rmul (typeIs_int s 0 t) PySem.F.entry_int_rmul (PySem.F.args_int_rmul_2 _ _) (int_rmul_tuple 0 t l its.toArray n dd sl)
          ⟨ho, rfl, ⟨_, ho, rfl⟩, call_meets PySem.F.slot_tuple_mul ⟨_, ho, rfl⟩ PySem.F.entry_tuple_mul (PySem.F.args_tuple_mul_2 _ _) (tuple_mul0 l its.toArray n dd sl t hi) ⟨ho, ?_⟩⟩)
      refine ⟨.ref s.heap.objs.size, _, I.laid (t' := s.toks) (o := .tup []) (fun b ob q => Heap.get?_push_of_some _ q) (Nat.le_refl _) ?_, rfl, q _ _ (same_new (I.hok.fresh (Nat.le_refl _))) upd_same⟩
      exact ⟨Nat.zero_le _, [], .nil, IsTup.new _ _⟩
    · refine wpAny_binaryOp_repeat_ref (T := "tuple") (U := "int") (by decide) ⟨_, ho, rfl⟩ (fun s' => typeIs_int s' 1 t) noFill_tuple_mul PySem.F.fills_int_mul PySem.F.slot_int_rmul repeat_tuple PySem.F.slot_int_index.lookup
        (call_meets PySem.F.slot_int_rmul (typeIs_int s 1 t) PySem.F.entry_int_rmul (PySem.F.args_int_rmul_2 _ _) (int_rmul_tuple 1 t l its.toArray n dd sl)
          ⟨ho, rfl, ⟨_, ho, rfl⟩, call_meets PySem.F.slot_tuple_mul ⟨_, ho, rfl⟩ PySem.F.entry_tuple_mul (PySem.F.args_tuple_mul_2 _ _) (tuple_mul1 l its.toArray n dd sl t) ⟨ho, ?_⟩⟩)
      refine ⟨.ref l, H, I, rfl, q l H (Same.refl H) ?_⟩
      rw [hT]
      simp
end
end WU

set_option maxRecDepth 100000
set_option maxHeartbeats 4000000
namespace WU
open PySem PySem.Spec PyProof.Rows L2
/-! ### rows of letters, by places -/
def at0 (r : List Int) (k : Nat) : Int := r.getD k 0
/-- a row of n letters -/
def Ltr (p : Int) (n : Nat) (b : List Int) : Prop := b.length = n ∧ ∀ i ∈ b, 0 ≤ i ∧ i < p
theorem at0_lt {r : List Int} {k : Nat} (h : k < r.length) : at0 r k = r[k] := by
  unfold at0
  rw [List.getD_eq_getElem?_getD, List.getElem?_eq_getElem h]
  rfl
theorem at0_some {r : List Int} {k : Nat} (h : k < r.length) : r[k]? = some (at0 r k) := by
  rw [at0_lt h, List.getElem?_eq_getElem h]
theorem Ltr.bd {p : Int} {n k : Nat} {r : List Int} (h : Ltr p n r) (hk : k < n) : 0 ≤ at0 r k ∧ at0 r k < p := by
  have hl : k < r.length := by rw [h.1]; exact hk
  rw [at0_lt hl]
  exact h.2 _ (List.getElem_mem hl)
theorem row_ext {n : Nat} {r t : List Int} (hr : r.length = n) (ht : t.length = n) (h : ∀ k, k < n → at0 r k = at0 t k) : r = t := by
  refine List.ext_getElem (by rw [hr, ht]) fun k h1 h2 => ?_
  rw [← at0_lt h1, ← at0_lt h2]
  exact h k (by omega)
theorem ltr_of {p : Int} {n : Nat} {r : List Int} (hl : r.length = n) (h : ∀ k, k < n → 0 ≤ at0 r k ∧ at0 r k < p) : Ltr p n r := by
  refine ⟨hl, fun x hx => ?_⟩
  obtain ⟨k, hk, rfl⟩ := List.getElem_of_mem hx
  rw [← at0_lt hk]
  exact h k (by omega)
def zer (n : Nat) : List Int := List.replicate n 0
theorem zer_len {n : Nat} : (zer n).length = n := List.length_replicate
theorem zer_at {n k : Nat} : at0 (zer n) k = 0 := by
  unfold at0 zer
  rw [List.getD_eq_getElem?_getD, List.getElem?_replicate]
  split <;> rfl
/-- u + c r, by places -/
def addv (p : Int) (u : List Int) (c : Int) (r : List Int) : List Int := List.zipWith (fun a b => (a + c * b).fmod p) u r
theorem addv_len {p c : Int} {n : Nat} {u r : List Int} (hu : u.length = n) (hr : r.length = n) : (addv p u c r).length = n := by
  unfold addv
  rw [List.length_zipWith, hu, hr, Nat.min_self]
theorem addv_at {p c : Int} {n k : Nat} {u r : List Int} (hu : u.length = n) (hr : r.length = n) (hk : k < n) : at0 (addv p u c r) k = (at0 u k + c * at0 r k).fmod p := by
  rw [at0_lt (by rw [addv_len hu hr]; exact hk), at0_lt (r := u) (by omega), at0_lt (r := r) (by omega)]
  unfold addv
  rw [List.getElem_zipWith]
theorem fm_bd (x : Int) {p : Int} (h : 0 < p) : 0 ≤ x.fmod p ∧ x.fmod p < p := ⟨Int.fmod_nonneg_of_pos x h, Int.fmod_lt_of_pos x h⟩
theorem addv_ltr {p c : Int} {n : Nat} {u r : List Int} (hp : 0 < p) (hu : u.length = n) (hr : r.length = n) : Ltr p n (addv p u c r) :=
  ltr_of (addv_len hu hr) fun k hk => by rw [addv_at hu hr hk]; exact fm_bd _ hp
theorem zer_ltr {p : Int} {n : Nat} (hp : 0 < p) : Ltr p n (zer n) := ltr_of zer_len fun k _ => by rw [zer_at]; omega
/-! ### alike modulo p -/
def Cg (p a b : Int) : Prop := ∃ t, a = b + p * t
theorem Cg.rfl' {p a : Int} : Cg p a a := ⟨0, by omega⟩
theorem Cg.symm {p a b : Int} (h : Cg p a b) : Cg p b a := by
  obtain ⟨t, e⟩ := h
  exact ⟨-t, by rw [e, Int.mul_neg]; omega⟩
theorem Cg.trans {p a b c : Int} (h : Cg p a b) (k : Cg p b c) : Cg p a c := by
  obtain ⟨t, e⟩ := h
  obtain ⟨u, f⟩ := k
  exact ⟨t + u, by rw [e, f, Int.mul_add]; omega⟩
theorem Cg.add {p a b c d : Int} (h : Cg p a b) (k : Cg p c d) : Cg p (a + c) (b + d) := by
  obtain ⟨t, e⟩ := h
  obtain ⟨u, f⟩ := k
  exact ⟨t + u, by rw [e, f, Int.mul_add]; omega⟩
theorem Cg.mul {p a b : Int} (c : Int) (h : Cg p a b) : Cg p (c * a) (c * b) := by
  obtain ⟨t, e⟩ := h
  exact ⟨c * t, by rw [e, Int.mul_add, ← Int.mul_assoc, ← Int.mul_assoc, Int.mul_comm c p]⟩
theorem Cg.mulr {p a b : Int} (c : Int) (h : Cg p a b) : Cg p (a * c) (b * c) := by
  rw [Int.mul_comm a, Int.mul_comm b]
  exact h.mul c
theorem Cg.fm {p : Int} (a : Int) : Cg p (a.fmod p) a := ⟨-(a.fdiv p), by rw [Int.fmod_def, Int.mul_neg]; omega⟩
theorem Cg.eq {p a b : Int} (h : Cg p a b) (ha : 0 ≤ a ∧ a < p) (hb : 0 ≤ b ∧ b < p) : a = b := by
  obtain ⟨t, e⟩ := h
  have h1 : a % p = a := Int.emod_eq_of_lt ha.1 ha.2
  have h2 : b % p = b := Int.emod_eq_of_lt hb.1 hb.2
  rw [← h1, ← h2, e, Int.add_mul_emod_self_left]
theorem Cg.fmod {p a b : Int} (hp : 0 < p) (h : Cg p a b) : a.fmod p = b.fmod p := Cg.eq ((Cg.fm a).trans (h.trans (Cg.fm b).symm)) (fm_bd a hp) (fm_bd b hp)
theorem fm_id {p a : Int} (h : 0 ≤ a ∧ a < p) : a.fmod p = a := Cg.eq (Cg.fm a) (fm_bd a (by omega)) h
/-! ### what sums and multiples keep -/
def Lin (p : Int) (n : Nat) (S : List Int → Prop) : Prop := S (zer n) ∧ ∀ u r c, S u → S r → S (addv p u c r)
/-- spanned by rows -/
def Span (p : Int) (n : Nat) (rows : List (List Int)) (v : List Int) : Prop := ∀ S, Lin p n S → (∀ r ∈ rows, S r) → S v
theorem span_lin {p : Int} {n : Nat} {rows : List (List Int)} : Lin p n (Span p n rows) := ⟨fun S l _ => l.1, fun u r c hu hr S l h => l.2 u r c (hu S l h) (hr S l h)⟩
theorem span_mem {p : Int} {n : Nat} {rows : List (List Int)} {r : List Int} (h : r ∈ rows) : Span p n rows r := fun S _ k => k r h
theorem span_sub {p : Int} {n : Nat} {rows rows' : List (List Int)} (h : ∀ r ∈ rows, Span p n rows' r) {v : List Int} (hv : Span p n rows v) : Span p n rows' v := hv _ span_lin h
theorem ltr_lin {p : Int} {n : Nat} (hp : 0 < p) : Lin p n (Ltr p n) := ⟨zer_ltr hp, fun u r c hu hr => addv_ltr hp hu.1 hr.1⟩
/-! ### the elimination -/
def nz (r : List Int) : Bool := r.any fun n => decide (n ≠ 0)
def led (p : Int) (r : List Int) (j : Nat) : List Int := r.map fun l => (inv p (at0 r j) * l).fmod p
def less (p : Int) (r : List Int) (f : Int) (lead : List Int) : List Int := List.zipWith (fun a b => (a - f * b).fmod p) r lead
def clr (p : Int) (lead : List Int) (j : Nat) (r : List Int) : List Int := if at0 r j ≠ 0 then less p r (at0 r j) lead else r
def hot (j : Nat) (r : List Int) : Bool := decide (at0 r j ≠ 0)
/-- one column, as the law goes -/
def stp (p : Int) (j : Nat) (s : List (List Int) × List (List Int)) : List (List Int) × List (List Int) :=
  match s.1.findIdx? (hot j) with
  | none => s
  | some k => ((s.1.eraseIdx k).map fun r => less p r (at0 r j) (led p (s.1.getD k []) j), (s.2.map fun r => less p r (at0 r j) (led p (s.1.getD k []) j)) ++ [led p (s.1.getD k []) j])
def run (p : Int) (rows : List (List Int)) : Nat → List (List Int) × List (List Int)
  | 0 => (rows, [])
  | j + 1 => stp p j (run p rows j)
def wid (rows : List (List Int)) : Nat := (rows.head?.getD []).length
/-- the reduced rows -/
def red (p : Int) (rows : List (List Int)) : List (List Int) := (run p rows (wid rows)).2
theorem less_add (p f : Int) (r lead : List Int) : less p r f lead = addv p r (-f) lead := by
  unfold less addv
  congr 1
  funext a b
  rw [Int.neg_mul]
  rfl
theorem less_len {p f : Int} {n : Nat} {r lead : List Int} (hr : r.length = n) (hl : lead.length = n) : (less p r f lead).length = n := by
  rw [less_add]
  exact addv_len hr hl
theorem less_at {p f : Int} {n k : Nat} {r lead : List Int} (hr : r.length = n) (hl : lead.length = n) (hk : k < n) : at0 (less p r f lead) k = (at0 r k - f * at0 lead k).fmod p := by
  rw [less_add, addv_at hr hl hk, Int.neg_mul]
  rfl
theorem led_len {p : Int} {j n : Nat} {r : List Int} (hr : r.length = n) : (led p r j).length = n := by
  unfold led
  rw [List.length_map, hr]
theorem led_at {p : Int} {j n k : Nat} {r : List Int} (hr : r.length = n) (hk : k < n) : at0 (led p r j) k = (inv p (at0 r j) * at0 r k).fmod p := by
  rw [at0_lt (by rw [led_len hr]; exact hk), at0_lt (r := r) (k := k) (by omega)]
  unfold led
  rw [List.getElem_map]
theorem led_add {p : Int} {j n : Nat} {r : List Int} (hr : r.length = n) : led p r j = addv p (zer n) (inv p (at0 r j)) r := by
  refine row_ext (led_len hr) (addv_len zer_len hr) fun k hk => ?_
  rw [led_at hr hk, addv_at zer_len hr hk, zer_at, Int.zero_add]
/-- the inverse is one -/
theorem inv_mul {p a : Int} (hp : p ∈ primes) (h0 : 0 < a) (h1 : a < p) : (a * inv p a).fmod p = 1 := by
  have all : ∀ q ∈ primes, ∀ n ∈ List.range 31, ¬ n = 0 → (n : Int) < q → ((n : Int) * inv q n).fmod q = 1 := by decide +kernel
  have hb := fld_le hp
  have e := all p hp a.toNat (List.mem_range.mpr (by omega)) (by omega) (by omega)
  rw [show ((a.toNat : Nat) : Int) = a by omega] at e
  exact e
/-- what stands ahead of column j -/
structure Iv (p : Int) (n : Nat) (rows : List (List Int)) (j : Nat) (s : List (List Int) × List (List Int)) (pv : List Nat) : Prop where
  left : ∀ r ∈ s.1, Ltr p n r
  done : ∀ r ∈ s.2, Ltr p n r
  low : ∀ r ∈ s.1, ∀ k, k < j → at0 r k = 0
  len : pv.length = s.2.length
  plt : ∀ c ∈ pv, c < j
  one : ∀ (i l : Nat) (r : List Int) (c : Nat), s.2[i]? = some r → pv[l]? = some c → at0 r c = if i = l then 1 else 0
  to : ∀ r, r ∈ s.1 ∨ r ∈ s.2 → Span p n rows r
  of : ∀ r ∈ rows, Span p n (s.1 ++ s.2) r
theorem iv_zero {p : Int} {n : Nat} {rows : List (List Int)} (h : ∀ r ∈ rows, Ltr p n r) : Iv p n rows 0 (run p rows 0) [] where
  left := h
  done := fun r hr => nomatch hr
  low := fun r _ k hk => absurd hk (Nat.not_lt_zero _)
  len := rfl
  plt := fun c hc => nomatch hc
  one := fun i l r c hi _ => nomatch hi
  to := fun r hr => hr.elim span_mem fun z => nomatch z
  of := fun r hr => span_mem (List.mem_append.mpr (.inl hr))
theorem find_hot {j : Nat} {rows : List (List Int)} {k : Nat} (h : rows.findIdx? (hot j) = some k) : ∃ a r b, rows = a ++ r :: b ∧ a.length = k ∧ hot j r = true ∧ ∀ t ∈ a, hot j t = false := by
  rw [List.findIdx?_eq_some_iff_getElem] at h
  obtain ⟨hk, h1, h2⟩ := h
  refine ⟨rows.take k, rows[k], rows.drop (k + 1), ?_, by rw [List.length_take]; omega, h1, fun t ht => ?_⟩
  · rw [List.getElem_cons_drop, List.take_append_drop]
  · obtain ⟨i, hi, rfl⟩ := List.getElem_of_mem ht
    rw [List.length_take] at hi
    rw [List.getElem_take]
    have := h2 i (by omega)
    simpa using this
theorem erase_mid {α : Type} (a b : List α) (r : α) : (a ++ r :: b).eraseIdx a.length = a ++ b := by
  rw [List.eraseIdx_append_of_length_le (Nat.le_refl _), Nat.sub_self]
  rfl
theorem getD_mid (a b : List (List Int)) (r : List Int) : (a ++ r :: b).getD a.length [] = r := by
  rw [List.getD_eq_getElem?_getD, List.getElem?_append_right (Nat.le_refl _), Nat.sub_self]
  rfl
theorem stp_some {p : Int} {j : Nat} {a b d : List (List Int)} {r : List Int} (hr : hot j r = true) (ha : ∀ t ∈ a, hot j t = false) :
    stp p j (a ++ r :: b, d) = ((a ++ b).map fun t => less p t (at0 t j) (led p r j), (d.map fun t => less p t (at0 t j) (led p r j)) ++ [led p r j]) := by
  have e : (a ++ r :: b).findIdx? (hot j) = some a.length := by
    rw [List.findIdx?_eq_some_iff_getElem]
    refine ⟨by rw [List.length_append]; simp, by rw [List.getElem_append_right (Nat.le_refl _)]; simpa using hr, fun i hi => ?_⟩
    rw [List.getElem_append_left hi, ha _ (List.getElem_mem hi)]
    exact Bool.false_ne_true
  unfold stp
  simp only
  rw [e]
  simp only
  rw [erase_mid, getD_mid]
theorem stp_none {p : Int} {j : Nat} {s : List (List Int) × List (List Int)} (h : ∀ t ∈ s.1, hot j t = false) : stp p j s = s := by
  have e : s.1.findIdx? (hot j) = none := by
    rw [List.findIdx?_eq_none_iff]
    exact h
  unfold stp
  rw [e]
end WU

set_option maxRecDepth 100000
set_option maxHeartbeats 4000000
namespace WU
open PySem PySem.Spec PyProof.Rows L2
theorem prime_pos {p : Int} (hp : p ∈ primes) : 0 < p := by have := fld_le hp; omega
theorem fm_zero {p : Int} : (0 : Int).fmod p = 0 := Int.zero_fmod p
theorem fm_one {p : Int} (hp : p ∈ primes) : (1 : Int).fmod p = 1 := fm_id (by have := fld_le hp; omega)
theorem hot_ne {j : Nat} {r : List Int} (h : hot j r = true) : at0 r j ≠ 0 := of_decide_eq_true h
theorem hot_not {j : Nat} {r : List Int} (h : hot j r = false) : at0 r j = 0 := by
  have := of_decide_eq_false h
  simpa using this
theorem led_one {p : Int} {j n : Nat} {r : List Int} (hp : p ∈ primes) (hr : Ltr p n r) (hj : j < n) (h : hot j r = true) : at0 (led p r j) j = 1 := by
  have b := hr.bd hj
  have z := hot_ne h
  rw [led_at hr.1 hj, Int.mul_comm]
  exact inv_mul hp (by omega) b.2
theorem less_ltr {p f : Int} {n : Nat} {r lead : List Int} (hp : 0 < p) (hr : r.length = n) (hl : lead.length = n) : Ltr p n (less p r f lead) := by
  rw [less_add]
  exact addv_ltr hp hr hl
theorem led_ltr {p : Int} {j n : Nat} {r : List Int} (hp : 0 < p) (hr : r.length = n) : Ltr p n (led p r j) := by
  rw [led_add hr]
  exact addv_ltr hp zer_len hr
/-- a row with nothing at j stays as it is -/
theorem less_zero {p : Int} {n : Nat} {r lead : List Int} (hr : Ltr p n r) (hl : lead.length = n) : less p r 0 lead = r := by
  refine row_ext (less_len hr.1 hl) hr.1 fun k hk => ?_
  rw [less_at hr.1 hl hk, Int.zero_mul, Int.sub_zero]
  exact fm_id (hr.bd hk)
theorem clr_less {p : Int} {j n : Nat} {r lead : List Int} (hr : Ltr p n r) (hl : lead.length = n) : clr p lead j r = less p r (at0 r j) lead := by
  unfold clr
  by_cases h : at0 r j = 0
  · rw [if_neg (by simpa using h), h, less_zero hr hl]
  · rw [if_pos h]
/-- cleared of itself a row is nothing -/
theorem less_self {p : Int} {j n : Nat} {r : List Int} (hp : p ∈ primes) (hr : Ltr p n r) (hj : j < n) (h : hot j r = true) : less p r (at0 r j) (led p r j) = zer n := by
  have p0 := prime_pos hp
  refine row_ext (less_len hr.1 (led_len hr.1)) zer_len fun k hk => ?_
  have b := hr.bd hj
  have z := hot_ne h
  rw [less_at hr.1 (led_len hr.1) hk, zer_at, led_at hr.1 hk]
  have c1 : Cg p (at0 r j * inv p (at0 r j)) 1 := by
    rw [← inv_mul hp (show 0 < at0 r j by omega) b.2]
    exact (Cg.fm _).symm
  have c2 : Cg p (at0 r j * (inv p (at0 r j) * at0 r k).fmod p) (at0 r k) := by
    have := (Cg.fm (p := p) (inv p (at0 r j) * at0 r k)).mul (at0 r j)
    rw [← Int.mul_assoc] at this
    have c3 := c1.mulr (at0 r k)
    rw [Int.one_mul] at c3
    exact this.trans c3
  have c4 : Cg p (at0 r k - at0 r j * (inv p (at0 r j) * at0 r k).fmod p) 0 := by
    obtain ⟨t, e⟩ := c2
    exact ⟨-t, by rw [e, Int.mul_neg]; omega⟩
  rw [Cg.fmod p0 c4, fm_zero]
theorem nz_zer {n : Nat} : nz (zer n) = false := by
  unfold nz zer
  rw [List.any_eq_false]
  intro x hx
  rw [(List.mem_replicate.mp hx).2]
  decide
theorem nz_false {p : Int} {n : Nat} {r : List Int} (hr : r.length = n) (h : nz r = false) : r = zer n := by
  unfold nz at h
  rw [List.any_eq_false] at h
  refine List.eq_replicate_iff.mpr ⟨hr, fun x hx => ?_⟩
  have := h x hx
  simpa using this
theorem nz_hot {j n : Nat} {r : List Int} (hr : r.length = n) (hj : j < n) (h : hot j r = true) : nz r = true := by
  unfold nz
  rw [List.any_eq_true]
  exact ⟨r[j]'(by omega), List.getElem_mem _, by rw [← at0_lt (by omega)]; exact h⟩
theorem less_span {p f : Int} {n : Nat} {rows : List (List Int)} {r l : List Int} (hr : Span p n rows r) (hl : Span p n rows l) : Span p n rows (less p r f l) := by
  rw [less_add]
  exact span_lin.2 _ _ _ hr hl
theorem led_span {p : Int} {j n : Nat} {rows : List (List Int)} {r : List Int} (hl : r.length = n) (hr : Span p n rows r) : Span p n rows (led p r j) := by
  rw [led_add hl]
  exact span_lin.2 _ _ _ span_lin.1 hr
/-- and back: a row is what is left of it and its multiple -/
theorem less_back {p f : Int} {n : Nat} {r l : List Int} (hp : 0 < p) (hr : Ltr p n r) (hl : l.length = n) : r = addv p (less p r f l) f l := by
  have h1 := less_len (p := p) (f := f) hr.1 hl
  refine row_ext hr.1 (addv_len h1 hl) fun k hk => ?_
  rw [addv_at h1 hl hk, less_at hr.1 hl hk]
  have c : Cg p ((at0 r k - f * at0 l k).fmod p + f * at0 l k) (at0 r k) := by
    have := (Cg.fm (p := p) (at0 r k - f * at0 l k)).add (Cg.rfl' (p := p) (a := f * at0 l k))
    rw [Int.sub_add_cancel] at this
    exact this
  rw [Cg.fmod hp c, fm_id (hr.bd hk)]
theorem led_back {p : Int} {j n : Nat} {r : List Int} (hp : p ∈ primes) (hr : Ltr p n r) (hj : j < n) (h : hot j r = true) : r = addv p (zer n) (at0 r j) (led p r j) := by
  have p0 := prime_pos hp
  have e := less_back (f := at0 r j) p0 hr (led_len (p := p) (j := j) hr.1)
  rw [less_self hp hr hj h] at e
  exact e
theorem iv_step {p : Int} {n j : Nat} {rows : List (List Int)} {s : List (List Int) × List (List Int)} {pv : List Nat} (hp : p ∈ primes) (hj : j < n) (I : Iv p n rows j s pv) : ∃ pv', Iv p n rows (j + 1) (stp p j s) pv' := by
  have p0 := prime_pos hp
  cases e : s.1.findIdx? (hot j) with
  | none =>
    rw [List.findIdx?_eq_none_iff] at e
    rw [stp_none e]
    refine ⟨pv, I.left, I.done, fun r hr k hk => ?_, I.len, fun c hc => Nat.lt_succ_of_lt (I.plt c hc), I.one, I.to, I.of⟩
    by_cases z : k = j
    · rw [z]
      exact hot_not (e r hr)
    · exact I.low r hr k (by omega)
  | some k =>
    obtain ⟨a, r, b, ea, hk, hr, ha⟩ := find_hot e
    obtain ⟨l, d⟩ := s
    simp only at ea
    subst ea
    rw [stp_some hr ha]
    have hrm : r ∈ a ++ r :: b := List.mem_append.mpr (.inr (List.mem_cons_self))
    have hrL : Ltr p n r := I.left r hrm
    have hl : (led p r j).length = n := led_len hrL.1
    have sub : ∀ t ∈ a ++ b, t ∈ a ++ r :: b := fun t ht => by
      rcases List.mem_append.mp ht with h | h
      · exact List.mem_append.mpr (.inl h)
      · exact List.mem_append.mpr (.inr (List.mem_cons_of_mem _ h))
    have l1 := led_one hp hrL hj hr
    have lpv : ∀ c, c < j → at0 (led p r j) c = 0 := fun c hc => by
      rw [led_at hrL.1 (by omega), I.low r hrm c hc, Int.mul_zero, fm_zero]
    have tl : Span p n rows (led p r j) := led_span hrL.1 (I.to r (.inl hrm))
    refine ⟨pv ++ [j], ?_⟩
    constructor
    · intro t ht
      obtain ⟨u, hu, rfl⟩ := List.mem_map.mp ht
      exact less_ltr p0 (I.left u (sub u hu)).1 hl
    · intro t ht
      rcases List.mem_append.mp ht with h | h
      · obtain ⟨u, hu, rfl⟩ := List.mem_map.mp h
        exact less_ltr p0 (I.done u hu).1 hl
      · rw [List.mem_singleton.mp h]
        exact led_ltr p0 hrL.1
    · intro t ht k hk
      obtain ⟨u, hu, rfl⟩ := List.mem_map.mp ht
      have hu2 := I.left u (sub u hu)
      rw [less_at hu2.1 hl (by omega)]
      by_cases z : k = j
      · rw [z, l1, Int.mul_one, Int.sub_self, fm_zero]
      · rw [I.low u (sub u hu) k (by omega), lpv k (by omega), Int.mul_zero, Int.sub_zero, fm_zero]
    · rw [List.length_append, List.length_append, List.length_map, I.len]
      rfl
    · intro c hc
      rcases List.mem_append.mp hc with h | h
      · exact Nat.lt_succ_of_lt (I.plt c h)
      · rw [List.mem_singleton.mp h]
        exact Nat.lt_succ_self j
    · intro i m t c hi hm
      have hpl := I.len
      by_cases zi : i < d.length
      · rw [List.getElem?_append_left (by rw [List.length_map]; exact zi), List.getElem?_map] at hi
        obtain ⟨u, hu, rfl⟩ := Option.map_eq_some_iff.mp hi
        have hu2 := I.done u (List.mem_of_getElem? hu)
        by_cases zm : m < pv.length
        · rw [List.getElem?_append_left zm] at hm
          have hc := I.plt c (List.mem_of_getElem? hm)
          rw [less_at hu2.1 hl (by omega), lpv c hc, Int.mul_zero, Int.sub_zero, I.one i m u c hu hm]
          split
          · exact fm_one hp
          · exact fm_zero
        · have hm2 := (List.getElem?_eq_some_iff.mp hm).1
          rw [List.length_append] at hm2
          have em : m = pv.length := by
            have : m < pv.length + 1 := hm2
            omega
          rw [em, List.getElem?_append_right (Nat.le_refl _), Nat.sub_self] at hm
          cases hm
          rw [less_at hu2.1 hl hj, l1, Int.mul_one, Int.sub_self, fm_zero, if_neg (by simp only at hpl; omega)]
      · have hi2 := (List.getElem?_eq_some_iff.mp hi).1
        rw [List.length_append, List.length_map] at hi2
        have ei : i = d.length := by
          have : i < d.length + 1 := hi2
          omega
        rw [ei, List.getElem?_append_right (by rw [List.length_map]; exact Nat.le_refl _), List.length_map, Nat.sub_self] at hi
        cases hi
        by_cases zm : m < pv.length
        · rw [List.getElem?_append_left zm] at hm
          have hc := I.plt c (List.mem_of_getElem? hm)
          rw [lpv c hc, if_neg (by simp only at hpl; omega)]
        · have hm2 := (List.getElem?_eq_some_iff.mp hm).1
          rw [List.length_append] at hm2
          have em : m = pv.length := by
            have : m < pv.length + 1 := hm2
            omega
          rw [em, List.getElem?_append_right (Nat.le_refl _), Nat.sub_self] at hm
          cases hm
          rw [l1, if_pos (by simp only at hpl; omega)]
    · intro t ht
      rcases ht with h | h
      · obtain ⟨u, hu, rfl⟩ := List.mem_map.mp h
        exact less_span (I.to u (.inl (sub u hu))) tl
      · rcases List.mem_append.mp h with h | h
        · obtain ⟨u, hu, rfl⟩ := List.mem_map.mp h
          exact less_span (I.to u (.inr hu)) tl
        · rw [List.mem_singleton.mp h]
          exact tl
    · intro t ht
      refine span_sub (fun u hu => ?_) (I.of t ht)
      generalize hL : ((a ++ b).map fun t => less p t (at0 t j) (led p r j)) ++ ((d.map fun t => less p t (at0 t j) (led p r j)) ++ [led p r j]) = L
      have hlead : Span p n L (led p r j) := span_mem (by rw [← hL]; exact List.mem_append.mpr (.inr (List.mem_append.mpr (.inr (List.mem_singleton.mpr rfl)))))
      have back : ∀ u, Ltr p n u → less p u (at0 u j) (led p r j) ∈ L → Span p n L u := fun u hu hm => by
        rw [less_back (f := at0 u j) p0 hu hl]
        exact span_lin.2 _ _ _ (span_mem hm) hlead
      rcases List.mem_append.mp hu with h | h
      · have hab : u ∈ a ++ b ∨ u = r := by
          rcases List.mem_append.mp h with h | h
          · exact .inl (List.mem_append.mpr (.inl h))
          · rcases List.mem_cons.mp h with h | h
            · exact .inr h
            · exact .inl (List.mem_append.mpr (.inr h))
        rcases hab with h | rfl
        · exact back u (I.left u (sub u h)) (by rw [← hL]; exact List.mem_append.mpr (.inl (List.mem_map.mpr ⟨u, h, rfl⟩)))
        · rw [led_back hp hrL hj hr]
          exact span_lin.2 _ _ _ span_lin.1 hlead
      · exact back u (I.done u h) (by rw [← hL]; exact List.mem_append.mpr (.inr (List.mem_append.mpr (.inl (List.mem_map.mpr ⟨u, h, rfl⟩)))))
theorem iv_run {p : Int} {n : Nat} {rows : List (List Int)} (hp : p ∈ primes) (h : ∀ r ∈ rows, Ltr p n r) : ∀ j, j ≤ n → ∃ pv, Iv p n rows j (run p rows j) pv
  | 0, _ => ⟨[], iv_zero h⟩
  | j + 1, hj => by
    obtain ⟨pv, I⟩ := iv_run hp h j (by omega)
    exact iv_step hp (by omega) I
end WU

set_option maxRecDepth 100000
set_option maxHeartbeats 4000000
namespace WU
open PySem PySem.Spec PyProof.Rows L2
theorem filter_hot_nz {p : Int} {n j : Nat} {l : List (List Int)} (hl : ∀ r ∈ l, Ltr p n r) (hj : j < n) : (l.filter nz).filter (hot j) = l.filter (hot j) := by
  rw [List.filter_filter]
  refine List.filter_congr fun r hr => ?_
  cases h : hot j r with
  | false => rfl
  | true => rw [nz_hot (hl r hr).1 hj h] <;> rfl
theorem filter_first {j : Nat} {l : List (List Int)} {r : List Int} {t : List (List Int)} (h : l.filter (hot j) = r :: t) : ∃ a b, l = a ++ r :: b ∧ hot j r = true ∧ ∀ u ∈ a, hot j u = false := by
  induction l with
  | nil => cases h
  | cons x l ih =>
    rw [List.filter_cons] at h
    cases e : hot j x with
    | true =>
      rw [if_pos e] at h
      cases h
      exact ⟨[], l, rfl, e, fun u hu => nomatch hu⟩
    | false =>
      rw [if_neg (by rw [e]; decide)] at h
      obtain ⟨a, b, e1, e2, e3⟩ := ih h
      refine ⟨x :: a, b, by rw [e1]; rfl, e2, fun u hu => ?_⟩
      rcases List.mem_cons.mp hu with h | h
      · rw [h]
        exact e
      · exact e3 u h
/-- clearing and dropping, and dropping first -/
theorem clr_filter {p : Int} {n j : Nat} {lead : List Int} (hp : 0 < p) (hl : lead.length = n) : ∀ {l : List (List Int)}, (∀ r ∈ l, Ltr p n r) → ((l.filter nz).map (clr p lead j)).filter nz = (l.map fun t => less p t (at0 t j) lead).filter nz
  | [], _ => rfl
  | r :: l, h => by
    have hr := h r (List.mem_cons_self)
    have ih := clr_filter (j := j) hp hl (l := l) fun u hu => h u (List.mem_cons_of_mem _ hu)
    rw [List.filter_cons, List.map_cons, List.filter_cons, ← clr_less (j := j) hr hl]
    cases e : nz r with
    | true =>
      rw [if_pos rfl, List.map_cons, List.filter_cons, ih]
    | false =>
      rw [if_neg (by decide), ih]
      have z := nz_false (p := p) hr.1 e
      have c : clr p lead j r = r := by
        unfold clr
        rw [if_neg]
        rw [z, zer_at]
        decide
      rw [c, e, if_neg (by decide)]
theorem map_clr {p : Int} {n j : Nat} {lead : List Int} (hl : lead.length = n) {l : List (List Int)} (h : ∀ r ∈ l, Ltr p n r) : l.map (clr p lead j) = l.map fun t => less p t (at0 t j) lead :=
  List.map_congr_left fun r hr => clr_less (h r hr) hl
theorem less_mid {p : Int} {n j : Nat} {a b : List (List Int)} {r : List Int} (hp : p ∈ primes) (hr : Ltr p n r) (hj : j < n) (h : hot j r = true) :
    ((a ++ r :: b).map fun t => less p t (at0 t j) (led p r j)).filter nz = ((a ++ b).map fun t => less p t (at0 t j) (led p r j)).filter nz := by
  rw [List.map_append, List.map_append, List.map_cons, List.filter_append, List.filter_append, List.filter_cons, less_self hp hr hj h, nz_zer, if_neg (by decide)]
/-- what the program does at a column is what the law does -/
theorem sim {p : Int} {n j : Nat} {rows : List (List Int)} {s : List (List Int) × List (List Int)} {pv : List Nat} (hp : p ∈ primes) (hj : j < n) (I : Iv p n rows j s pv) :
    ((s.1.filter nz).filter (hot j) = [] → stp p j s = s) ∧ ∀ r t, (s.1.filter nz).filter (hot j) = r :: t → Ltr p n r ∧ hot j r = true ∧
      (((s.1.filter nz).map (clr p (led p r j) j)).filter nz = (stp p j s).1.filter nz) ∧ s.2.map (clr p (led p r j) j) ++ [led p r j] = (stp p j s).2 := by
  rw [filter_hot_nz I.left hj]
  refine ⟨fun e => stp_none fun t ht => ?_, fun r t e => ?_⟩
  · have := List.filter_eq_nil_iff.mp e t ht
    simpa using this
  · obtain ⟨a, b, e1, e2, e3⟩ := filter_first e
    obtain ⟨l, d⟩ := s
    simp only at e1
    subst e1
    have hr : Ltr p n r := I.left r (List.mem_append.mpr (.inr (List.mem_cons_self)))
    have hl : (led p r j).length = n := led_len hr.1
    refine ⟨hr, e2, ?_, ?_⟩
    · rw [clr_filter (prime_pos hp) hl I.left, less_mid hp hr hj e2, stp_some e2 e3]
    · rw [map_clr hl I.done, stp_some e2 e3]
theorem run_stay {p : Int} {rows : List (List Int)} {j : Nat} (h : ∀ t ∈ (run p rows j).1, ∀ i, hot i t = false) : ∀ m, run p rows (j + m) = run p rows j
  | 0 => rfl
  | m + 1 => by
    show stp p (j + m) (run p rows (j + m)) = _
    rw [run_stay h m]
    exact stp_none fun t ht => h t ht _
theorem zer_hot {n i : Nat} : hot i (zer n) = false := by
  unfold hot
  rw [zer_at]
  decide
/-- nothing left: the rest of the columns change nothing -/
theorem run_end {p : Int} {n j : Nat} {rows : List (List Int)} {pv : List Nat} (I : Iv p n rows j (run p rows j) pv) (hj : j ≤ n) (h : (run p rows j).1.filter nz = []) : (run p rows n).2 = (run p rows j).2 := by
  have st := run_stay (p := p) (rows := rows) (j := j) (fun t ht i => by
    have h1 := List.filter_eq_nil_iff.mp h t ht
    rw [nz_false (p := p) (I.left t ht).1 (by simpa using h1)]
    exact zer_hot) (n - j)
  rw [show j + (n - j) = n by omega] at st
  rw [st]
/-- something left: there is a column -/
theorem run_more {p : Int} {n j : Nat} {rows : List (List Int)} {s : List (List Int) × List (List Int)} {pv : List Nat} (I : Iv p n rows j s pv) (h : s.1.filter nz ≠ []) : j < n := by
  obtain ⟨r, t, e⟩ := List.exists_cons_of_ne_nil h
  have hm : r ∈ s.1.filter nz := by rw [e]; exact List.mem_cons_self
  obtain ⟨h1, h2⟩ := List.mem_filter.mp hm
  have hr := I.left r h1
  rcases Nat.lt_or_ge j n with q | q
  · exact q
  · exfalso
    unfold nz at h2
    rw [List.any_eq_true] at h2
    obtain ⟨x, hx, ne⟩ := h2
    obtain ⟨k, hk, rfl⟩ := List.getElem_of_mem hx
    rw [← at0_lt hk, I.low r h1 k (by have := hr.1; omega)] at ne
    cases ne
theorem run_nil {p : Int} {n : Nat} {rows : List (List Int)} (hp : p ∈ primes) (h : ∀ r ∈ rows, Ltr p n r) : ∃ pv, Iv p n rows n (run p rows n) pv ∧ ∀ t ∈ (run p rows n).1, t = zer n := by
  obtain ⟨pv, I⟩ := iv_run hp h n (Nat.le_refl n)
  refine ⟨pv, I, fun t ht => row_ext (I.left t ht).1 zer_len fun k hk => ?_⟩
  rw [I.low t ht k hk, zer_at]
/-! ### how many sums there are -/
def cmb (p : Int) (n : Nat) : List (List Int) → List Int → List Int
  | r :: rs, c :: cs => addv p (cmb p n rs cs) c r
  | _, _ => zer n
theorem cmb_ltr {p : Int} {n : Nat} (hp : 0 < p) : ∀ {rs : List (List Int)} {cs : List Int}, (∀ r ∈ rs, Ltr p n r) → Ltr p n (cmb p n rs cs)
  | [], _, _ => by
    unfold cmb
    exact zer_ltr hp
  | r :: rs, [], _ => by
    unfold cmb
    exact zer_ltr hp
  | r :: rs, c :: cs, h => addv_ltr hp (cmb_ltr hp fun u hu => h u (List.mem_cons_of_mem _ hu)).1 (h r (List.mem_cons_self)).1
theorem cmb_span {p : Int} {n : Nat} {R : List (List Int)} : ∀ {rs : List (List Int)} {cs : List Int}, (∀ r ∈ rs, Span p n R r) → Span p n R (cmb p n rs cs)
  | [], _, _ => by
    unfold cmb
    exact span_lin.1
  | r :: rs, [], _ => by
    unfold cmb
    exact span_lin.1
  | r :: rs, c :: cs, h => span_lin.2 _ _ _ (cmb_span fun u hu => h u (List.mem_cons_of_mem _ hu)) (h r (List.mem_cons_self))
/-- the sum at a place -/
def csum (k : Nat) : List (List Int) → List Int → Int
  | r :: rs, c :: cs => csum k rs cs + c * at0 r k
  | _, _ => 0
theorem cmb_at {p : Int} {n k : Nat} (hp : 0 < p) (hk : k < n) : ∀ {rs : List (List Int)} {cs : List Int}, (∀ r ∈ rs, Ltr p n r) → Cg p (at0 (cmb p n rs cs) k) (csum k rs cs)
  | [], _, _ => by
    unfold cmb csum
    rw [zer_at]
    exact Cg.rfl'
  | r :: rs, [], _ => by
    unfold cmb csum
    rw [zer_at]
    exact Cg.rfl'
  | r :: rs, c :: cs, h => by
    have ih := cmb_at hp hk (rs := rs) (cs := cs) fun u hu => h u (List.mem_cons_of_mem _ hu)
    have l1 := (cmb_ltr (p := p) (n := n) (cs := cs) hp fun u hu => h u (List.mem_cons_of_mem _ hu)).1
    show Cg p (at0 (addv p (cmb p n rs cs) c r) k) (csum k rs cs + c * at0 r k)
    rw [addv_at l1 (h r (List.mem_cons_self)).1 hk]
    exact (Cg.fm _).trans (ih.add Cg.rfl')
/-- rows with a 1 at an own place, and noughts at the others' -/
structure Piv (p : Int) (n : Nat) (rs : List (List Int)) (pv : List Nat) : Prop where
  ltr : ∀ r ∈ rs, Ltr p n r
  len : pv.length = rs.length
  plt : ∀ c ∈ pv, c < n
  one : ∀ (i l : Nat) (r : List Int) (c : Nat), rs[i]? = some r → pv[l]? = some c → at0 r c = if i = l then 1 else 0
theorem Piv.tail {p : Int} {n : Nat} {r : List Int} {rs : List (List Int)} {c : Nat} {pv : List Nat} (P : Piv p n (r :: rs) (c :: pv)) : Piv p n rs pv where
  ltr := fun u hu => P.ltr u (List.mem_cons_of_mem _ hu)
  len := Nat.succ.inj P.len
  plt := fun u hu => P.plt u (List.mem_cons_of_mem _ hu)
  one := fun i l u d hi hl => by
    have := P.one (i + 1) (l + 1) u d hi hl
    rw [this]
    by_cases z : i = l
    · rw [if_pos z, if_pos (by omega)]
    · rw [if_neg z, if_neg (by omega)]
theorem csum_zero {k : Nat} : ∀ {rs : List (List Int)} {cs : List Int}, (∀ r ∈ rs, at0 r k = 0) → csum k rs cs = 0
  | [], _, _ => by
    unfold csum
    rfl
  | r :: rs, [], _ => by
    unfold csum
    rfl
  | r :: rs, c :: cs, h => by
    unfold csum
    rw [csum_zero fun u hu => h u (List.mem_cons_of_mem _ hu), h r (List.mem_cons_self), Int.mul_zero]
    rfl
/-- at the own places stand the letters -/
theorem csum_piv {p : Int} {n : Nat} : ∀ {rs : List (List Int)} {pv : List Nat} {cs : List Int}, Piv p n rs pv → cs.length = rs.length → pv.map (fun c => csum c rs cs) = cs
  | [], pv, cs, P, h => by
    have h1 := List.eq_nil_of_length_eq_zero (h.trans rfl)
    have h2 := List.eq_nil_of_length_eq_zero (P.len.trans rfl)
    rw [h1, h2]
    rfl
  | r :: rs, pv, cs, P, h => by
    cases pv with
    | nil => exact absurd P.len (by simp)
    | cons c pv =>
      cases cs with
      | nil => exact absurd h (by simp)
      | cons d cs =>
        have ih := csum_piv P.tail (Nat.succ.inj h)
        rw [List.map_cons]
        have e0 : csum c (r :: rs) (d :: cs) = d := by
          show csum c rs cs + d * at0 r c = d
          rw [P.one 0 0 r c rfl rfl, if_pos rfl, Int.mul_one, csum_zero, Int.zero_add]
          intro u hu
          obtain ⟨i, hi⟩ := List.getElem?_of_mem hu
          rw [P.one (i + 1) 0 u c hi rfl, if_neg (by omega)]
        rw [e0]
        congr 1
        refine Eq.trans (List.map_congr_left fun e he => ?_) ih
        obtain ⟨l, hl⟩ := List.getElem?_of_mem he
        show csum e rs cs + d * at0 r e = csum e rs cs
        rw [P.one 0 (l + 1) r e rfl hl, if_neg (by omega), Int.mul_zero, Int.add_zero]
def pvs (pv : List Nat) (v : List Int) : List Int := pv.map fun c => at0 v c
/-- what the rows span, read by its own places -/
def Sv (p : Int) (n : Nat) (rs : List (List Int)) (pv : List Nat) (v : List Int) : Prop := Ltr p n v ∧ ∀ k, k < n → Cg p (at0 v k) (csum k rs (pvs pv v))
theorem csum_add {p c : Int} {n k : Nat} {u v : List Int} (hu : u.length = n) (hv : v.length = n) : ∀ {rs : List (List Int)} {pv : List Nat}, (∀ d ∈ pv, d < n) →
    Cg p (csum k rs (pvs pv (addv p u c v))) (csum k rs (pvs pv u) + c * csum k rs (pvs pv v))
  | [], pv, _ => by
    unfold csum
    rw [Int.mul_zero]
    exact Cg.rfl'
  | r :: rs, [], _ => by
    unfold pvs csum
    simp only [List.map_nil]
    rw [Int.mul_zero]
    exact Cg.rfl'
  | r :: rs, d :: pv, h => by
    have ih := csum_add (k := k) (c := c) (p := p) hu hv (rs := rs) (pv := pv) fun e he => h e (List.mem_cons_of_mem _ he)
    show Cg p (csum k rs (pvs pv (addv p u c v)) + at0 (addv p u c v) d * at0 r k) ((csum k rs (pvs pv u) + at0 u d * at0 r k) + c * (csum k rs (pvs pv v) + at0 v d * at0 r k))
    rw [addv_at hu hv (h d (List.mem_cons_self))]
    have c1 := ih.add ((Cg.fm (p := p) (at0 u d + c * at0 v d)).mulr (at0 r k))
    rw [Int.add_mul] at c1
    rw [Int.mul_add, ← Int.mul_assoc]
    rw [show csum k rs (pvs pv u) + at0 u d * at0 r k + (c * csum k rs (pvs pv v) + c * at0 v d * at0 r k) = csum k rs (pvs pv u) + c * csum k rs (pvs pv v) + (at0 u d * at0 r k + c * at0 v d * at0 r k) by omega]
    exact c1
theorem pvs_zer {n : Nat} {pv : List Nat} : pvs pv (zer n) = pv.map fun _ => 0 := List.map_congr_left fun c _ => zer_at
theorem csum_zer {k : Nat} : ∀ {rs : List (List Int)} {pv : List Nat}, csum k rs (pv.map fun _ => 0) = 0
  | [], _ => by
    unfold csum
    rfl
  | r :: rs, [] => by
    show csum k (r :: rs) [] = 0
    unfold csum
    rfl
  | r :: rs, d :: pv => by
    show csum k rs (pv.map fun _ => 0) + 0 * at0 r k = 0
    rw [csum_zer, Int.zero_mul]
    rfl
theorem sv_lin {p : Int} {n : Nat} {rs : List (List Int)} {pv : List Nat} (hp : 0 < p) (h : ∀ d ∈ pv, d < n) : Lin p n (Sv p n rs pv) := by
  refine ⟨⟨zer_ltr hp, fun k hk => ?_⟩, fun u r c hu hr => ⟨addv_ltr hp hu.1.1 hr.1.1, fun k hk => ?_⟩⟩
  · rw [zer_at, pvs_zer, csum_zer]
    exact Cg.rfl'
  · rw [addv_at hu.1.1 hr.1.1 hk]
    exact (Cg.fm _).trans (((hu.2 k hk).add ((hr.2 k hk).mul c)).trans (csum_add hu.1.1 hr.1.1 h).symm)
theorem sv_of {p : Int} {n : Nat} {rs : List (List Int)} {pv : List Nat} (hp : 0 < p) (P : Piv p n rs pv) {cs : List Int} (hl : cs.length = rs.length) (hc : ∀ c ∈ cs, 0 ≤ c ∧ c < p) : pvs pv (cmb p n rs cs) = cs := by
  have e := csum_piv P hl
  refine Eq.trans (List.map_congr_left fun c hc2 => ?_) e
  have b : ∀ i ∈ cs, 0 ≤ i ∧ i < p := hc
  have m : csum c rs cs ∈ cs := by
    rw [← e]
    exact List.mem_map.mpr ⟨c, hc2, by rw [e]⟩
  exact Cg.eq (cmb_at hp (P.plt c hc2) P.ltr) ((cmb_ltr hp P.ltr).bd (P.plt c hc2)) (b _ m)
theorem sv_back {p : Int} {n : Nat} {rs : List (List Int)} {pv : List Nat} (hp : 0 < p) (P : Piv p n rs pv) {v : List Int} (h : Sv p n rs pv v) : cmb p n rs (pvs pv v) = v :=
  row_ext (cmb_ltr hp P.ltr).1 h.1.1 fun k hk => Cg.eq ((cmb_at hp hk P.ltr).trans (h.2 k hk).symm) ((cmb_ltr hp P.ltr).bd hk) (h.1.bd hk)
end WU

set_option maxRecDepth 100000
set_option maxHeartbeats 4000000
namespace WU
open PySem PySem.Spec PyProof.Rows L2
theorem run_empty {p : Int} : ∀ j, run p [] j = ([], [])
  | 0 => rfl
  | j + 1 => by
    show stp p j (run p [] j) = _
    rw [run_empty j]
    exact stp_none fun t ht => nomatch ht
theorem red_run {p : Int} {n : Nat} {rows : List (List Int)} (h : ∀ r ∈ rows, Ltr p n r) : red p rows = (run p rows n).2 := by
  cases rows with
  | nil =>
    unfold red
    rw [run_empty, run_empty]
  | cons r t =>
    unfold red
    have : wid (r :: t) = n := (h r (List.mem_cons_self)).1
    rw [this]
/-- the reduced rows have own places, and span the same -/
theorem red_piv {p : Int} {n : Nat} {rows : List (List Int)} (hp : p ∈ primes) (h : ∀ r ∈ rows, Ltr p n r) : ∃ pv, Piv p n (red p rows) pv ∧ (∀ r ∈ red p rows, Span p n rows r) ∧ ∀ r ∈ rows, Span p n (red p rows) r := by
  obtain ⟨pv, I, hz⟩ := run_nil hp h
  rw [red_run h]
  refine ⟨pv, ⟨I.done, I.len, I.plt, I.one⟩, fun r hr => I.to r (.inr hr), fun r hr => ?_⟩
  refine span_sub (fun u hu => ?_) (I.of r hr)
  rcases List.mem_append.mp hu with q | q
  · rw [hz u q]
    exact span_lin.1
  · exact span_mem q
/-- the sums, row by row -/
def SpanR (p : Int) (n : Nat) : List (List Int) → List Int → Prop
  | [], v => v = zer n
  | r :: rs, v => ∃ u c, SpanR p n rs u ∧ 0 ≤ c ∧ c < p ∧ v = addv p u c r
theorem spanR_ltr {p : Int} {n : Nat} (hp : 0 < p) : ∀ {rs : List (List Int)} {v : List Int}, (∀ r ∈ rs, Ltr p n r) → SpanR p n rs v → Ltr p n v
  | [], v, _, h => by
    rw [show v = zer n from h]
    exact zer_ltr hp
  | r :: rs, v, hr, ⟨u, c, hu, _, _, e⟩ => by
    rw [e]
    exact addv_ltr hp (spanR_ltr hp (fun t ht => hr t (List.mem_cons_of_mem _ ht)) hu).1 (hr r (List.mem_cons_self)).1
theorem addv_zero {p : Int} {n : Nat} {u r : List Int} (hu : Ltr p n u) (hr : r.length = n) : addv p u 0 r = u := by
  refine row_ext (addv_len hu.1 hr) hu.1 fun k hk => ?_
  rw [addv_at hu.1 hr hk, Int.zero_mul, Int.add_zero]
  exact fm_id (hu.bd hk)
theorem addv_one {p : Int} {n : Nat} {r : List Int} (hr : Ltr p n r) : addv p (zer n) 1 r = r := by
  refine row_ext (addv_len zer_len hr.1) hr.1 fun k hk => ?_
  rw [addv_at zer_len hr.1 hk, zer_at, Int.one_mul, Int.zero_add]
  exact fm_id (hr.bd hk)
theorem addv_mix {p c d e : Int} {n : Nat} {u v r : List Int} (hp : 0 < p) (hu : u.length = n) (hv : v.length = n) (hr : r.length = n) :
    addv p (addv p u c r) d (addv p v e r) = addv p (addv p u d v) ((c + d * e).fmod p) r := by
  have l1 := addv_len (p := p) (c := c) hu hr
  have l2 := addv_len (p := p) (c := e) hv hr
  have l3 := addv_len (p := p) (c := d) hu hv
  refine row_ext (addv_len l1 l2) (addv_len l3 hr) fun k hk => ?_
  rw [addv_at l1 l2 hk, addv_at hu hr hk, addv_at hv hr hk, addv_at l3 hr hk, addv_at hu hv hk]
  refine Cg.fmod hp ?_
  have a1 := (Cg.fm (p := p) (at0 u k + c * at0 r k)).add ((Cg.fm (p := p) (at0 v k + e * at0 r k)).mul d)
  have a2 := (Cg.fm (p := p) (at0 u k + d * at0 v k)).add ((Cg.fm (p := p) (c + d * e)).mulr (at0 r k))
  refine a1.trans (Cg.trans ?_ a2.symm)
  have : at0 u k + c * at0 r k + d * (at0 v k + e * at0 r k) = at0 u k + d * at0 v k + (c + d * e) * at0 r k := by
    rw [Int.mul_add, Int.add_mul, Int.mul_assoc]
    omega
  rw [this]
  exact Cg.rfl'
theorem addv_fm {p c : Int} {n : Nat} {u r : List Int} (hp : 0 < p) (hu : u.length = n) (hr : r.length = n) : addv p u (c.fmod p) r = addv p u c r := by
  refine row_ext (addv_len hu hr) (addv_len hu hr) fun k hk => ?_
  rw [addv_at hu hr hk, addv_at hu hr hk]
  exact Cg.fmod hp (Cg.rfl'.add ((Cg.fm c).mulr _))
theorem spanR_zero {p : Int} {n : Nat} (hp : 0 < p) : ∀ {rs : List (List Int)}, (∀ r ∈ rs, Ltr p n r) → SpanR p n rs (zer n)
  | [], _ => rfl
  | r :: rs, h => ⟨zer n, 0, spanR_zero hp (fun t ht => h t (List.mem_cons_of_mem _ ht)), Int.le_refl _, hp, (addv_zero (zer_ltr hp) (h r (List.mem_cons_self)).1).symm⟩
theorem spanR_add {p : Int} {n : Nat} (hp : 0 < p) : ∀ {rs : List (List Int)}, (∀ r ∈ rs, Ltr p n r) → ∀ u v d, SpanR p n rs u → SpanR p n rs v → SpanR p n rs (addv p u d v)
  | [], _, u, v, d, hu, hv => by
    rw [show u = zer n from hu, show v = zer n from hv]
    show addv p (zer n) d (zer n) = zer n
    refine row_ext (addv_len zer_len zer_len) zer_len fun k hk => ?_
    rw [addv_at zer_len zer_len hk, zer_at, Int.mul_zero]
    exact fm_zero
  | r :: rs, h, u, v, d, ⟨u0, c, hu, c0, c1, eu⟩, ⟨v0, e, hv, e0, e1, ev⟩ => by
    have h2 : ∀ t ∈ rs, Ltr p n t := fun t ht => h t (List.mem_cons_of_mem _ ht)
    refine ⟨addv p u0 d v0, (c + d * e).fmod p, spanR_add hp h2 u0 v0 d hu hv, (fm_bd _ hp).1, (fm_bd _ hp).2, ?_⟩
    rw [eu, ev]
    exact addv_mix hp (spanR_ltr hp h2 hu).1 (spanR_ltr hp h2 hv).1 (h r (List.mem_cons_self)).1
theorem spanR_mem {p : Int} {n : Nat} (hp : 1 < p) : ∀ {rs : List (List Int)}, (∀ r ∈ rs, Ltr p n r) → ∀ r ∈ rs, SpanR p n rs r
  | [], _, _, h => nomatch h
  | t :: rs, h, r, hr => by
    have h2 : ∀ t ∈ rs, Ltr p n t := fun t ht => h t (List.mem_cons_of_mem _ ht)
    rcases List.mem_cons.mp hr with e | e
    · rw [e]
      exact ⟨zer n, 1, spanR_zero (by omega) h2, by omega, hp, (addv_one (h t (List.mem_cons_self))).symm⟩
    · exact ⟨r, 0, spanR_mem hp h2 r e, Int.le_refl _, by omega, (addv_zero (h2 r e) (h t (List.mem_cons_self)).1).symm⟩
theorem spanR_span {p : Int} {n : Nat} : ∀ {rs : List (List Int)} {v : List Int}, SpanR p n rs v → Span p n rs v
  | [], v, h => by
    rw [show v = zer n from h]
    exact span_lin.1
  | r :: rs, v, ⟨u, c, hu, _, _, e⟩ => by
    rw [e]
    exact span_lin.2 _ _ _ (span_sub (fun t ht => span_mem (List.mem_cons_of_mem _ ht)) (spanR_span hu)) (span_mem (List.mem_cons_self))
/-- all rows of m letters -/
def allc (p : Nat) : Nat → List (List Int)
  | 0 => [[]]
  | m + 1 => (List.range p).flatMap fun (c : Nat) => (allc p m).map fun t => (c : Int) :: t
theorem allc_mem {p : Nat} : ∀ {m : Nat} {cs : List Int}, cs ∈ allc p m ↔ cs.length = m ∧ ∀ c ∈ cs, 0 ≤ c ∧ c < (p : Int)
  | 0, cs => by
    show cs ∈ [[]] ↔ _
    rw [List.mem_singleton]
    constructor
    · rintro rfl
      exact ⟨rfl, fun c hc => nomatch hc⟩
    · rintro ⟨h, _⟩
      exact List.eq_nil_of_length_eq_zero h
  | m + 1, cs => by
    show cs ∈ (List.range p).flatMap _ ↔ _
    rw [List.mem_flatMap]
    constructor
    · rintro ⟨c, hc, h⟩
      obtain ⟨t, ht, rfl⟩ := List.mem_map.mp h
      obtain ⟨h1, h2⟩ := allc_mem.mp ht
      have := List.mem_range.mp hc
      refine ⟨by rw [List.length_cons, h1], fun d hd => ?_⟩
      rcases List.mem_cons.mp hd with e | e
      · rw [e]
        omega
      · exact h2 d e
    · rintro ⟨h1, h2⟩
      cases cs with
      | nil => cases h1
      | cons c t =>
        have b := h2 c (List.mem_cons_self)
        refine ⟨c.toNat, List.mem_range.mpr (by omega), List.mem_map.mpr ⟨t, allc_mem.mpr ⟨Nat.succ.inj h1, fun d hd => h2 d (List.mem_cons_of_mem _ hd)⟩, ?_⟩⟩
        rw [show ((c.toNat : Nat) : Int) = c by omega]
theorem allc_len {p : Nat} : ∀ m : Nat, (allc p m).length = p ^ m
  | 0 => rfl
  | m + 1 => by
    show ((List.range p).flatMap _).length = _
    rw [List.length_flatMap]
    have : (List.range p).map (fun (c : Nat) => ((allc p m).map fun t => (c : Int) :: t).length) = (List.range p).map fun _ => p ^ m := List.map_congr_left fun c _ => by rw [List.length_map, allc_len m]
    rw [this, List.map_const', List.length_range, List.sum_replicate_nat, Nat.pow_succ, Nat.mul_comm]
theorem nodup_map' {α β : Type} {f : α → β} : ∀ {l : List α}, (∀ a ∈ l, ∀ b ∈ l, f a = f b → a = b) → l.Nodup → (l.map f).Nodup
  | [], _, _ => by simp
  | x :: l, hi, h => by
    rw [List.map_cons, List.nodup_cons]
    rw [List.nodup_cons] at h
    refine ⟨fun hm => ?_, nodup_map' (fun a ha b hb => hi a (List.mem_cons_of_mem _ ha) b (List.mem_cons_of_mem _ hb)) h.2⟩
    obtain ⟨y, hy, e⟩ := List.mem_map.mp hm
    rw [hi y (List.mem_cons_of_mem _ hy) x (List.mem_cons_self) e] at hy
    exact h.1 hy
theorem nodup_flat {α : Type} {f : Nat → List α} : ∀ {l : List Nat}, l.Nodup → (∀ a ∈ l, (f a).Nodup) → (∀ a ∈ l, ∀ b ∈ l, a ≠ b → ∀ x ∈ f a, x ∉ f b) → (l.flatMap f).Nodup
  | [], _, _, _ => by simp
  | x :: l, h, h1, h2 => by
    rw [List.flatMap_cons, List.nodup_append]
    rw [List.nodup_cons] at h
    refine ⟨h1 x (List.mem_cons_self), nodup_flat h.2 (fun a ha => h1 a (List.mem_cons_of_mem _ ha)) (fun a ha b hb => h2 a (List.mem_cons_of_mem _ ha) b (List.mem_cons_of_mem _ hb)), fun a ha b hb e => ?_⟩
    subst e
    obtain ⟨y, hy, hb⟩ := List.mem_flatMap.mp hb
    exact h2 x (List.mem_cons_self) y (List.mem_cons_of_mem _ hy) (fun z => h.1 (z ▸ hy)) a ha hb
theorem allc_nodup {p : Nat} : ∀ m : Nat, (allc p m).Nodup
  | 0 => by
    show ([[]] : List (List Int)).Nodup
    simp
  | m + 1 => by
    refine nodup_flat List.nodup_range (fun c _ => nodup_map' (fun a _ b _ e => (List.cons.inj e).2) (allc_nodup m)) fun a _ b _ ne x hx hb => ?_
    obtain ⟨t, _, rfl⟩ := List.mem_map.mp hx
    obtain ⟨u, _, e⟩ := List.mem_map.mp hb
    exact ne (Int.ofNat.inj (List.cons.inj e).1).symm
theorem nodup_len {α : Type} [DecidableEq α] {l m : List α} (hl : l.Nodup) (hm : m.Nodup) (h : ∀ x, x ∈ l ↔ x ∈ m) : l.length = m.length :=
  ((List.perm_ext_iff_of_nodup hl hm).mpr h).length_eq
/-- as many sums as letters' rows as long as the rank -/
theorem count_sums {p : Int} {n : Nat} {rows : List (List Int)} (hp : p ∈ primes) (h : ∀ r ∈ rows, Ltr p n r) {keys : List (List Int)} (hn : keys.Nodup) (hk : ∀ v, v ∈ keys ↔ SpanR p n rows.reverse v) :
    keys.length = p.toNat ^ (red p rows).length := by
  have p0 := prime_pos hp
  have p1 := fld_le hp
  obtain ⟨pv, P, h1, h2⟩ := red_piv hp h
  have hrev : ∀ r ∈ rows.reverse, Ltr p n r := fun r hr => h r (List.mem_reverse.mp hr)
  have ep : ((p.toNat : Nat) : Int) = p := by omega
  rw [← allc_len]
  refine Eq.trans ?_ (List.length_map (as := allc p.toNat (red p rows).length) (cmb p n (red p rows)))
  refine nodup_len hn (nodup_map' (fun a ha b hb e => ?_) (allc_nodup _)) fun v => ?_
  · obtain ⟨a1, a2⟩ := allc_mem.mp ha
    obtain ⟨b1, b2⟩ := allc_mem.mp hb
    rw [ep] at a2 b2
    rw [← sv_of p0 P a1 a2, ← sv_of p0 P b1 b2, e]
  · rw [hk, List.mem_map]
    constructor
    · intro hv
      have sp := span_sub (rows' := red p rows) (fun r hr => h2 r (List.mem_reverse.mp hr)) (spanR_span hv)
      have svm : ∀ r ∈ red p rows, Sv p n (red p rows) pv r := by
        intro r hr
        refine ⟨P.ltr r hr, fun k hk2 => ?_⟩
        -- a reduced row is its own sum
        obtain ⟨i, hi⟩ := List.getElem?_of_mem hr
        have hil : i < (red p rows).length := (List.getElem?_eq_some_iff.mp hi).1
        have e : pvs pv r = (List.range (red p rows).length).map fun l => if i = l then 1 else 0 := by
          refine List.ext_getElem (by unfold pvs; rw [List.length_map, List.length_map, List.length_range, P.len]) fun l g1 g2 => ?_
          unfold pvs at g1 ⊢
          rw [List.length_map] at g1
          rw [List.getElem_map, List.getElem_map, List.getElem_range]
          exact P.one i l r _ hi (List.getElem?_eq_getElem g1)
        have key : ∀ (rs : List (List Int)) (i : Nat) (r : List Int), rs[i]? = some r → csum k rs ((List.range rs.length).map fun l => if i = l then 1 else 0) = at0 r k := by
          intro rs
          induction rs with
          | nil => intro i r hi; cases hi
          | cons t rs ih =>
            intro i r hi
            rw [List.length_cons, List.range_succ_eq_map, List.map_cons, List.map_map]
            show csum k rs ((List.range rs.length).map fun l => if i = l + 1 then 1 else 0) + (if i = 0 then 1 else 0) * at0 t k = at0 r k
            cases i with
            | zero =>
              cases hi
              rw [if_pos rfl, Int.one_mul]
              have z : ∀ (m : Nat) (rs : List (List Int)), csum k rs ((List.range m).map fun l => if 0 = l + 1 then (1 : Int) else 0) = 0 := by
                intro m rs
                have : ((List.range m).map fun l => if 0 = l + 1 then (1 : Int) else 0) = (List.range m).map fun _ => 0 := List.map_congr_left fun l _ => if_neg (by omega)
                rw [this]
                have q := csum_zer (k := k) (rs := rs) (pv := List.range m)
                exact q
              rw [z, Int.zero_add]
            | succ i =>
              rw [if_neg (by omega), Int.zero_mul, Int.add_zero]
              have : ((List.range rs.length).map fun l => if i + 1 = l + 1 then (1 : Int) else 0) = (List.range rs.length).map fun l => if i = l then 1 else 0 := List.map_congr_left fun l _ => by
                by_cases z : i = l
                · rw [if_pos z, if_pos (by omega)]
                · rw [if_neg z, if_neg (by omega)]
              rw [this]
              exact ih i r hi
        rw [e, key _ i r hi]
        exact Cg.rfl'
      have sv := sp _ (sv_lin p0 P.plt) svm
      refine ⟨pvs pv v, allc_mem.mpr ⟨by unfold pvs; rw [List.length_map, P.len], fun c hc => ?_⟩, sv_back p0 P sv⟩
      unfold pvs at hc
      obtain ⟨d, hd, rfl⟩ := List.mem_map.mp hc
      rw [ep]
      exact sv.1.bd (P.plt d hd)
    · rintro ⟨cs, _, rfl⟩
      have := cmb_span (p := p) (n := n) (cs := cs) h1
      exact this _ ⟨spanR_zero p0 hrev, fun u r c hu hr => spanR_add p0 hrev u r c hu hr⟩ fun r hr => spanR_mem (by omega) hrev r (List.mem_reverse.mpr hr)
end WU

set_option maxRecDepth 100000
set_option maxHeartbeats 8000000
namespace WU
open PySem PySem.Spec PyProof.Rows L2
/-! ### the rules whose readings name the written part, with K told (for use within the blocks of comprehensions) -/
section
variable {X : Cx} {K : PySem.W.Frag}
theorem ix_tupK (hK : X.K = K := by rfl) : IxR X (rIxT K) := hK ▸ ix_tup
theorem ix_listK (hK : X.K = K := by rfl) : IxR X (rIxL K) := hK ▸ ix_list
theorem cr_anyTK (hc : X.calm = true) (hK : X.K = K := by rfl) : CallR X (.builtin "any") (rAnyT K) := hK ▸ cr_anyT hc
theorem cr_allK (hc : X.calm = true) (hK : X.K = K := by rfl) : CallR X (.builtin "all") (rAll K) := hK ▸ cr_all hc
theorem cr_anyK (hc : X.calm = true) (hK : X.K = K := by rfl) : CallR X (.builtin "any") (rAny K) := hK ▸ cr_any hc
theorem cr_sumK (hc : X.calm = true) (hK : X.K = K := by rfl) : CallR X (.builtin "sum") (rSum K) := hK ▸ cr_sum hc
def rLenK (K : PySem.W.Frag) : List V → Hp → VK → Prop := fun xs H Q => ∃ p ys, xs = [.ref p] ∧ (SqL K H p ys ∨ SqT K H p ys) ∧ Q (.int ys.length) H
theorem len_seqK (hK : X.K = K := by rfl) : CallR X (.builtin "len") (rLenK K) := hK ▸ call_len_seq
def rListK (K : PySem.W.Frag) : List V → Hp → VK → Prop := fun xs H Q => ∃ p ys, xs = [.ref p] ∧ (SqL K H p ys ∨ SqT K H p ys) ∧ ∀ l, H l = none → Q (.ref l) (upd H l (.lst ys))
theorem list_ofK (hK : X.K = K := by rfl) : CallR X (.type "list") (rListK K) := hK ▸ call_list_of
def rTupK (K : PySem.W.Frag) : List V → Hp → VK → Prop := fun xs H Q => ∃ p ys, xs = [.ref p] ∧ ((SqL K H p ys ∧ ∀ l, H l = none → Q (.ref l) (upd H l (.tup ys))) ∨ (SqT K H p ys ∧ Q (.ref p) H))
theorem tup_ofK (hK : X.K = K := by rfl) : CallR X (.type "tuple") (rTupK K) := hK ▸ call_tuple_of
theorem isiK (hK : X.K = K := by rfl) : CallR X (.builtin "isinstance") (rIsi K) := hK ▸ call_isi
theorem sl_tupAK (hK : X.K = K := by rfl) : SlR X (rSlA K) := hK ▸ sl_tupA
theorem sl_listK (hK : X.K = K := by rfl) : SlR X (rSlL K) := hK ▸ sl_list
theorem op_catAK (hK : X.K = K := by rfl) : OpR X (binaryOp .Add) (rCatA K) := hK ▸ op_catA
theorem op_repAK (hK : X.K = K := by rfl) : OpR X (binaryOp .Mult) (rRepA K) := hK ▸ op_repA
theorem op_inK (hK : X.K = K := by rfl) : OpR X (compareOp .In) (rIn K false) := hK ▸ op_in_seq
theorem op_notInK (hK : X.K = K := by rfl) : OpR X (compareOp .NotIn) (rIn K true) := hK ▸ op_notIn_seq
theorem op_neDK (hu : X.A.units + 64 < cLine) (hK : X.K = K := by rfl) : OpR X (compareOp .NotEq) (rNeD K) := hK ▸ op_neD hu
theorem op_eqDK (hu : X.A.units + 64 < cLine) (hK : X.K = K := by rfl) : OpR X (compareOp .Eq) (rEqD K) := hK ▸ op_eqD hu
theorem pi_listK {tg l : Expr} {tl : TE} (hl : PE X l tl) (hK : X.K = K := by rfl) : PI X tg l (iList K tl) := hK ▸ pi_list hl
theorem pi_tupK {tg l : Expr} {tl : TE} (hl : PE X l tl) (hK : X.K = K := by rfl) : PI X tg l (iTup K tl) := hK ▸ pi_tup hl
theorem pi_seqK {tg l : Expr} {tl : TE} (hl : PE X l tl) (hK : X.K = K := by rfl) : PI X tg l (iSeq K tl) := hK ▸ pi_seq hl
theorem pg_tupK {es : List Expr} {k : Nat} {pos : Pos} {t : List V → L2.St → Hp → (L2.St → Hp → Prop) → Prop} {n : Nat} (h : PG X (.Tuple es k pos) (gTup X.K n t)) (hK : X.K = K := by rfl) : PG X (.Tuple es k pos) (gTup K n t) := hK ▸ h
theorem pe_bmK {o e : Expr} {es : List Expr} {to : TE} {t : TA} {name : Str} {apos cpos : Pos} {T id : String} {r : V → List V → Hp → VK → Prop} (h : PE X (.Call (.Attribute o name apos) (e :: es) [] cpos) (tBM X.K T r to t)) (hK : X.K = K := by rfl) :
    PE X (.Call (.Attribute o name apos) (e :: es) [] cpos) (tBM K T r to t) := hK ▸ h
theorem pe_fldK {e : Expr} {f : Str} {pos : Pos} {ta : TE} (he : PE X e ta) (hb : attributeBase e f X.env (eval e X.env) = eval e X.env) (hK : X.K = K := by rfl) : PE X (.Attribute e f pos) (tFld K ta f) := hK ▸ pe_fld he hb
end
end WU

set_option maxRecDepth 100000
set_option maxHeartbeats 4000000
namespace WU
open PySem PySem.Spec PyProof.Rows L2
/-- nothing ahead of its own place, the places rising -/
structure Ah (s : List (List Int)) (pv : List Nat) : Prop where
  ahead : ∀ (i : Nat) (r : List Int) (c : Nat), s[i]? = some r → pv[i]? = some c → ∀ k, k < c → at0 r k = 0
  inc : ∀ (i l c d : Nat), pv[i]? = some c → pv[l]? = some d → i < l → c < d
theorem ah_step {p : Int} {n j : Nat} {rows : List (List Int)} {s : List (List Int) × List (List Int)} {pv : List Nat} (hp : p ∈ primes) (hj : j < n) (I : Iv p n rows j s pv) (A : Ah s.2 pv) : ∃ pv', Iv p n rows (j + 1) (stp p j s) pv' ∧ Ah (stp p j s).2 pv' := by
  cases e : s.1.findIdx? (hot j) with
  | none =>
    have hs := stp_none (p := p) (List.findIdx?_eq_none_iff.mp e)
    obtain ⟨pv', I'⟩ := iv_step hp hj I
    refine ⟨pv, ?_, by rw [hs]; exact A⟩
    rw [hs] at I' ⊢
    exact ⟨I'.left, I'.done, I'.low, I.len, fun c hc => Nat.lt_succ_of_lt (I.plt c hc), I.one, I.to, I.of⟩
  | some k =>
    obtain ⟨a, r, b, ea, hk, hr, ha⟩ := find_hot e
    obtain ⟨l, d⟩ := s
    simp only at ea
    subst ea
    have hs := stp_some (p := p) (b := b) (d := d) hr ha
    obtain ⟨pv', I'⟩ := iv_step hp hj I
    rw [hs] at I' ⊢
    have hrm : r ∈ a ++ r :: b := List.mem_append.mpr (.inr (List.mem_cons_self))
    have hrL : Ltr p n r := I.left r hrm
    have hl : (led p r j).length = n := led_len hrL.1
    have l1 := led_one hp hrL hj hr
    have lpv : ∀ c, c < j → at0 (led p r j) c = 0 := fun c hc => by
      rw [led_at hrL.1 (by omega), I.low r hrm c hc, Int.mul_zero, fm_zero]
    have hpl := I.len
    simp only at hpl
    refine ⟨pv ++ [j], ⟨I'.left, I'.done, I'.low, ?_, ?_, ?_, I'.to, I'.of⟩, ?_, ?_⟩
    · rw [List.length_append, List.length_append, List.length_map, hpl]
      rfl
    · intro c hc
      rcases List.mem_append.mp hc with h | h
      · exact Nat.lt_succ_of_lt (I.plt c h)
      · rw [List.mem_singleton.mp h]
        exact Nat.lt_succ_self j
    · intro i m t c hi hm
      by_cases zi : i < d.length
      · rw [List.getElem?_append_left (by rw [List.length_map]; exact zi), List.getElem?_map] at hi
        obtain ⟨u, hu, rfl⟩ := Option.map_eq_some_iff.mp hi
        have hu2 := I.done u (List.mem_of_getElem? hu)
        by_cases zm : m < pv.length
        · rw [List.getElem?_append_left zm] at hm
          have hc := I.plt c (List.mem_of_getElem? hm)
          rw [less_at hu2.1 hl (by omega), lpv c hc, Int.mul_zero, Int.sub_zero, I.one i m u c hu hm]
          split
          · exact fm_one hp
          · exact fm_zero
        · have hm2 := (List.getElem?_eq_some_iff.mp hm).1
          rw [List.length_append] at hm2
          have em : m = pv.length := by
            have : m < pv.length + 1 := hm2
            omega
          rw [em, List.getElem?_append_right (Nat.le_refl _), Nat.sub_self] at hm
          cases hm
          rw [less_at hu2.1 hl hj, l1, Int.mul_one, Int.sub_self, fm_zero, if_neg (by omega)]
      · have hi2 := (List.getElem?_eq_some_iff.mp hi).1
        rw [List.length_append, List.length_map] at hi2
        have ei : i = d.length := by
          have : i < d.length + 1 := hi2
          omega
        rw [ei, List.getElem?_append_right (by rw [List.length_map]; exact Nat.le_refl _), List.length_map, Nat.sub_self] at hi
        cases hi
        by_cases zm : m < pv.length
        · rw [List.getElem?_append_left zm] at hm
          have hc := I.plt c (List.mem_of_getElem? hm)
          rw [lpv c hc, if_neg (by omega)]
        · have hm2 := (List.getElem?_eq_some_iff.mp hm).1
          rw [List.length_append] at hm2
          have em : m = pv.length := by
            have : m < pv.length + 1 := hm2
            omega
          rw [em, List.getElem?_append_right (Nat.le_refl _), Nat.sub_self] at hm
          cases hm
          rw [l1, if_pos (by omega)]
    · intro i t c hi hc k hk
      by_cases zi : i < d.length
      · rw [List.getElem?_append_left (by rw [List.length_map]; exact zi), List.getElem?_map] at hi
        obtain ⟨u, hu, rfl⟩ := Option.map_eq_some_iff.mp hi
        have hu2 := I.done u (List.mem_of_getElem? hu)
        rw [List.getElem?_append_left (by omega)] at hc
        have hcj := I.plt c (List.mem_of_getElem? hc)
        rw [less_at hu2.1 hl (by omega), lpv k (by omega), A.ahead i u c hu hc k hk, Int.mul_zero, Int.sub_zero, fm_zero]
      · have hi2 := (List.getElem?_eq_some_iff.mp hi).1
        rw [List.length_append, List.length_map] at hi2
        have ei : i = d.length := by
          have : i < d.length + 1 := hi2
          omega
        rw [ei, List.getElem?_append_right (by rw [List.length_map]; exact Nat.le_refl _), List.length_map, Nat.sub_self] at hi
        cases hi
        rw [ei, ← hpl, List.getElem?_append_right (Nat.le_refl _), Nat.sub_self] at hc
        cases hc
        exact lpv k hk
    · intro i m c f hi hm him
      have hm2 := (List.getElem?_eq_some_iff.mp hm).1
      rw [List.length_append] at hm2
      have hm3 : m < pv.length + 1 := hm2
      rw [List.getElem?_append_left (by omega)] at hi
      by_cases zm : m < pv.length
      · rw [List.getElem?_append_left zm] at hm
        exact A.inc i m c f hi hm him
      · have em : m = pv.length := by omega
        rw [em, List.getElem?_append_right (Nat.le_refl _), Nat.sub_self] at hm
        cases hm
        exact I.plt c (List.mem_of_getElem? hi)
theorem ah_run {p : Int} {n : Nat} {rows : List (List Int)} (hp : p ∈ primes) (h : ∀ r ∈ rows, Ltr p n r) : ∀ j, j ≤ n → ∃ pv, Iv p n rows j (run p rows j) pv ∧ Ah (run p rows j).2 pv
  | 0, _ => ⟨[], iv_zero h, ⟨fun i r c hi => (nomatch hi), fun i l c d hi => (nomatch hi)⟩⟩
  | j + 1, hj => by
    obtain ⟨pv, I, A⟩ := ah_run hp h j (by omega)
    exact ah_step hp (by omega) I A
/-- a reduced matrix -/
structure Rr (p : Int) (n : Nat) (rs : List (List Int)) (pv : List Nat) : Prop where
  piv : Piv p n rs pv
  ah : Ah rs pv
theorem red_rr {p : Int} {n : Nat} {rows : List (List Int)} (hp : p ∈ primes) (h : ∀ r ∈ rows, Ltr p n r) : ∃ pv, Rr p n (red p rows) pv ∧ (∀ r ∈ red p rows, Span p n rows r) ∧ ∀ r ∈ rows, Span p n (red p rows) r := by
  obtain ⟨pv, I, A⟩ := ah_run hp h n (Nat.le_refl n)
  rw [red_run h]
  have hz : ∀ t ∈ (run p rows n).1, t = zer n := fun t ht => row_ext (I.left t ht).1 zer_len fun k hk => by rw [I.low t ht k hk, zer_at]
  refine ⟨pv, ⟨⟨I.done, I.len, I.plt, I.one⟩, A⟩, fun r hr => I.to r (.inr hr), fun r hr => ?_⟩
  refine span_sub (fun u hu => ?_) (I.of r hr)
  rcases List.mem_append.mp hu with q | q
  · rw [hz u q]
    exact span_lin.1
  · exact span_mem q
/-- rows with own places: a row's own letters -/
theorem sv_row {p : Int} {n : Nat} {rs : List (List Int)} {pv : List Nat} (P : Piv p n rs pv) {r : List Int} (hr : r ∈ rs) : Sv p n rs pv r := by
  refine ⟨P.ltr r hr, fun k hk2 => ?_⟩
  obtain ⟨i, hi⟩ := List.getElem?_of_mem hr
  have e : pvs pv r = (List.range rs.length).map fun l => if i = l then 1 else 0 := by
    refine List.ext_getElem (by unfold pvs; rw [List.length_map, List.length_map, List.length_range, P.len]) fun l g1 g2 => ?_
    unfold pvs at g1 ⊢
    rw [List.length_map] at g1
    rw [List.getElem_map, List.getElem_map, List.getElem_range]
    exact P.one i l r _ hi (List.getElem?_eq_getElem g1)
  have key : ∀ (rs : List (List Int)) (i : Nat) (r : List Int), rs[i]? = some r → csum k rs ((List.range rs.length).map fun l => if i = l then 1 else 0) = at0 r k := by
    intro rs
    induction rs with
    | nil => intro i r hi; cases hi
    | cons t rs ih =>
      intro i r hi
      rw [List.length_cons, List.range_succ_eq_map, List.map_cons, List.map_map]
      show csum k rs ((List.range rs.length).map fun l => if i = l + 1 then 1 else 0) + (if i = 0 then 1 else 0) * at0 t k = at0 r k
      cases i with
      | zero =>
        cases hi
        rw [if_pos rfl, Int.one_mul]
        have : ((List.range rs.length).map fun l => if 0 = l + 1 then (1 : Int) else 0) = (List.range rs.length).map fun _ => 0 := List.map_congr_left fun l _ => if_neg (by omega)
        rw [this]
        have q := csum_zer (k := k) (rs := rs) (pv := List.range rs.length)
        rw [q, Int.zero_add]
      | succ i =>
        rw [if_neg (by omega), Int.zero_mul, Int.add_zero]
        have : ((List.range rs.length).map fun l => if i + 1 = l + 1 then (1 : Int) else 0) = (List.range rs.length).map fun l => if i = l then 1 else 0 := List.map_congr_left fun l _ => by
          by_cases z : i = l
          · rw [if_pos z, if_pos (by omega)]
          · rw [if_neg z, if_neg (by omega)]
        rw [this]
        exact ih i r hi
  rw [e, key _ i r hi]
  exact Cg.rfl'
theorem sv_span {p : Int} {n : Nat} {rs : List (List Int)} {pv : List Nat} (hp : 0 < p) (P : Piv p n rs pv) {v : List Int} (h : Span p n rs v) : Sv p n rs pv v := h _ (sv_lin hp P.plt) fun r hr => sv_row P hr
/-- rising lists -/
def Inc (l : List Nat) : Prop := ∀ (i m c d : Nat), l[i]? = some c → l[m]? = some d → i < m → c < d
theorem Inc.tail {a : Nat} {l : List Nat} (h : Inc (a :: l)) : Inc l := fun i m c d hi hm him => h (i + 1) (m + 1) c d hi hm (by omega)
theorem Inc.head {a x : Nat} {l : List Nat} (h : Inc (a :: l)) (hx : x ∈ l) : a < x := by
  obtain ⟨i, hi⟩ := List.getElem?_of_mem hx
  exact h 0 (i + 1) a x rfl hi (by omega)
theorem sub_inc : ∀ {m l : List Nat}, Inc l → Inc m → (∀ x ∈ l, x ∈ m) → l.length ≤ m.length ∧ (l.length = m.length → l = m)
  | [], l, _, _, h => by
    cases l with
    | nil => exact ⟨Nat.le_refl _, fun _ => rfl⟩
    | cons a l => exact absurd (h a (List.mem_cons_self)) (by simp)
  | b :: m, [], _, _, _ => ⟨Nat.zero_le _, fun e => by cases e⟩
  | b :: m, a :: l, hl, hm, h => by
    by_cases e : a = b
    · subst e
      have := sub_inc (m := m) hl.tail hm.tail fun x hx => by
        rcases List.mem_cons.mp (h x (List.mem_cons_of_mem _ hx)) with q | q
        · exact absurd (hl.head hx) (by omega)
        · exact q
      refine ⟨by rw [List.length_cons, List.length_cons]; omega, fun q => ?_⟩
      rw [this.2 (Nat.succ.inj q)]
    · have ham : a ∈ m := by
        rcases List.mem_cons.mp (h a (List.mem_cons_self)) with q | q
        · exact absurd q e
        · exact q
      have hba := hm.head ham
      have := sub_inc (m := m) hl hm.tail fun x hx => by
        rcases List.mem_cons.mp (h x hx) with q | q
        · exfalso
          rcases List.mem_cons.mp hx with z | z
          · omega
          · have := hl.head z
            omega
        · exact q
      refine ⟨Nat.le_succ_of_le this.1, fun q => ?_⟩
      have q1 := this.1
      simp only [List.length_cons] at q q1
      omega
/-- a sum of products where all but some parts are 0 -/
theorem csum_null {k : Nat} : ∀ {rs : List (List Int)} {cs : List Int}, (∀ (i : Nat) (r : List Int) (c : Int), rs[i]? = some r → cs[i]? = some c → c = 0 ∨ at0 r k = 0) → csum k rs cs = 0
  | [], _, _ => by unfold csum; rfl
  | r :: rs, [], _ => by unfold csum; rfl
  | r :: rs, c :: cs, h => by
    unfold csum
    rw [csum_null fun i r c hr hc => h (i + 1) r c hr hc]
    rcases h 0 r c rfl rfl with e | e
    · rw [e, Int.zero_mul]
      rfl
    · rw [e, Int.mul_zero]
      rfl
/-- where a spanned row begins stands a lead -/
theorem lead_in {p : Int} {n c : Nat} {rs : List (List Int)} {pv : List Nat} {v : List Int} (hp : p ∈ primes) (R : Rr p n rs pv) (hv : Span p n rs v) (hc : c < n) (h0 : ∀ k, k < c → at0 v k = 0) (h1 : at0 v c = 1) : c ∈ pv := by
  by_cases hm : c ∈ pv
  · exact hm
  exfalso
  have p0 := prime_pos hp
  have p2 := fld_le hp
  have sv := sv_span p0 R.piv hv
  have := sv.2 c hc
  rw [h1, csum_null] at this
  · obtain ⟨t, e⟩ := this
    rw [Int.zero_add] at e
    have : p ∣ 1 := ⟨t, e⟩
    have := Int.le_of_dvd (by decide) this
    omega
  · intro i r d hr hd
    unfold pvs at hd
    rw [List.getElem?_map] at hd
    obtain ⟨x, hx, rfl⟩ := Option.map_eq_some_iff.mp hd
    rcases Nat.lt_trichotomy x c with q | q | q
    · exact .inl (h0 x q)
    · exact absurd (q ▸ List.mem_of_getElem? hx) hm
    · exact .inr (R.ah.ahead i r x hr hx c q)
theorem leads_sub {p : Int} {n : Nat} {rs rs' : List (List Int)} {pv pv' : List Nat} (hp : p ∈ primes) (R : Rr p n rs pv) (R' : Rr p n rs' pv') (h : ∀ r ∈ rs, Span p n rs' r) : ∀ c ∈ pv, c ∈ pv' := by
  intro c hc
  obtain ⟨i, hi⟩ := List.getElem?_of_mem hc
  have hil := (List.getElem?_eq_some_iff.mp hi).1
  rw [R.piv.len] at hil
  have hr : rs[i]? = some rs[i] := List.getElem?_eq_getElem hil
  refine lead_in hp R' (h _ (List.getElem_mem hil)) (R.piv.plt c hc) (R.ah.ahead i _ c hr hi) ?_
  rw [R.piv.one i i _ c hr hi, if_pos rfl]
/-- of as many rows, spanned: the same -/
theorem rr_len {p : Int} {n : Nat} {rs rs' : List (List Int)} {pv pv' : List Nat} (hp : p ∈ primes) (R : Rr p n rs pv) (R' : Rr p n rs' pv') (h : ∀ r ∈ rs, Span p n rs' r) : rs.length ≤ rs'.length ∧ (rs.length = rs'.length → rs = rs') := by
  have p0 := prime_pos hp
  have ss := sub_inc R.ah.inc R'.ah.inc (leads_sub hp R R' h)
  rw [R.piv.len, R'.piv.len] at ss
  refine ⟨ss.1, fun e => ?_⟩
  have ep := ss.2 e
  subst ep
  refine List.ext_getElem e fun i h1 h2 => ?_
  have g1 : rs[i]? = some rs[i] := List.getElem?_eq_getElem h1
  have g2 : rs'[i]? = some rs'[i] := List.getElem?_eq_getElem h2
  have q1 := sv_back p0 R'.piv (sv_span p0 R'.piv (h _ (List.getElem_mem h1)))
  have q2 := sv_back p0 R'.piv (sv_span p0 R'.piv (span_mem (List.getElem_mem h2)))
  rw [← q1, ← q2]
  congr 1
  refine List.map_congr_left fun c hc => ?_
  obtain ⟨l, hl⟩ := List.getElem?_of_mem hc
  rw [R.piv.one i l _ c g1 hl, R'.piv.one i l _ c g2 hl]
theorem rr_eq {p : Int} {n : Nat} {rs rs' : List (List Int)} {pv pv' : List Nat} (hp : p ∈ primes) (R : Rr p n rs pv) (R' : Rr p n rs' pv') (h : ∀ r ∈ rs, Span p n rs' r) (h' : ∀ r ∈ rs', Span p n rs r) : rs = rs' := by
  have a := rr_len hp R R' h
  have b := rr_len hp R' R h'
  exact a.2 (by omega)
/-- a further row that is spanned changes nothing; as many rows: it is spanned -/
theorem red_more {p : Int} {n : Nat} {rows : List (List Int)} {r : List Int} (hp : p ∈ primes) (h : ∀ t ∈ rows, Ltr p n t) (hr : Ltr p n r) : (Span p n rows r → red p (rows ++ [r]) = red p rows) ∧ ((red p (rows ++ [r])).length = (red p rows).length → Span p n rows r) := by
  have h2 : ∀ t ∈ rows ++ [r], Ltr p n t := fun t ht => by
    rcases List.mem_append.mp ht with q | q
    · exact h t q
    · rw [List.mem_singleton.mp q]
      exact hr
  obtain ⟨pv, R, a1, a2⟩ := red_rr hp h
  obtain ⟨pv2, R2, b1, b2⟩ := red_rr hp h2
  have up : ∀ t ∈ red p rows, Span p n (red p (rows ++ [r])) t := fun t ht => span_sub b2 (span_sub (fun u hu => span_mem (List.mem_append.mpr (.inl hu))) (a1 t ht))
  constructor
  · intro hs
    refine (rr_eq hp R R2 up fun t ht => ?_).symm
    refine span_sub a2 (span_sub (fun u hu => ?_) (b1 t ht))
    rcases List.mem_append.mp hu with q | q
    · exact span_mem q
    · rw [List.mem_singleton.mp q]
      exact hs
  · intro e
    have := (rr_len hp R R2 up).2 e.symm
    have hr2 := b2 r (List.mem_append.mpr (.inr (List.mem_singleton.mpr rfl)))
    rw [← this] at hr2
    exact span_sub a1 hr2
/-- reduced again it stays -/
theorem red_red {p : Int} {n : Nat} {rows : List (List Int)} (hp : p ∈ primes) (h : ∀ t ∈ rows, Ltr p n t) : red p (red p rows) = red p rows := by
  obtain ⟨pv, R, a1, a2⟩ := red_rr hp h
  obtain ⟨pv2, R2, b1, b2⟩ := red_rr hp R.piv.ltr
  exact rr_eq hp R2 R b1 b2
end WU

set_option maxRecDepth 100000
set_option maxHeartbeats 4000000
namespace WU
open PySem PySem.Spec PyProof.Rows L2
/-- the product of two rows, as far as m -/
def dotn : Nat → List Int → List Int → Int
  | 0, _, _ => 0
  | m + 1, x, v => dotn m x v + at0 x m * at0 v m
theorem dotn_congr {x y u v : List Int} : ∀ {m : Nat}, (∀ k, k < m → at0 x k * at0 u k = at0 y k * at0 v k) → dotn m x u = dotn m y v
  | 0, _ => rfl
  | m + 1, h => by
    unfold dotn
    rw [dotn_congr fun k hk => h k (by omega), h m (by omega)]
theorem dotn_comm {x u : List Int} (m : Nat) : dotn m x u = dotn m u x := dotn_congr fun k _ => Int.mul_comm _ _
theorem dotn_two {x u : List Int} {c d : Nat} {a b : Int} : ∀ {m : Nat}, (∀ k, k < m → at0 x k * at0 u k = (if k = c then a else 0) + (if k = d then b else 0)) → dotn m x u = (if c < m then a else 0) + (if d < m then b else 0)
  | 0, _ => by
    unfold dotn
    rw [if_neg (by omega), if_neg (by omega)]
    rfl
  | m + 1, h => by
    unfold dotn
    rw [dotn_two fun k hk => h k (by omega), h m (by omega)]
    by_cases e : c < m
    · rw [if_pos e, if_pos (show c < m + 1 by omega), if_neg (show ¬ m = c by omega)]
      by_cases f : d < m
      · rw [if_pos f, if_pos (show d < m + 1 by omega), if_neg (show ¬ m = d by omega)]
        omega
      · rw [if_neg f]
        by_cases g : m = d
        · rw [if_pos g, if_pos (show d < m + 1 by omega)]
          omega
        · rw [if_neg g, if_neg (show ¬ d < m + 1 by omega)]
          omega
    · rw [if_neg e]
      by_cases e2 : m = c
      · rw [if_pos e2, if_pos (show c < m + 1 by omega)]
        by_cases f : d < m
        · rw [if_pos f, if_pos (show d < m + 1 by omega), if_neg (show ¬ m = d by omega)]
          omega
        · rw [if_neg f]
          by_cases g : m = d
          · rw [if_pos g, if_pos (show d < m + 1 by omega)]
            omega
          · rw [if_neg g, if_neg (show ¬ d < m + 1 by omega)]
            omega
      · rw [if_neg e2, if_neg (show ¬ c < m + 1 by omega)]
        by_cases f : d < m
        · rw [if_pos f, if_pos (show d < m + 1 by omega), if_neg (show ¬ m = d by omega)]
          omega
        · rw [if_neg f]
          by_cases g : m = d
          · rw [if_pos g, if_pos (show d < m + 1 by omega)]
            omega
          · rw [if_neg g, if_neg (show ¬ d < m + 1 by omega)]
            omega
theorem dotn_one {x u : List Int} {c : Nat} {a : Int} {m : Nat} (h : ∀ k, k < m → at0 x k * at0 u k = if k = c then a else 0) : dotn m x u = if c < m then a else 0 := by
  have := dotn_two (x := x) (u := u) (c := c) (d := c) (a := a) (b := 0) (m := m) fun k hk => by
    rw [h k hk]
    split <;> omega
  rw [this]
  split <;> omega
theorem dotn_null {x u : List Int} {m : Nat} (h : ∀ k, k < m → at0 x k * at0 u k = 0) : dotn m x u = 0 := by
  have := dotn_one (x := x) (u := u) (c := 0) (a := 0) (m := m) fun k hk => by
    rw [h k hk]
    split <;> rfl
  rw [this]
  split <;> rfl
theorem dotn_addv {p c : Int} {n : Nat} {x u v : List Int} (hu : u.length = n) (hv : v.length = n) : ∀ {m : Nat}, m ≤ n → Cg p (dotn m x (addv p u c v)) (dotn m x u + c * dotn m x v)
  | 0, _ => by
    unfold dotn
    rw [Int.mul_zero]
    exact Cg.rfl'
  | m + 1, h => by
    unfold dotn
    rw [addv_at hu hv (by omega)]
    have c1 := (dotn_addv (p := p) (c := c) (x := x) hu hv (m := m) (by omega)).add ((Cg.fm (p := p) (at0 u m + c * at0 v m)).mul (at0 x m))
    have e : dotn m x u + c * dotn m x v + at0 x m * (at0 u m + c * at0 v m) = dotn m x u + at0 x m * at0 u m + c * (dotn m x v + at0 x m * at0 v m) := by
      rw [Int.mul_add, Int.mul_add, ← Int.mul_assoc, ← Int.mul_assoc, Int.mul_comm (at0 x m) c]
      omega
    rw [e] at c1
    exact c1
theorem dotn_zer {n m : Nat} {x : List Int} : dotn m x (zer n) = 0 := dotn_null fun k _ => by rw [zer_at, Int.mul_zero]
/-- rows to which the product with x is what stands at the last place -/
theorem phi_lin {p : Int} {m : Nat} {x : List Int} (hp : 0 < p) : Lin p (m + 1) fun v => Ltr p (m + 1) v ∧ Cg p (dotn m x v) (at0 v m) := by
  refine ⟨⟨zer_ltr hp, ?_⟩, fun u r c hu hr => ⟨addv_ltr hp hu.1.1 hr.1.1, ?_⟩⟩
  · rw [dotn_zer, zer_at]
    exact Cg.rfl'
  · have h1 := dotn_addv (p := p) (c := c) (x := x) hu.1.1 hr.1.1 (m := m) (by omega)
    refine h1.trans ((hu.2.add (hr.2.mul c)).trans ?_)
    rw [addv_at hu.1.1 hr.1.1 (by omega)]
    exact (Cg.fm _).symm
/-- rows to which the product with x is 0 -/
theorem ker_lin {p : Int} {n : Nat} {x : List Int} (hp : 0 < p) : Lin p n fun v => Ltr p n v ∧ Cg p (dotn n x v) 0 := by
  refine ⟨⟨zer_ltr hp, ?_⟩, fun u r c hu hr => ⟨addv_ltr hp hu.1.1 hr.1.1, ?_⟩⟩
  · rw [dotn_zer]
    exact Cg.rfl'
  · have h1 := dotn_addv (p := p) (c := c) (x := x) hu.1.1 hr.1.1 (m := n) (Nat.le_refl n)
    refine h1.trans ((hu.2.add (hr.2.mul c)).trans ?_)
    rw [Int.mul_zero]
    exact Cg.rfl'
/-- a column, and the equations -/
def colm (A : List (List Int)) (k : Nat) : List Int := A.map fun r => at0 r k
def eqn (A : List (List Int)) (b : List Int) (k : Nat) : List Int := colm A k ++ [at0 b k]
def eqs (A : List (List Int)) (b : List Int) (n : Nat) : List (List Int) := (List.range n).map (eqn A b)
theorem colm_len {A : List (List Int)} {k : Nat} : (colm A k).length = A.length := List.length_map _
theorem colm_at {A : List (List Int)} {k i : Nat} {r : List Int} (h : A[i]? = some r) : at0 (colm A k) i = at0 r k := by
  have hi := (List.getElem?_eq_some_iff.mp h).1
  have he := (List.getElem?_eq_some_iff.mp h).2
  rw [at0_lt (by rw [colm_len]; exact hi)]
  unfold colm
  rw [List.getElem_map, he]
theorem eqn_len {A : List (List Int)} {b : List Int} {k : Nat} : (eqn A b k).length = A.length + 1 := by
  unfold eqn
  rw [List.length_append, colm_len]
  rfl
theorem eqn_at {A : List (List Int)} {b : List Int} {k i : Nat} (h : i < A.length) : at0 (eqn A b k) i = at0 (colm A k) i := by
  unfold eqn at0
  rw [List.getD_eq_getElem?_getD, List.getElem?_append_left (by rw [colm_len]; exact h), ← List.getD_eq_getElem?_getD]
theorem eqn_last {A : List (List Int)} {b : List Int} {k : Nat} : at0 (eqn A b k) A.length = at0 b k := by
  unfold eqn at0
  rw [List.getD_eq_getElem?_getD, List.getElem?_append_right (by rw [colm_len]; exact Nat.le_refl _), colm_len, Nat.sub_self]
  rfl
theorem eqn_ltr {p : Int} {n : Nat} {A : List (List Int)} {b : List Int} {k : Nat} (hA : ∀ r ∈ A, Ltr p n r) (hb : Ltr p n b) (hk : k < n) : Ltr p (A.length + 1) (eqn A b k) := by
  refine ⟨eqn_len, fun x hx => ?_⟩
  unfold eqn colm at hx
  rcases List.mem_append.mp hx with q | q
  · obtain ⟨r, hr, rfl⟩ := List.mem_map.mp q
    exact (hA r hr).bd hk
  · rw [List.mem_singleton.mp q]
    exact hb.bd hk
theorem eqs_ltr {p : Int} {n : Nat} {A : List (List Int)} {b : List Int} (hA : ∀ r ∈ A, Ltr p n r) (hb : Ltr p n b) : ∀ r ∈ eqs A b n, Ltr p (A.length + 1) r := by
  intro r hr
  obtain ⟨k, hk, rfl⟩ := List.mem_map.mp hr
  exact eqn_ltr hA hb (List.mem_range.mp hk)
/-- x solves -/
def Slv (p : Int) (n : Nat) (A : List (List Int)) (b x : List Int) : Prop := ∀ k, k < n → Cg p (dotn A.length x (colm A k)) (at0 b k)
def addz (u : List Int) (c : Int) (v : List Int) : List Int := List.zipWith (fun a b => a + c * b) u v
theorem addz_at {c : Int} {m k : Nat} {u v : List Int} (hu : u.length = m) (hv : v.length = m) (hk : k < m) : at0 (addz u c v) k = at0 u k + c * at0 v k := by
  have hl : (addz u c v).length = m := by unfold addz; rw [List.length_zipWith, hu, hv, Nat.min_self]
  rw [at0_lt (by omega), at0_lt (r := u) (by omega), at0_lt (r := v) (by omega)]
  unfold addz
  rw [List.getElem_zipWith]
theorem dotn_addz {c : Int} {m : Nat} {u v y : List Int} (hu : u.length = m) (hv : v.length = m) : ∀ {t : Nat}, t ≤ m → dotn t (addz u c v) y = dotn t u y + c * dotn t v y
  | 0, _ => by
    unfold dotn
    rw [Int.mul_zero]
    rfl
  | t + 1, h => by
    unfold dotn
    rw [dotn_addz hu hv (by omega), addz_at hu hv (by omega), Int.add_mul, Int.mul_add, Int.mul_assoc]
    omega
def unt (m i : Nat) : List Int := (zer m).set i 1
theorem unt_len {m i : Nat} : (unt m i).length = m := by unfold unt; rw [List.length_set, zer_len]
theorem at0_set {l : List Int} {i k : Nat} {a : Int} (hi : i < l.length) : at0 (l.set i a) k = if k = i then a else at0 l k := by
  unfold at0
  rw [List.getD_eq_getElem?_getD, List.getElem?_set, List.getD_eq_getElem?_getD]
  by_cases e : i = k
  · rw [if_pos e, if_pos hi, if_pos e.symm]
    rfl
  · rw [if_neg e, if_neg (fun z => e z.symm)]
theorem unt_at {m i k : Nat} (hi : i < m) : at0 (unt m i) k = if k = i then 1 else 0 := by
  unfold unt
  rw [at0_set (by rw [zer_len]; exact hi), zer_at]
theorem slv_of {p : Int} {n : Nat} {A : List (List Int)} {b : List Int} (hp : 0 < p) (hA : ∀ r ∈ A, Ltr p n r) (h : Span p n A b) : ∃ x, x.length = A.length ∧ Slv p n A b x := by
  have : Ltr p n b ∧ ∃ x, x.length = A.length ∧ Slv p n A b x := by
    refine h (fun b => Ltr p n b ∧ ∃ x, x.length = A.length ∧ Slv p n A b x) ⟨⟨zer_ltr hp, zer A.length, zer_len, fun k hk => ?_⟩, ?_⟩ ?_
    · rw [dotn_comm, dotn_zer, zer_at]
      exact Cg.rfl'
    · rintro u r c ⟨hu, x, lx, hx⟩ ⟨hr, y, ly, hy⟩
      refine ⟨addv_ltr hp hu.1 hr.1, addz x c y, by unfold addz; rw [List.length_zipWith, lx, ly, Nat.min_self], fun k hk => ?_⟩
      rw [dotn_addz lx ly (Nat.le_refl _), addv_at hu.1 hr.1 hk]
      exact ((hx k hk).add ((hy k hk).mul c)).trans (Cg.fm _).symm
    · intro r hr
      obtain ⟨i, hi⟩ := List.getElem?_of_mem hr
      have hil := (List.getElem?_eq_some_iff.mp hi).1
      refine ⟨hA r hr, unt A.length i, unt_len, fun k hk => ?_⟩
      rw [dotn_one (c := i) (a := at0 r k), if_pos hil]
      · exact Cg.rfl'
      · intro k2 hk2
        rw [unt_at hil]
        by_cases e : k2 = i
        · rw [if_pos e, if_pos e, e, colm_at hi, Int.one_mul]
        · rw [if_neg e, if_neg e, Int.zero_mul]
  exact this.2
theorem slv_phi {p : Int} {n : Nat} {A : List (List Int)} {b x : List Int} (hA : ∀ r ∈ A, Ltr p n r) (hb : Ltr p n b) (h : Slv p n A b x) : ∀ v ∈ eqs A b n, Ltr p (A.length + 1) v ∧ Cg p (dotn A.length x v) (at0 v A.length) := by
  intro v hv
  refine ⟨eqs_ltr hA hb v hv, ?_⟩
  obtain ⟨k, hk, rfl⟩ := List.mem_map.mp hv
  rw [eqn_last, dotn_congr (v := colm A k) (y := x) fun i hi => by rw [eqn_at hi]]
  exact h k (List.mem_range.mp hk)
/-- spanned: no equation 0 = 1 -/
theorem cons_of {p : Int} {n : Nat} {A : List (List Int)} {b : List Int} {pv : List Nat} (hp : p ∈ primes) (hA : ∀ r ∈ A, Ltr p n r) (hb : Ltr p n b) (R : Rr p (A.length + 1) (red p (eqs A b n)) pv) (h : Span p n A b) : A.length ∉ pv := by
  intro hm
  have p0 := prime_pos hp
  have p2 := fld_le hp
  obtain ⟨x, lx, hx⟩ := slv_of p0 hA h
  obtain ⟨pv', R', a1, a2⟩ := red_rr hp (eqs_ltr hA hb)
  obtain ⟨i, hi⟩ := List.getElem?_of_mem hm
  have hil := (List.getElem?_eq_some_iff.mp hi).1
  rw [R.piv.len] at hil
  have hr : (red p (eqs A b n))[i]? = some (red p (eqs A b n))[i] := List.getElem?_eq_getElem hil
  have ph := (a1 _ (List.getElem_mem hil)) _ (phi_lin (x := x) p0) (slv_phi hA hb hx)
  have e1 := R.piv.one i i _ _ hr hi
  rw [if_pos rfl] at e1
  have e0 := R.ah.ahead i _ _ hr hi
  have z : dotn A.length x (red p (eqs A b n))[i] = 0 := dotn_null fun k hk => by rw [e0 k hk, Int.mul_zero]
  have := ph.2
  rw [z, e1] at this
  obtain ⟨t, e⟩ := this
  have : p ∣ 1 := ⟨-t, by rw [Int.mul_neg]; omega⟩
  have := Int.le_of_dvd (by decide) this
  omega
/-- values put at places, one behind the other -/
structure SetP (x0 : List Int) (pv : List Nat) (val : Nat → Int) (t : Nat) (x : List Int) : Prop where
  len : x.length = x0.length
  put : ∀ l c, l < t → pv[l]? = some c → at0 x c = val l
  old : ∀ k, (∀ l, l < t → pv[l]? ≠ some k) → at0 x k = at0 x0 k
theorem setP_zero {x0 : List Int} {pv : List Nat} {val : Nat → Int} : SetP x0 pv val 0 x0 := ⟨rfl, fun l c h => absurd h (by omega), fun _ _ => rfl⟩
theorem setP_step {x0 x : List Int} {pv : List Nat} {val : Nat → Int} {t c : Nat} (hi : Inc pv) (h : SetP x0 pv val t x) (hc : pv[t]? = some c) (hl : c < x0.length) : SetP x0 pv val (t + 1) (x.set c (val t)) := by
  have hl2 : c < x.length := by rw [h.len]; exact hl
  refine ⟨by rw [List.length_set, h.len], fun l d hlt hd => ?_, fun k hk => ?_⟩
  · rw [at0_set hl2]
    by_cases e : d = c
    · rw [if_pos e]
      subst e
      by_cases e2 : l = t
      · rw [e2]
      · have := hi l t d d hd hc (by omega)
        omega
    · rw [if_neg e]
      refine h.put l d ?_ hd
      by_cases e2 : l = t
      · rw [e2, hc] at hd
        exact absurd (Option.some.inj hd).symm e
      · omega
  · rw [at0_set hl2, if_neg (fun e => hk t (by omega) (by rw [e]; exact hc))]
    exact h.old k fun l hlt => hk l (by omega)
/-- the solution that is told -/
theorem sol_slv {p : Int} {n : Nat} {A : List (List Int)} {b x : List Int} {pv : List Nat} (hp : p ∈ primes) (hA : ∀ r ∈ A, Ltr p n r) (hb : Ltr p n b) (R : Rr p (A.length + 1) (red p (eqs A b n)) pv) (hm : A.length ∉ pv)
    (hx : SetP (zer A.length) pv (fun l => at0 ((red p (eqs A b n)).getD l []) A.length) (red p (eqs A b n)).length x) : Slv p n A b x ∧ Ltr p A.length x := by
  have p0 := prime_pos hp
  obtain ⟨pv', R', a1, a2⟩ := red_rr hp (eqs_ltr hA hb)
  have lt : ∀ (l c : Nat), pv[l]? = some c → l < (red p (eqs A b n)).length ∧ c < A.length := fun l c h => by
    have h1 := (List.getElem?_eq_some_iff.mp h).1
    have h2 := R.piv.plt c (List.mem_of_getElem? h)
    refine ⟨by rw [← R.piv.len]; exact h1, ?_⟩
    by_cases e : c = A.length
    · exact absurd (e ▸ List.mem_of_getElem? h) hm
    · omega
  have gd : ∀ (l : Nat) (h : l < (red p (eqs A b n)).length), (red p (eqs A b n)).getD l [] = (red p (eqs A b n))[l] := fun l h => by rw [List.getD_eq_getElem?_getD, List.getElem?_eq_getElem h]; rfl
  have ph : ∀ v ∈ red p (eqs A b n), Ltr p (A.length + 1) v ∧ Cg p (dotn A.length x v) (at0 v A.length) := by
    intro v hv
    refine ⟨R.piv.ltr v hv, ?_⟩
    obtain ⟨i, hi⟩ := List.getElem?_of_mem hv
    have hil := (List.getElem?_eq_some_iff.mp hi).1
    obtain ⟨c, hc⟩ : ∃ c, pv[i]? = some c := ⟨_, List.getElem?_eq_getElem (by rw [R.piv.len]; exact hil)⟩
    have hcm := (lt i c hc).2
    rw [dotn_one (c := c) (a := at0 v A.length), if_pos hcm]
    · exact Cg.rfl'
    · intro k hk
      by_cases e : k = c
      · rw [if_pos e, e, hx.put i c hil hc, R.piv.one i i v c hi hc, if_pos rfl, Int.mul_one]
        show at0 ((red p (eqs A b n)).getD i []) A.length = _
        rw [gd i hil]
        have := (List.getElem?_eq_some_iff.mp hi).2
        rw [this]
      · rw [if_neg e]
        by_cases hk2 : ∃ l : Nat, pv[l]? = some k
        · obtain ⟨l, hl⟩ := hk2
          rw [R.piv.one i l v k hi hl, if_neg (fun z => e (by rw [z, hl] at hc; exact Option.some.inj hc)), Int.mul_zero]
        · rw [hx.old k (fun l _ z => hk2 ⟨l, z⟩), zer_at, Int.zero_mul]
  constructor
  · intro k hk
    have hm2 : eqn A b k ∈ eqs A b n := List.mem_map.mpr ⟨k, List.mem_range.mpr hk, rfl⟩
    have := (a2 _ hm2) _ (phi_lin (x := x) p0) ph
    have q := this.2
    rw [eqn_last, dotn_congr (v := colm A k) (y := x) fun i hi => by rw [eqn_at hi]] at q
    exact q
  · refine ltr_of (by rw [hx.len, zer_len]) fun k hk => ?_
    by_cases hk2 : ∃ l : Nat, pv[l]? = some k
    · obtain ⟨l, hl⟩ := hk2
      have hl2 := (lt l k hl).1
      rw [hx.put l k hl2 hl]
      show 0 ≤ at0 ((red p (eqs A b n)).getD l []) A.length ∧ _
      rw [gd l hl2]
      exact (R.piv.ltr _ (List.getElem_mem hl2)).bd (by omega)
    · rw [hx.old k (fun l _ z => hk2 ⟨l, z⟩), zer_at]
      omega
/-- the rows times letters, added up -/
def lsum (p : Int) (n : Nat) (A : List (List Int)) (x : List Int) : Nat → List Int
  | 0 => zer n
  | t + 1 => addv p (lsum p n A x t) (at0 x t) (A.getD t [])
theorem lsum_at {p : Int} {n k : Nat} {A : List (List Int)} {x : List Int} (hp : 0 < p) (hA : ∀ r ∈ A, Ltr p n r) (hk : k < n) : ∀ t, t ≤ A.length → Ltr p n (lsum p n A x t) ∧ Cg p (at0 (lsum p n A x t) k) (dotn t x (colm A k))
  | 0, _ => ⟨zer_ltr hp, by
    show Cg p (at0 (zer n) k) 0
    rw [zer_at]
    exact Cg.rfl'⟩
  | t + 1, ht => by
    obtain ⟨i1, i2⟩ := lsum_at hp hA hk (x := x) t (by omega)
    have hr : A[t]? = some (A[t]'(by omega)) := List.getElem?_eq_getElem (by omega)
    have gd : A.getD t [] = A[t]'(by omega) := by rw [List.getD_eq_getElem?_getD, hr]; rfl
    have hrL := hA _ (List.getElem_mem (show t < A.length by omega))
    show Ltr p n (addv p (lsum p n A x t) (at0 x t) (A.getD t [])) ∧ Cg p (at0 (addv p (lsum p n A x t) (at0 x t) (A.getD t [])) k) (dotn t x (colm A k) + at0 x t * at0 (colm A k) t)
    rw [gd]
    refine ⟨addv_ltr hp i1.1 hrL.1, ?_⟩
    rw [addv_at i1.1 hrL.1 hk, colm_at hr]
    exact (Cg.fm _).trans (i2.add Cg.rfl')
theorem lsum_ltr {p : Int} {n : Nat} {A : List (List Int)} {x : List Int} (hp : 0 < p) (hA : ∀ r ∈ A, Ltr p n r) : ∀ t, t ≤ A.length → Ltr p n (lsum p n A x t)
  | 0, _ => zer_ltr hp
  | t + 1, ht => by
    have hr : A[t]? = some (A[t]'(by omega)) := List.getElem?_eq_getElem (by omega)
    have gd : A.getD t [] = A[t]'(by omega) := by rw [List.getD_eq_getElem?_getD, hr]; rfl
    show Ltr p n (addv p (lsum p n A x t) (at0 x t) (A.getD t []))
    rw [gd]
    exact addv_ltr hp (lsum_ltr hp hA t (by omega)).1 (hA _ (List.getElem_mem (show t < A.length by omega))).1
theorem lsum_span {p : Int} {n : Nat} {A : List (List Int)} {x : List Int} (hA : ∀ r ∈ A, Ltr p n r) : ∀ t, t ≤ A.length → Span p n A (lsum p n A x t)
  | 0, _ => span_lin.1
  | t + 1, ht => by
    have hr : A[t]? = some (A[t]'(by omega)) := List.getElem?_eq_getElem (by omega)
    have gd : A.getD t [] = A[t]'(by omega) := by rw [List.getD_eq_getElem?_getD, hr]; rfl
    show Span p n A (addv p (lsum p n A x t) (at0 x t) (A.getD t []))
    rw [gd]
    exact span_lin.2 _ _ _ (lsum_span hA t (by omega)) (span_mem (List.getElem_mem (show t < A.length by omega)))
theorem lsum_eq {p : Int} {n : Nat} {A : List (List Int)} {b x : List Int} (hp : 0 < p) (hA : ∀ r ∈ A, Ltr p n r) (hb : Ltr p n b) (h : Slv p n A b x) : lsum p n A x A.length = b := by
  have l := lsum_ltr (x := x) hp hA A.length (Nat.le_refl _)
  exact row_ext l.1 hb.1 fun k hk => Cg.eq ((lsum_at hp hA hk A.length (Nat.le_refl _)).2.trans (h k hk)) (l.bd hk) (hb.bd hk)
/-- not spanned: an equation 0 = 1 -/
theorem cons_not {p : Int} {n : Nat} {A : List (List Int)} {b : List Int} {pv : List Nat} (hp : p ∈ primes) (hA : ∀ r ∈ A, Ltr p n r) (hb : Ltr p n b) (R : Rr p (A.length + 1) (red p (eqs A b n)) pv) (h : ¬ Span p n A b) : A.length ∈ pv := by
  by_cases hm : A.length ∈ pv
  · exact hm
  exfalso
  have p0 := prime_pos hp
  -- the told solution is there
  have lt : ∀ (l c : Nat), pv[l]? = some c → c < A.length := fun l c h => by
    have h2 := R.piv.plt c (List.mem_of_getElem? h)
    by_cases e : c = A.length
    · exact absurd (e ▸ List.mem_of_getElem? h) hm
    · omega
  have ex : ∀ t, t ≤ pv.length → ∃ x, SetP (zer A.length) pv (fun l => at0 ((red p (eqs A b n)).getD l []) A.length) t x := by
    intro t
    induction t with
    | zero => exact fun _ => ⟨_, setP_zero⟩
    | succ t ih =>
      intro ht
      obtain ⟨x, hx⟩ := ih (by omega)
      have hc : pv[t]? = some (pv[t]'(by omega)) := List.getElem?_eq_getElem (by omega)
      exact ⟨_, setP_step R.ah.inc hx hc (by rw [zer_len]; exact lt t _ hc)⟩
  obtain ⟨x, hx⟩ := ex pv.length (Nat.le_refl _)
  rw [R.piv.len] at hx
  have s := sol_slv hp hA hb R hm hx
  exact h (by rw [← lsum_eq p0 hA hb s.1]; exact lsum_span hA _ (Nat.le_refl _))
end WU

set_option maxRecDepth 100000
set_option maxHeartbeats 4000000
namespace WU
open PySem PySem.Spec PyProof.Rows L2
/-- the places that are no leads -/
def free (n : Nat) (pv : List Nat) : List Nat := (List.range n).filter fun k => decide (k ∉ pv)
theorem free_mem {n : Nat} {pv : List Nat} {k : Nat} : k ∈ free n pv ↔ k < n ∧ k ∉ pv := by
  unfold free
  rw [List.mem_filter, List.mem_range]
  constructor
  · rintro ⟨a, b⟩
    exact ⟨a, of_decide_eq_true b⟩
  · rintro ⟨a, b⟩
    exact ⟨a, decide_eq_true b⟩
theorem inc_of_pairwise : ∀ {l : List Nat}, l.Pairwise (· < ·) → Inc l
  | [], _ => fun i m c d hi => by cases hi
  | a :: l, h => by
    rw [List.pairwise_cons] at h
    intro i m c d hi hm him
    cases m with
    | zero => omega
    | succ m =>
      cases i with
      | zero =>
        cases hi
        exact h.1 d (List.mem_of_getElem? (show l[m]? = some d from hm))
      | succ i => exact inc_of_pairwise h.2 i m c d hi hm (by omega)
theorem inc_filter {q : Nat → Bool} {n : Nat} : Inc ((List.range n).filter q) := inc_of_pairwise (List.Pairwise.filter q List.pairwise_lt_range)
theorem inc_nodup {l : List Nat} (h : Inc l) {i m c : Nat} (hi : l[i]? = some c) (hm : l[m]? = some c) : i = m := by
  rcases Nat.lt_trichotomy i m with e | e | e
  · exact absurd (h i m c c hi hm e) (by omega)
  · exact e
  · exact absurd (h m i c c hm hi e) (by omega)
theorem free_len {n : Nat} {pv : List Nat} (hi : Inc pv) (hl : ∀ c ∈ pv, c < n) : (free n pv).length + pv.length = n := by
  have e : pv = (List.range n).filter fun k => decide (k ∈ pv) := by
    have h1 := sub_inc (l := pv) (m := (List.range n).filter fun k => decide (k ∈ pv)) hi inc_filter fun x hx => List.mem_filter.mpr ⟨List.mem_range.mpr (hl x hx), decide_eq_true hx⟩
    have h2 := sub_inc (l := (List.range n).filter fun k => decide (k ∈ pv)) (m := pv) inc_filter hi fun x hx => of_decide_eq_true (List.mem_filter.mp hx).2
    exact h1.2 (by omega)
  have h3 : ∀ l : List Nat, (l.filter fun k => decide (k ∉ pv)).length + (l.filter fun k => decide (k ∈ pv)).length = l.length := by
    intro l
    induction l with
    | nil => rfl
    | cons a l ih =>
      rw [List.filter_cons, List.filter_cons]
      by_cases q : a ∈ pv
      · rw [if_neg (by simpa using q), if_pos (by simpa using q), List.length_cons, List.length_cons]
        omega
      · rw [if_pos (by simpa using q), if_neg (by simpa using q), List.length_cons, List.length_cons]
        omega
  have h4 := h3 (List.range n)
  rw [← e, List.length_range] at h4
  exact h4
/-- as many as the rank, where each has its own place -/
theorem piv_span {p : Int} {n : Nat} {rs : List (List Int)} {pv : List Nat} (hp : 0 < p) (P : Piv p n rs pv) {v : List Int} : Span p n rs v ↔ v ∈ (allc p.toNat rs.length).map (cmb p n rs) := by
  have ep : ((p.toNat : Nat) : Int) = p := by omega
  rw [List.mem_map]
  constructor
  · intro h
    have sv := sv_span hp P h
    refine ⟨pvs pv v, allc_mem.mpr ⟨by unfold pvs; rw [List.length_map, P.len], fun c hc => ?_⟩, sv_back hp P sv⟩
    unfold pvs at hc
    obtain ⟨d, hd, rfl⟩ := List.mem_map.mp hc
    rw [ep]
    exact sv.1.bd (P.plt d hd)
  · rintro ⟨cs, _, rfl⟩
    exact cmb_span fun r hr => span_mem hr
theorem piv_nodup {p : Int} {n : Nat} {rs : List (List Int)} {pv : List Nat} (hp : 0 < p) (P : Piv p n rs pv) : ((allc p.toNat rs.length).map (cmb p n rs)).Nodup := by
  have ep : ((p.toNat : Nat) : Int) = p := by omega
  refine nodup_map' (fun a ha b hb e => ?_) (allc_nodup _)
  obtain ⟨a1, a2⟩ := allc_mem.mp ha
  obtain ⟨b1, b2⟩ := allc_mem.mp hb
  rw [ep] at a2 b2
  rw [← sv_of hp P a1 a2, ← sv_of hp P b1 b2, e]
theorem red_len {p : Int} {n : Nat} {rs : List (List Int)} {pv : List Nat} (hp : p ∈ primes) (P : Piv p n rs pv) : (red p rs).length = rs.length := by
  have p0 := prime_pos hp
  have p2 := fld_le hp
  obtain ⟨pv2, R, a1, a2⟩ := red_rr hp P.ltr
  have := nodup_len (piv_nodup p0 R.piv) (piv_nodup p0 P) fun v => by
    rw [← piv_span p0 R.piv, ← piv_span p0 P]
    exact ⟨fun h => span_sub a1 h, fun h => span_sub a2 h⟩
  rw [List.length_map, List.length_map, allc_len, allc_len] at this
  rcases Nat.lt_trichotomy (red p rs).length rs.length with e | e | e
  · exact absurd this (Nat.ne_of_lt (Nat.pow_lt_pow_right (by omega) e))
  · exact e
  · exact absurd this (Nat.ne_of_gt (Nat.pow_lt_pow_right (by omega) e))
/-- one row that all others are 0 with -/
def zval (p : Int) (L : List (List Int)) (f l : Nat) : Int := (-(at0 (L.getD l []) f)).fmod p
def ZR (p : Int) (n : Nat) (L : List (List Int)) (pv : List Nat) (f : Nat) (z : List Int) : Prop := SetP (unt n f) pv (zval p L f) L.length z
theorem zr_at {p : Int} {n f : Nat} {L : List (List Int)} {pv : List Nat} {z : List Int} (R : Rr p n L pv) (hf : f ∈ free n pv) (h : ZR p n L pv f z) : z.length = n ∧ (∀ k, k < n → k ∉ pv → at0 z k = if k = f then 1 else 0) ∧ ∀ l c, pv[l]? = some c → at0 z c = zval p L f l := by
  obtain ⟨f1, f2⟩ := free_mem.mp hf
  refine ⟨by rw [h.len, unt_len], fun k hk hn => ?_, fun l c hc => ?_⟩
  · rw [h.old k fun l _ e => hn (List.mem_of_getElem? e), unt_at f1]
  · refine h.put l c ?_ hc
    rw [← R.piv.len]
    exact (List.getElem?_eq_some_iff.mp hc).1
theorem zr_ltr {p : Int} {n f : Nat} {L : List (List Int)} {pv : List Nat} {z : List Int} (hp : p ∈ primes) (R : Rr p n L pv) (hf : f ∈ free n pv) (h : ZR p n L pv f z) : Ltr p n z := by
  obtain ⟨a, b, c⟩ := zr_at R hf h
  have p2 := fld_le hp
  refine ltr_of a fun k hk => ?_
  by_cases q : k ∈ pv
  · obtain ⟨l, hl⟩ := List.getElem?_of_mem q
    rw [c l k hl]
    exact fm_bd _ (by omega)
  · rw [b k hk q]
    split <;> omega
theorem zr_ker {p : Int} {n f : Nat} {rows : List (List Int)} {pv : List Nat} {z : List Int} (hp : p ∈ primes) (hA : ∀ r ∈ rows, Ltr p n r) (R : Rr p n (red p rows) pv) (hf : f ∈ free n pv) (h : ZR p n (red p rows) pv f z) : ∀ u ∈ rows, Cg p (dotn n z u) 0 := by
  have p0 := prime_pos hp
  obtain ⟨a, b, c⟩ := zr_at R hf h
  obtain ⟨f1, f2⟩ := free_mem.mp hf
  obtain ⟨pv', R', a1, a2⟩ := red_rr hp hA
  have key : ∀ v ∈ red p rows, Ltr p n v ∧ Cg p (dotn n z v) 0 := by
    intro v hv
    refine ⟨R.piv.ltr v hv, ?_⟩
    obtain ⟨i, hi⟩ := List.getElem?_of_mem hv
    have hil := (List.getElem?_eq_some_iff.mp hi).1
    obtain ⟨d, hd⟩ : ∃ d, pv[i]? = some d := ⟨_, List.getElem?_eq_getElem (by rw [R.piv.len]; exact hil)⟩
    have hdn := R.piv.plt d (List.mem_of_getElem? hd)
    have gd : (red p rows).getD i [] = v := by rw [List.getD_eq_getElem?_getD, hi]; rfl
    have zd : at0 z d = zval p (red p rows) f i := c i d hd
    rw [dotn_two (c := f) (d := d) (a := at0 v f) (b := zval p (red p rows) f i), if_pos f1, if_pos hdn]
    · unfold zval
      rw [gd]
      have := (Cg.rfl' (p := p) (a := at0 v f)).add (Cg.fm (p := p) (-(at0 v f)))
      rw [show at0 v f + -(at0 v f) = 0 by omega] at this
      exact this
    · intro k hk
      by_cases q : k ∈ pv
      · obtain ⟨l, hl⟩ := List.getElem?_of_mem q
        have nf : ¬ k = f := fun e => f2 (e ▸ q)
        rw [if_neg nf, R.piv.one i l v k hi hl]
        by_cases e : i = l
        · subst e
          rw [hd] at hl
          have ek := Option.some.inj hl
          rw [if_pos rfl, if_pos ek.symm, ← ek, zd]
          omega
        · rw [if_neg e, if_neg (fun z2 => e (by rw [z2] at hl; exact inc_nodup R.ah.inc hd hl)), Int.mul_zero]
          rfl
      · have nd : ¬ k = d := fun e => q (e ▸ List.mem_of_getElem? hd)
        rw [b k hk q, if_neg nd]
        by_cases e : k = f
        · rw [if_pos e, if_pos e, e]
          omega
        · rw [if_neg e, if_neg e]
          omega
  intro u hu
  exact ((a2 u hu) _ (ker_lin (x := z) p0) key).2
/-- the rows for all free places -/
theorem zr_piv {p : Int} {n : Nat} {L Z : List (List Int)} {pv : List Nat} (hp : p ∈ primes) (R : Rr p n L pv) (hl : Z.length = (free n pv).length) (h : ∀ (i : Nat) (f : Nat) (z : List Int), (free n pv)[i]? = some f → Z[i]? = some z → ZR p n L pv f z) : Piv p n Z (free n pv) := by
  have ofZ : ∀ (i : Nat) z, Z[i]? = some z → ∃ f, (free n pv)[i]? = some f ∧ f ∈ free n pv ∧ ZR p n L pv f z := fun i z hz => by
    have hi := (List.getElem?_eq_some_iff.mp hz).1
    have hf : (free n pv)[i]? = some (free n pv)[i] := List.getElem?_eq_getElem (by omega)
    exact ⟨_, hf, List.mem_of_getElem? hf, h i _ z hf hz⟩
  refine ⟨fun z hz => ?_, hl.symm, fun c hc => (free_mem.mp hc).1, fun i l z c hi hc => ?_⟩
  · obtain ⟨i, hi⟩ := List.getElem?_of_mem hz
    obtain ⟨f, hf, hm, hz2⟩ := ofZ i z hi
    exact zr_ltr hp R hm hz2
  · obtain ⟨f, hf, hm, hz2⟩ := ofZ i z hi
    obtain ⟨c1, c2⟩ := free_mem.mp (List.mem_of_getElem? hc)
    rw [(zr_at R hm hz2).2.1 c c1 c2]
    have inc : Inc (free n pv) := inc_filter
    by_cases e : i = l
    · subst e
      rw [hf] at hc
      rw [if_pos rfl, if_pos (Option.some.inj hc).symm]
    · rw [if_neg e, if_neg (fun q => e (inc_nodup inc hf (by rw [← q]; exact hc)))]
/-- what zero_rows tells -/
theorem zero_ok {p : Int} {n : Nat} {rows Z : List (List Int)} {pv : List Nat} (hp : p ∈ primes) (hA : ∀ r ∈ rows, Ltr p n r) (R : Rr p n (red p rows) pv) (hl : Z.length = (free n pv).length) (h : ∀ (i : Nat) (f : Nat) (z : List Int), (free n pv)[i]? = some f → Z[i]? = some z → ZR p n (red p rows) pv f z) :
    (∀ z ∈ Z, Ltr p n z) ∧ (∀ r ∈ red p Z, Ltr p n r) ∧ red p (red p Z) = red p Z ∧ (∀ r ∈ red p Z, ∀ u ∈ rows, Cg p (dotn n r u) 0) ∧ (red p Z).length + (red p rows).length = n := by
  have p0 := prime_pos hp
  have P := zr_piv hp R hl h
  obtain ⟨pv2, R2, a1, a2⟩ := red_rr hp P.ltr
  refine ⟨P.ltr, R2.piv.ltr, red_red hp P.ltr, fun r hr u hu => ?_, ?_⟩
  · have := (a1 r hr) _ (ker_lin (x := u) p0) fun z hz => ?_
    · rw [dotn_comm]
      exact this.2
    · obtain ⟨i, hi⟩ := List.getElem?_of_mem hz
      have hil := (List.getElem?_eq_some_iff.mp hi).1
      have hf : (free n pv)[i]? = some (free n pv)[i] := List.getElem?_eq_getElem (by omega)
      refine ⟨P.ltr z hz, ?_⟩
      rw [dotn_comm]
      exact zr_ker hp hA R (List.mem_of_getElem? hf) (h i _ z hf hi) u hu
  · rw [red_len hp P, hl, ← R.piv.len]
    exact free_len R.ah.inc R.piv.plt
end WU

set_option maxRecDepth 100000
set_option maxHeartbeats 8000000
namespace WU
open PySem PySem.Spec PyProof.Rows L2
/-! ### t.index(z) of ints -/
theorem flat_ints (ys : List Int) : (ys.map V.int).all flatV = true := by
  rw [List.all_map]
  exact List.all_eq_true.mpr fun _ _ => rfl
def rIxI (K : PySem.W.Frag) : V → List V → Hp → VK → Prop := fun x xs H Q => ∃ p, ∃ ys : List Int, ∃ z j, x = .ref p ∧ xs = [.int z] ∧ SqT K H p (ys.map V.int) ∧ ys[j]? = some z ∧ (∀ m, m < j → ys[m]? ≠ some z) ∧ Q (.int (j : Nat)) H
section
variable {X : Cx}
/-- what stands at a place of a tuple of ints -/
theorem int_item {ys : List Int} {its : List Value} (r : Vals (ys.map V.int) its) {k : Nat} (hk : k < its.toArray.size) : ∃ y tk, ys[k]? = some y ∧ its.toArray[k] = Value.int y tk := by
  have lk : k < its.length := by simpa using hk
  have ly : k < ys.length := by
    have := r.length
    rw [List.length_map] at this
    omega
  obtain ⟨v, hv, tk, ev⟩ := r.get (i := k) (x := .int ys[k]) (by rw [List.getElem?_map, List.getElem?_eq_getElem ly]; rfl)
  refine ⟨_, tk, List.getElem?_eq_getElem ly, ?_⟩
  rw [List.getElem?_eq_getElem lk] at hv
  rw [List.getElem_toArray, Option.some.inj hv, ← ev]
theorem mt_tupIx : MtR X "tuple.index" (rIxI X.K) := by
  intro pn st sg HH self args sv avs QQ inv rself rargs ⟨c, ys, z, j, e1, e2, hseq, hat, hfirst, hQ⟩
  subst e1 e2
  cases rself
  obtain ⟨_, rfl, tk, rfl⟩ := vals1 rargs
  obtain ⟨its, rel, ⟨⟨oc, od, ot, osl⟩, hobj, hcls, num, hdata⟩, _⟩ := inv.tuple hseq
  simp only at hcls hdata
  subst hcls hdata
  have lj : j < its.toArray.size := by
    have h1 := (List.getElem?_eq_some_iff.mp hat).1
    have h2 := rel.length
    rw [List.length_map] at h2
    rw [List.size_toArray]
    omega
  have yes : eqU (.int z) its.toArray[j] = true := by
    obtain ⟨y, t2, hy, ey⟩ := int_item rel lj
    cases hat.symm.trans hy
    rw [ey]
    exact (show (z == z) = true from beq_self_eq_true z)
  have no : ∀ k (hk : k < its.toArray.size), k < j → eqU (.int z) its.toArray[k] = false := fun k hk hkj => by
    obtain ⟨y, t2, hy, ey⟩ := int_item rel hk
    rw [ey]
    refine beq_eq_false_iff_ne.mpr (fun eq => hfirst k hkj ?_)
    rw [hy]
    exact congrArg some eq
  refine call_meets PySem.F.slot_tuple_index ⟨_, hobj, rfl⟩ PySem.F.entry_tuple_index (PySem.F.args_tuple_index_2 _ _) (TI.tuple_indexAt c its.toArray num od osl _ (eqU (.int z)) j lj yes no) ⟨hobj, ?_, ⟨.int (j : Nat), HH, inv.tok _, ⟨_, rfl⟩, hQ⟩⟩
  exact fun it hit => mem_eqAt (x := .int z) ⟨tk, rfl⟩ rfl rel (flat_ints ys) it (by simpa using hit)
theorem mt_tupIxK {K : PySem.W.Frag} (hK : X.K = K := by rfl) : MtR X "tuple.index" (rIxI K) := hK ▸ mt_tupIx
end
/-! ### zip of a tuple and a list -/
def ItzM (K : PySem.W.Frag) (a b : Addr) : It :=
  ⟨fun i H => ∃ (xs ys : List V) (x y : V), SqT K H a xs ∧ SqL K H b ys ∧ xs[i]? = some x ∧ ys[i]? = some y,
    fun i H v H' => ∃ T x y, v = .ref T ∧ H T = none ∧ H' = upd H T (.tup [x, y]) ∧ (∀ xs, SqT K H a xs → xs[i]? = some x) ∧ ∀ ys, SqL K H b ys → ys[i]? = some y,
    fun i H => ∃ xs ys : List V, SqT K H a xs ∧ SqL K H b ys ∧ i ≤ xs.length ∧ i ≤ ys.length ∧ (i = xs.length ∨ i = ys.length)⟩
theorem not_two {x y z : Addr} (h1 : x ≠ y) (h2 : x ≠ z) : x ∉ [y, z] := fun h => by
  rw [List.mem_cons, List.mem_singleton] at h
  exact h.elim h1 h2
theorem zsep {z TI TO i1 i2 a b : Addr} (D : ZipApart z TI TO i1 i2 a b) : ZipSep2 z TI TO i1 i2 [i1, a] [i2, b] where
  TIz := D.TIz
  TOz := D.TOz
  TITO := D.TITO
  TIi1 := D.TIi1
  TIi2 := D.TIi2
  mem1 := List.mem_cons_self
  mem2 := List.mem_cons_self
  zf1 := not_two D.i1z.symm D.l1z.symm
  zf2 := not_two D.i2z.symm D.l2z.symm
  Tf1 := not_two D.TOi1 D.l1TO.symm
  Tf2 := not_two D.TOi2 D.l2TO.symm
  sep1_2 := not_two D.i12 D.l2i1.symm
  sep2_1 := not_two D.i12.symm D.l1i2.symm
/-- how the zip of a tuple and a list stands ahead of its k-th turn -/
structure ZSt (z TI TO i1 i2 a b : Addr) (k : Nat) (hp : Heap) : Prop where
  zip : IsZip hp z TI TO .none
  its : IsPair hp TI (.ref i1) (.ref i2)
  out : ∃ x y, IsPair hp TO x y
  fst : hp.IsTupleIter i1 a k
  snd : hp.IsListIter i2 b k
theorem five {z TI TO i1 i2 c : Addr} (h : c ∈ [z, TI, TO, i1, i2]) : c = z ∨ c = TI ∨ c = TO ∨ c = i1 ∨ c = i2 := by
  simpa only [List.mem_cons, List.not_mem_nil, or_false] using h
theorem ZSt.lt {z TI TO i1 i2 a b : Addr} {k : Nat} {hp : Heap} (S : ZSt z TI TO i1 i2 a b k hp) {c : Addr} (h : c ∈ [z, TI, TO, i1, i2]) : c < hp.objs.size := by
  obtain ⟨_, _, ho⟩ := S.out
  obtain ⟨_, h4, _⟩ := S.fst
  obtain ⟨_, h5, _⟩ := S.snd
  rcases five h with q | q | q | q | q <;> rw [q]
  · exact Heap.lt_size S.zip
  · exact Heap.lt_size S.its
  · exact Heap.lt_size ho
  · exact Heap.lt_size h4
  · exact Heap.lt_size h5
theorem turn_zipM {P : Program} {w : World} {K : PySem.W.Frag} {elts : List Expr} {kk : Nat} {tpos : Pos} {a b z TI TO i1 i2 : Addr} (D : ZipApart z TI TO i1 i2 a b) : Turn P w K (.Tuple elts kk tpos) (ItzM K a b) [z, TI, TO, i1, i2] z (ZSt z TI TO i1 i2 a b) where
  mem := List.mem_cons_self
  obj := fun k hp S c hc => by
    obtain ⟨_, _, ho⟩ := S.out
    obtain ⟨o4, h4, _, d4⟩ := S.fst
    obtain ⟨o5, h5, _, d5⟩ := S.snd
    rcases five hc with q | q | q | q | q <;> subst q
    · exact ⟨_, S.zip, fun v => by intro e; cases e⟩
    · exact ⟨_, S.its, fun v => by intro e; cases e⟩
    · exact ⟨_, ho, fun v => by intro e; cases e⟩
    · exact ⟨o4, h4, fun v e => by rw [d4] at e; cases e⟩
    · exact ⟨o5, h5, fun v e => by rw [d5] at e; cases e⟩
  keep := fun k hp hp' S same => by
    obtain ⟨x, y, ho⟩ := S.out
    exact ⟨same _ List.mem_cons_self _ S.zip, same TI (by simp) _ S.its, ⟨x, y, same TO (by simp) _ ho⟩, S.fst.at fun ob => same i1 (by simp) ob, S.snd.at fun ob => same i2 (by simp) ob⟩
  item := by
    intro X eP ew eK calm k pn st sg HH EE inv fp S go
    subst eP ew eK
    obtain ⟨xs, ys, x, y, sx, sy, gx, gy⟩ := go
    obtain ⟨us, rx, px, _⟩ := inv.tuple sx
    obtain ⟨vs, ry, py, _⟩ := inv.list sy
    obtain ⟨ux, hux, rux⟩ := rx.get gx
    obtain ⟨uy, huy, ruy⟩ := ry.get gy
    obtain ⟨_, _, ho⟩ := S.out
    have nh := inv.ok.hd calm
    have D1 := Draws.tuple (prog := X.prog) (w := X.w) (A := X.A.in1) nh i1 a D.l1i1 us.toArray
    have D2 := Draws.list (prog := X.prog) (w := X.w) (A := X.A.in1) nh i2 b D.l2i2 vs.toArray
    have lx : k < us.toArray.size := by rw [List.size_toArray]; exact (List.getElem?_eq_some_iff.mp hux).1
    have ly : k < vs.toArray.size := by rw [List.size_toArray]; exact (List.getElem?_eq_some_iff.mp huy).1
    have zl := S.lt (c := z) List.mem_cons_self
    refine wpAny_pyNext_zipD2_item (zsep D) D1 D2 S.zip S.its ho ⟨S.fst, px⟩ ⟨S.snd, py.isList⟩ lx ly ?_
    intro v1 v2 h1 tk q1 q2 z1 o1 f1 g1 new1 _ rest
    have q1' : us[k]? = some v1 := by simpa using q1
    have q2' : vs[k]? = some v2 := by simpa using q2
    cases hux.symm.trans q1'
    cases huy.symm.trans q2'
    refine ⟨_, rfl, wpAny_letOwnedTupleGo_zip (s := { st with heap := h1, toks := tk }) z1 fun h2 z2 but => ?_⟩
    have tup2 : h2.get? st.heap.objs.size = some { cls := .type "tuple", data := .seq #[ux, uy] } := (but.2 _ (Nat.ne_of_gt zl)).trans new1
    have out : ∀ c o, c ∉ [z, TI, TO, i1, i2] → st.heap.get? c = some o → h2.get? c = some o := fun c o nc ec => by
      have nz : c ≠ z := fun q => nc (by rw [q]; simp)
      have nO : c ≠ TO := fun q => nc (by rw [q]; simp)
      have n1 : c ≠ i1 := fun q => nc (by rw [q]; simp)
      have n2 : c ≠ i2 := fun q => nc (by rw [q]; simp)
      exact (but.2 c nz).trans (rest c o nz nO n1 n2 ec)
    have J : Inv X pn sg (upd HH st.heap.objs.size (.tup [x, y])) { st with heap := h2, toks := tk } :=
      inv.turnedNew (t' := tk) (ch := [z, TI, TO, i1, i2]) out fp (Nat.le_refl _) ⟨by show 2 ≤ sizeLine; decide, [ux, uy], .cons rux (.cons ruy .nil), ⟨_, tup2, rfl, _, rfl⟩⟩
    refine ⟨.ref st.heap.objs.size, _, J, rfl, ⟨_, x, y, rfl, inv.hok.fresh (Nat.le_refl _), rfl, fun l hl => ?_, fun l hl => ?_⟩, ⟨z2, ?_, ⟨ux, uy, ?_⟩, ?_, ?_⟩, fun c hc => ?_⟩
    · rw [inv.tuple_inj hl sx]
      exact gx
    · rw [inv.list_inj hl sy]
      exact gy
    · have e := rest TI _ D.TIz D.TITO D.TIi1 D.TIi2 S.its
      exact (but.2 TI D.TIz).trans e
    · exact (but.2 TO D.TOz).trans o1
    · exact f1.1.at fun ob eo => (but.2 i1 D.i1z).trans eo
    · exact g1.1.at fun ob eo => (but.2 i2 D.i2z).trans eo
    · rw [upd_ne (Nat.ne_of_lt (S.lt hc))]
      exact (fp c hc).1
  done := by
    intro X eP ew eK calm k pn st sg HH EE inv fp S go
    subst eP ew eK
    obtain ⟨xs, ys, sx, sy, l1, l2, fin⟩ := go
    obtain ⟨us, rx, px, _⟩ := inv.tuple sx
    obtain ⟨vs, ry, py, _⟩ := inv.list sy
    obtain ⟨_, _, ho⟩ := S.out
    have nh := inv.ok.hd calm
    have D1 := Draws.tuple (prog := X.prog) (w := X.w) (A := X.A.in1) nh i1 a D.l1i1 us.toArray
    have D2 := Draws.list (prog := X.prog) (w := X.w) (A := X.A.in1) nh i2 b D.l2i2 vs.toArray
    have m1 : us.toArray.size = xs.length := by rw [List.size_toArray, ← rx.length]
    have m2 : vs.toArray.size = ys.length := by rw [List.size_toArray, ← ry.length]
    refine wpAny_pyNext_zipD2_end (zsep D) D1 D2 S.zip S.its ho ⟨S.fst, px⟩ ⟨S.snd, py.isList⟩ (by omega) (by omega) (by omega) fun h1 tk rest => ⟨rfl, ?_⟩
    refine inv.turnedL (t' := tk) (ch := [z, TI, TO, i1, i2]) (fun c o nc ec => ?_) fp
    refine rest c o (fun q => nc ?_) (fun q => nc ?_) (fun q => nc ?_) (fun q => nc ?_) ec <;> rw [q] <;> simp
  self := fun _ _ _ _ _ S go => wpAny_pyIter_zip S.zip go
def iZipM (K : PySem.W.Frag) (ta : TA) : TI := fun σ H R => ta σ H fun vs H1 => ∃ a b xs ys, vs = [.ref a, .ref b] ∧ ((SqT K H1 a xs ∧ SqL K H1 b ys ∧ R (ItzM K a b) H1) ∨ (SqT K H1 a xs ∧ SqT K H1 b ys ∧ R (RZ.ItzT K a b) H1))
theorem pi_zipM {X : Cx} {e e2 : Expr} {ta : TA} {p pos tpos : Pos} {elts : List Expr} {kk : Nat} (hg : Gl X "zip") (hm : X.mg "zip" = none) (ha : PA X [e, e2] ta) (hs : starEach [e, e2] X.env = (false, eval e X.env) :: starEach [e2] X.env := by rfl)
    (hpl : (backTo pos (starEach [e2] X.env)).any (·.1) = false := by rfl) : PI X (.Tuple elts kk tpos) (.Call (.Name "zip" p) [e, e2] [] pos) (iZipM X.K ta) := by
  constructor
  intro pn st sg HH R inv h
  have args := ha.run pos pn st sg HH _ inv h
  refine Call_ (ld_blt inv hg hm boot_zip (callWith_type1 (thn args fun us s1 ⟨ws, H1, J, rel, a, b, xs, ys, ew, q⟩ => ?_) hs hpl))
  subst ew
  obtain ⟨u1, u2, rfl, ra, rb⟩ := Vals.two rel
  cases ra
  cases rb
  have young : ∀ c ∈ [s1.heap.objs.size + 4, s1.heap.objs.size + 2, s1.heap.objs.size + 3, s1.heap.objs.size, s1.heap.objs.size + 1], FpOk X pn H1 c := fun c hc => by
    have up : (s1.heap.objs.size : Nat) ≤ c := by
      rcases five hc with q | q | q | q | q <;> rw [q]
      · exact Nat.le_add_right _ 4
      · exact Nat.le_add_right _ 2
      · exact Nat.le_add_right _ 3
      · exact Nat.le_refl _
      · exact Nat.le_add_right _ 1
    exact J.fpOk up (J.hok.fresh up)
  rcases q with ⟨sx, sy, q⟩ | ⟨sx, sy, q⟩
  · obtain ⟨vx, _, px, _⟩ := J.tuple sx
    obtain ⟨vy, _, py, _⟩ := J.list sy
    have la : a < s1.heap.objs.size := px.lt
    refine zip_begins2 (begins_tuple a vx.toArray) (begins_list b vy.toArray) px py.isList fun h' hz hI hO f g _ kept => wpAny_pyIter_zip hz ?_
    refine ⟨s1.heap.objs.size + 4, _, _, _, H1, rfl, J.kept (t' := s1.toks) kept, turn_zipM (PySem.W.ktu_apart s1.heap.objs.size a b la py.lt), ?_, young, q⟩
    exact ⟨hz, hI, ⟨_, _, hO⟩, ⟨_, f, rfl, rfl⟩, ⟨_, g, rfl, rfl⟩⟩
  · obtain ⟨vx, _, px, _⟩ := J.tuple sx
    obtain ⟨vy, _, py, _⟩ := J.tuple sy
    refine RZ.call_zipT (show s1.heap.IsTuple a vx.toArray from px) (show s1.heap.IsTuple b vy.toArray from py) fun h' hz hI hO f g _ kept => wpAny_pyIter_zip hz ?_
    exact ⟨s1.heap.objs.size + 4, _, _, _, H1, rfl, J.kept (t' := s1.toks) kept, RZ.turn_zipT (PySem.W.ktu_apart s1.heap.objs.size a b px.lt py.lt), ⟨hz, hI, ⟨_, _, hO⟩, f, g⟩, young, q⟩
theorem pi_zipMK {X : Cx} {K : PySem.W.Frag} {e e2 : Expr} {ta : TA} {p pos tpos : Pos} {elts : List Expr} {kk : Nat} (hg : Gl X "zip") (hm : X.mg "zip" = none) (ha : PA X [e, e2] ta)
    (hs : starEach [e, e2] X.env = (false, eval e X.env) :: starEach [e2] X.env := by rfl) (hpl : (backTo pos (starEach [e2] X.env)).any (·.1) = false := by rfl) (hK : X.K = K := by rfl) :
    PI X (.Tuple elts kk tpos) (.Call (.Name "zip" p) [e, e2] [] pos) (iZipM K ta) := hK ▸ pi_zipM hg hm ha hs hpl
theorem walk_zipM {K : PySem.W.Frag} {a b : Addr} {xs ys : List V} {n : Nat} (l1 : xs.length = n) (l2 : ys.length = n) : Walk (ItzM K a b) n (fun H => SqT K H a xs ∧ SqL K H b ys) (YPair (fun i => xs[i]?) (fun i => ys[i]?)) where
  goes := fun i _ hi ⟨sx, sy⟩ => ⟨xs, ys, xs[i]'(by omega), ys[i]'(by omega), sx, sy, List.getElem?_eq_getElem _, List.getElem?_eq_getElem _⟩
  stops := fun _ ⟨sx, sy⟩ => ⟨xs, ys, sx, sy, Nat.le_of_eq l1.symm, Nat.le_of_eq l2.symm, .inl l1.symm⟩
  yields := fun _ _ _ _ _ ⟨sx, sy⟩ ⟨T, x, y, e, new, eH, fx, fy⟩ => ⟨T, x, y, e, new, eH, fx xs sx, fy ys sy⟩
theorem rd_same {H H' : Hp} {c : Addr} {u : HO} (s : Same H H') (h : Rd H c u) : Rd H' c u := h.imp (s _ _) fun ⟨o, e⟩ => ⟨o, s _ _ e⟩
/-- a sequence that is there, of whichever kind -/
def SqO (H : Hp) (a : Addr) (xs : List V) : Prop := H a = some (.lst xs) ∨ Rd H a (.tup xs)
theorem SqO.same {H H' : Hp} {a : Addr} {xs : List V} (h : SqO H a xs) (s : Same H H') : SqO H' a xs := h.imp (s _ _) (rd_same s)
/-! ### tuples that are made new -/
def rTupN (K : PySem.W.Frag) : List V → Hp → VK → Prop := fun xs H Q => ∃ p ys, xs = [.ref p] ∧ SqL K H p ys ∧ ∀ l o, H l = none → o.dict = none → Q (.ref l) (upd H l (.frz o (.tup ys)))
section
variable {X : Cx}
theorem tup_new : CallR X (.type "tuple") (rTupN X.K) := by
  intro pn st sg HH args avs QQ inv rel ⟨c, ys, ea, hseq, hQ⟩
  subst ea
  obtain ⟨_, rfl, ra⟩ := vals1 rel
  cases ra
  obtain ⟨us, ru, pl, small⟩ := inv.list hseq
  refine call_tuple_list pl.isList ?_ (by have := ru.length; simp only [List.size_toArray]; omega)
  intro h1 kept
  have J := inv.kept (t' := st.toks) kept
  have ob : ObjOk X.prog X.w (upd HH h1.objs.size (.frz { cls := .type "tuple", data := .seq us.toArray } (.tup ys))) (h1.push { cls := .type "tuple", data := .seq us.toArray }) h1.objs.size (.frz { cls := .type "tuple", data := .seq us.toArray } (.tup ys)) :=
    ⟨Heap.get?_push_size _ rfl, small, us, ru, IsTup.new _ _⟩
  exact ⟨.ref h1.objs.size, _, J.laid (t' := st.toks) (fun c o ec => Heap.get?_push_of_some _ ec) (Nat.le_refl _) ob, rfl, hQ _ _ (J.hok.fresh (Nat.le_refl _)) rfl⟩
theorem tup_newK {K : PySem.W.Frag} (hK : X.K = K := by rfl) : CallR X (.type "tuple") (rTupN K) := hK ▸ tup_new
/-- o.m(..), o a tuple that was made new -/
def tBN (r : V → List V → Hp → VK → Prop) (to : TE) (t : TA) : TE := fun σ H Q => to σ H fun x H1 => (∃ c o xs, x = .ref c ∧ H1 c = some (.frz o (.tup xs)) ∧ o.dict = none) ∧ t σ H1 fun vs H2 => r x vs H2 Q
variable {o e : Expr} {es : List Expr} {to : TE} {t : TA} {name : Str} {apos cpos : Pos} {id : String} {r : V → List V → Hp → VK → Prop}
theorem pe_bmN (pa : PlainAttrs "tuple") (slot : Slot "tuple" name id) (hty : typeOf (.builtin id) = pure (.type "method_descriptor")) (hm : MtR X id r) (ho : PE X o to) (ha : PA X (e :: es) t)
    (hbase : attributeBase o name X.env (eval o X.env) = eval o X.env := by rfl) (hfew : ((backTo cpos (starEach (e :: es) X.env)).all (fun x => !x.1) && (backToKw cpos (keywordEach [] X.env)).all (fun x => x.1.isSome) && decide ((e :: es).length + ([] : List Keyword).length + (if ([] : List Keyword).isEmpty then 0 else 1) < 30)) = true := by rfl)
    (hline : (apos.endLine == cpos.line) = true := by rfl)
    (hs : starEach (e :: es) X.env = (false, eval e X.env) :: starEach es X.env := by rfl)
    (hplain : (backTo cpos (starEach es X.env)).any (·.1) = false := by rfl) : PE X (.Call (.Attribute o name apos) (e :: es) [] cpos) (tBN r to t) := by
  constructor
  intro pn st sg HH QQ inv h
  refine wpAny_Call_method_late hbase hfew hline rfl (thn (ho.run pn st sg HH _ inv h) ?_)
  rintro v s1 ⟨x, H1, J, rv, ⟨c, ob, xs, rfl, eo, ed⟩, q⟩
  cases rv
  obtain ⟨here, _, us, _, o2, ho2, hc2, _⟩ := (show ObjOk X.prog X.w H1 s1.heap c (.frz ob (.tup xs)) from J.hok c _ eo)
  refine ⟨"tuple", id, pa, slot, hty, ⟨o2, ho2, hc2⟩, (fun a ea => ?_), ?_⟩
  · cases ea
    exact ⟨ob, here, ed⟩
  have run := ha.run cpos pn s1 sg H1 _ J q
  rw [hs] at run ⊢
  refine Calls.callWith_builtin ?_ (Calls.evalArgs_plain ?_)
  · exact (Bool.false_or _).trans hplain
  · exact thn run fun us2 s2 ⟨ws, H2, J2, rel, q2⟩ => hm pn s2 sg H2 (.ref c) ws _ us2 QQ J2 rfl rel q2
end
end WU

set_option maxRecDepth 100000
set_option maxHeartbeats 8000000
namespace WU
open PySem PySem.Spec PyProof.Rows L2
/-! ### lists that are built turn by turn -/
theorem paired_mono {α β : Type} {F G : α → β → Prop} (f : ∀ a b, F a b → G a b) : ∀ {l : List α} {m : List β}, Paired F l m → Paired G l m
  | _, _, .nil => .nil
  | _, _, .cons h t => .cons (f _ _ h) (paired_mono f t)
theorem paired_len {α β : Type} {F : α → β → Prop} : ∀ {l : List α} {m : List β}, Paired F l m → l.length = m.length
  | _, _, .nil => rfl
  | _, _, .cons _ t => congrArg Nat.succ (paired_len t)
theorem paired_at {α β : Type} {F : α → β → Prop} : ∀ {l : List α} {m : List β} {i : Nat} {x : α}, Paired F l m → l[i]? = some x → ∃ y, m[i]? = some y ∧ F x y
  | _, _, _, _, .nil, e => by cases e
  | _, _, 0, _, .cons h _, e => by
    cases e
    exact ⟨_, rfl, h⟩
  | _, _, i + 1, _, .cons _ t, e => paired_at (i := i) t e
theorem paired_of {α β : Type} {F : α → β → Prop} : ∀ {l : List α} {m : List β} {i : Nat} {y : β}, Paired F l m → m[i]? = some y → ∃ x, l[i]? = some x ∧ F x y
  | _, _, _, _, .nil, e => by cases e
  | _, _, 0, _, .cons h _, e => by
    cases e
    exact ⟨_, rfl, h⟩
  | _, _, i + 1, _, .cons _ t, e => paired_of (i := i) t e
theorem paired_app {α β : Type} {F : α → β → Prop} : ∀ {l l' : List α} {m m' : List β}, Paired F l m → Paired F l' m' → Paired F (l ++ l') (m ++ m')
  | _, _, _, _, .nil, t => t
  | _, _, _, _, .cons h s, t => .cons h (paired_app s t)
theorem paired_take {α β : Type} {F : α → β → Prop} : ∀ {l : List α} {m : List β} (k : Nat), Paired F l m → Paired F (l.take k) (m.take k)
  | _, _, _, .nil => by rw [List.take_nil, List.take_nil]; exact .nil
  | _, _, 0, _ => .nil
  | _, _, k + 1, .cons h t => .cons h (paired_take k t)
theorem paired_drop {α β : Type} {F : α → β → Prop} : ∀ {l : List α} {m : List β} (k : Nat), Paired F l m → Paired F (l.drop k) (m.drop k)
  | _, _, _, .nil => by rw [List.drop_nil, List.drop_nil]; exact .nil
  | _, _, 0, h => h
  | _, _, k + 1, .cons _ t => paired_drop k t
/-- the relation stays where all but one other object stays -/
def Stab {α : Type} (F : Hp → V → α → Prop) : Prop := ∀ (D : Addr) (H H' : Hp) (y : V) (z : α), (∀ b o, b ≠ D → H b = some o → H' b = some o) → y ≠ .ref D → F H y z → F H' y z
theorem Stab.same {α : Type} {F : Hp → V → α → Prop} (st : Stab F) {H H' : Hp} {y : V} {z : α} (s : Same H H') {p : Addr} (n : y ≠ .ref p) (f : F H y z) : F H' y z := st p H H' y z (fun b o _ e => s b o e) n f
structure Bld {α : Type} (F : Hp → V → α → Prop) (H1 : Hp) (D : Addr) (zs : List α) (H : Hp) : Prop where
  same : Same H1 H
  ex : ∃ ys, H D = some (.lst ys) ∧ Paired (fun y z => F H y z ∧ y ≠ .ref D) ys zs
section
variable {α : Type} {F : Hp → V → α → Prop} {H1 H H' : Hp} {D : Addr} {zs : List α}
theorem Bld.start (hD : H1 D = none) : Bld F H1 D [] (upd H1 D (.lst [])) := ⟨same_new hD, [], upd_same, .nil⟩
theorem Bld.skip (b : Bld F H1 D zs H) (st : Stab F) (s : Same H H') : Bld F H1 D zs H' := by
  obtain ⟨s1, ys, e, p⟩ := b
  exact ⟨s1.trans s, ys, s _ _ e, paired_mono (fun y z q => ⟨st.same s q.2 q.1, q.2⟩) p⟩
theorem Bld.put {y : V} {z : α} (b : Bld F H1 D zs H) (st : Stab F) (hD : H1 D = none) (s : Same H H') (f : F H' y z) (ny : y ≠ .ref D) (hl : zs.length < sizeLine) :
    ∃ acc, H' D = some (.lst acc) ∧ acc.length < sizeLine ∧ Bld F H1 D (zs ++ [z]) (upd H' D (.lst (acc ++ [y]))) := by
  obtain ⟨s1, ys, e, p⟩ := b.skip st s
  refine ⟨ys, e, by rw [paired_len p]; exact hl, fun b o h => ?_, ys ++ [y], upd_same, ?_⟩
  · rw [upd_ne (ne_of_none h hD)]
    exact s1 _ _ h
  · have k : ∀ b o, b ≠ D → H' b = some o → upd H' D (.lst (ys ++ [y])) b = some o := fun b o n h => by rw [upd_ne n]; exact h
    exact paired_app (paired_mono (fun y z q => ⟨st D _ _ _ _ k q.2 q.1, q.2⟩) p) (.cons ⟨st D _ _ _ _ k ny f, ny⟩ .nil)
theorem Bld.fin (b : Bld F H1 D zs H) : Same H1 H ∧ ∃ ys, H D = some (.lst ys) ∧ Paired (F H) ys zs := by
  obtain ⟨s1, ys, e, p⟩ := b
  exact ⟨s1, ys, e, paired_mono (fun _ _ q => q.1) p⟩
end
/-- numbers as they are -/
def FI : Hp → V → Int → Prop := fun _ y z => y = .int z
theorem stab_FI : Stab FI := fun _ _ _ _ _ _ _ f => f
def FB : Hp → V → Bool → Prop := fun _ y z => y = .bl z
theorem stab_FB : Stab FB := fun _ _ _ _ _ _ _ f => f
theorem fi_map {H : Hp} : ∀ {ys : List V} {zs : List Int}, Paired (FI H) ys zs → ys = zs.map V.int
  | _, _, .nil => rfl
  | _, _, .cons h t => by
    rw [List.map_cons, fi_map t]
    congr 1
theorem fb_map {H : Hp} : ∀ {ys : List V} {zs : List Bool}, Paired (FB H) ys zs → ys = zs.map V.bl
  | _, _, .nil => rfl
  | _, _, .cons h t => by
    rw [List.map_cons, fb_map t]
    congr 1
/-- a row: a tuple of ints that is there -/
def FT : Hp → V → List Int → Prop := fun H y z => ∃ c, y = .ref c ∧ Rd H c (.tup (z.map V.int))
theorem sqT {K : PySem.W.Frag} {H : Hp} {c : Addr} {xs : List V} (h : Rd H c (.tup xs)) : SqT K H c xs := .inl h
theorem stab_FT : Stab FT := fun D H H' y z k n ⟨c, e, h⟩ => ⟨c, e, h.imp (k _ _ (fun q => n (by rw [e, q]))) fun ⟨o, h⟩ => ⟨o, k _ _ (fun q => n (by rw [e, q])) h⟩⟩
theorem FT.same {H H' : Hp} {y : V} {z : List Int} (h : FT H y z) (s : Same H H') : FT H' y z := by
  obtain ⟨c, e, h⟩ := h
  exact ⟨c, e, rd_same s h⟩
theorem rd_ne {H : Hp} {c D : Addr} {u : HO} (h : Rd H c u) (n : H D = none) : c ≠ D := by
  intro q
  subst q
  rcases h with h | ⟨o, h⟩ <;> rw [h] at n <;> cases n
theorem rd_neL {H : Hp} {c D : Addr} {xs ys : List V} (h : Rd H c (.tup ys)) (n : H D = some (.lst xs)) : c ≠ D := by
  intro q
  subst q
  rcases h with h | ⟨o, h⟩ <;> rw [h] at n <;> cases n
theorem FT.ne {H : Hp} {y : V} {z : List Int} {D : Addr} (h : FT H y z) (n : H D = none) : y ≠ .ref D := by
  obtain ⟨c, rfl, h⟩ := h
  exact fun q => rd_ne h n (V.ref.inj q)
theorem FT.neL {H : Hp} {y : V} {z : List Int} {D : Addr} {xs : List V} (h : FT H y z) (n : H D = some (.lst xs)) : y ≠ .ref D := by
  obtain ⟨c, rfl, h⟩ := h
  exact fun q => rd_neL h n (V.ref.inj q)
theorem FT.new {H : Hp} {p : Addr} {z : List Int} : FT (upd H p (.tup (z.map V.int))) (.ref p) z := ⟨p, rfl, .inl upd_same⟩
/-- a row that was made new: a tuple without a dict -/
def FN : Hp → V → List Int → Prop := fun H y z => ∃ c o, y = .ref c ∧ H c = some (.frz o (.tup (z.map V.int))) ∧ o.dict = none
theorem FN.ft {H : Hp} {y : V} {z : List Int} (h : FN H y z) : FT H y z := by
  obtain ⟨c, o, e, h, _⟩ := h
  exact ⟨c, e, .inr ⟨o, h⟩⟩
theorem stab_FN : Stab FN := fun D H H' y z k n ⟨c, o, e, h, d⟩ => ⟨c, o, e, k _ _ (fun q => n (by rw [e, q])) h, d⟩
theorem FN.same {H H' : Hp} {y : V} {z : List Int} (h : FN H y z) (s : Same H H') : FN H' y z := by
  obtain ⟨c, o, e, h, d⟩ := h
  exact ⟨c, o, e, s _ _ h, d⟩
theorem FN.new {H : Hp} {p : Addr} {o : Obj} {z : List Int} (d : o.dict = none) : FN (upd H p (.frz o (.tup (z.map V.int)))) (.ref p) z := ⟨p, o, rfl, upd_same, d⟩
/-- what is told of rows: as tuples, or as tuples that were made new -/
structure Good (F : Hp → V → List Int → Prop) : Prop where
  stab : Stab F
  same : ∀ {H H' y z}, F H y z → Same H H' → F H' y z
  ofN : ∀ {H y z}, FN H y z → F H y z
  toT : ∀ {H y z}, F H y z → FT H y z
theorem good_T : Good FT := ⟨stab_FT, FT.same, FN.ft, id⟩
theorem good_N : Good FN := ⟨stab_FN, FN.same, id, FN.ft⟩
/-- a tuple of rows -/
def MT (H : Hp) (v : V) (rows : List (List Int)) : Prop := ∃ a ts, v = .ref a ∧ H a = some (.tup ts) ∧ Paired (FT H) ts rows
theorem MT.same {H H' : Hp} {v : V} {rows : List (List Int)} (h : MT H v rows) (s : Same H H') : MT H' v rows := by
  obtain ⟨a, ts, e, h, p⟩ := h
  exact ⟨a, ts, e, s _ _ h, paired_mono (fun _ _ q => q.same s) p⟩
/-- a row as a plain tuple -/
def FQ : Hp → V → List Int → Prop := fun H y z => ∃ c, y = .ref c ∧ H c = some (.tup (z.map V.int))
theorem stab_FQ : Stab FQ := fun D H H' y z k n ⟨c, e, h⟩ => ⟨c, e, k _ _ (fun q => n (by rw [e, q])) h⟩
theorem FQ.same {H H' : Hp} {y : V} {z : List Int} (h : FQ H y z) (s : Same H H') : FQ H' y z := by
  obtain ⟨c, e, h⟩ := h
  exact ⟨c, e, s _ _ h⟩
theorem FQ.ft {H : Hp} {y : V} {z : List Int} (h : FQ H y z) : FT H y z := by
  obtain ⟨c, e, h⟩ := h
  exact ⟨c, e, .inl h⟩
theorem FQ.ne {H : Hp} {y : V} {z : List Int} {D : Addr} (h : FQ H y z) (n : H D = none) : y ≠ .ref D := h.ft.ne n
theorem FQ.neL {H : Hp} {y : V} {z : List Int} {D : Addr} {xs : List V} (h : FQ H y z) (n : H D = some (.lst xs)) : y ≠ .ref D := h.ft.neL n
theorem FQ.new {H : Hp} {p : Addr} {z : List Int} : FQ (upd H p (.tup (z.map V.int))) (.ref p) z := ⟨p, rfl, upd_same⟩
def MQ (H : Hp) (v : V) (rows : List (List Int)) : Prop := ∃ a ts, v = .ref a ∧ H a = some (.tup ts) ∧ Paired (FQ H) ts rows
theorem MQ.same {H H' : Hp} {v : V} {rows : List (List Int)} (h : MQ H v rows) (s : Same H H') : MQ H' v rows := by
  obtain ⟨a, ts, e, h, p⟩ := h
  exact ⟨a, ts, e, s _ _ h, paired_mono (fun _ _ q => q.same s) p⟩
theorem MQ.mt {H : Hp} {v : V} {rows : List (List Int)} (h : MQ H v rows) : MT H v rows := by
  obtain ⟨a, ts, e, h, p⟩ := h
  exact ⟨a, ts, e, h, paired_mono (fun _ _ q => q.ft) p⟩
/-- a tuple of rows that were made new -/
def MN (H : Hp) (v : V) (rows : List (List Int)) : Prop := ∃ a ts, v = .ref a ∧ H a = some (.tup ts) ∧ Paired (FN H) ts rows
theorem MN.same {H H' : Hp} {v : V} {rows : List (List Int)} (h : MN H v rows) (s : Same H H') : MN H' v rows := by
  obtain ⟨a, ts, e, h, p⟩ := h
  exact ⟨a, ts, e, s _ _ h, paired_mono (fun _ _ q => q.same s) p⟩
theorem MN.mt {H : Hp} {v : V} {rows : List (List Int)} (h : MN H v rows) : MT H v rows := by
  obtain ⟨a, ts, e, h, p⟩ := h
  exact ⟨a, ts, e, h, paired_mono (fun _ _ q => q.ft) p⟩
/-! ### as data -/
def rowP (r : List Int) : PyData := .tuple (r.map PyData.int)
def MD (rows : List (List Int)) : PyData := .tuple (rows.map rowP)
theorem FT.dp {K : PySem.W.Frag} {H : Hp} {y : V} {z : List Int} (h : FT H y z) : Dp K H y (rowP z) := by
  obtain ⟨c, rfl, h⟩ := h
  exact .tup (sqT h) (dps_ints z)
theorem fts_dp {K : PySem.W.Frag} {H : Hp} : ∀ {ys : List V} {zs : List (List Int)}, Paired (FT H) ys zs → DpAll K H ys (zs.map rowP)
  | _, _, .nil => .nil
  | _, _, .cons h t => .cons h.dp (fts_dp t)
theorem MT.dp {K : PySem.W.Frag} {H : Hp} {v : V} {rows : List (List Int)} (h : MT H v rows) : Dp K H v (MD rows) := by
  obtain ⟨a, ts, rfl, h, p⟩ := h
  exact .tup (SqT.of h) (fts_dp p)
def rowD (p n : Int) : PyData → Bool
  | .tuple ds => letsD p n (.tuple ds)
  | _ => false
def matD (p n : Int) : PyData → Bool
  | .tuple ds => ds.all (rowD p n)
  | _ => false
def membs : PyData → List PyData
  | .tuple ds => ds
  | .list ds => ds
  | _ => []
def widD : PyData → Int
  | .tuple (.tuple ds :: _) => ds.length
  | _ => 0
def smallM (d : PyData) : Prop := smallD d ∧ ∀ r ∈ membs d, smallD r
theorem row_lets {p : Int} {n : Nat} {r : List Int} : rowD p n (rowP r) = true ↔ Ltr p n r := by
  show (decide (((r.map PyData.int).length : Int) = (n : Int)) && (r.map PyData.int).all (belD p)) = true ↔ _
  rw [Bool.and_eq_true, List.length_map, List.all_map, List.all_eq_true]
  constructor
  · rintro ⟨h1, h2⟩
    refine ⟨by have := of_decide_eq_true h1; omega, fun i hi => ?_⟩
    have := h2 i hi
    have e : (decide (0 ≤ i) && decide (i < p)) = true := this
    obtain ⟨a, b⟩ := and2 e
    exact ⟨of_decide_eq_true a, of_decide_eq_true b⟩
  · rintro ⟨h1, h2⟩
    refine ⟨decide_eq_true (by omega), fun i hi => ?_⟩
    obtain ⟨a, b⟩ := h2 i hi
    show (decide (0 ≤ i) && decide (i < p)) = true
    rw [decide_eq_true a, decide_eq_true b]
    rfl
theorem mat_rows {p : Int} {n : Nat} {rows : List (List Int)} (h : ∀ r ∈ rows, Ltr p n r) : matD p n (MD rows) = true := by
  show (rows.map rowP).all (rowD p n) = true
  rw [List.all_map, List.all_eq_true]
  exact fun r hr => row_lets.mpr (h r hr)
theorem wid_rows {p : Int} {n : Nat} {rows : List (List Int)} (h : ∀ r ∈ rows, Ltr p n r) : matD p (widD (MD rows)) (MD rows) = true := by
  cases rows with
  | nil => rfl
  | cons r t =>
    have : widD (MD (r :: t)) = (n : Int) := by
      show (((r.map PyData.int).length : Nat) : Int) = _
      rw [List.length_map, (h r (List.mem_cons_self)).1]
    rw [this]
    exact mat_rows h
theorem small_rows {p : Int} {n : Nat} {rows : List (List Int)} (h : ∀ r ∈ rows, Ltr p n r) (hn : n ≤ 200) (hm : rows.length ≤ 200) : smallM (MD rows) := by
  refine ⟨by show (rows.map rowP).length ≤ 200; rw [List.length_map]; exact hm, fun r hr => ?_⟩
  obtain ⟨t, ht, rfl⟩ := List.mem_map.mp (show r ∈ rows.map rowP from hr)
  show (t.map PyData.int).length ≤ 200
  rw [List.length_map, (h t ht).1]
  exact hn
end WU

set_option maxRecDepth 100000
set_option maxHeartbeats 8000000
namespace WU
open PySem PySem.Spec PyProof.Rows L2
structure Blt4 (mg : Str → Option Value) : Prop extends Blt3 mg where
  any : mg "any" = none
  zip : mg "zip" = none
  max : mg "max" = none
  min : mg "min" = none
section
variable {P : Program} {w : World} {K : PySem.W.Frag} {mg : Str → Option Value} {base : Heap} {S : Addr}
def isTup : PyData → Bool
  | .tuple _ => true
  | _ => false
theorem kit_tup {d : PyData} (nd : ∀ kvs, d ≠ .dict kvs) : PySem.W.kitOne K (.type (tyName d)) (.type "tuple") = some (isTup d) := by
  cases d with
  | none => exact kit_ty (show kitB "NoneType" "tuple" = some false by decide +kernel)
  | bool b => exact kit_ty (show kitB "bool" "tuple" = some false by decide +kernel)
  | int i => exact kit_ty (show kitB "int" "tuple" = some false by decide +kernel)
  | str x => exact kit_ty (show kitB "str" "tuple" = some false by decide +kernel)
  | list xs => exact kit_ty (show kitB "list" "tuple" = some false by decide +kernel)
  | tuple xs => exact kit_ty (show kitB "tuple" "tuple" = some true by decide +kernel)
  | dict kvs => exact absurd rfl (nd kvs)
def spRow (K : PySem.W.Frag) : Sp := fun vs H Q _ => ∃ (p n : Int) (v : V) (d : PyData), vs = [v, .int p, .int n] ∧ Dp K H v d ∧ smallD d ∧ ∀ H', Same H H' → Q (.bl (rowD p n d)) H'
theorem scRow : FnScope ["value", "p", "columns"] ["value", "p", "columns"] (defScope s_is_row) := ⟨rfl, rfl, rfl, by decide +kernel, rfl, by decide +kernel, by decide +kernel⟩
theorem ok_row {f f1 : Addr} {fd fd1 : FuncData} (F : FnS K "_is_row" s_is_row f fd) (B : Blt4 mg) (CL : Cal P w K mg base 4 "are_letters" f1 fd1 ["p", "count", "value"] (spLets K)) : FnOk P w K mg base (L2.CX P w) 5 f fd ["value", "p", "columns"] (spRow K) := by
  refine F.ok scRow (fun vs H Q E h => ?_) (fun cdv A outer s H vs Q E hr h => ?_)
  · obtain ⟨p, n, v, d, rfl, _⟩ := h
    rfl
  · obtain ⟨p, n, v, d, rfl, hd, hz, k⟩ := h
    refine ⟨_, (pss_one (ps_ret (pe_and (pe_callB call_isi (by rfl) B.isi (by decide +kernel) (pa_cons (pv 0) (pa_cons (pe_bltn (v := .ty "tuple") (by rfl) B.tuple (by decide +kernel) rfl) pa_nil))) (pe_one (pe_cal CL hr (pa_cons (pv 1) (pa_cons (pv 2) (pa_cons (pv 0) pa_nil))) passU))))), ?_⟩
    refine ⟨_, rfl, _, _, _, _, _, rfl, .ty "tuple", dp_ty hd, kit_tup (dp_nodict hd), _, rfl, ?_⟩
    cases hi : isTup d with
    | false =>
      refine iteF ?_
      have := k H (Same.refl H)
      cases d <;> first | exact this | cases hi
    | true =>
      refine iteT ⟨_, rfl, _, rfl, _, rfl, p, n, v, d, rfl, hd, hz, fun H' s1 => ?_⟩
      have := k H' s1
      cases d <;> first | exact this | cases hi
def spMat (K : PySem.W.Frag) : Sp := fun vs H Q _ => ∃ (p n : Int) (v : V) (d : PyData), vs = [v, .int p, .int n] ∧ Dp K H v d ∧ smallM d ∧ ∀ H', Same H H' → Q (.bl (matD p n d)) H'
theorem scMat : FnScope ["value", "p", "columns", "row"] ["value", "p", "columns"] (defScope s_is_matrix) := ⟨rfl, rfl, rfl, by decide +kernel, rfl, by decide +kernel, by decide +kernel⟩
theorem ok_mat {f f1 : Addr} {fd fd1 : FuncData} (F : FnS K "is_matrix" s_is_matrix f fd) (B : Blt4 mg) (CR : Cal P w K mg base 5 "_is_row" f1 fd1 ["value", "p", "columns"] (spRow K)) : FnOk P w K mg base (L2.CX P w) 6 f fd ["value", "p", "columns"] (spMat K) := by
  refine F.ok scMat (fun vs H Q E h => ?_) (fun cdv A outer s H vs Q E hr h => ?_)
  · obtain ⟨p, n, v, d, rfl, _⟩ := h
    rfl
  · obtain ⟨p, n, v, d, rfl, hd, hz, k⟩ := h
    have nd := scMat.nd
    refine ⟨_, (pss_one (ps_ret (pe_and (pe_callB call_isi (by rfl) B.isi (by decide +kernel) (pa_cons (pv 0) (pa_cons (pe_bltn (v := .ty "tuple") (by rfl) B.tuple (by decide +kernel) rfl) pa_nil))) (pe_one (pe_callB (cr_all rfl) (by rfl) B.all (by decide +kernel) (pa_cons (pe_lc (own := [("row", 3)]) (g := gName 3) (by rfl) nd (pi_tup (pv 0)) (blkOk_by (own := [("row", 3)]) (N := ["value", "p", "columns", "row"]) (sc := defScope s_is_matrix) (by decide +kernel)) (fun _ _ _ _ _ => (pg_name (i := 3) nd rfl (Or.inl rfl))) (fun _ _ _ _ _ => pts_nil) (fun _ _ _ _ _ => (pe_cal CR hr (pa_cons (pv 3) (pa_cons (pv 1) (pa_cons (pv 2) pa_nil))) passU))) pa_nil)))))), ?_⟩
    refine ⟨_, rfl, _, _, _, _, _, rfl, .ty "tuple", dp_ty hd, kit_tup (dp_nodict hd), _, rfl, ?_⟩
    cases hi : isTup d with
    | false =>
      refine iteF ?_
      have := k H (Same.refl H)
      cases d <;> first | exact this | cases hi
    | true =>
      refine iteT ?_
      cases hd with
      | tup hs ha =>
        rename_i a xs ds
        refine ⟨_, rfl, a, rfl, ⟨_, hs⟩, fun D hD => lc_tup (K := K) (a := a) (xs := xs) (fun i H' => Bld FB H D ((ds.take i).map (rowD p n)) H') (Bld.start hD) (fun i H' _ b => sqT_same hs b.same) ?_ ?_⟩
        · rintro i x H' hx b
          obtain ⟨e, he, hy⟩ := dps_at ha hx
          have hl : i < ds.length := (List.getElem?_eq_some_iff.mp he).1
          have hz1 : ds.length ≤ 200 := hz.1
          refine ⟨rfl, _, rfl, _, rfl, _, rfl, p, n, x, e, rfl, dp_same b.same hy, hz.2 e (List.mem_of_getElem? he), fun H2 s2 => ?_⟩
          have r := b.put (y := .bl (rowD p n e)) (z := rowD p n e) stab_FB hD s2 rfl (by intro z; cases z) (by rw [List.length_map, List.length_take]; exact small1000 (by omega))
          rw [List.take_succ, he, List.map_append]
          exact r
        · intro H' b
          obtain ⟨s1, ys, eD, py⟩ := b.fin
          rw [dps_len ha, List.take_length] at py
          have ey := fb_map py
          subst ey
          refine ⟨D, ds.map (rowD p n), rfl, SqL.of eD, ?_⟩
          have ea : (ds.map (rowD p n)).all id = ds.all (rowD p n) := by rw [List.all_map]; rfl
          rw [ea]
          exact k H' s1
      | _ => cases hi
def spWid (K : PySem.W.Frag) : Sp := fun vs H Q _ => ∃ (v : V) (d : PyData), vs = [v] ∧ Dp K H v d ∧ Q (.int (widD d)) H
theorem scWid : FnScope ["rows"] ["rows"] (defScope s_width_of_rows) := ⟨rfl, rfl, rfl, by decide +kernel, rfl, by decide +kernel, by decide +kernel⟩
theorem ok_wid {f : Addr} {fd : FuncData} (F : FnS K "width_of_rows" s_width_of_rows f fd) (B : Blt4 mg) : FnOk P w K mg base (L2.CX P w) 1 f fd ["rows"] (spWid K) := by
  refine F.ok scWid (fun vs H Q E h => ?_) (fun cdv A outer s H vs Q E hr h => ?_)
  · obtain ⟨v, d, rfl, _⟩ := h
    rfl
  · obtain ⟨v, d, rfl, hd, k⟩ := h
    refine ⟨_, (pss_cons (ps_if (PW.pt (pw_and (pt_val (pe_callB call_isi (by rfl) B.isi (by decide +kernel) (pa_cons (pv 0) (pa_cons (pe_bltn (v := .ty "tuple") (by rfl) B.tuple (by decide +kernel) rfl) pa_nil)))) (pw_and (pt_cmpR op_gt (pe_callB call_len_seq (by rfl) B.len (by decide +kernel) (pa_cons (pv 0) pa_nil)) pe_int (nomark _)) (pw_and1 (pt_val (pe_callB call_isi (by rfl) B.isi (by decide +kernel) (pa_cons (pe_ix ix_tup (pv 0) pe_int (fun _ _ => rfl)) (pa_cons (pe_bltn (v := .ty "tuple") (by rfl) B.tuple (by decide +kernel) rfl) pa_nil)))))))) (pss_one (ps_ret (pe_callB call_len_seq (by rfl) B.len (by decide +kernel) (pa_cons (pe_ix ix_tup (pv 0) pe_int (fun _ _ => rfl)) pa_nil)))) pss_nil)
      (pss_one (ps_ret pe_int))), ?_⟩
    refine ⟨_, rfl, _, _, _, _, _, rfl, .ty "tuple", dp_ty hd, kit_tup (dp_nodict hd), _, rfl, ?_⟩
    cases hd with
    | tup hs ha =>
      rename_i a xs ds
      refine iteT ⟨_, rfl, a, xs, rfl, .inr hs, _, _, rfl, rfl, _, rfl, ?_⟩
      cases ha with
      | nil => exact iteFb (decide_eq_false (by decide)) (iteF k)
      | cons h1 h2 =>
        rename_i x xs e ds
        refine iteTb (decide_eq_true (by show ((0 : Int) < ((x :: xs).length : Nat)); rw [List.length_cons]; omega)) ?_
        refine ⟨_, rfl, a, _, _, x, rfl, rfl, hs, atI_nat (j := 0) rfl, _, _, _, _, _, rfl, .ty "tuple", dp_ty h1, kit_tup (dp_nodict h1), _, rfl, ?_⟩
        cases h1 with
        | tup hs1 ha1 =>
          rename_i c ys es
          refine iteT ⟨_, rfl, a, _, _, _, rfl, rfl, hs, atI_nat (j := 0) rfl, c, ys, rfl, .inr hs1, ?_⟩
          rw [dps_len ha1]
          exact k
        | _ => exact iteF k
    | _ => exact iteF k
end
end WU

set_option maxRecDepth 100000
set_option maxHeartbeats 8000000
namespace WU
open PySem PySem.Spec PyProof.Rows L2
section
variable {P : Program} {w : World} {K : PySem.W.Frag} {mg : Str → Option Value} {base : Heap} {S : Addr}
theorem errs_same {C : Addr} {f : Str} {v : V} {H H' : Hp} {E : XK} (h : Errs C f v H E) (s : Same H H') : Errs C f v H' E := fun d H2 s2 n hd => h d H2 (s.trans s2) (s.free n) hd
/-- check_matrix(p, rows) -/
def spChk (K : PySem.W.Frag) : Sp := fun vs H Q E => ∃ (v u : V), vs = [v, u] ∧ Ty3 K H v ∧ (isFld v = false → Errs (He.ga K "InvalidNumber") "value" v H E) ∧
  ∀ p, v = .int p → isFld v = true → ∃ d, Dp K H u d ∧ smallM d ∧ (matD p (widD d) d = false → Errs (He.ga K "InvalidMatrix") "value" u H E) ∧ (matD p (widD d) d = true → ∀ H', Same H H' → Q .non H')
theorem scChk : FnScope ["p", "rows"] ["p", "rows"] (defScope s_check_matrix) := ⟨rfl, rfl, rfl, by decide +kernel, rfl, by decide +kernel, by decide +kernel⟩
theorem ok_chk {f f1 f2 f3 : Addr} {fd fd1 fd2 fd3 fdI : FuncData} (F : FnS K "check_matrix" s_check_matrix f fd) (CF : Cal P w K mg base 3 "check_field" f1 fd1 ["p"] (spCheck K)) (CM : Cal P w K mg base 6 "is_matrix" f2 fd2 ["value", "p", "columns"] (spMat K))
    (CW : Cal P w K mg base 1 "width_of_rows" f3 fd3 ["rows"] (spWid K)) (T : Exc1 K mg "InvalidMatrix" "value")
    (FI : FnOk P w K mg base (L2.CX P w) 1 (He.ma K (He.ga K "InvalidMatrix") "__init__") fdI ["self", "value"] (spInit1 K (He.ga K "InvalidMatrix") "value")) (bI : Binds K fdI ["self", "value"] []) :
    FnOk P w K mg base (L2.CX P w) 7 f fd ["p", "rows"] (spChk K) := by
  refine F.ok scChk (fun vs H Q E h => ?_) (fun cdv A outer s H vs Q E hr h => ?_)
  · obtain ⟨v, u, rfl, _⟩ := h
    rfl
  · obtain ⟨v, u, rfl, hv, kF, kk⟩ := h
    refine ⟨_, (pss_cons (ps_expr (pe_cal (E := E) CF (hr.mono (by decide)) (pa_cons (pv 0) pa_nil) (passes_call (takes_of rfl rfl rfl rfl) (fun _ _ _ _ h => h))))
      (pss_one (ps_if (pt_not (pt_val (pe_cal CM (hr.mono (by decide)) (pa_cons (pv 1) (pa_cons (pv 0) (pa_cons (pe_cal CW (hr.mono (by decide)) (pa_cons (pv 1) pa_nil) passU) pa_nil))) passU))) (pss_one (ps_raise1 rfl (takes_of rfl rfl rfl rfl) T FI bI (hr.mono (by decide)) (pa_cons (pv 1) pa_nil))) pss_nil))), ?_⟩
    refine ⟨_, rfl, v, rfl, hv, fun e => ?_, kF⟩
    cases v with
    | int p =>
      obtain ⟨d, hd, hz, kN, kY⟩ := kk p rfl e
      refine ⟨_, rfl, _, rfl, _, rfl, u, d, rfl, hd, p, widD d, u, d, rfl, hd, hz, fun H1 s1 => ⟨_, rfl, ?_⟩⟩
      cases em : matD p (widD d) d with
      | true => exact iteF (kY em H1 s1)
      | false => exact iteT ⟨_, rfl, u, rfl, errs_same (kN em) s1⟩
    | _ => cases e
/-- _less(p, row, factor, lead) -/
def spLess : Sp := fun vs H Q _ => ∃ (p f : Int) (n : Nat) (v u : V) (r l : List Int), vs = [.int p, v, .int f, u] ∧ FT H v r ∧ FT H u l ∧ p ∈ primes ∧ 0 ≤ f ∧ f < p ∧ r.length = n ∧ l.length = n ∧ n ≤ 200 ∧ (∀ x ∈ l, 0 ≤ x ∧ x < p) ∧
  ∀ y H', Same H H' → FN H' y (less p r f l) → Q y H'
theorem scLess : FnScope ["p", "row", "factor", "lead", "a", "b"] ["p", "row", "factor", "lead"] (defScope s_less) := ⟨rfl, rfl, rfl, by decide +kernel, rfl, by decide +kernel, by decide +kernel⟩
theorem walk_zipT {a b : Addr} {xs ys : List V} {n : Nat} (hn : n = min xs.length ys.length) : Walk (RZ.ItzT K a b) n (fun H => SqT K H a xs ∧ SqT K H b ys) (YPair (fun i => xs[i]?) (fun i => ys[i]?)) where
  goes := fun i _ hi ⟨sx, sy⟩ => ⟨xs, ys, xs[i]'(by omega), ys[i]'(by omega), sx, sy, List.getElem?_eq_getElem _, List.getElem?_eq_getElem _⟩
  stops := fun _ ⟨sx, sy⟩ => ⟨xs, ys, sx, sy, by omega⟩
  yields := fun _ _ _ _ _ ⟨sx, sy⟩ ⟨T, x, y, e, new, eH, fx, fy⟩ => ⟨T, x, y, e, new, eH, fx xs sx, fy ys sy⟩
theorem take_map_at (n : Nat) {r : List Int} {i : Nat} (hi : i < r.length) : (r.map V.int)[i]? = some (.int (at0 r i)) := by
  rw [List.getElem?_map, at0_some hi]
  rfl
theorem take_at0 {r : List Int} {i : Nat} (hi : i < r.length) : r.take (i + 1) = r.take i ++ [at0 r i] := by
  rw [List.take_succ, at0_some hi]
  rfl
theorem ok_less {f : Addr} {fd : FuncData} (F : FnS K "_less" s_less f fd) (B : Blt4 mg) : FnOk P w K mg base (L2.CX P w) 1 f fd ["p", "row", "factor", "lead"] spLess := by
  refine F.ok scLess (fun vs H Q E h => ?_) (fun cdv A outer s H vs Q E hr h => ?_)
  · obtain ⟨p, f, n, v, u, r, l, rfl, _⟩ := h
    rfl
  · obtain ⟨p, f, n, v, u, r, l, rfl, ⟨c, rfl, hc⟩, ⟨e, rfl, he⟩, hp, f0, f1, hr1, hl1, hn, hl2, k⟩ := h
    have nd := scLess.nd
    have hb := fld_le hp
    refine ⟨_, (pss_one (ps_ret (pe_callTy (tup_newK (K := K)) (by rfl) B.tuple (by decide +kernel) (pa_cons (pe_lc (own := [("a", 4), ("b", 5)]) (g := gTup K 2 (gCons (gName 4) (gCons (gName 5) gNil))) (by rfl) nd (RZ.pi_zipA (by rfl) B.zip (pa_cons (pv 1) (pa_cons (pv 3) pa_nil))) (blkOk_by (own := [("a", 4), ("b", 5)]) (N := ["p", "row", "factor", "lead", "a", "b"]) (sc := defScope s_less) (by decide +kernel)) (fun _ _ _ _ _ => (pg_tup rfl (pgs_cons (pg_name (i := 4) nd rfl (Or.inl rfl)) (pgs_cons (pg_name (i := 5) nd rfl (Or.inl rfl)) pgs_nil)))) (fun _ _ _ _ _ => pts_nil) (fun _ _ _ _ _ => (pe_op op_modN (pe_op op_sub (pv 4) (pe_op op_mul (pv 2) (pv 5))) (pv 0)))) pa_nil)))), ?_⟩
    refine ⟨_, rfl, _, rfl, c, e, _, _, rfl, .inr ⟨sqT hc, sqT he, fun D hD => lc_it (walk_zipT (xs := r.map V.int) (ys := l.map V.int) (n := n) (by rw [List.length_map, List.length_map]; omega)) (fun i H' => Bld FI H D ((less p r f l).take i) H')
      (Bld.start hD) (fun i H' _ b => ⟨sqT (rd_same b.same hc), sqT (rd_same b.same he)⟩) ?_ ?_⟩⟩
    · rintro i x H1 H2 hi b ⟨T, x1, x2, rfl, hT, rfl, g1, g2⟩
      cases (take_map_at n (r := r) (i := i) (by omega)).symm.trans g1
      cases (take_map_at n (r := l) (i := i) (by omega)).symm.trans g2
      have bl := hl2 (at0 l i) (by rw [at0_lt (by omega)]; exact List.getElem_mem _)
      refine ⟨T, _, rfl, SqT.of upd_same, rfl, _, _, rfl, _, _, rfl, rfl, rfl, ?_⟩
      refine ⟨_, rfl, _, rfl, _, rfl, _, _, rfl, rfl, .inl ⟨by omega, by omega⟩, _, _, rfl, rfl, _, rfl, _, p, rfl, rfl, by omega, ?_⟩
      have le : i < (less p r f l).length := by rw [less_len hr1 hl1]; exact hi
      rw [take_at0 le]
      exact b.put (y := .int ((at0 r i - f * at0 l i).fmod p)) (z := at0 (less p r f l) i) stab_FI hD (same_new hT) (by rw [less_at hr1 hl1 hi]; rfl) (by intro z; cases z) (by rw [List.length_take]; exact small1000 (by omega))
    · intro H1 b
      obtain ⟨s1, ys, eD, py⟩ := b.fin
      rw [List.take_of_length_le (by rw [less_len hr1 hl1]; exact Nat.le_refl _)] at py
      rw [fi_map py] at eD
      exact ⟨D, _, rfl, SqL.of eD, fun q o hq ho => k _ _ (s1.trans (same_new hq)) (FN.new ho)⟩
end
end WU

set_option maxRecDepth 100000
set_option maxHeartbeats 8000000
namespace WU
open PySem PySem.Spec PyProof.Rows L2
section
variable {P : Program} {w : World} {K : PySem.W.Frag} {mg : Str → Option Value} {base : Heap} {S : Addr}
/-- _led_by_one(p, row, column) -/
def spLed : Sp := fun vs H Q _ => ∃ (p : Int) (n j : Nat) (v : V) (r : List Int), vs = [.int p, v, .int j] ∧ FT H v r ∧ p ∈ primes ∧ Ltr p n r ∧ n ≤ 200 ∧ j < n ∧ hot j r = true ∧ ∀ y H', Same H H' → FN H' y (led p r j) → Q y H'
theorem scLed : FnScope ["p", "row", "column", "factor", "letter"] ["p", "row", "column"] (defScope s_led_by_one) := ⟨rfl, rfl, rfl, by decide +kernel, rfl, by decide +kernel, by decide +kernel⟩
theorem isBel_in {p a : Int} (h0 : 0 ≤ a) (h1 : a < p) : isBel p (.int a) = true := by
  show (decide (0 ≤ a) && decide (a < p)) = true
  rw [decide_eq_true h0, decide_eq_true h1]
  rfl
theorem ok_led {f f1 : Addr} {fd fd1 : FuncData} (F : FnS K "_led_by_one" s_led_by_one f fd) (B : Blt4 mg) (CI : Cal P w K mg base 4 "inverse_of" f1 fd1 ["p", "a"] (spInv K)) : FnOk P w K mg base (L2.CX P w) 5 f fd ["p", "row", "column"] spLed := by
  refine F.ok scLed (fun vs H Q E h => ?_) (fun cdv A outer s H vs Q E hr h => ?_)
  · obtain ⟨p, n, j, v, r, rfl, _⟩ := h
    rfl
  · obtain ⟨p, n, j, v, r, rfl, ⟨c, rfl, hc⟩, hp, hL, hn, hj, hh, k⟩ := h
    have nd := scLed.nd
    have hb := fld_le hp
    refine ⟨_, (pss_cons (ps_set (i := 3) nd rfl (Or.inr rfl) (pe_cal CI (hr.mono (by decide)) (pa_cons (pv 0) (pa_cons (pe_ix (ix_tupK (K := K)) (pv 1) (pv 2) (fun _ _ => rfl)) pa_nil)) passU))
      (pss_one (ps_ret (pe_callTy (tup_newK (K := K)) (by rfl) B.tuple (by decide +kernel) (pa_cons (pe_lc (own := [("letter", 4)]) (g := gName 4) (by rfl) nd (pi_tup (pv 1)) (blkOk_by (own := [("letter", 4)]) (N := ["p", "row", "column", "factor", "letter"]) (sc := defScope s_led_by_one) (by decide +kernel)) (fun _ _ _ _ _ => (pg_name (i := 4) nd rfl (Or.inl rfl))) (fun _ _ _ _ _ => pts_nil) (fun _ _ _ _ _ => (pe_op op_modN (pe_op op_mul (pv 3) (pv 4)) (pv 0)))) pa_nil))))), ?_⟩
    have hjl : j < r.length := by rw [hL.1]; exact hj
    have bj := hL.bd hj
    have z := hot_ne hh
    refine ⟨_, rfl, _, rfl, _, rfl, c, _, _, _, rfl, rfl, sqT hc, atI_nat (take_map_at n hjl), .int p, .int (at0 r j), rfl, ty3_int p, ty3_int _, (fun e => by rw [mem_fld hp] at e; cases e), ?_⟩
    intro p' ep _
    cases ep
    refine ⟨(fun e => by rw [isBel_in bj.1 bj.2] at e; cases e), (fun e => absurd (V.int.inj e) z), fun a ea a0 a1 H1 s1 => ?_⟩
    cases ea
    refine ⟨_, rfl, c, rfl, ⟨_, sqT (rd_same s1 hc)⟩, fun D hD => lc_tup (K := K) (a := c) (xs := r.map V.int) (fun i H' => Bld FI H1 D ((led p r j).take i) H') (Bld.start hD) (fun i H' _ b => sqT (rd_same b.same (rd_same s1 hc))) ?_ ?_⟩
    · intro i x H2 hx b
      have hi : i < r.length := by
        have := (List.getElem?_eq_some_iff.mp hx).1
        rw [List.length_map] at this
        exact this
      cases (take_map_at n hi).symm.trans hx
      have bi := hL.bd (k := i) (by rw [← hL.1]; exact hi)
      refine ⟨rfl, _, rfl, _, rfl, _, _, rfl, rfl, .inr ⟨by omega, by omega⟩, _, rfl, _, p, rfl, rfl, by omega, ?_⟩
      have le : i < (led p r j).length := by rw [led_len hL.1, ← hL.1]; exact hi
      rw [take_at0 le]
      exact b.put (y := .int ((inv p (at0 r j) * at0 r i).fmod p)) (z := at0 (led p r j) i) stab_FI hD (Same.refl _) (by rw [led_at hL.1 (by rw [← hL.1]; exact hi)]; rfl) (by intro z; cases z) (by rw [List.length_take]; exact small1000 (by rw [led_len hL.1] at le ⊢; omega))
    · intro H2 b
      obtain ⟨s2, ys, eD, py⟩ := b.fin
      rw [List.length_map, List.take_of_length_le (by rw [led_len hL.1, hL.1]; exact Nat.le_refl _)] at py
      rw [fi_map py] at eD
      exact ⟨D, _, rfl, SqL.of eD, fun q o hq ho => k _ _ (s1.trans (s2.trans (same_new hq))) (FN.new ho)⟩
theorem iteND {c : Prop} [Decidable c] {A B : Prop} (h1 : ¬ c → A) (h2 : c → B) : if (!decide c) = true then A else B := by
  by_cases h : c
  · rw [decide_eq_true h]
    exact iteF (h2 h)
  · rw [decide_eq_false h]
    exact iteT (h1 h)
/-- a list of rows -/
def LX (F : Hp → V → List Int → Prop) (H : Hp) (v : V) (rows : List (List Int)) : Prop := ∃ a ts, v = .ref a ∧ H a = some (.lst ts) ∧ Paired (F H) ts rows
abbrev LT := LX FT
abbrev LN := LX FN
theorem LX.same {F : Hp → V → List Int → Prop} (g : Good F) {H H' : Hp} {v : V} {rows : List (List Int)} (h : LX F H v rows) (s : Same H H') : LX F H' v rows := by
  obtain ⟨a, ts, e, h, p⟩ := h
  exact ⟨a, ts, e, s _ _ h, paired_mono (fun _ _ q => g.same q s) p⟩
/-- _cleared(p, rows, lead, column) -/
def spClr : Sp := fun vs H Q _ => ∃ (F : Hp → V → List Int → Prop) (p : Int) (n j : Nat) (v u : V) (rows : List (List Int)) (l : List Int), vs = [.int p, v, u, .int j] ∧ Good F ∧ LX F H v rows ∧ FT H u l ∧ p ∈ primes ∧ (∀ r ∈ rows, Ltr p n r) ∧ Ltr p n l ∧ n ≤ 200 ∧ rows.length ≤ 200 ∧ j < n ∧
  ∀ y H', Same H H' → LX F H' y (rows.map (clr p l j)) → Q y H'
theorem scClr : FnScope ["p", "rows", "lead", "column", "row"] ["p", "rows", "lead", "column"] (defScope s_cleared) := ⟨rfl, rfl, rfl, by decide +kernel, rfl, by decide +kernel, by decide +kernel⟩
theorem ok_clr {f f1 : Addr} {fd fd1 : FuncData} (F : FnS K "_cleared" s_cleared f fd) (CL : Cal P w K mg base 1 "_less" f1 fd1 ["p", "row", "factor", "lead"] spLess) : FnOk P w K mg base (L2.CX P w) 2 f fd ["p", "rows", "lead", "column"] spClr := by
  refine F.ok scClr (fun vs H Q E h => ?_) (fun cdv A outer s H vs Q E hr h => ?_)
  · obtain ⟨G, p, n, j, v, u, rows, l, rfl, _⟩ := h
    rfl
  · obtain ⟨G, p, n, j, v, u, rows, l, rfl, g, ⟨a, ts, rfl, ha, hts⟩, hu, hp, hR, hl, hn, hm, hj, k⟩ := h
    have nd := scClr.nd
    have hb := fld_le hp
    refine ⟨_, (pss_one (ps_ret (pe_lc (own := [("row", 4)]) (g := gName 4) (by rfl) nd (pi_list (pv 1)) (blkOk_by (own := [("row", 4)]) (N := ["p", "rows", "lead", "column", "row"]) (sc := defScope s_cleared) (by decide +kernel)) (fun _ _ _ _ _ => (pg_name (i := 4) nd rfl (Or.inl rfl))) (fun _ _ _ _ _ => pts_nil) (fun _ _ _ _ _ => (pe_ifExp (pt_cmpR op_ne (pe_ix (ix_tupK (K := K)) (pv 4) (pv 3) (fun _ _ => rfl)) pe_int (nomark _)) (pe_cal CL (hr.mono (by decide)) (pa_cons (pv 0) (pa_cons (pv 4) (pa_cons (pe_ix (ix_tupK (K := K)) (pv 4) (pv 3) (fun _ _ => rfl)) (pa_cons (pv 2) pa_nil)))) passU) (pv 4)))))), ?_⟩
    refine ⟨_, rfl, a, rfl, ⟨_, SqL.of ha⟩, fun D hD => lc_list (K := K) (a := a) (xs := ts) (fun i H' => Bld G H D ((rows.take i).map (clr p l j)) H') (Bld.start hD) (fun i H' _ b => SqL.of (b.same _ _ ha)) ?_ ?_⟩
    · intro i x H1 hx b
      obtain ⟨r, hr0, hxr⟩ := paired_at hts hx
      have hx0 := g.same hxr b.same
      have hx1 := g.toT hx0
      obtain ⟨c, rfl, hc⟩ := id hx1
      have hrL := hR r (List.mem_of_getElem? hr0)
      have hjl : j < r.length := by rw [hrL.1]; exact hj
      have et : (rows.take (i + 1)).map (clr p l j) = (rows.take i).map (clr p l j) ++ [clr p l j r] := by
        rw [List.take_succ, hr0, List.map_append]
        rfl
      have hlen : ((rows.take i).map (clr p l j)).length < sizeLine := by
        rw [List.length_map, List.length_take]
        exact small1000 (by omega)
      have bj := hrL.bd hj
      rw [et]
      refine ⟨rfl, _, rfl, _, rfl, c, _, _, _, rfl, rfl, sqT hc, atI_nat (take_map_at n hjl), rfl, _, rfl, ?_⟩
      refine iteND (fun hz => ?_) (fun hz => ?_)
      · have hz' : at0 r j ≠ 0 := fun z => hz (congrArg V.int z)
        refine ⟨_, rfl, _, rfl, _, rfl, _, rfl, c, _, _, _, rfl, rfl, sqT hc, atI_nat (take_map_at n hjl), _, rfl, p, at0 r j, n, .ref c, u, r, l, rfl, hx1, hu.same b.same, hp, bj.1, bj.2, hrL.1, hl.1, hn, hl.2, fun y H2 s2 hy => ?_⟩
        have e : clr p l j r = less p r (at0 r j) l := by unfold clr; rw [if_pos hz']
        rw [e]
        exact b.put g.stab hD s2 (g.ofN hy) (hy.ft.neL (s2 _ _ b.ex.choose_spec.1)) hlen
      · have hz' : at0 r j = 0 := V.int.inj hz
        have e : clr p l j r = r := by unfold clr; rw [if_neg (by simpa using hz')]
        rw [e]
        exact ⟨_, rfl, b.put g.stab hD (Same.refl _) hx0 (hx1.neL b.ex.choose_spec.1) hlen⟩
    · intro H1 b
      obtain ⟨s1, ys, eD, py⟩ := b.fin
      rw [paired_len hts, List.take_length] at py
      exact k _ _ s1 ⟨D, ys, rfl, eD, py⟩
end
end WU

set_option maxRecDepth 100000
set_option maxHeartbeats 8000000
namespace WU
open PySem PySem.Spec PyProof.Rows L2
theorem take_filter {q : List Int → Bool} {rows : List (List Int)} {i : Nat} {r : List Int} (h : rows[i]? = some r) : (rows.take (i + 1)).filter q = (rows.take i).filter q ++ (if q r = true then [r] else []) := by
  rw [List.take_succ, h, List.filter_append]
  congr 1
  show List.filter q [r] = _
  rw [List.filter_cons]
  split <;> rfl
theorem filter_le {q : List Int → Bool} {rows : List (List Int)} {i : Nat} (h : rows.length ≤ 200) : ((rows.take i).filter q).length < sizeLine :=
  small1000 (Nat.le_trans (List.length_filter_le _ _) (by rw [List.length_take]; omega))
/-- lists built by a test, item by item -/
theorem bld_if {H1 H H' : Hp} {D : Addr} {q : List Int → Bool} {rows : List (List Int)} {i : Nat} {r : List Int} {y : V} (b : Bld FT H1 D ((rows.take i).filter q) H) (h : rows[i]? = some r) (hD : H1 D = none) (s : Same H H') (f : FT H' y r) (ny : y ≠ .ref D) (hl : rows.length ≤ 200) (e : q r = true) :
    ∃ acc, H' D = some (.lst acc) ∧ acc.length < sizeLine ∧ Bld FT H1 D ((rows.take (i + 1)).filter q) (upd H' D (.lst (acc ++ [y]))) := by
  rw [take_filter h, if_pos e]
  exact b.put stab_FT hD s f ny (filter_le hl)
theorem bld_not {H1 H H' : Hp} {D : Addr} {q : List Int → Bool} {rows : List (List Int)} {i : Nat} {r : List Int} (b : Bld FT H1 D ((rows.take i).filter q) H) (h : rows[i]? = some r) (s : Same H H') (e : q r = false) : Bld FT H1 D ((rows.take (i + 1)).filter q) H' := by
  rw [take_filter h, if_neg (by rw [e]; decide), List.append_nil]
  exact b.skip stab_FT s
section
variable {P : Program} {w : World} {K : PySem.W.Frag} {mg : Str → Option Value} {base : Heap} {S : Addr}
/-- rows in a list or a tuple -/
def SR (H : Hp) (v : V) (rows : List (List Int)) : Prop := ∃ a ts, v = .ref a ∧ SqO H a ts ∧ Paired (FT H) ts rows
theorem SR.same {H H' : Hp} {v : V} {rows : List (List Int)} (h : SR H v rows) (s : Same H H') : SR H' v rows := by
  obtain ⟨a, ts, e, h, p⟩ := h
  exact ⟨a, ts, e, h.same s, paired_mono (fun _ _ q => q.same s) p⟩
theorem MT.sr {H : Hp} {v : V} {rows : List (List Int)} (h : MT H v rows) : SR H v rows := by
  obtain ⟨a, ts, e, h, p⟩ := h
  exact ⟨a, ts, e, .inr (.inl h), p⟩
theorem LT.sr {H : Hp} {v : V} {rows : List (List Int)} (h : LT H v rows) : SR H v rows := by
  obtain ⟨a, ts, e, h, p⟩ := h
  exact ⟨a, ts, e, .inl h, p⟩
/-- _reduced(p, rows) -/
def spRed : Sp := fun vs H Q _ => ∃ (p : Int) (n : Nat) (v : V) (rows : List (List Int)), vs = [.int p, v] ∧ SR H v rows ∧ p ∈ primes ∧ (∀ r ∈ rows, Ltr p n r) ∧ n ≤ 200 ∧ rows.length ≤ 200 ∧ ∀ y H', Same H H' → MN H' y (red p rows) → Q y H'
theorem scRed : FnScope ["p", "rows", "left", "done", "column", "found", "lead", "row"] ["p", "rows"] (defScope s_reduced) := ⟨rfl, rfl, rfl, by decide +kernel, rfl, by decide +kernel, by decide +kernel⟩
theorem stp_len {p : Int} {j : Nat} {s : List (List Int) × List (List Int)} : (stp p j s).1.length + (stp p j s).2.length = s.1.length + s.2.length := by
  unfold stp
  split
  · rfl
  · rename_i k e
    obtain ⟨a, r, b, ea, hk, _, _⟩ := find_hot e
    rw [List.length_map, List.length_append, List.length_map, ea, ← hk, erase_mid, List.length_append, List.length_append]
    simp
    omega
theorem run_len {p : Int} {rows : List (List Int)} : ∀ j, (run p rows j).1.length + (run p rows j).2.length = rows.length
  | 0 => rfl
  | j + 1 => by
    show (stp p j (run p rows j)).1.length + (stp p j (run p rows j)).2.length = _
    rw [stp_len, run_len j]
theorem ok_red {f f1 f2 : Addr} {fd fd1 fd2 : FuncData} (F : FnS K "_reduced" s_reduced f fd) (B : Blt4 mg) (CL : Cal P w K mg base 5 "_led_by_one" f1 fd1 ["p", "row", "column"] spLed) (CC : Cal P w K mg base 2 "_cleared" f2 fd2 ["p", "rows", "lead", "column"] spClr) :
    FnOk P w K mg base (L2.CX P w) 6 f fd ["p", "rows"] spRed := by
  refine F.ok scRed (fun vs H Q E h => ?_) (fun cdv A outer s H vs Q E hr h => ?_)
  · obtain ⟨p, n, v, rows, rfl, _⟩ := h
    rfl
  · obtain ⟨p, n, v, rows, rfl, ⟨a, ts, rfl, ha, hts⟩, hp, hR, hn, hm, k⟩ := h
    have nd := scRed.nd
    have hb := fld_le hp
    refine ⟨_, (pss_cons (ps_setLc (i := 2) (own := [("row", 7)]) (g := gName 7) (by rfl) nd rfl rfl (sw_true rfl rfl rfl (by decide +kernel)) (pi_seqK (K := K) (pv 1)) (blkOk_by (own := [("row", 7)]) (N := ["p", "rows", "left", "done", "column", "found", "lead", "row"]) (sc := defScope s_reduced) (by decide +kernel)) (fun _ _ _ _ _ => (pg_name (i := 7) nd rfl (Or.inl rfl))) (fun _ _ _ _ _ => pts_one (pt_val (pe_callB (cr_anyTK (K := K) rfl) (by rfl) B.any (by decide +kernel) (pa_cons (pv 7) pa_nil)))) (fun _ _ _ _ _ => (pv 7)))
      (pss_cons (ps_set (i := 3) nd rfl (Or.inl rfl) (pe_lst pa_nil))
      (pss_cons (ps_set (i := 4) nd rfl (Or.inr rfl) pe_int)
      (pss_cons (ps_while (passes_of rfl) (pt_cmpR op_gt (pe_callB (len_seqK (K := K)) (by rfl) B.len (by decide +kernel) (pa_cons (pv 2) pa_nil)) pe_int (nomark _)) (pss_cons (ps_setLc (i := 5) (own := [("row", 7)]) (g := gName 7) (by rfl) nd rfl rfl (sw_true rfl rfl rfl (by decide +kernel)) (pi_listK (K := K) (pv 2)) (blkOk_by (own := [("row", 7)]) (N := ["p", "rows", "left", "done", "column", "found", "lead", "row"]) (sc := defScope s_reduced) (by decide +kernel)) (fun _ _ _ _ _ => (pg_name (i := 7) nd rfl (Or.inl rfl))) (fun _ _ _ _ _ => pts_one (pt_cmpR op_ne (pe_ix (ix_tupK (K := K)) (pv 7) (pv 4) (fun _ _ => rfl)) pe_int (nomark _))) (fun _ _ _ _ _ => (pv 7)))
      (pss_cons (ps_if (pt_cmpR op_gt (pe_callB (len_seqK (K := K)) (by rfl) B.len (by decide +kernel) (pa_cons (pv 5) pa_nil)) pe_int (nomark _)) (pss_cons (ps_set (i := 6) nd rfl (Or.inl rfl) (pe_cal CL (hr.mono (by decide)) (pa_cons (pv 0) (pa_cons (pe_ix (ix_listK (K := K)) (pv 5) pe_int (fun _ _ => rfl)) (pa_cons (pv 4) pa_nil))) passU))
      (pss_cons (ps_setLc (i := 2) (own := [("row", 7)]) (g := gName 7) (by rfl) nd rfl rfl (sw_true rfl rfl rfl (by decide +kernel)) (pi_listK (K := K) (pe_cal CC (hr.mono (by decide)) (pa_cons (pv 0) (pa_cons (pv 2) (pa_cons (pv 6) (pa_cons (pv 4) pa_nil)))) passU)) (blkOk_by (own := [("row", 7)]) (N := ["p", "rows", "left", "done", "column", "found", "lead", "row"]) (sc := defScope s_reduced) (by decide +kernel)) (fun _ _ _ _ _ => (pg_name (i := 7) nd rfl (Or.inl rfl))) (fun _ _ _ _ _ => pts_one (pt_val (pe_callB (cr_anyTK (K := K) rfl) (by rfl) B.any (by decide +kernel) (pa_cons (pv 7) pa_nil)))) (fun _ _ _ _ _ => (pv 7)))
      (pss_one (ps_set (i := 3) nd rfl (Or.inl rfl) (pe_lst (StX.pa_star (pe_cal CC (hr.mono (by decide)) (pa_cons (pv 0) (pa_cons (pv 3) (pa_cons (pv 6) (pa_cons (pv 4) pa_nil)))) passU) (pa_cons (pv 6) pa_nil))))))) pss_nil)
      (pss_one (ps_aug (i := 4) nd rfl (Or.inr rfl) pe_int ip_add)))))
      (pss_one (ps_ret (pe_callTy (tup_ofK (K := K)) (by rfl) B.tuple (by decide +kernel) (pa_cons (pv 3) pa_nil)))))))), ?_⟩
    have wL : ∀ h : H a = some (.lst ts), Walk (Itl K a) ts.length (fun H' => Same H H') (YAt ts) := fun h => walk_list.mono (fun H' s => SqL.of (s _ _ h)) fun _ _ _ _ _ _ y => y
    have wT : ∀ h : Rd H a (.tup ts), Walk (Itt K a) ts.length (fun H' => Same H H') (YAt ts) := fun h => walk_tup.mono (fun H' s => sqT (rd_same s h)) fun _ _ _ _ _ _ y => y
    refine ⟨_, rfl, a, rfl, ha.imp (fun h => ⟨⟨_, SqL.of h⟩, fun D hD => lc_it (wL h) (fun i H' => Bld FT H D ((rows.take i).filter nz) H') (Bld.start hD) (fun i H' _ b => b.same) ?_ ?_⟩) (fun h => ⟨⟨_, sqT h⟩, fun D hD => lc_it (wT h) (fun i H' => Bld FT H D ((rows.take i).filter nz) H') (Bld.start hD) (fun i H' _ b => b.same) ?_ ?_⟩)⟩
    all_goals first
      | (rintro i x H1 _ hi b ⟨rfl, hx⟩
         obtain ⟨r, hr0, hxr⟩ := paired_at hts hx
         have hx1 := hxr.same b.same
         obtain ⟨c, rfl, hc⟩ := id hx1
         refine ⟨rfl, _, rfl, c, r, rfl, sqT hc, _, rfl, ?_⟩
         cases e : nz r with
         | true => exact iteTb e ⟨_, rfl, bld_if b hr0 hD (Same.refl _) hx1 (hx1.neL b.ex.choose_spec.1) hm e⟩
         | false => exact iteFb e (bld_not b hr0 (Same.refl _) e))
      | (intro H1 b
         obtain ⟨s1, ys, eD, py⟩ := b.fin
         rw [paired_len hts, List.take_length] at py
         refine ⟨(by show 0 ≤ sizeLine; decide), fun L hL => ?_⟩
         have s2 : Same H1 (upd H1 L (.lst [])) := same_new hL
         refine ⟨fun m σ H' => ∃ (j : Nat) (pv : List Nat) (x y : V) (f l rr : Option V), σ = [some (.int p), some (.ref a), some x, some y, some (.int j), f, l, rr] ∧ Same H H' ∧ LT H' x ((run p rows j).1.filter nz) ∧ LN H' y (run p rows j).2 ∧ Iv p n rows j (run p rows j) pv ∧ j ≤ n ∧ m = n - j,
           ⟨n - 0, 0, [], .ref D, .ref L, none, none, none, rfl, s1.trans s2, ⟨D, ys, rfl, s2 _ _ eD, paired_mono (fun _ _ q => q.same s2) py⟩, ⟨L, [], rfl, upd_same, .nil⟩, iv_zero hR, Nat.zero_le _, rfl⟩, ?_⟩
         rintro m σ H2 ⟨j, pv, x, y, fv, lv, rr, rfl, sH, ⟨X, xs, rfl, hX, hxs⟩, ⟨Y, yv, rfl, hY, hys⟩, I, hj, rfl⟩
         refine ⟨_, rfl, X, xs, rfl, .inl (SqL.of hX), _, _, rfl, rfl, _, rfl, ?_⟩
         have lx := paired_len hxs
         refine iteD (fun h0 => ?_) (fun h0 => ?_)
         · have hj1 : j < n := run_more I (fun z => by rw [z] at lx; rw [lx] at h0; exact absurd h0 (by decide))
           have hfl : ((run p rows j).1.filter nz).length ≤ 200 := Nat.le_trans (List.length_filter_le _ _) (by have := run_len (p := p) (rows := rows) j; omega)
           have hdl : (run p rows j).2.length ≤ 200 := by have := run_len (p := p) (rows := rows) j; omega
           obtain ⟨sm0, sm1⟩ := sim hp hj1 I
           obtain ⟨pv2, I2⟩ := iv_step hp hj1 I
           refine ⟨fun σ' H' => ∃ (pv : List Nat) (x y : V) (f l rr : Option V), σ' = [some (.int p), some (.ref a), some x, some y, some (.int (j + 1 : Nat)), f, l, rr] ∧ Same H H' ∧ LT H' x ((run p rows (j + 1)).1.filter nz) ∧ LN H' y (run p rows (j + 1)).2 ∧ Iv p n rows (j + 1) (run p rows (j + 1)) pv,
             fun σ' H' ⟨pv, x, y, f, l, rr, e, z1, z2, z3, z4⟩ => ⟨n - (j + 1), by omega, j + 1, pv, x, y, f, l, rr, e, z1, z2, z3, z4, by omega, rfl⟩, ?_⟩
           -- found
           refine ⟨_, rfl, X, rfl, ⟨_, SqL.of hX⟩, fun D2 hD2 => lc_list (K := K) (a := X) (xs := xs) (fun i H' => Bld FT H2 D2 ((((run p rows j).1.filter nz).take i).filter (hot j)) H') (Bld.start hD2) (fun i H' _ b => SqL.of (b.same _ _ hX)) ?_ ?_⟩
           · intro i x H3 hx b
             obtain ⟨r, hr0, hxr⟩ := paired_at hxs hx
             have hx1 := hxr.same b.same
             obtain ⟨c, rfl, hc⟩ := id hx1
             have hrL := I.left r (List.mem_filter.mp (List.mem_of_getElem? hr0)).1
             refine ⟨rfl, _, rfl, _, rfl, c, _, _, _, rfl, rfl, sqT hc, atI_nat (take_map_at n (r := r) (i := j) (by rw [hrL.1]; exact hj1)), rfl, _, rfl, ?_⟩
             refine iteND (fun hz => ?_) (fun hz => ?_)
             · have e : hot j r = true := decide_eq_true fun z => hz (congrArg V.int z)
               exact ⟨_, rfl, bld_if b hr0 hD2 (Same.refl _) hx1 (hx1.neL b.ex.choose_spec.1) hfl e⟩
             · have e : hot j r = false := decide_eq_false fun z => z (V.int.inj hz)
               exact bld_not b hr0 (Same.refl _) e
           · intro H3 b
             obtain ⟨s3, zs, eD2, pz⟩ := b.fin
             rw [lx, List.take_length] at pz
             have hX3 := s3 _ _ hX
             have hY3 := s3 _ _ hY
             have hxs3 := paired_mono (fun _ _ q => q.same s3) hxs
             have hys3 := paired_mono (fun _ _ q => q.same s3) hys
             refine ⟨_, rfl, D2, zs, rfl, .inl (SqL.of eD2), _, _, rfl, rfl, _, rfl, ?_⟩
             have lz := paired_len pz
             cases ef : ((run p rows j).1.filter nz).filter (hot j) with
             | nil =>
               rw [ef] at lz
               have es : run p rows (j + 1) = run p rows j := sm0 ef
               refine iteFb (decide_eq_false (by rw [lz]; decide)) ⟨_, rfl, _, _, rfl, rfl, ?_⟩
               refine ⟨pv2, .ref X, .ref Y, _, _, _, rfl, sH.trans s3, ?_, ?_, I2⟩
               · rw [es]
                 exact ⟨X, xs, rfl, hX3, hxs3⟩
               · rw [es]
                 exact ⟨Y, yv, rfl, hY3, hys3⟩
             | cons r t =>
               obtain ⟨hrL, hh, e1, e2⟩ := sm1 r t ef
               rw [ef] at lz pz
               cases pz with
               | cons hz1 hz2 =>
                 rename_i z0 zt
                 refine iteTb (decide_eq_true (by show (0 : Int) < ((z0 :: zt).length : Nat); rw [List.length_cons]; omega)) ?_
                 refine ⟨_, rfl, _, rfl, D2, _, _, z0, rfl, rfl, SqL.of eD2, atI_nat (j := 0) rfl, _, rfl, p, n, j, z0, r, rfl, hz1, hp, hrL, hn, hj1, hh, fun lead H4 s4 hl => ?_⟩
                 have hX4 := s4 _ _ hX3
                 have hY4 := s4 _ _ hY3
                 have hxs4 := paired_mono (fun _ _ q => q.same s4) hxs3
                 have hys4 := paired_mono (fun _ _ q => q.same s4) hys3
                 have hleadL : Ltr p n (led p r j) := led_ltr (prime_pos hp) hrL.1
                 refine ⟨_, rfl, _, rfl, _, rfl, _, rfl, FT, p, n, j, .ref X, lead, _, led p r j, rfl, good_T, ⟨X, xs, rfl, hX4, hxs4⟩, hl.ft, hp, (fun u hu => I.left u (List.mem_filter.mp hu).1), hleadL, hn, hfl, hj1, fun y5 H5 s5 hy5 => ?_⟩
                 obtain ⟨Y5, ws, rfl, hY5, hws⟩ := hy5
                 have hl5 := hl.same s5
                 have lw := paired_len hws
                 refine ⟨Y5, rfl, ⟨_, SqL.of hY5⟩, fun D5 hD5 => lc_list (K := K) (a := Y5) (xs := ws) (fun i H' => Bld FT H5 D5 (((((run p rows j).1.filter nz).map (clr p (led p r j) j)).take i).filter nz) H') (Bld.start hD5) (fun i H' _ b => SqL.of (b.same _ _ hY5)) ?_ ?_⟩
                 · intro i x H6 hx b
                   obtain ⟨u, hu0, hxu⟩ := paired_at hws hx
                   have hx1 := hxu.same b.same
                   obtain ⟨c, rfl, hc⟩ := id hx1
                   refine ⟨rfl, _, rfl, c, u, rfl, sqT hc, _, rfl, ?_⟩
                   cases e : nz u with
                   | true => exact iteTb e ⟨_, rfl, bld_if b hu0 hD5 (Same.refl _) hx1 (hx1.neL b.ex.choose_spec.1) (by rw [List.length_map]; exact hfl) e⟩
                   | false => exact iteFb e (bld_not b hu0 (Same.refl _) e)
                 · intro H6 b
                   obtain ⟨s6, vs6, eD5, pv6⟩ := b.fin
                   rw [lw, List.take_length, e1] at pv6
                   have s46 := s5.trans s6
                   refine ⟨_, rfl, _, rfl, _, rfl, _, rfl, FN, p, n, j, .ref Y, lead, _, led p r j, rfl, good_N, ⟨Y, yv, rfl, s46 _ _ hY4, paired_mono (fun _ _ q => q.same s46) hys4⟩, (hl.same s46).ft, hp, I.done, hleadL, hn, hdl, hj1, fun y7 H7 s7 hy7 => ?_⟩
                   obtain ⟨Y7, us, rfl, hY7, hus⟩ := hy7
                   refine ⟨Y7, us, rfl, .inr (SqL.of hY7), _, rfl, ?_⟩
                   have lu := paired_len hus
                   rw [List.length_map] at lu
                   refine ⟨(by rw [List.length_append, lu]; exact Nat.le_trans (Nat.add_le_add_right hdl _) (by show 201 ≤ sizeLine; decide)), fun Z hZ => ?_⟩
                   have s8 : Same H7 (upd H7 Z (.lst (us ++ [lead]))) := same_new hZ
                   refine ⟨_, rfl, _, _, rfl, rfl, ?_⟩
                   refine ⟨pv2, .ref D5, .ref Z, _, _, _, rfl, (((sH.trans s3).trans s4).trans s46).trans (s7.trans s8), ?_, ?_, I2⟩
                   · exact ⟨D5, vs6, rfl, (s7.trans s8) _ _ eD5, paired_mono (fun _ _ q => q.same (s7.trans s8)) pv6⟩
                   · refine ⟨Z, us ++ [lead], rfl, upd_same, ?_⟩
                     show Paired (FN _) _ (stp p j (run p rows j)).2
                     rw [← e2]
                     exact paired_app (paired_mono (fun _ _ q => q.same s8) hus) (.cons ((hl.same s46).same (s7.trans s8)) .nil)
         · refine ⟨_, rfl, Y, yv, rfl, .inl ⟨SqL.of hY, fun q hq => k (.ref q) _ (sH.trans (same_new hq)) ⟨q, yv, rfl, upd_same, ?_⟩⟩⟩
           have hnil : (run p rows j).1.filter nz = [] := by
             cases e : (run p rows j).1.filter nz with
             | nil => rfl
             | cons r t =>
               exfalso
               rw [e] at lx
               exact h0 (by rw [lx, List.length_cons]; omega)
           rw [red_run hR, run_end I hj hnil]
           exact paired_mono (fun _ _ z => z.same (same_new hq)) hys)
end
end WU

set_option maxRecDepth 100000
set_option maxHeartbeats 8000000
namespace WU
open PySem PySem.Spec PyProof.Rows L2
/-- a statement whose next state is told more loosely -/
def tWk (t : TS) : TS := fun D σ H => ∃ P : L2.St → Hp → Prop, t { D with nx := P } σ H ∧ ∀ σ1 H1, P σ1 H1 → D.nx σ1 H1
theorem ps_wk {X : Cx} {st : Stmt} {t : TS} (h : PS X st t) : PS X st (tWk t) := by
  refine ⟨fun pins s σ H D I ⟨P, q, k⟩ => thn (h.run pins s σ H { D with nx := P } I q) fun f s1 z => ?_⟩
  cases f with
  | next =>
    obtain ⟨σ', H', I', z⟩ := z
    exact ⟨σ', H', I', k _ _ z⟩
  | ret v => exact z
  | brk => exact z
  | cont => exact z
theorem FQ.keep {H H' : Hp} {a d : Addr} {y : V} {z : List Int} (h : FQ H y z) (hH : HandAt H a d) (k : Keep a H H') : FQ H' y z := by
  obtain ⟨c, e, h⟩ := h
  obtain ⟨ds, i0, z1, _⟩ := hH
  exact ⟨c, e, k _ _ (ne_of h z1 (by intro z; cases z)) h⟩
theorem FQ.but {H H' : Hp} {D : Addr} {xs : List V} {y : V} {z : List Int} (h : FQ H y z) (e : H D = some (.lst xs)) (k : ∀ b o, b ≠ D → H b = some o → H' b = some o) : FQ H' y z :=
  stab_FQ D H H' y z k (h.neL e) h
theorem lst_ne {H : Hp} {a d R : Addr} {ls : List Int} (hH : HandAt H a d) (h : H R = some (.lst (ls.map V.int))) : R ≠ a := by
  obtain ⟨ds, i0, z1, z2, _⟩ := hH
  intro q
  subst q
  rw [z1] at h
  have := HO.lst.inj (Option.some.inj h)
  cases ls with
  | nil => cases this
  | cons x t => cases (List.cons.inj this).1
theorem cut_to {xs : List V} {k : Nat} (hk : k ≤ xs.length) : cutV xs none (some (k : Int)) = xs.take k := by
  unfold cutV
  rw [HT.sIx_none, HT.sIx_nat, List.drop_zero, Nat.sub_zero, Nat.min_eq_left hk]
theorem cut_from {xs : List V} {k : Nat} (hk : k ≤ xs.length) : cutV xs (some (k : Int)) none = xs.drop k := by
  unfold cutV
  rw [HT.sIx_none, HT.sIx_nat, Nat.min_eq_left hk]
  exact List.take_of_length_le (by rw [List.length_drop]; omega)
theorem slA_is {K : PySem.W.Frag} {H : Hp} {a : Addr} {xs : List V} {lo hi : Option Int} {Q : VK} (h : H a = some (.tup xs)) (k : ∀ r H', Same H H' → H' r = some (.tup (cutV xs lo hi)) → Q (.ref r) H') : rSlA K (.ref a) lo hi H Q := by
  refine ⟨a, xs, rfl, SqT.of h, fun hw => ?_, fun _ r hr => k r _ (same_new hr) upd_same⟩
  have e : cutV xs lo hi = xs := by
    unfold cutV
    rw [hw.1, hw.2, List.drop_zero, Nat.sub_zero, List.take_length]
  exact k a H (Same.refl H) (by rw [e]; exact h)
theorem FT.keep {H H' : Hp} {a d : Addr} {y : V} {z : List Int} (h : FT H y z) (hH : HandAt H a d) (k : Keep a H H') : FT H' y z := by
  obtain ⟨c, e, h⟩ := h
  obtain ⟨ds, i0, z1, _⟩ := hH
  rcases h with h | ⟨o, h⟩
  · exact ⟨c, e, .inl (k _ _ (ne_of h z1 (by intro z; cases z)) h)⟩
  · exact ⟨c, e, .inr ⟨o, k _ _ (ne_of h z1 (by intro z; cases z)) h⟩⟩
def Lets (p : Int) (ls : List Int) : Prop := ∀ x ∈ ls, 0 ≤ x ∧ x < p
section
variable {P : Program} {w : World} {K : PySem.W.Frag} {mg : Str → Option Value} {base : Heap} {S : Addr}
def spLM : Sp := fun vs H Q _ => ∃ (a d : Addr) (p : Int) (m n : Nat), vs = [.ref a, .int p, .int m, .int n] ∧ HandAt H a d ∧ p ∈ primes ∧ m ≤ 100 ∧ n ≤ 100 ∧
  ∀ v rows H', MQ H' v rows → rows.length = m → (∀ r ∈ rows, Ltr p n r) → HandAt H' a d → Keep a H H' → Q v H'
theorem rep_one {x : V} : ∀ n : Nat, (List.replicate n [x]).flatten = List.replicate n x
  | 0 => rfl
  | n + 1 => by
    rw [List.replicate_succ, List.flatten_cons, rep_one n, List.replicate_succ]
    rfl
theorem rep_int (n : Nat) : (List.replicate n [V.int 0]).flatten = (List.replicate n (0 : Int)).map V.int := by
  rw [rep_one, List.map_replicate]
theorem rep_lets {p : Int} (hp : 0 < p) (n : Nat) : Lets p (List.replicate n 0) := fun x hx => by
  rw [(List.mem_replicate.mp hx).2]
  omega
theorem take_lets {p : Int} {ls : List Int} {n : Nat} (h : Lets p ls) (hn : n ≤ ls.length) : Ltr p n (ls.take n) :=
  ⟨by rw [List.length_take]; omega, fun x hx => h x (List.mem_of_mem_take hx)⟩
/-- the rows that stand in the list L -/
def Rws (p : Int) (n : Nat) (L : Addr) (i : Nat) (H : Hp) : Prop := ∃ ts rs, H L = some (.lst ts) ∧ Paired (FQ H) ts rs ∧ rs.length = i ∧ ∀ r ∈ rs, Ltr p n r
theorem Rws.keep {p : Int} {n i : Nat} {L a d : Addr} {H H' : Hp} (h : Rws p n L i H) (ne : L ≠ a) (hH : HandAt H a d) (k : Keep a H H') : Rws p n L i H' := by
  obtain ⟨ts, rs, e, q, l, z⟩ := h
  exact ⟨ts, rs, k _ _ ne e, paired_mono (fun _ _ f => f.keep hH k) q, l, z⟩
end
end WU

set_option maxRecDepth 100000
set_option maxHeartbeats 8000000
namespace WU
open PySem PySem.Spec PyProof.Rows L2
def retLc : Stmt → Scope
  | .Return (some (.Call _ (.ListComp _ _ sc _ :: _) _ _)) _ => sc
  | st => defScope st
theorem map_take_succ {α β : Type} {f : α → β} {l : List α} {i : Nat} {x : α} (h : l[i]? = some x) : (l.take (i + 1)).map f = (l.take i).map f ++ [f x] := by
  rw [List.take_succ, h, List.map_append]
  rfl
theorem map_range_succ {β : Type} {f : Nat → β} {i : Nat} : (List.range (i + 1)).map f = (List.range i).map f ++ [f i] := by
  rw [List.range_succ, List.map_append]
  rfl
theorem ref_new {H : Hp} {D q : Addr} {o : HO} (e : H D = some o) (hq : H q = none) : V.ref q ≠ V.ref D := fun z => by
  cases z
  rw [e] at hq
  cases hq
/-- ints that are places -/
def nV (ks : List Nat) : List V := ks.map fun (k : Nat) => V.int (k : Int)
theorem nV_at {ks : List Nat} {j : Nat} {y : V} (h : (nV ks)[j]? = some y) : ∃ k, ks[j]? = some k ∧ y = .int (k : Int) := by
  unfold nV at h
  rw [List.getElem?_map] at h
  obtain ⟨k, hk, rfl⟩ := Option.map_eq_some_iff.mp h
  exact ⟨k, hk, rfl⟩
theorem nV_len {ks : List Nat} : (nV ks).length = ks.length := List.length_map _
section
variable {P : Program} {w : World} {K : PySem.W.Frag} {mg : Str → Option Value} {base : Heap} {S : Addr}
/-- columns_at(rows, places) -/
def spCA : Sp := fun vs H Q _ => ∃ (v : V) (u : Addr) (rows : List (List Int)) (n : Nat) (ks : List Nat), vs = [v, .ref u] ∧ MT H v rows ∧ H u = some (.lst (nV ks)) ∧ (∀ r ∈ rows, r.length = n) ∧ (∀ k ∈ ks, k < n) ∧ rows.length ≤ 200 ∧ ks.length ≤ 200 ∧
  ∀ y H', Same H H' → MT H' y (rows.map fun r => ks.map (at0 r)) → Q y H'
/-- turned_rows(rows, columns) -/
def spTR : Sp := fun vs H Q _ => ∃ (v : V) (rows : List (List Int)) (n : Nat), vs = [v, .int n] ∧ MT H v rows ∧ (∀ r ∈ rows, r.length = n) ∧ rows.length ≤ 200 ∧ n ≤ 200 ∧
  ∀ y H', Same H H' → MT H' y ((List.range n).map (colm rows)) → Q y H'
theorem scTR : FnScope ["rows", "columns", "place", "row"] ["rows", "columns"] (defScope s_turned_rows) := ⟨rfl, rfl, rfl, by decide +kernel, rfl, by decide +kernel, by decide +kernel⟩
theorem ok_TR {f : Addr} {fd : FuncData} (F : FnS K "turned_rows" s_turned_rows f fd) (B : Blt4 mg) : FnOk P w K mg base (L2.CX P w) 1 f fd ["rows", "columns"] spTR := by
  refine F.ok scTR (fun vs H Q E h => ?_) (fun cdv A outer s H vs Q E hr h => ?_)
  · obtain ⟨v, rows, n, rfl, _⟩ := h
    rfl
  · obtain ⟨v, rows, n, rfl, ⟨a, ts, rfl, ha, hts⟩, hR, hm, hn, k⟩ := h
    have nd := scTR.nd
    refine ⟨_, (pss_one (ps_ret (pe_callTy (tup_ofK (K := K)) (by rfl) B.tuple (by decide +kernel) (pa_cons (pe_lc (own := [("place", 2)]) (g := gName 2) (by rfl) nd (pi_range1 rfl B.range (pa_cons (pv 1) pa_nil)) (blkOk_by (own := [("place", 2)]) (N := ["rows", "columns", "place", "row"]) (sc := defScope s_turned_rows) (by decide +kernel)) (fun _ _ _ _ _ => (pg_name (i := 2) nd rfl (Or.inr rfl))) (fun _ _ _ _ _ => pts_nil) (fun _ _ _ _ _ => (pe_callTy (tup_ofK (K := K)) (by rfl) B.tuple (by decide +kernel) (pa_cons (pe_lc (own := [("row", 3)]) (g := gName 3) (by rfl) nd (pi_tupK (K := K) (pv 0)) (blkOk_by (own := [("row", 3)]) (N := ["rows", "columns", "place", "row"]) (sc := relS (retLc ((defBody s_turned_rows).getD 0 (.Pass ⟨0, 0, 0, 0⟩))) (defScope s_turned_rows)) (by decide +kernel)) (fun _ _ _ _ _ => (pg_name (i := 3) nd rfl (Or.inl rfl))) (fun _ _ _ _ _ => pts_nil) (fun _ _ _ _ _ => (pe_ix (ix_tupK (K := K)) (pv 3) (pv 2) (fun _ _ => rfl)))) pa_nil)))) pa_nil)))), ?_⟩
    refine ⟨_, rfl, (n : Int), rfl, by omega, by omega, fun D hD => lc_range (lo := 0) (n := n) (fun i H' => Bld FT H D ((List.range i).map (colm rows)) H') (Bld.start hD) ?_ ?_⟩
    · intro i H1 hi b
      have ha1 := b.same _ _ ha
      refine ⟨rfl, _, rfl, a, rfl, ⟨_, SqT.of ha1⟩, fun D2 hD2 => lc_tup (K := K) (a := a) (xs := ts) (fun j H' => Bld FI H1 D2 ((rows.take j).map fun r => at0 r i) H') (Bld.start hD2) (fun j H' _ b => SqT.of (b.same _ _ ha1)) ?_ ?_⟩
      · intro j x H2 hx b2
        obtain ⟨r, hr0, hxr⟩ := paired_at hts hx
        obtain ⟨c, rfl, hc⟩ := (hxr.same b.same).same b2.same
        have hrl := hR r (List.mem_of_getElem? hr0)
        refine ⟨rfl, _, rfl, _, rfl, c, _, _, _, rfl, rfl, sqT hc, (by rw [Int.zero_add]; exact atI_nat (take_map_at n (r := r) (i := i) (by rw [hrl]; exact hi))), ?_⟩
        rw [map_take_succ hr0]
        exact b2.put (y := .int (at0 r i)) (z := at0 r i) stab_FI hD2 (Same.refl _) rfl (by intro z; cases z) (by rw [List.length_map, List.length_take]; exact small1000 (by omega))
      · intro H2 b2
        obtain ⟨s2, ys, eD, py⟩ := b2.fin
        rw [paired_len hts, List.take_length] at py
        rw [fi_map py] at eD
        refine ⟨D2, _, rfl, .inl ⟨SqL.of eD, fun q hq => ?_⟩⟩
        rw [map_range_succ]
        exact b.put (z := colm rows i) stab_FT hD (s2.trans (same_new hq)) FT.new (ref_new (s2 _ _ b.ex.choose_spec.1) hq) (by rw [List.length_map, List.length_range]; exact small1000 (by omega))
    · intro H1 b
      obtain ⟨s1, ys, eD, py⟩ := b.fin
      exact ⟨D, _, rfl, .inl ⟨SqL.of eD, fun q hq => k _ _ (s1.trans (same_new hq)) ⟨q, ys, rfl, upd_same, paired_mono (fun _ _ z => z.same (same_new hq)) py⟩⟩⟩
/-- leads_of(reduced) -/
def nI (ks : List Nat) : List Int := ks.map fun (k : Nat) => (k : Int)
def spLO : Sp := fun vs H Q _ => ∃ (v : V) (p : Int) (L : List (List Int)) (n : Nat) (qs : List Nat), vs = [v] ∧ MN H v L ∧ Rr p n L qs ∧ L.length ≤ 400 ∧ ∀ y H', Same H H' → FT H' y (nI qs) → Q y H'
theorem scLO : FnScope ["reduced", "row"] ["reduced"] (defScope s_leads_of) := ⟨rfl, rfl, rfl, by decide +kernel, rfl, by decide +kernel, by decide +kernel⟩
theorem ok_LO {f : Addr} {fd : FuncData} (F : FnS K "leads_of" s_leads_of f fd) (B : Blt4 mg) : FnOk P w K mg base (L2.CX P w) 1 f fd ["reduced"] spLO := by
  refine F.ok scLO (fun vs H Q E h => ?_) (fun cdv A outer s H vs Q E hr h => ?_)
  · obtain ⟨v, p, L, n, qs, rfl, _⟩ := h
    rfl
  · obtain ⟨v, p, L, n, qs, rfl, ⟨a, ts, rfl, ha, hts⟩, R, hm, k⟩ := h
    have nd := scLO.nd
    refine ⟨_, (pss_one (ps_ret (pe_callTy (tup_ofK (K := K)) (by rfl) B.tuple (by decide +kernel) (pa_cons (pe_lc (own := [("row", 1)]) (g := gName 1) (by rfl) nd (pi_tupK (K := K) (pv 0)) (blkOk_by (own := [("row", 1)]) (N := ["reduced", "row"]) (sc := defScope s_leads_of) (by decide +kernel)) (fun _ _ _ _ _ => (pg_name (i := 1) nd rfl (Or.inl rfl))) (fun _ _ _ _ _ => pts_nil) (fun _ _ _ _ _ => (pe_bmN PySem.F.plainAttrs_tuple PySem.F.slot_tuple_index PySem.F.type_tuple_index (mt_tupIxK (K := K)) (pv 1) (pa_cons pe_int pa_nil)))) pa_nil)))), ?_⟩
    refine ⟨_, rfl, a, rfl, ⟨_, SqT.of ha⟩, fun D hD => lc_tup (K := K) (a := a) (xs := ts) (fun i H' => Bld FI H D (nI (qs.take i)) H') (Bld.start hD) (fun i H' _ b => SqT.of (b.same _ _ ha)) ?_ ?_⟩
    · intro i x H1 hx b
      obtain ⟨r, hr0, hxr⟩ := paired_at hts hx
      obtain ⟨c, ob, rfl, hc, hod⟩ := hxr.same b.same
      have hil := (List.getElem?_eq_some_iff.mp hr0).1
      obtain ⟨d, hd⟩ : ∃ d, qs[i]? = some d := ⟨_, List.getElem?_eq_getElem (by rw [R.piv.len]; exact hil)⟩
      have hdn := R.piv.plt d (List.mem_of_getElem? hd)
      have hrl := (R.piv.ltr r (List.mem_of_getElem? hr0)).1
      have h1 : at0 r d = 1 := by rw [R.piv.one i i r d hr0 hd, if_pos rfl]
      refine ⟨rfl, _, rfl, ⟨c, ob, _, rfl, hc, hod⟩, c, r, 1, d, rfl, rfl, sqT (.inr ⟨ob, hc⟩), (by rw [at0_some (by omega), h1]), fun m hmd e => ?_, ?_⟩
      · have e2 := R.ah.ahead i r d hr0 hd m hmd
        rw [at0_some (by omega), e2] at e
        cases e
      · unfold nI
        rw [map_take_succ hd]
        exact b.put (y := .int (d : Nat)) (z := (d : Int)) stab_FI hD (Same.refl _) rfl (by intro z; cases z) (by unfold nI; rw [List.length_map, List.length_take]; exact small1000 (by rw [R.piv.len]; omega))
    · intro H1 b
      obtain ⟨s1, ys, eD, py⟩ := b.fin
      rw [paired_len hts, ← R.piv.len, List.take_length] at py
      rw [fi_map py] at eD
      exact ⟨D, _, rfl, .inl ⟨SqL.of eD, fun q hq => k _ _ (s1.trans (same_new hq)) FT.new⟩⟩
end
end WU

set_option maxRecDepth 100000
set_option maxHeartbeats 8000000
namespace WU
open PySem PySem.Spec PyProof.Rows L2
structure Blt5 (mg : Str → Option Value) : Prop extends Blt4 mg where
  sum : mg "sum" = none
theorem sum_dotn {r ls : List Int} : ∀ n, ((List.range n).map fun k => at0 r k * at0 ls k).sum = dotn n r ls
  | 0 => rfl
  | n + 1 => by
    rw [map_range_succ, List.sum_append, sum_dotn n]
    show dotn n r ls + (at0 r n * at0 ls n + 0) = _
    rw [Int.add_zero]
    rfl
section
variable {P : Program} {w : World} {K : PySem.W.Frag} {mg : Str → Option Value} {base : Heap} {S : Addr}
/-- _products(p, rows, letters) -/
def spPr : Sp := fun vs H Q _ => ∃ (p : Int) (n : Nat) (v : V) (u : Addr) (rows : List (List Int)) (ls : List Int), vs = [.int p, v, .ref u] ∧ MT H v rows ∧ SqO H u (ls.map V.int) ∧ p ∈ primes ∧ (∀ r ∈ rows, Ltr p n r) ∧ ls.length = n ∧ n ≤ 200 ∧ rows.length ≤ 200 ∧
  ∀ y H', Same H H' → FT H' y (rows.map fun r => (dotn n r ls).fmod p) → Q y H'
/-- _zero_row(p, leading, leads, columns, free) -/
def spZR : Sp := fun vs H Q _ => ∃ (p : Int) (n f : Nat) (v l : V) (L : List (List Int)) (pvs : List Nat), vs = [.int p, v, l, .int n, .int f] ∧ MT H v L ∧ FT H l (nI pvs) ∧ p ∈ primes ∧ Rr p n L pvs ∧ f ∈ free n pvs ∧ n ≤ 200 ∧ L.length ≤ 400 ∧
  ∀ y z H', Same H H' → ZR p n L pvs f z → FT H' y z → Q y H'
theorem nI_at {ks : List Nat} {j : Nat} {y : V} (h : ((nI ks).map V.int)[j]? = some y) : ∃ k, ks[j]? = some k ∧ y = .int (k : Int) := by
  unfold nI at h
  rw [List.map_map, List.getElem?_map] at h
  obtain ⟨k, hk, rfl⟩ := Option.map_eq_some_iff.mp h
  exact ⟨k, hk, rfl⟩
theorem nI_len {ks : List Nat} : (nI ks).length = ks.length := List.length_map _
end
end WU

set_option maxRecDepth 100000
set_option maxHeartbeats 8000000
namespace WU
open PySem PySem.Spec PyProof.Rows L2
theorem nI_succ {q : Nat → Bool} {i : Nat} : nI ((List.range (i + 1)).filter q) = nI ((List.range i).filter q) ++ (if q i = true then [(i : Int)] else []) := by
  unfold nI
  rw [List.range_succ, List.filter_append, List.map_append, List.filter_cons]
  split <;> rfl
theorem nI_le {q : Nat → Bool} {i : Nat} : (nI ((List.range i).filter q)).length ≤ i := by
  rw [nI_len]
  exact Nat.le_trans (List.length_filter_le _ _) (by simp)
theorem mem_nI {k : Nat} {ks : List Nat} : ((k : Int) ∈ nI ks) ↔ k ∈ ks := by
  unfold nI
  rw [List.mem_map]
  constructor
  · rintro ⟨a, ha, e⟩
    have : a = k := by omega
    exact this ▸ ha
  · exact fun h => ⟨k, h, rfl⟩
theorem inV_ints {z : Int} : ∀ {zs : List Int}, inV (.int z) (zs.map V.int) = decide (z ∈ zs)
  | [] => rfl
  | y :: zs => by
    have ih := inV_ints (z := z) (zs := zs)
    unfold inV at ih ⊢
    rw [List.map_cons, List.any_cons, ih]
    have e : eqV (V.int y) (V.int z) = decide (y = z) := by
      show (y == z) = _
      by_cases h : y = z
      · rw [decide_eq_true h]; exact beq_iff_eq.mpr h
      · rw [decide_eq_false h]; exact beq_eq_false_iff_ne.mpr h
    rw [e]
    by_cases h : y = z
    · subst h
      have m : decide (y ∈ y :: zs) = true := decide_eq_true List.mem_cons_self
      rw [m, decide_eq_true (rfl : y = y)]
      rfl
    · rw [decide_eq_false h, Bool.false_or]
      by_cases h2 : z ∈ zs
      · rw [decide_eq_true h2, decide_eq_true (List.mem_cons_of_mem _ h2)]
      · rw [decide_eq_false h2, decide_eq_false (fun z2 => (List.mem_cons.mp z2).elim (fun q => h q.symm) h2)]
theorem widD_wid (rows : List (List Int)) : widD (MD rows) = (wid rows : Nat) := by
  cases rows with
  | nil => rfl
  | cons r t =>
    show (((r.map PyData.int).length : Nat) : Int) = (r.length : Nat)
    rw [List.length_map]
theorem wid_of {p : Int} {n : Nat} {rows : List (List Int)} (h : ∀ r ∈ rows, Ltr p n r) : wid rows ≤ n ∧ ∀ r ∈ rows, r.length = wid rows := by
  cases rows with
  | nil => exact ⟨Nat.zero_le _, fun r hr => nomatch hr⟩
  | cons r t => exact ⟨Nat.le_of_eq (h r List.mem_cons_self).1, fun u hu => (h u hu).1.trans (h r List.mem_cons_self).1.symm⟩
theorem red_le {p : Int} {n : Nat} {rows : List (List Int)} (h : ∀ r ∈ rows, Ltr p n r) : (red p rows).length ≤ rows.length := by
  rw [red_run h]
  have := run_len (p := p) (rows := rows) n
  omega
section
variable {P : Program} {w : World} {K : PySem.W.Frag} {mg : Str → Option Value} {base : Heap} {S : Addr}
/-- the checks of the field and of the matrix -/
def ChkP (K : PySem.W.Frag) (H : Hp) (v u : V) (E : XK) (good : Int → Prop) : Prop := Ty3 K H v ∧ (isFld v = false → Errs (He.ga K "InvalidNumber") "value" v H E) ∧
  ∀ p, v = .int p → isFld v = true → (∃ d, Dp K H u d ∧ smallM d ∧ matD p (widD d) d = false ∧ Errs (He.ga K "InvalidMatrix") "value" u H E) ∨ good p
/-- zero_rows(p, rows, columns) -/
def spZs (K : PySem.W.Frag) : Sp := fun vs H Q E => ∃ (v u : V) (c : V), vs = [v, u, c] ∧ ChkP K H v u E fun p => ∃ (n : Nat) (rows : List (List Int)), c = .int n ∧ MT H u rows ∧ (∀ r ∈ rows, Ltr p n r) ∧ n ≤ 200 ∧ rows.length ≤ 200 ∧
  ∀ y H' Z qs, Same H H' → Rr p n (red p rows) qs → Z.length = (free n qs).length → (∀ (i f : Nat) (z : List Int), (free n qs)[i]? = some f → Z[i]? = some z → ZR p n (red p rows) qs f z) → MT H' y (red p Z) → Q y H'
/-- without_columns(p, rows, places) -/
def spWC (K : PySem.W.Frag) : Sp := fun vs H Q E => ∃ (v u : V) (c : V), vs = [v, u, c] ∧ ChkP K H v u E fun p => ∃ (n : Nat) (rows : List (List Int)) (a : Addr) (ps : List Int), c = .ref a ∧ SqO H a (ps.map V.int) ∧ MT H u rows ∧ (∀ r ∈ rows, Ltr p n r) ∧ n ≤ 200 ∧ rows.length ≤ 200 ∧
  ∀ y H', Same H H' → MT H' y (rows.map fun r => ((List.range (wid rows)).filter fun (k : Nat) => decide ((k : Int) ∉ ps)).map (at0 r)) → Q y H'
/-- products(p, rows, letters) -/
def spPs (K : PySem.W.Frag) : Sp := fun vs H Q E => ∃ (v u : V) (c : V), vs = [v, u, c] ∧ ChkP K H v u E fun p => ∃ (n : Nat) (rows : List (List Int)) (a : Addr) (ls : List Int), c = .ref a ∧ SqO H a (ls.map V.int) ∧ ls.length = n ∧ MT H u rows ∧ (∀ r ∈ rows, Ltr p n r) ∧ n ≤ 200 ∧ rows.length ≤ 200 ∧
  ∀ y H', Same H H' → FT H' y (rows.map fun r => (dotn n r ls).fmod p) → Q y H'
/-- matrix_product(p, rows, others) -/
def spMP (K : PySem.W.Frag) : Sp := fun vs H Q E => ∃ (v u : V) (c : V), vs = [v, u, c] ∧ ChkP K H v u E fun p => ∃ (n m : Nat) (rows others : List (List Int)), MT H c others ∧ others ≠ [] ∧ others.length = n ∧ (∀ r ∈ others, Ltr p m r) ∧ m ≤ 200 ∧ MT H u rows ∧ (∀ r ∈ rows, Ltr p n r) ∧ n ≤ 200 ∧ rows.length ≤ 200 ∧
  ∀ y H', Same H H' → MT H' y (rows.map fun r => ((List.range m).map (colm others)).map fun c => (dotn n c r).fmod p) → Q y H'
end
end WU

set_option maxRecDepth 100000
set_option maxHeartbeats 8000000
namespace WU
open PySem PySem.Spec PyProof.Rows L2
/-! ### `==` of matrices -/
theorem dec_and_cons {α : Type} [DecidableEq α] {x y : α} {xs ys : List α} : (decide (x = y) && decide (xs = ys)) = decide (x :: xs = y :: ys) := by
  by_cases h : x = y
  · by_cases h2 : xs = ys
    · rw [decide_eq_true h, decide_eq_true h2, decide_eq_true (by rw [h, h2])]
      rfl
    · rw [decide_eq_false h2, decide_eq_false (fun z => h2 (List.cons.inj z).2), Bool.and_false]
  · rw [decide_eq_false h, decide_eq_false (fun z => h (List.cons.inj z).1), Bool.false_and]
theorem eqv_ints : ∀ r s : List Int, PyData.eqvAll (r.map PyData.int) (s.map PyData.int) = decide (r = s)
  | [], [] => by simp only [List.map_nil, PyData.eqvAll]; decide
  | [], y :: s => by simp only [List.map_nil, List.map_cons, PyData.eqvAll]; exact (decide_eq_false (fun h => nomatch h)).symm
  | x :: r, [] => by simp only [List.map_nil, List.map_cons, PyData.eqvAll]; exact (decide_eq_false (fun h => nomatch h)).symm
  | x :: r, y :: s => by
    simp only [List.map_cons, PyData.eqvAll, PyData.eqv]
    rw [eqv_ints r s, ← dec_and_cons]
    rfl
theorem eqv_rows : ∀ r s : List (List Int), PyData.eqvAll (r.map rowP) (s.map rowP) = decide (r = s)
  | [], [] => by simp only [List.map_nil, PyData.eqvAll]; decide
  | [], y :: s => by simp only [List.map_nil, List.map_cons, PyData.eqvAll]; exact (decide_eq_false (fun h => nomatch h)).symm
  | x :: r, [] => by simp only [List.map_nil, List.map_cons, PyData.eqvAll]; exact (decide_eq_false (fun h => nomatch h)).symm
  | x :: r, y :: s => by
    simp only [List.map_cons, PyData.eqvAll, PyData.eqv]
    rw [eqv_rows r s, ← dec_and_cons]
    congr 1
    unfold rowP
    simp only [PyData.eqv]
    exact eqv_ints x y
theorem eqv_MD (r s : List (List Int)) : PyData.eqv (MD r) (MD s) = decide (r = s) := by
  unfold MD
  simp only [PyData.eqv]
  exact eqv_rows r s
theorem can_ints : ∀ r : List Int, PyData.canLayAll0 (r.map PyData.int) = true ∧ PyData.depthAll (r.map PyData.int) = 0
  | [] => ⟨rfl, rfl⟩
  | x :: r => by
    obtain ⟨a, b⟩ := can_ints r
    constructor
    · simp only [List.map_cons, PyData.canLayAll0, PyData.canLay0, a, Bool.and_self]
    · simp only [List.map_cons, PyData.depthAll, PyData.depth, b]
      rfl
theorem can_rows : ∀ r : List (List Int), PyData.canLayAll0 (r.map rowP) = true ∧ PyData.depthAll (r.map rowP) ≤ 1
  | [] => ⟨rfl, Nat.zero_le _⟩
  | x :: r => by
    obtain ⟨a, b⟩ := can_rows r
    obtain ⟨c, d⟩ := can_ints x
    constructor
    · simp only [List.map_cons, PyData.canLayAll0, rowP, PyData.canLay0, a, c, Bool.and_self]
    · simp only [List.map_cons, PyData.depthAll, rowP, PyData.depth, d]
      exact Nat.max_le.mpr ⟨Nat.le_refl _, b⟩
theorem shaped_MD (r : List (List Int)) : SeqAt.shaped (MD r) = true := by
  obtain ⟨a, b⟩ := can_rows r
  unfold SeqAt.shaped MD
  simp only [PyData.canLay0, PyData.depth, a, Bool.true_and]
  exact decide_eq_true (by omega)
theorem atI_last {α : Type} {xs : List α} {j : Nat} {v : α} (hl : xs.length = j + 1) (h : xs[j]? = some v) : atI xs (-1) = some v := by
  have e : ixN xs.length (-1) = some j := by
    unfold ixN
    rw [if_neg (by decide), if_pos (by omega), hl]
    congr 1
    omega
  unfold atI
  rw [e]
  exact h
section
variable {P : Program} {w : World} {K : PySem.W.Frag} {mg : Str → Option Value} {base : Heap} {S : Addr}
theorem pa_starK {X : Cx} {K : PySem.W.Frag} {e : Expr} {es : List Expr} {te : TE} {t : TA} {p : Pos} (he : PE X e te) (hr : PA X es t) (hs : starEach (.Starred e p :: es) X.env = (true, eval e X.env) :: starEach es X.env := by rfl) (hK : X.K = K := by rfl) :
    PA X (.Starred e p :: es) (StX.tStar K te t) := hK ▸ StX.pa_star he hr hs
/-- in_span(p, rows, row) -/
def spIS (K : PySem.W.Frag) : Sp := fun vs H Q E => ∃ (v u : V) (c : V), vs = [v, u, c] ∧ ChkP K H v u E fun p => ∃ (n : Nat) (rows : List (List Int)) (r : List Int), FT H c r ∧ Ltr p n r ∧ MT H u rows ∧ (∀ r ∈ rows, Ltr p n r) ∧ n ≤ 200 ∧ rows.length ≤ 190 ∧
  ∀ H', Same H H' → Q (.bl (decide (red p (rows ++ [r]) = red p rows))) H'
/-- sum_to(p, rows, row) -/
def spST (K : PySem.W.Frag) : Sp := fun vs H Q E => ∃ (v u : V) (c : V), vs = [v, u, c] ∧ ChkP K H v u E fun p => ∃ (n : Nat) (rows : List (List Int)) (b : List Int), FT H c b ∧ Ltr p n b ∧ MT H u rows ∧ (∀ r ∈ rows, Ltr p n r) ∧ n ≤ 190 ∧ rows.length ≤ 190 ∧
  (∀ qs, Rr p (rows.length + 1) (red p (eqs rows b n)) qs → rows.length ∈ qs → Errs (He.ga K "Undefined") "what" (.str "sum") H E) ∧
  ∀ y x H' qs, Same H H' → Rr p (rows.length + 1) (red p (eqs rows b n)) qs → rows.length ∉ qs → SetP (zer rows.length) qs (fun l => at0 ((red p (eqs rows b n)).getD l []) rows.length) (red p (eqs rows b n)).length x → FT H' y x → Q y H'
theorem scST : FnScope ["p", "rows", "row", "equations", "solved", "leads", "letters", "lead", "equation", "column", "letter"] ["p", "rows", "row"] (defScope s_sum_to) := ⟨rfl, rfl, rfl, by decide +kernel, rfl, by decide +kernel, by decide +kernel⟩
theorem ok_ST {f f1 f2 f3 f4 : Addr} {fd fd1 fd2 fd3 fd4 fdU : FuncData} (F : FnS K "sum_to" s_sum_to f fd) (B : Blt5 mg) (CM : Cal P w K mg base 7 "check_matrix" f1 fd1 ["p", "rows"] (spChk K)) (CR : Cal P w K mg base 6 "_reduced" f2 fd2 ["p", "rows"] spRed)
    (CL : Cal P w K mg base 1 "leads_of" f3 fd3 ["reduced"] spLO) (CT : Cal P w K mg base 1 "turned_rows" f4 fd4 ["rows", "columns"] spTR) (TU : Exc1 K mg "Undefined" "what")
    (FU : FnOk P w K mg base (L2.CX P w) 1 (He.ma K (He.ga K "Undefined") "__init__") fdU ["self", "what"] (spInit1 K (He.ga K "Undefined") "what")) (bU : Binds K fdU ["self", "what"] []) :
    FnOk P w K mg base (L2.CX P w) 8 f fd ["p", "rows", "row"] (spST K) := by
  refine F.ok scST (fun vs H Q E h => ?_) (fun cdv A outer s H vs Q E hr h => ?_)
  · obtain ⟨v, u, c, rfl, _⟩ := h
    rfl
  · obtain ⟨v, u, c, rfl, hv, kF, kk⟩ := h
    have nd := scST.nd
    refine ⟨_, (pss_cons (ps_expr (pe_cal (E := E) CM (hr.mono (by decide)) (pa_cons (pv 0) (pa_cons (pv 1) pa_nil)) (passes_call (takes_of rfl rfl rfl rfl) (fun _ _ _ _ h => h))))
      (pss_cons (ps_setLc (i := 3) (own := [("column", 9), ("letter", 10)]) (g := gTup K 2 (gCons (gName 9) (gCons (gName 10) gNil))) (by rfl) nd rfl rfl (sw_true rfl rfl rfl (by decide +kernel)) (RZ.pi_zipA (by rfl) B.zip (pa_cons (pe_cal CT (hr.mono (by decide)) (pa_cons (pv 1) (pa_cons (pe_callB (len_seqK (K := K)) (by rfl) B.len (by decide +kernel) (pa_cons (pv 2) pa_nil)) pa_nil)) passU) (pa_cons (pv 2) pa_nil))) (blkOk_by (own := [("column", 9), ("letter", 10)]) (N := ["p", "rows", "row", "equations", "solved", "leads", "letters", "lead", "equation", "column", "letter"]) (sc := defScope s_sum_to) (by decide +kernel)) (fun _ _ _ _ _ => (pg_tup rfl (pgs_cons (pg_name (i := 9) nd rfl (Or.inl rfl)) (pgs_cons (pg_name (i := 10) nd rfl (Or.inl rfl)) pgs_nil)))) (fun _ _ _ _ _ => pts_nil) (fun _ _ _ _ _ => (pe_tup (pa_starK (K := K) (pv 9) (pa_cons (pv 10) pa_nil)))))
      (pss_cons (ps_set (i := 4) nd rfl (Or.inl rfl) (pe_cal CR (hr.mono (by decide)) (pa_cons (pv 0) (pa_cons (pv 3) pa_nil)) passU))
      (pss_cons (ps_set (i := 5) nd rfl (Or.inl rfl) (pe_cal CL (hr.mono (by decide)) (pa_cons (pv 4) pa_nil) passU))
      (pss_cons (ps_if (pt_cmpR (op_inK (K := K)) (pe_callB (len_seqK (K := K)) (by rfl) B.len (by decide +kernel) (pa_cons (pv 1) pa_nil)) (pv 5) rfl) (pss_one (ps_raise1 rfl (takes_of rfl rfl rfl rfl) TU FU bU (hr.mono (by decide)) (pa_cons pe_str pa_nil))) pss_nil)
      (pss_cons (ps_set (i := 6) nd rfl (Or.inl rfl) (pe_op op_rep (pe_lst (pa_cons pe_int pa_nil)) (pe_callB (len_seqK (K := K)) (by rfl) B.len (by decide +kernel) (pa_cons (pv 1) pa_nil))))
      (pss_cons (ps_for (passes_of rfl) rfl (RZ.pi_zipA (by rfl) B.zip (pa_cons (pv 5) (pa_cons (pv 4) pa_nil))) (pg_tup rfl (pgs_cons (pg_name (i := 7) nd rfl (Or.inl rfl)) (pgs_cons (pg_name (i := 8) nd rfl (Or.inl rfl)) pgs_nil))) (pss_one (ps_asg (pe_ix (ix_tupK (K := K)) (pv 8) (pe_un un_neg pe_int) (fun _ _ => rfl)) (pg_sub (pv 6) (pv 7) set_list))))
      (pss_one (ps_ret (pe_callTy (tup_ofK (K := K)) (by rfl) B.tuple (by decide +kernel) (pa_cons (pv 6) pa_nil))))))))))), ?_⟩
    refine ⟨_, rfl, _, rfl, v, u, rfl, hv, kF, fun p ep e => ?_⟩
    subst ep
    rcases kk p rfl e with ⟨d, hd, hz, em, kE⟩ | k
    · exact ⟨d, hd, hz, fun _ => kE, fun e2 => by rw [em] at e2; cases e2⟩
    obtain ⟨n, rows, b, hc, hbL, hM, hR, hn9, hm9, kU, k⟩ := k
    have hn : n ≤ 200 := by omega
    have hm : rows.length ≤ 200 := by omega
    refine ⟨MD rows, hM.dp, small_rows hR hn hm, fun e2 => (by rw [wid_rows hR] at e2; cases e2), fun _ H1 s1 => ?_⟩
    have hp := fld_mem e
    have p0 := prime_pos hp
    obtain ⟨a, ts, rfl, ha, hts⟩ := hM
    have hM : MT H (.ref a) rows := ⟨a, ts, rfl, ha, hts⟩
    obtain ⟨d, rfl, hd⟩ := id hc
    have lt := paired_len hts
    refine ⟨_, rfl, _, rfl, d, _, rfl, .inr (sqT (rd_same s1 hd)), ?_⟩
    rw [List.length_map, hbL.1]
    refine ⟨.ref a, rows, n, rfl, hM.same s1, fun r hr => (hR r hr).1, hm, hn, fun yt H2 s2 hyt => ?_⟩
    obtain ⟨c, us, rfl, hcT, hus⟩ := hyt
    have hd2 := rd_same (s1.trans s2) hd
    have lu := paired_len hus
    rw [List.length_map, List.length_range] at lu
    have lb : (b.map V.int).length = n := by rw [List.length_map, hbL.1]
    refine ⟨_, rfl, c, d, us, b.map V.int, rfl, .inr ⟨SqT.of hcT, sqT hd2, fun D hD => lc_it (walk_zipT (n := n) (by rw [lu, lb]; exact (Nat.min_self n).symm)) (fun j H' => Bld FT H2 D ((List.range j).map (eqn rows b)) H') (Bld.start hD) (fun j H' _ z => ⟨SqT.of (z.same _ _ hcT), sqT (rd_same z.same hd2)⟩) ?_ ?_⟩⟩
    · rintro j x H3 H4 hj z ⟨T, x1, x2, rfl, hT, rfl, g1, g2⟩
      cases (take_map_at n (r := b) (i := j) (by rw [hbL.1]; exact hj)).symm.trans g2
      obtain ⟨q, hq, hx1⟩ := paired_at hus g1
      rw [List.getElem?_map, List.getElem?_range hj] at hq
      cases hq
      have s4 : Same H3 (upd H3 T (.tup [x1, .int (at0 b j)])) := same_new hT
      obtain ⟨g, rfl, hg⟩ := (hx1.same z.same).same s4
      refine ⟨T, _, rfl, SqT.of upd_same, rfl, _, _, rfl, _, _, rfl, rfl, rfl, ?_⟩
      refine ⟨_, rfl, g, _, rfl, .inl (sqT hg), _, rfl, ?_⟩
      have ee : (colm rows j).map V.int ++ [V.int (at0 b j)] = (eqn rows b j).map V.int := by
        unfold eqn
        rw [List.map_append]
        rfl
      refine ⟨(by rw [ee, List.length_map, eqn_len]; exact Nat.le_of_lt (small1000 (by omega))), fun Z hZ => ?_⟩
      rw [ee, map_range_succ]
      exact z.put stab_FT hD (s4.trans (same_new hZ)) FT.new (ref_new (s4 _ _ z.ex.choose_spec.1) hZ) (by rw [List.length_map, List.length_range]; exact small1000 (by omega))
    · intro H3 z
      obtain ⟨s3, es, eD, pe⟩ := z.fin
      have s13 := (s1.trans s2).trans s3
      have hE := eqs_ltr (n := n) hR hbL
      have lE : (eqs rows b n).length = n := by
        unfold eqs
        rw [List.length_map, List.length_range]
      refine ⟨_, rfl, _, rfl, p, rows.length + 1, .ref D, eqs rows b n, rfl, ⟨D, es, rfl, .inl eD, pe⟩, hp, hE, by omega, by omega, fun y H4 s4 hy => ?_⟩
      obtain ⟨qs, R, _, _⟩ := red_rr hp hE
      have hle := red_le hE
      refine ⟨_, rfl, y, p, _, rows.length + 1, qs, rfl, hy, R, by omega, fun yl H5 s5 hl => ?_⟩
      obtain ⟨c2, rfl, hc2⟩ := hl
      have s15 := (s13.trans s4).trans s5
      refine ⟨_, rfl, a, ts, rfl, .inr (SqT.of (s15 _ _ ha)), _, rfl, c2, _, rfl, .inr (sqT hc2), rfl, flat_ints _, _, rfl, ?_⟩
      rw [inV_ints, lt]
      show if decide ((rows.length : Int) ∈ nI qs) = true then _ else _
      by_cases hin : rows.length ∈ qs
      · rw [decide_eq_true (mem_nI.mpr hin)]
        exact iteT ⟨.str "sum", rfl, errs_same (kU qs R hin) s15⟩
      · rw [decide_eq_false (fun z => hin (mem_nI.mp z))]
        refine iteF ⟨(by show 1 ≤ sizeLine; decide), fun Z hZ => ?_⟩
        have sz : Same H5 (upd H5 Z (.lst [.int 0])) := same_new hZ
        refine ⟨_, rfl, a, ts, rfl, .inr (SqT.of (sz _ _ (s15 _ _ ha))), ?_⟩
        rw [lt]
        refine ⟨Z, ((rows.length : Nat) : Int), _, rfl, rfl, upd_same, by omega, by omega, ?_, fun q hq => ?_⟩
        · show 1 * ((rows.length : Nat) : Int).toNat ≤ sizeLine
          exact Nat.le_of_lt (small1000 (by omega))
        · rw [Int.toNat_natCast, rep_int]
          generalize upd H5 Z (.lst [.int 0]) = H6 at sz hq ⊢
          have nq : ∀ b o, H5 b = some o → b ≠ q := fun b o e => ne_of_none (sz _ _ e) hq
          have eq : upd H6 q (.lst ((List.replicate rows.length (0 : Int)).map V.int)) q = some (.lst ((zer rows.length).map V.int)) := upd_same
          have s7 : Same H5 (upd H6 q (.lst ((List.replicate rows.length (0 : Int)).map V.int))) := sz.trans (same_new hq)
          generalize upd H6 q (.lst ((List.replicate rows.length (0 : Int)).map V.int)) = H7 at eq s7 ⊢
          have put : ∀ (H3 : Hp) (o : HO), Same H5 H3 → Same H5 (upd H3 q o) := fun H3 o s3 b ob e => by
            rw [upd_ne (nq b ob e)]
            exact s3 _ _ e
          obtain ⟨f, fs, rfl, hf, hfs⟩ := hy.same s5
          have lf := paired_len hfs
          have lc : ((nI qs).map V.int).length = (red p (eqs rows b n)).length := by rw [List.length_map, nI_len, R.piv.len]
          refine ⟨_, rfl, _, rfl, c2, f, _, _, rfl, .inr ⟨sqT (rd_same s7 hc2), SqT.of (s7 _ _ hf), for_it (walk_zipT (n := (red p (eqs rows b n)).length) (by rw [lc, lf]; exact (Nat.min_self _).symm)) (fun t σ H' => ∃ (x : List Int) (ld ot : Option V), σ = [some (.int p), some (.ref a), some (.ref d), some (.ref D), some (.ref f), some (.ref c2), some (.ref q), ld, ot, none, none] ∧ Same H5 H' ∧ H' q = some (.lst (x.map V.int)) ∧ SetP (zer rows.length) qs (fun l => at0 ((red p (eqs rows b n)).getD l []) rows.length) t x)
            ⟨zer rows.length, none, none, rfl, s7, eq, setP_zero⟩ (fun t σ H' _ ⟨x, ld, ot, _, s3, _⟩ => ⟨sqT (rd_same s3 hc2), SqT.of (s3 _ _ hf)⟩) ?_ ?_⟩⟩
          · rintro t y σ H8 H9 ht ⟨x, ld, ot, rfl, s8, eR, hx⟩ ⟨T, x1, x2, rfl, hT, rfl, g1, g2⟩
            obtain ⟨j, hj, rfl⟩ := nI_at g1
            obtain ⟨r, hr0, hxr⟩ := paired_at hfs g2
            have s9 : Same H8 (upd H8 T (.tup [.int (j : Int), x2])) := same_new hT
            obtain ⟨g, rfl, hg⟩ := ((hxr.ft.same s8).same s9)
            have hrl := (R.piv.ltr r (List.mem_of_getElem? hr0)).1
            have hjn := R.piv.plt j (List.mem_of_getElem? hj)
            have hjm : j < rows.length := by
              have : j ≠ rows.length := fun z => hin (z ▸ List.mem_of_getElem? hj)
              omega
            have gd : (red p (eqs rows b n)).getD t [] = r := by rw [List.getD_eq_getElem?_getD, hr0]; rfl
            have hxl : x.length = rows.length := by rw [hx.len, zer_len]
            have eR9 := s9 _ _ eR
            refine ⟨T, _, rfl, SqT.of upd_same, rfl, _, _, rfl, _, _, rfl, rfl, ?_⟩
            refine ⟨_, rfl, _, rfl, g, _, _, _, rfl, rfl, sqT hg, atI_last (j := rows.length) (by rw [List.length_map, hrl]) (take_map_at n (r := r) (i := rows.length) (by rw [hrl]; exact Nat.lt_succ_self _)), ?_⟩
            refine ⟨_, rfl, _, rfl, q, _, (j : Int), j, rfl, rfl, eR9, (by rw [List.length_map, hxl]; exact ixN_at hjm), ?_⟩
            have st := setP_step R.ah.inc hx hj (by rw [zer_len]; exact hjm)
            simp only [gd] at st
            refine ⟨x.set j (at0 r rows.length), _, _, rfl, put _ _ (s8.trans s9), ?_, st⟩
            rw [upd_same, List.map_set]
          · rintro σ H8 ⟨x, ld, ot, rfl, s8, eR, hx⟩
            exact ⟨_, rfl, q, _, rfl, .inl ⟨SqL.of eR, fun z hz => k _ x _ qs (s15.trans (s8.trans (same_new hz))) R hin hx FT.new⟩⟩
end
end WU

set_option maxRecDepth 100000
set_option maxHeartbeats 4000000
/-! t[::-1] of a tuple, and of what is a list or a tuple -/
namespace WU
open PySem PySem.Spec PyProof.Rows L2
section
variable {prog : Program} {w : World} {A : Around} {E : Value → Shared → Prop} {s : Shared}
theorem applied_back {sl : Addr} {vl vu vs : Value} {n : Nat} {Q : Int × Int × Nat → Shared → Prop} (hs : s.heap.IsSliceOf sl vl vu vs) (pl : IsPart vl none) (pu : IsPart vu none) (ps : IsPart vs (some (-1)))
    (h : Q ((n : Int) - 1, -1, n) s) : wpAny (model prog w) A (Builtin.Slice.sliceApplied (.ref sl) (pure (n : Int))) Q E s := by
  obtain ⟨os, hos, hcs, hds⟩ := id hs
  unfold Builtin.Slice.sliceApplied Builtin.Slice.sliceFields
  refine wpAny_bind (wpAny_bind (wpAny_field hos hds (x := vl) rfl (wpAny_bind (wpAny_field hos hds (x := vu) rfl (wpAny_bind (wpAny_field hos hds (x := vs) rfl (wpAny_pure ?_)))))))
  refine wpAny_bind (HT.slicePart_ ps ?_)
  show wpAny _ _ (if ((-1 : Int) == 0) = true then _ else _) _ _ s
  rw [if_neg (by decide)]
  refine wpAny_bind (HT.slicePart_ pl (wpAny_bind (HT.slicePart_ pu (wpAny_bind (wpAny_pure ?_)))))
  show wpAny _ _ (match Builtin.Slice.sliceAdjust none none (-1) (n : Int) with | (lo, hi) => pure (lo, (-1 : Int), Builtin.Slice.slicePlaces lo hi (-1))) _ _ s
  have e : Builtin.Slice.sliceAdjust none none (-1) (n : Int) = ((n : Int) - 1, -1) := by
    unfold Builtin.Slice.sliceAdjust
    simp
  rw [e]
  show wpAny _ _ (pure ((n : Int) - 1, (-1 : Int), Builtin.Slice.slicePlaces ((n : Int) - 1) (-1) (-1))) _ _ s
  have e2 : Builtin.Slice.slicePlaces ((n : Int) - 1) (-1) (-1) = n := by
    unfold Builtin.Slice.slicePlaces
    rw [if_neg (by decide)]
    by_cases hn : n = 0
    · subst hn
      decide
    · rw [if_pos (by omega), show (- (-1 : Int)) = 1 by decide, Int.ediv_one]
      omega
  rw [e2]
  exact wpAny_pure h
theorem pick_back (xs : Array Value) : ((List.range xs.size).filterMap fun (m : Nat) => xs[(((xs.size : Int) - 1) + (m : Int) * (-1)).toNat]?).toArray = xs.toList.reverse.toArray := by
  have e : (fun (m : Nat) => xs[(((xs.size : Int) - 1) + (m : Int) * (-1)).toNat]?) = fun m => if m < xs.size then xs.toList.reverse[m]? else xs[(((xs.size : Int) - 1) + (m : Int) * (-1)).toNat]? := by
    funext m
    by_cases h : m < xs.size
    · rw [if_pos h, List.getElem?_reverse (by simpa using h)]
      simp only [Array.getElem?_toList, Array.length_toList]
      congr 1
      omega
    · rw [if_neg h]
  congr 1
  refine List.ext_getElem? fun i => ?_
  have hfm : ∀ (k : Nat) (f : Nat → Option Value), (∀ m, m < k → ∃ v, f m = some v) → ((List.range k).filterMap f)[i]? = if i < k then f i else none := by
    intro k f hf
    induction k with
    | zero => simp
    | succ k ih =>
      obtain ⟨v, hv⟩ := hf k (Nat.lt_succ_self _)
      have ih' := ih fun m hm => hf m (by omega)
      have hl : ((List.range k).filterMap f).length = k := by
        clear ih ih' hv v
        induction k with
        | zero => rfl
        | succ k ih2 =>
          obtain ⟨v, hv⟩ := hf k (by omega)
          rw [List.range_succ, List.filterMap_append, List.length_append, ih2 fun m hm => hf m (by omega)]
          simp [hv]
      rw [List.range_succ, List.filterMap_append]
      by_cases h1 : i < k
      · rw [List.getElem?_append_left (by rw [hl]; exact h1), ih', if_pos h1, if_pos (by omega)]
      · rw [List.getElem?_append_right (by rw [hl]; omega), hl]
        simp only [List.filterMap_cons, hv, List.filterMap_nil]
        by_cases h2 : i = k
        · subst h2
          rw [Nat.sub_self, if_pos (Nat.lt_succ_self _), hv]
          rfl
        · rw [if_neg (by omega), List.getElem?_eq_none (by simp; omega)]
  rw [hfm]
  · by_cases h : i < xs.size
    · rw [if_pos h]
      have := congrFun e i
      simp only [if_pos h] at this
      exact this
    · rw [if_neg h, List.getElem?_eq_none (by simp; omega)]
  · intro m hm
    have : (((xs.size : Int) - 1) + (m : Int) * (-1)).toNat < xs.size := by omega
    exact ⟨_, Array.getElem?_eq_getElem this⟩
theorem get_tuple_back {t sl : Addr} {items : Array Value} {vl vu vs : Value} {Q : Value → Shared → Prop} (ht : IsTup s.heap t items) (hs : s.heap.IsSliceOf sl vl vu vs) (pl : IsPart vl none) (pu : IsPart vu none) (ps : IsPart vs (some (-1)))
    (h : Q (.ref s.heap.objs.size) { s with heap := s.heap.push { cls := .type "tuple", data := .seq items.toList.reverse.toArray } }) (hsz : items.size ≤ sizeLine) : wpAny (model prog w) A (getItem (.ref t) (.ref sl)) Q E s := by
  have fits : sizeOk (.seq items.toList.reverse.toArray) := by
    show items.toList.reverse.toArray.size ≤ sizeLine
    simpa using hsz
  obtain ⟨os, hos, hcs, hds⟩ := id hs
  have hTs : s.TypeIs (.ref sl) "slice" := ⟨os, hos, hcs⟩
  unfold getItem
  try with_reducible refine wpAny_holding ?_
  first | refine wpAny_bind (wpAny_pure ?_) | skip
  refine wpAny_bind (wpAny_sequenceKey ht.typeIs (by decide) ?_)
  refine wpAny_bind (wpAny_callSpecial?_slot (name := Str.ofString "__getitem__") ht.typeIs PyProof.Rows.slot_tuple_getitem (wpAny_call_entry PyProof.Rows.slot_tuple_getitem ht.typeIs entry_tuple_getitem ?_ (args_tuple_getitem _ _)))
  show wpAny _ _ (Builtin.Tuple.tupleItemsOf (.ref t) >>= _) _ _ s
  refine wpAny_bind (tupleItemsOf_ ht ?_)
  refine wpAny_bind (wpAny_typeOf hTs ?_)
  rw [if_pos (by decide)]
  refine wpAny_bind (applied_back hs pl pu ps ?_)
  have hno : ¬ ((((items.size : Int) - 1) == 0 && (-1 : Int) == 1 && items.size == items.size) = true) := by
    intro q
    rw [Bool.and_eq_true, Bool.and_eq_true] at q
    exact absurd q.1.2 (by decide)
  show wpAny _ _ (if (((items.size : Int) - 1) == 0 && (-1 : Int) == 1 && items.size == items.size) = true then _ else _) _ _ s
  rw [if_neg hno, pick_back]
  first
    | exact wpAny_bind (m := Builtin.Tuple.tupleExact _) (wpAny_newObj_type (wpAny_pure ⟨_, rfl, wpAny_pure h⟩) fits)
    | exact wpAny_bind (m := Builtin.Tuple.tupleExact _) (wpAny_newObj_type (wpAny_bind (wpAny_pure (wpAny_pure ⟨_, rfl, wpAny_pure h⟩))) fits)
    | exact wpAny_bind (wpAny_bind (m := Builtin.Tuple.tupleExact _) (wpAny_newObj_type (wpAny_pure (wpAny_pure ⟨_, rfl, wpAny_pure h⟩)) fits))
    | exact wpAny_bind (wpAny_bind (m := Builtin.Tuple.tupleExact _) (wpAny_newObj_type (wpAny_pure ⟨_, rfl, wpAny_pure h⟩) fits))
end
/-- x[::-1] of what is a list or a tuple -/
def tRevA (K : PySem.W.Frag) (te : TE) : TE := fun σ H Q => te σ H fun x H1 => ∃ a xs, x = .ref a ∧ ((SqL K H1 a xs ∧ ∀ p, H1 p = none → Q (.ref p) (upd H1 p (.lst xs.reverse))) ∨ (SqT K H1 a xs ∧ ∀ p, H1 p = none → Q (.ref p) (upd H1 p (.tup xs.reverse))))
theorem pe_revA {X : Cx} {e : Expr} {te : TE} {k : Nat} {p1 p2 p3 pos : Pos} (he : PE X e te) : PE X (.Subscript e (.Slice none none (some (.UnaryOp .USub (.Constant (.int 1) k p1) p2)) p3) pos) (tRevA X.K te) := by
  refine ⟨fun pins s σ H Q I h => ?_⟩
  refine Subscript_ (thn (he.run pins s σ H _ I h) fun v s1 ⟨x, H1, I1, r1, q1⟩ => ?_)
  obtain ⟨a, xs, ex, q⟩ := q1
  subst ex
  cases r1
  have step : PO X (some (.UnaryOp .USub (.Constant (.int 1) k p1) p2)) (tPart (tUn (rU fun i => .int (-i)) (tC (.int 1)))) := po_some (pe_un un_neg pe_int)
  refine wpAny_Slice (thn (po_none.run pins s1 σ H1 (fun o H2 => o = none ∧ H2 = H1) I1 ⟨rfl, rfl⟩) fun vl s2 ⟨l, H2, I2, pl, el, e2⟩ => ?_)
  subst el e2
  refine thn (po_none.run pins s2 σ H2 (fun o H3 => o = none ∧ H3 = H2) I2 ⟨rfl, rfl⟩) fun vu s3 ⟨u, H3, I3, pu, eu, e3⟩ => ?_
  subst eu e3
  refine thn (step.run pins s3 σ H3 (fun o H4 => o = some (-1) ∧ H4 = H3) I3 ⟨1, rfl, -1, rfl, rfl, rfl⟩) fun vs s4 ⟨o, H4, I4, ps, eo, e4⟩ => ?_
  subst eo e4
  have J : Inv X pins σ H4 { s4 with heap := s4.heap.push { cls := .type "slice", data := .fields #[vl, vu, vs] } } := I4.kept (t' := s4.toks) fun b ob q => Heap.get?_push_of_some _ q
  show wpAny (model X.prog X.w) X.A (subscriptTail e (.Slice none none (some (.UnaryOp .USub (.Constant (.int 1) k p1) p2)) p3) (.ref a) (.ref s4.heap.objs.size)) (EP X pins σ Q) X.xe { s4 with heap := s4.heap.push { cls := .type "slice", data := .fields #[vl, vu, vs] } }
  rcases q with ⟨hx, q⟩ | ⟨hx, q⟩
  · obtain ⟨its, r, hit, hz⟩ := J.list hx
    have hlen := r.length
    refine tail_any (ops := [.ref a, .ref s4.heap.objs.size]) hit.isList.typeIs (PySem.slot_list_getitem.lookup) ?_ (by with_unfolding_all rfl)
    refine wpAny_getItem_list_slice hit.isList (Heap.IsSliceOf.new _ vl vu vs) pl pu ps (by decide) ?_ (by rw [List.size_toArray]; omega)
    rw [PySem.W.krv_pick]
    refine ⟨.ref _, _, J.laid (t' := s4.toks) (o := .lst xs.reverse) (fun b ob q => Heap.get?_push_of_some _ q) (Nat.le_refl _) ?_, rfl, q _ (J.hok.fresh (Nat.le_refl _))⟩
    exact ⟨by rw [List.length_reverse]; exact hz, _, 0, r.reverse, Heap.get?_push_size _ rfl⟩
  · obtain ⟨its, r, hit, hz⟩ := J.tuple hx
    have hlen := r.length
    refine tail_any (ops := [.ref a, .ref s4.heap.objs.size]) hit.typeIs (PyProof.Rows.slot_tuple_getitem.lookup) ?_ (by with_unfolding_all rfl)
    refine get_tuple_back hit (Heap.IsSliceOf.new _ vl vu vs) pl pu ps ?_ (by rw [List.size_toArray]; omega)
    refine ⟨.ref _, _, J.laid (t' := s4.toks) (o := .tup xs.reverse) (fun b ob q => Heap.get?_push_of_some _ q) (Nat.le_refl _) ?_, rfl, q _ (J.hok.fresh (Nat.le_refl _))⟩
    exact ⟨by rw [List.length_reverse]; exact hz, _, r.reverse, IsTup.new _ _⟩
theorem pe_revAK {X : Cx} {K : PySem.W.Frag} {e : Expr} {te : TE} {k : Nat} {p1 p2 p3 pos : Pos} (he : PE X e te) (hK : X.K = K := by rfl) : PE X (.Subscript e (.Slice none none (some (.UnaryOp .USub (.Constant (.int 1) k p1) p2)) p3) pos) (tRevA K te) := hK ▸ pe_revA he
end WU

set_option maxRecDepth 100000
set_option maxHeartbeats 8000000
namespace WU
open PySem PySem.Spec PyProof.Rows L2
/-- a list or a tuple of the numbers b -/
def SV (H : Hp) (c : V) (b : List Int) : Prop := ∃ d, c = .ref d ∧ SqO H d (b.map V.int)
theorem SqO.len {K : PySem.W.Frag} {H : Hp} {d : Addr} {xs : List V} (h : SqO H d xs) : SqL K H d xs ∨ SqT K H d xs := by
  rcases h with h | h
  · exact .inl (SqL.of h)
  · exact .inr (sqT h)
section
variable {P : Program} {w : World} {K : PySem.W.Frag} {mg : Str → Option Value} {base : Heap} {S : Addr}
/-- sum_to(p, rows, row) -/
def spSu (K : PySem.W.Frag) : Sp := fun vs H Q E => ∃ (v u : V) (c : V), vs = [v, u, c] ∧ ChkP K H v u E fun p => ∃ (n : Nat) (rows : List (List Int)) (b : List Int), SV H c b ∧ Ltr p n b ∧ MT H u rows ∧ (∀ r ∈ rows, Ltr p n r) ∧ n ≤ 190 ∧ rows.length ≤ 190 ∧
  (∀ qs, Rr p (rows.length + 1) (red p (eqs rows b n)) qs → rows.length ∈ qs → Errs (He.ga K "Undefined") "what" (.str "sum") H E) ∧
  ∀ y x H' qs, Same H H' → Rr p (rows.length + 1) (red p (eqs rows b n)) qs → rows.length ∉ qs → SetP (zer rows.length) qs (fun l => at0 ((red p (eqs rows b n)).getD l []) rows.length) (red p (eqs rows b n)).length x → FT H' y x → Q y H'
theorem scSu : FnScope ["p", "rows", "row", "equations", "solved", "leads", "letters", "lead", "equation", "column", "letter"] ["p", "rows", "row"] (defScope s_sum_to) := ⟨rfl, rfl, rfl, by decide +kernel, rfl, by decide +kernel, by decide +kernel⟩
theorem ok_Su {f f1 f2 f3 f4 : Addr} {fd fd1 fd2 fd3 fd4 fdU : FuncData} (F : FnS K "sum_to" s_sum_to f fd) (B : Blt5 mg) (CM : Cal P w K mg base 7 "check_matrix" f1 fd1 ["p", "rows"] (spChk K)) (CR : Cal P w K mg base 6 "_reduced" f2 fd2 ["p", "rows"] spRed)
    (CL : Cal P w K mg base 1 "leads_of" f3 fd3 ["reduced"] spLO) (CT : Cal P w K mg base 1 "turned_rows" f4 fd4 ["rows", "columns"] spTR) (TU : Exc1 K mg "Undefined" "what")
    (FU : FnOk P w K mg base (L2.CX P w) 1 (He.ma K (He.ga K "Undefined") "__init__") fdU ["self", "what"] (spInit1 K (He.ga K "Undefined") "what")) (bU : Binds K fdU ["self", "what"] []) :
    FnOk P w K mg base (L2.CX P w) 8 f fd ["p", "rows", "row"] (spSu K) := by
  refine F.ok scSu (fun vs H Q E h => ?_) (fun cdv A outer s H vs Q E hr h => ?_)
  · obtain ⟨v, u, c, rfl, _⟩ := h
    rfl
  · obtain ⟨v, u, c, rfl, hv, kF, kk⟩ := h
    have nd := scSu.nd
    refine ⟨_, (pss_cons (ps_expr (pe_cal (E := E) CM (hr.mono (by decide)) (pa_cons (pv 0) (pa_cons (pv 1) pa_nil)) (passes_call (takes_of rfl rfl rfl rfl) (fun _ _ _ _ h => h))))
      (pss_cons (ps_setLc (i := 3) (own := [("column", 9), ("letter", 10)]) (g := gTup K 2 (gCons (gName 9) (gCons (gName 10) gNil))) (by rfl) nd rfl rfl (sw_true rfl rfl rfl (by decide +kernel)) (pi_zipMK (K := K) (by rfl) B.zip (pa_cons (pe_cal CT (hr.mono (by decide)) (pa_cons (pv 1) (pa_cons (pe_callB (len_seqK (K := K)) (by rfl) B.len (by decide +kernel) (pa_cons (pv 2) pa_nil)) pa_nil)) passU) (pa_cons (pv 2) pa_nil))) (blkOk_by (own := [("column", 9), ("letter", 10)]) (N := ["p", "rows", "row", "equations", "solved", "leads", "letters", "lead", "equation", "column", "letter"]) (sc := defScope s_sum_to) (by decide +kernel)) (fun _ _ _ _ _ => (pg_tup rfl (pgs_cons (pg_name (i := 9) nd rfl (Or.inl rfl)) (pgs_cons (pg_name (i := 10) nd rfl (Or.inl rfl)) pgs_nil)))) (fun _ _ _ _ _ => pts_nil) (fun _ _ _ _ _ => (pe_tup (pa_starK (K := K) (pv 9) (pa_cons (pv 10) pa_nil)))))
      (pss_cons (ps_set (i := 4) nd rfl (Or.inl rfl) (pe_cal CR (hr.mono (by decide)) (pa_cons (pv 0) (pa_cons (pv 3) pa_nil)) passU))
      (pss_cons (ps_set (i := 5) nd rfl (Or.inl rfl) (pe_cal CL (hr.mono (by decide)) (pa_cons (pv 4) pa_nil) passU))
      (pss_cons (ps_if (pt_cmpR (op_inK (K := K)) (pe_callB (len_seqK (K := K)) (by rfl) B.len (by decide +kernel) (pa_cons (pv 1) pa_nil)) (pv 5) rfl) (pss_one (ps_raise1 rfl (takes_of rfl rfl rfl rfl) TU FU bU (hr.mono (by decide)) (pa_cons pe_str pa_nil))) pss_nil)
      (pss_cons (ps_set (i := 6) nd rfl (Or.inl rfl) (pe_op op_rep (pe_lst (pa_cons pe_int pa_nil)) (pe_callB (len_seqK (K := K)) (by rfl) B.len (by decide +kernel) (pa_cons (pv 1) pa_nil))))
      (pss_cons (ps_for (passes_of rfl) rfl (RZ.pi_zipA (by rfl) B.zip (pa_cons (pv 5) (pa_cons (pv 4) pa_nil))) (pg_tup rfl (pgs_cons (pg_name (i := 7) nd rfl (Or.inl rfl)) (pgs_cons (pg_name (i := 8) nd rfl (Or.inl rfl)) pgs_nil))) (pss_one (ps_asg (pe_ix (ix_tupK (K := K)) (pv 8) (pe_un un_neg pe_int) (fun _ _ => rfl)) (pg_sub (pv 6) (pv 7) set_list))))
      (pss_one (ps_ret (pe_callTy (tup_ofK (K := K)) (by rfl) B.tuple (by decide +kernel) (pa_cons (pv 6) pa_nil))))))))))), ?_⟩
    refine ⟨_, rfl, _, rfl, v, u, rfl, hv, kF, fun p ep e => ?_⟩
    subst ep
    rcases kk p rfl e with ⟨d, hd, hz, em, kE⟩ | k
    · exact ⟨d, hd, hz, fun _ => kE, fun e2 => by rw [em] at e2; cases e2⟩
    obtain ⟨n, rows, b, hc, hbL, hM, hR, hn9, hm9, kU, k⟩ := k
    have hn : n ≤ 200 := by omega
    have hm : rows.length ≤ 200 := by omega
    refine ⟨MD rows, hM.dp, small_rows hR hn hm, fun e2 => (by rw [wid_rows hR] at e2; cases e2), fun _ H1 s1 => ?_⟩
    have hp := fld_mem e
    have p0 := prime_pos hp
    obtain ⟨a, ts, rfl, ha, hts⟩ := hM
    have hM : MT H (.ref a) rows := ⟨a, ts, rfl, ha, hts⟩
    obtain ⟨d, rfl, hd⟩ := id hc
    have lt := paired_len hts
    refine ⟨_, rfl, _, rfl, d, _, rfl, (hd.same s1).len, ?_⟩
    rw [List.length_map, hbL.1]
    refine ⟨.ref a, rows, n, rfl, hM.same s1, fun r hr => (hR r hr).1, hm, hn, fun yt H2 s2 hyt => ?_⟩
    obtain ⟨c, us, rfl, hcT, hus⟩ := hyt
    have hd2 := hd.same (s1.trans s2)
    have lu := paired_len hus
    rw [List.length_map, List.length_range] at lu
    have lb : (b.map V.int).length = n := by rw [List.length_map, hbL.1]
    refine ⟨_, rfl, c, d, us, b.map V.int, rfl, ?_⟩
    rcases hd2 with hd2 | hd2
    refine .inl ⟨SqT.of hcT, SqL.of hd2, fun D hD => lc_it (walk_zipM (n := n) lu lb) (fun j H' => Bld FT H2 D ((List.range j).map (eqn rows b)) H') (Bld.start hD) (fun j H' _ z => ⟨SqT.of (z.same _ _ hcT), SqL.of (z.same _ _ hd2)⟩) ?_ ?_⟩
    rotate_left 2
    refine .inr ⟨SqT.of hcT, sqT hd2, fun D hD => lc_it (walk_zipT (n := n) (by rw [lu, lb]; exact (Nat.min_self n).symm)) (fun j H' => Bld FT H2 D ((List.range j).map (eqn rows b)) H') (Bld.start hD) (fun j H' _ z => ⟨SqT.of (z.same _ _ hcT), sqT (rd_same z.same hd2)⟩) ?_ ?_⟩
    rotate_left 1
    rotate_left 1
    all_goals first
    | (
        rintro j x H3 H4 hj z ⟨T, x1, x2, rfl, hT, rfl, g1, g2⟩
        cases (take_map_at n (r := b) (i := j) (by rw [hbL.1]; exact hj)).symm.trans g2
        obtain ⟨q, hq, hx1⟩ := paired_at hus g1
        rw [List.getElem?_map, List.getElem?_range hj] at hq
        cases hq
        have s4 : Same H3 (upd H3 T (.tup [x1, .int (at0 b j)])) := same_new hT
        obtain ⟨g, rfl, hg⟩ := (hx1.same z.same).same s4
        refine ⟨T, _, rfl, SqT.of upd_same, rfl, _, _, rfl, _, _, rfl, rfl, rfl, ?_⟩
        refine ⟨_, rfl, g, _, rfl, .inl (sqT hg), _, rfl, ?_⟩
        have ee : (colm rows j).map V.int ++ [V.int (at0 b j)] = (eqn rows b j).map V.int := by
          unfold eqn
          rw [List.map_append]
          rfl
        refine ⟨(by rw [ee, List.length_map, eqn_len]; exact Nat.le_of_lt (small1000 (by omega))), fun Z hZ => ?_⟩
        rw [ee, map_range_succ]
        exact z.put stab_FT hD (s4.trans (same_new hZ)) FT.new (ref_new (s4 _ _ z.ex.choose_spec.1) hZ) (by rw [List.length_map, List.length_range]; exact small1000 (by omega)))
    | (
        intro H3 z
        obtain ⟨s3, es, eD, pe⟩ := z.fin
        have s13 := (s1.trans s2).trans s3
        have hE := eqs_ltr (n := n) hR hbL
        have lE : (eqs rows b n).length = n := by
          unfold eqs
          rw [List.length_map, List.length_range]
        refine ⟨_, rfl, _, rfl, p, rows.length + 1, .ref D, eqs rows b n, rfl, ⟨D, es, rfl, .inl eD, pe⟩, hp, hE, by omega, by omega, fun y H4 s4 hy => ?_⟩
        obtain ⟨qs, R, _, _⟩ := red_rr hp hE
        have hle := red_le hE
        refine ⟨_, rfl, y, p, _, rows.length + 1, qs, rfl, hy, R, by omega, fun yl H5 s5 hl => ?_⟩
        obtain ⟨c2, rfl, hc2⟩ := hl
        have s15 := (s13.trans s4).trans s5
        refine ⟨_, rfl, a, ts, rfl, .inr (SqT.of (s15 _ _ ha)), _, rfl, c2, _, rfl, .inr (sqT hc2), rfl, flat_ints _, _, rfl, ?_⟩
        rw [inV_ints, lt]
        show if decide ((rows.length : Int) ∈ nI qs) = true then _ else _
        by_cases hin : rows.length ∈ qs
        · rw [decide_eq_true (mem_nI.mpr hin)]
          exact iteT ⟨.str "sum", rfl, errs_same (kU qs R hin) s15⟩
        · rw [decide_eq_false (fun z => hin (mem_nI.mp z))]
          refine iteF ⟨(by show 1 ≤ sizeLine; decide), fun Z hZ => ?_⟩
          have sz : Same H5 (upd H5 Z (.lst [.int 0])) := same_new hZ
          refine ⟨_, rfl, a, ts, rfl, .inr (SqT.of (sz _ _ (s15 _ _ ha))), ?_⟩
          rw [lt]
          refine ⟨Z, ((rows.length : Nat) : Int), _, rfl, rfl, upd_same, by omega, by omega, ?_, fun q hq => ?_⟩
          · show 1 * ((rows.length : Nat) : Int).toNat ≤ sizeLine
            exact Nat.le_of_lt (small1000 (by omega))
          · rw [Int.toNat_natCast, rep_int]
            generalize upd H5 Z (.lst [.int 0]) = H6 at sz hq ⊢
            have nq : ∀ b o, H5 b = some o → b ≠ q := fun b o e => ne_of_none (sz _ _ e) hq
            have eq : upd H6 q (.lst ((List.replicate rows.length (0 : Int)).map V.int)) q = some (.lst ((zer rows.length).map V.int)) := upd_same
            have s7 : Same H5 (upd H6 q (.lst ((List.replicate rows.length (0 : Int)).map V.int))) := sz.trans (same_new hq)
            generalize upd H6 q (.lst ((List.replicate rows.length (0 : Int)).map V.int)) = H7 at eq s7 ⊢
            have put : ∀ (H3 : Hp) (o : HO), Same H5 H3 → Same H5 (upd H3 q o) := fun H3 o s3 b ob e => by
              rw [upd_ne (nq b ob e)]
              exact s3 _ _ e
            obtain ⟨f, fs, rfl, hf, hfs⟩ := hy.same s5
            have lf := paired_len hfs
            have lc : ((nI qs).map V.int).length = (red p (eqs rows b n)).length := by rw [List.length_map, nI_len, R.piv.len]
            refine ⟨_, rfl, _, rfl, c2, f, _, _, rfl, .inr ⟨sqT (rd_same s7 hc2), SqT.of (s7 _ _ hf), for_it (walk_zipT (n := (red p (eqs rows b n)).length) (by rw [lc, lf]; exact (Nat.min_self _).symm)) (fun t σ H' => ∃ (x : List Int) (ld ot : Option V), σ = [some (.int p), some (.ref a), some (.ref d), some (.ref D), some (.ref f), some (.ref c2), some (.ref q), ld, ot, none, none] ∧ Same H5 H' ∧ H' q = some (.lst (x.map V.int)) ∧ SetP (zer rows.length) qs (fun l => at0 ((red p (eqs rows b n)).getD l []) rows.length) t x)
              ⟨zer rows.length, none, none, rfl, s7, eq, setP_zero⟩ (fun t σ H' _ ⟨x, ld, ot, _, s3, _⟩ => ⟨sqT (rd_same s3 hc2), SqT.of (s3 _ _ hf)⟩) ?_ ?_⟩⟩
            · rintro t y σ H8 H9 ht ⟨x, ld, ot, rfl, s8, eR, hx⟩ ⟨T, x1, x2, rfl, hT, rfl, g1, g2⟩
              obtain ⟨j, hj, rfl⟩ := nI_at g1
              obtain ⟨r, hr0, hxr⟩ := paired_at hfs g2
              have s9 : Same H8 (upd H8 T (.tup [.int (j : Int), x2])) := same_new hT
              obtain ⟨g, rfl, hg⟩ := ((hxr.ft.same s8).same s9)
              have hrl := (R.piv.ltr r (List.mem_of_getElem? hr0)).1
              have hjn := R.piv.plt j (List.mem_of_getElem? hj)
              have hjm : j < rows.length := by
                have : j ≠ rows.length := fun z => hin (z ▸ List.mem_of_getElem? hj)
                omega
              have gd : (red p (eqs rows b n)).getD t [] = r := by rw [List.getD_eq_getElem?_getD, hr0]; rfl
              have hxl : x.length = rows.length := by rw [hx.len, zer_len]
              have eR9 := s9 _ _ eR
              refine ⟨T, _, rfl, SqT.of upd_same, rfl, _, _, rfl, _, _, rfl, rfl, ?_⟩
              refine ⟨_, rfl, _, rfl, g, _, _, _, rfl, rfl, sqT hg, atI_last (j := rows.length) (by rw [List.length_map, hrl]) (take_map_at n (r := r) (i := rows.length) (by rw [hrl]; exact Nat.lt_succ_self _)), ?_⟩
              refine ⟨_, rfl, _, rfl, q, _, (j : Int), j, rfl, rfl, eR9, (by rw [List.length_map, hxl]; exact ixN_at hjm), ?_⟩
              have st := setP_step R.ah.inc hx hj (by rw [zer_len]; exact hjm)
              simp only [gd] at st
              refine ⟨x.set j (at0 r rows.length), _, _, rfl, put _ _ (s8.trans s9), ?_, st⟩
              rw [upd_same, List.map_set]
            · rintro σ H8 ⟨x, ld, ot, rfl, s8, eR, hx⟩
              exact ⟨_, rfl, q, _, rfl, .inl ⟨SqL.of eR, fun z hz => k _ x _ qs (s15.trans (s8.trans (same_new hz))) R hin hx FT.new⟩⟩)
end
/-- the pivots of a reduced matrix are its own -/
theorem rr_pv {p : Int} {n : Nat} {L : List (List Int)} {pv pv' : List Nat} (R : Rr p n L pv) (R' : Rr p n L pv') : pv = pv' := by
  have le : ∀ {a b : List Nat}, Rr p n L a → Rr p n L b → ∀ (i c d : Nat), a[i]? = some c → b[i]? = some d → c ≤ d := fun {a b} Ra Rb i c d hc hd => by
    have hi : i < L.length := by rw [← Ra.piv.len]; exact (List.getElem?_eq_some_iff.mp hc).1
    have hr : L[i]? = some L[i] := List.getElem?_eq_getElem hi
    have o := Rb.piv.one i i _ _ hr hd
    rw [if_pos rfl] at o
    by_cases h : c ≤ d
    · exact h
    · rw [Ra.ah.ahead i _ _ hr hc d (by omega)] at o
      cases o
  refine List.ext_getElem? fun i => ?_
  by_cases h : i < L.length
  · have h1 : i < pv.length := by rw [R.piv.len]; exact h
    have h2 : i < pv'.length := by rw [R'.piv.len]; exact h
    have e1 : pv[i]? = some pv[i] := List.getElem?_eq_getElem h1
    have e2 : pv'[i]? = some pv'[i] := List.getElem?_eq_getElem h2
    rw [e1, e2, Nat.le_antisymm (le R R' i _ _ e1 e2) (le R' R i _ _ e2 e1)]
  · rw [List.getElem?_eq_none (by rw [R.piv.len]; omega), List.getElem?_eq_none (by rw [R'.piv.len]; omega)]
theorem setP_one {x0 x y : List Int} {pv : List Nat} {val : Nat → Int} {t : Nat} (h : SetP x0 pv val t x) (k : SetP x0 pv val t y) : x = y := by
  refine row_ext h.len k.len fun j _ => ?_
  by_cases e : ∃ l, l < t ∧ pv[l]? = some j
  · obtain ⟨l, hl, e⟩ := e
    rw [h.put l j hl e, k.put l j hl e]
  · have ne : ∀ l, l < t → pv[l]? ≠ some j := fun l hl z => e ⟨l, hl, z⟩
    rw [h.old j ne, k.old j ne]
/-- x is what sum_to tells -/
def SolX (p : Int) (rows : List (List Int)) (b : List Int) (n : Nat) (x : List Int) : Prop := ∃ qs, Rr p (rows.length + 1) (red p (eqs rows b n)) qs ∧ rows.length ∉ qs ∧ SetP (zer rows.length) qs (fun l => at0 ((red p (eqs rows b n)).getD l []) rows.length) (red p (eqs rows b n)).length x
theorem solX_one {p : Int} {rows : List (List Int)} {b : List Int} {n : Nat} {x y : List Int} (h : SolX p rows b n x) (k : SolX p rows b n y) : x = y := by
  obtain ⟨q1, R1, _, s1⟩ := h
  obtain ⟨q2, R2, _, s2⟩ := k
  cases rr_pv R1 R2
  exact setP_one s1 s2
end WU

set_option maxRecDepth 100000
set_option maxHeartbeats 4000000
namespace WU
/-! ### polynomials -/
/-- the value, as the program reckons it -/
def hor (p : Int) : List Int → Int → Int
  | [], _ => 0
  | a :: c, t => (hor p c t * t + a).fmod p
def pev : List Int → Int → Int
  | [], _ => 0
  | a :: c, t => a + t * pev c t
theorem hor_cg (p : Int) : ∀ (c : List Int) (t : Int), Cg p (hor p c t) (pev c t)
  | [], _ => Cg.rfl'
  | a :: c, t => by
    refine (Cg.fm _).trans ?_
    have h := ((hor_cg p c t).mulr t).add (Cg.rfl' (p := p) (a := a))
    show Cg p (hor p c t * t + a) (a + t * pev c t)
    rw [show a + t * pev c t = pev c t * t + a by rw [Int.mul_comm]; omega]
    exact h
theorem hor_bd {p : Int} (hp : 0 < p) (c : List Int) (t : Int) : 0 ≤ hor p c t ∧ hor p c t < p := by
  cases c with
  | nil => exact ⟨Int.le_refl _, hp⟩
  | cons a c => exact fm_bd _ hp
/-- v + (X - t0) c -/
theorem step_poly (t0 : Int) : ∀ (c : List Int) (v : Int), ∃ d : List Int, d.length = c.length + 1 ∧ ∀ t, pev d t = v + (t - t0) * pev c t
  | [], v => ⟨[v], rfl, fun t => by show v + t * 0 = v + (t - t0) * 0; rw [Int.mul_zero, Int.mul_zero]⟩
  | a :: c, v => by
    obtain ⟨d, hl, hd⟩ := step_poly t0 c a
    refine ⟨(v - t0 * a) :: d, by rw [List.length_cons, hl]; rfl, fun t => ?_⟩
    show (v - t0 * a) + t * pev d t = v + (t - t0) * (a + t * pev c t)
    rw [hd t]
    have h : t * (t0 * pev c t) = t0 * (t * pev c t) := Int.mul_left_comm _ _ _
    simp only [Int.mul_add, Int.sub_mul, Int.mul_sub]
    omega
theorem interp {p : Int} (hp : p ∈ primes) : ∀ (pts : List Int), (∀ t ∈ pts, 0 ≤ t ∧ t < p) → pts.Nodup → ∀ f : Int → Int, ∃ c : List Int, c.length = pts.length ∧ ∀ t ∈ pts, Cg p (pev c t) (f t)
  | [], _, _, _ => ⟨[], rfl, fun t h => nomatch h⟩
  | t0 :: ts, hb, hn, f => by
    obtain ⟨n1, n2⟩ := List.nodup_cons.mp hn
    have b0 := hb t0 List.mem_cons_self
    have p0 := prime_pos hp
    obtain ⟨c, hl, hc⟩ := interp hp ts (fun t ht => hb t (List.mem_cons_of_mem _ ht)) n2 fun t => (f t - f t0) * inv p ((t - t0).fmod p)
    obtain ⟨d, hd, e⟩ := step_poly t0 c (f t0)
    refine ⟨d, by rw [hd, hl]; rfl, fun t ht => ?_⟩
    rw [e t]
    rcases List.mem_cons.mp ht with rfl | ht
    · rw [Int.sub_self, Int.zero_mul, Int.add_zero]
      exact Cg.rfl'
    · have bt := hb t (List.mem_cons_of_mem _ ht)
      have ne : t ≠ t0 := fun z => n1 (z ▸ ht)
      have fb := fm_bd (t - t0) p0
      have f0 : (t - t0).fmod p ≠ 0 := fun z => by
        obtain ⟨k, hk⟩ := Cg.fm (p := p) (t - t0)
        rw [z] at hk
        have h1 : p * (-k) = t - t0 := by rw [Int.mul_neg]; omega
        have h2 : p ∣ t - t0 := ⟨_, h1.symm⟩
        rcases Int.lt_trichotomy (t - t0) 0 with h | h | h
        · have := Int.le_of_dvd (by omega) ((Int.dvd_neg).mpr h2)
          omega
        · omega
        · have := Int.le_of_dvd h h2
          omega
      have iv := inv_mul hp (a := (t - t0).fmod p) (by omega) fb.2
      have one : Cg p ((t - t0) * inv p ((t - t0).fmod p)) 1 := by
        rw [← iv]
        exact ((Cg.fm (t - t0)).symm.mulr _).trans (Cg.fm _).symm
      have h := (hc t ht).mul (t - t0)
      rw [show (t - t0) * ((f t - f t0) * inv p ((t - t0).fmod p)) = (f t - f t0) * ((t - t0) * inv p ((t - t0).fmod p)) by rw [← Int.mul_assoc, ← Int.mul_assoc, Int.mul_comm (t - t0)]] at h
      have h2 := h.trans (one.mul (f t - f t0))
      rw [Int.mul_one] at h2
      have h3 := (Cg.rfl' (p := p) (a := f t0)).add h2
      rw [show f t0 + (f t - f t0) = f t by omega] at h3
      exact h3
/-- the powers, as the program reckons them -/
def pwm (p : Int) : Nat → Int → Int
  | 0, _ => 1
  | i + 1, t => (pwm p i t * t).fmod p
theorem pwm_cg (p t : Int) : ∀ i, Cg p (pwm p i t) (t ^ i)
  | 0 => by rw [Int.pow_zero]; exact Cg.rfl'
  | i + 1 => by
    rw [Int.pow_succ]
    exact (Cg.fm _).trans ((pwm_cg p t i).mulr t)
theorem pwm_bd {p : Int} (hp : 2 ≤ p) (t : Int) (i : Nat) : 0 ≤ pwm p i t ∧ pwm p i t < p := by
  cases i with
  | zero => exact ⟨(by show (0 : Int) ≤ 1; decide), (by show (1 : Int) < p; omega)⟩
  | succ i => exact fm_bd _ (by omega)
def powR (p : Int) (pts : List Int) (cnt : Nat) : List (List Int) := (List.range cnt).map fun i => pts.map (pwm p i)
def pevn : Nat → List Int → Int → Int
  | 0, _, _ => 0
  | m + 1, x, t => pevn m x t + at0 x m * t ^ m
theorem pevn_cons (a : Int) (x : List Int) (t : Int) : ∀ m, pevn (m + 1) (a :: x) t = a + t * pevn m x t
  | 0 => by show 0 + a * t ^ 0 = a + t * 0; rw [Int.pow_zero, Int.mul_one, Int.mul_zero]; omega
  | m + 1 => by
    show pevn (m + 1) (a :: x) t + at0 (a :: x) (m + 1) * t ^ (m + 1) = a + t * (pevn m x t + at0 x m * t ^ m)
    rw [pevn_cons a x t m, show at0 (a :: x) (m + 1) = at0 x m from rfl, Int.mul_add, Int.pow_succ, show at0 x m * (t ^ m * t) = t * (at0 x m * t ^ m) by rw [← Int.mul_assoc, Int.mul_comm]]
    omega
theorem pevn_all : ∀ (x : List Int) (t : Int), pevn x.length x t = pev x t
  | [], _ => rfl
  | a :: x, t => by
    rw [List.length_cons, pevn_cons, pevn_all x t]
    rfl
theorem powR_len {p : Int} {pts : List Int} {cnt : Nat} : (powR p pts cnt).length = cnt := by unfold powR; rw [List.length_map, List.length_range]
theorem powR_at {p : Int} {pts : List Int} {cnt i : Nat} (h : i < cnt) : (powR p pts cnt)[i]? = some (pts.map (pwm p i)) := by
  unfold powR
  rw [List.getElem?_map, List.getElem?_range h]
  rfl
theorem powR_ltr {p : Int} {pts : List Int} {cnt : Nat} (hp : 2 ≤ p) : ∀ r ∈ powR p pts cnt, Ltr p pts.length r := fun r hr => by
  obtain ⟨i, _, rfl⟩ := List.mem_map.mp hr
  refine ⟨List.length_map _, fun x hx => ?_⟩
  obtain ⟨t, _, rfl⟩ := List.mem_map.mp hx
  exact pwm_bd hp t i
theorem at0_map {f : Int → Int} {l : List Int} {k : Nat} (h : k < l.length) : at0 (l.map f) k = f (at0 l k) := by
  rw [at0_lt (by rw [List.length_map]; exact h), List.getElem_map, at0_lt h]
theorem dot_pow {p : Int} {pts : List Int} {cnt k : Nat} (hk : k < pts.length) (x : List Int) : ∀ m, m ≤ cnt → Cg p (dotn m x (colm (powR p pts cnt) k)) (pevn m x (at0 pts k))
  | 0, _ => Cg.rfl'
  | m + 1, h => by
    refine (dot_pow hk x m (by omega)).add ?_
    rw [colm_at (powR_at (by omega)), at0_map hk]
    exact (pwm_cg p _ m).mul _
/-- the solution takes the values -/
theorem slv_hor {p : Int} {pts b x : List Int} (hp : p ∈ primes) (hb : Ltr p pts.length b) (hx : x.length = pts.length) (h : Slv p pts.length (powR p pts pts.length) b x) : ∀ k, k < pts.length → hor p x (at0 pts k) = at0 b k := fun k hk => by
  have h1 := h k hk
  rw [powR_len] at h1
  have h2 := dot_pow (p := p) (pts := pts) (cnt := pts.length) hk x pts.length (Nat.le_refl _)
  rw [show pevn pts.length x (at0 pts k) = pev x (at0 pts k) by rw [← hx, pevn_all]] at h2
  exact Cg.eq ((hor_cg p x _).trans (h2.symm.trans h1)) (hor_bd (prime_pos hp) _ _) (hb.bd hk)
/-- there is one -/
theorem pow_span {p : Int} {pts b : List Int} (hp : p ∈ primes) (hpt : ∀ t ∈ pts, 0 ≤ t ∧ t < p) (hn : pts.Nodup) (hb : Ltr p pts.length b) : Span p pts.length (powR p pts pts.length) b := by
  have p2 := (fld_le hp).1
  obtain ⟨c, hl, hc⟩ := interp hp pts hpt hn fun t => at0 b (pts.idxOf t)
  have hA := powR_ltr (p := p) (pts := pts) (cnt := pts.length) p2
  have S : Slv p pts.length (powR p pts pts.length) b c := fun k hk => by
    rw [powR_len]
    refine (dot_pow hk c pts.length (Nat.le_refl _)).trans ?_
    rw [show pevn pts.length c (at0 pts k) = pev c (at0 pts k) by rw [← hl, pevn_all]]
    have e : pts.idxOf (at0 pts k) = k := by
      rw [at0_lt hk]
      exact hn.idxOf_getElem k hk
    have h := hc (at0 pts k) (by rw [at0_lt hk]; exact List.getElem_mem hk)
    rw [e] at h
    exact h
  have e := lsum_eq (prime_pos hp) hA hb S
  rw [← e]
  exact lsum_span hA _ (Nat.le_refl _)
end WU

set_option maxRecDepth 100000
set_option maxHeartbeats 4000000
namespace WU
open PySem PySem.Spec PyProof.Rows L2
/-! ### zip of a list and a tuple, and of any two -/
def ItzW (K : PySem.W.Frag) (a b : Addr) : It :=
  ⟨fun i H => ∃ (xs ys : List V) (x y : V), SqL K H a xs ∧ SqT K H b ys ∧ xs[i]? = some x ∧ ys[i]? = some y,
    fun i H v H' => ∃ T x y, v = .ref T ∧ H T = none ∧ H' = upd H T (.tup [x, y]) ∧ (∀ xs, SqL K H a xs → xs[i]? = some x) ∧ ∀ ys, SqT K H b ys → ys[i]? = some y,
    fun i H => ∃ xs ys : List V, SqL K H a xs ∧ SqT K H b ys ∧ i ≤ xs.length ∧ i ≤ ys.length ∧ (i = xs.length ∨ i = ys.length)⟩
/-- how the zip of a list and a tuple stands ahead of its k-th turn -/
structure ZStW (z TI TO i1 i2 a b : Addr) (k : Nat) (hp : Heap) : Prop where
  zip : IsZip hp z TI TO .none
  its : IsPair hp TI (.ref i1) (.ref i2)
  out : ∃ x y, IsPair hp TO x y
  fst : hp.IsListIter i1 a k
  snd : hp.IsTupleIter i2 b k
theorem ZStW.lt {z TI TO i1 i2 a b : Addr} {k : Nat} {hp : Heap} (S : ZStW z TI TO i1 i2 a b k hp) {c : Addr} (h : c ∈ [z, TI, TO, i1, i2]) : c < hp.objs.size := by
  obtain ⟨_, _, ho⟩ := S.out
  obtain ⟨_, h4, _⟩ := S.fst
  obtain ⟨_, h5, _⟩ := S.snd
  rcases five h with q | q | q | q | q <;> rw [q]
  · exact Heap.lt_size S.zip
  · exact Heap.lt_size S.its
  · exact Heap.lt_size ho
  · exact Heap.lt_size h4
  · exact Heap.lt_size h5
theorem turn_zipW {P : Program} {w : World} {K : PySem.W.Frag} {elts : List Expr} {kk : Nat} {tpos : Pos} {a b z TI TO i1 i2 : Addr} (D : ZipApart z TI TO i1 i2 a b) : Turn P w K (.Tuple elts kk tpos) (ItzW K a b) [z, TI, TO, i1, i2] z (ZStW z TI TO i1 i2 a b) where
  mem := List.mem_cons_self
  obj := fun k hp S c hc => by
    obtain ⟨_, _, ho⟩ := S.out
    obtain ⟨o4, h4, _, d4⟩ := S.fst
    obtain ⟨o5, h5, _, d5⟩ := S.snd
    rcases five hc with q | q | q | q | q <;> subst q
    · exact ⟨_, S.zip, fun v => by intro e; cases e⟩
    · exact ⟨_, S.its, fun v => by intro e; cases e⟩
    · exact ⟨_, ho, fun v => by intro e; cases e⟩
    · exact ⟨o4, h4, fun v e => by rw [d4] at e; cases e⟩
    · exact ⟨o5, h5, fun v e => by rw [d5] at e; cases e⟩
  keep := fun k hp hp' S same => by
    obtain ⟨x, y, ho⟩ := S.out
    exact ⟨same _ List.mem_cons_self _ S.zip, same TI (by simp) _ S.its, ⟨x, y, same TO (by simp) _ ho⟩, S.fst.at fun ob => same i1 (by simp) ob, S.snd.at fun ob => same i2 (by simp) ob⟩
  item := by
    intro X eP ew eK calm k pn st sg HH EE inv fp S go
    subst eP ew eK
    obtain ⟨xs, ys, x, y, sx, sy, gx, gy⟩ := go
    obtain ⟨us, rx, px, _⟩ := inv.list sx
    obtain ⟨vs, ry, py, _⟩ := inv.tuple sy
    obtain ⟨ux, hux, rux⟩ := rx.get gx
    obtain ⟨uy, huy, ruy⟩ := ry.get gy
    obtain ⟨_, _, ho⟩ := S.out
    have nh := inv.ok.hd calm
    have D1 := Draws.list (prog := X.prog) (w := X.w) (A := X.A.in1) nh i1 a D.l1i1 us.toArray
    have D2 := Draws.tuple (prog := X.prog) (w := X.w) (A := X.A.in1) nh i2 b D.l2i2 vs.toArray
    have lx : k < us.toArray.size := by rw [List.size_toArray]; exact (List.getElem?_eq_some_iff.mp hux).1
    have ly : k < vs.toArray.size := by rw [List.size_toArray]; exact (List.getElem?_eq_some_iff.mp huy).1
    have zl := S.lt (c := z) List.mem_cons_self
    refine wpAny_pyNext_zipD2_item (zsep D) D1 D2 S.zip S.its ho ⟨S.fst, px.isList⟩ ⟨S.snd, py⟩ lx ly ?_
    intro v1 v2 h1 tk q1 q2 z1 o1 f1 g1 new1 _ rest
    have q1' : us[k]? = some v1 := by simpa using q1
    have q2' : vs[k]? = some v2 := by simpa using q2
    cases hux.symm.trans q1'
    cases huy.symm.trans q2'
    refine ⟨_, rfl, wpAny_letOwnedTupleGo_zip (s := { st with heap := h1, toks := tk }) z1 fun h2 z2 but => ?_⟩
    have tup2 : h2.get? st.heap.objs.size = some { cls := .type "tuple", data := .seq #[ux, uy] } := (but.2 _ (Nat.ne_of_gt zl)).trans new1
    have out : ∀ c o, c ∉ [z, TI, TO, i1, i2] → st.heap.get? c = some o → h2.get? c = some o := fun c o nc ec => by
      have nz : c ≠ z := fun q => nc (by rw [q]; simp)
      have nO : c ≠ TO := fun q => nc (by rw [q]; simp)
      have n1 : c ≠ i1 := fun q => nc (by rw [q]; simp)
      have n2 : c ≠ i2 := fun q => nc (by rw [q]; simp)
      exact (but.2 c nz).trans (rest c o nz nO n1 n2 ec)
    have J : Inv X pn sg (upd HH st.heap.objs.size (.tup [x, y])) { st with heap := h2, toks := tk } :=
      inv.turnedNew (t' := tk) (ch := [z, TI, TO, i1, i2]) out fp (Nat.le_refl _) ⟨by show 2 ≤ sizeLine; decide, [ux, uy], .cons rux (.cons ruy .nil), ⟨_, tup2, rfl, _, rfl⟩⟩
    refine ⟨.ref st.heap.objs.size, _, J, rfl, ⟨_, x, y, rfl, inv.hok.fresh (Nat.le_refl _), rfl, fun l hl => ?_, fun l hl => ?_⟩, ⟨z2, ?_, ⟨ux, uy, ?_⟩, ?_, ?_⟩, fun c hc => ?_⟩
    · rw [inv.list_inj hl sx]
      exact gx
    · rw [inv.tuple_inj hl sy]
      exact gy
    · have e := rest TI _ D.TIz D.TITO D.TIi1 D.TIi2 S.its
      exact (but.2 TI D.TIz).trans e
    · exact (but.2 TO D.TOz).trans o1
    · exact f1.1.at fun ob eo => (but.2 i1 D.i1z).trans eo
    · exact g1.1.at fun ob eo => (but.2 i2 D.i2z).trans eo
    · rw [upd_ne (Nat.ne_of_lt (S.lt hc))]
      exact (fp c hc).1
  done := by
    intro X eP ew eK calm k pn st sg HH EE inv fp S go
    subst eP ew eK
    obtain ⟨xs, ys, sx, sy, l1, l2, fin⟩ := go
    obtain ⟨us, rx, px, _⟩ := inv.list sx
    obtain ⟨vs, ry, py, _⟩ := inv.tuple sy
    obtain ⟨_, _, ho⟩ := S.out
    have nh := inv.ok.hd calm
    have D1 := Draws.list (prog := X.prog) (w := X.w) (A := X.A.in1) nh i1 a D.l1i1 us.toArray
    have D2 := Draws.tuple (prog := X.prog) (w := X.w) (A := X.A.in1) nh i2 b D.l2i2 vs.toArray
    have m1 : us.toArray.size = xs.length := by rw [List.size_toArray, ← rx.length]
    have m2 : vs.toArray.size = ys.length := by rw [List.size_toArray, ← ry.length]
    refine wpAny_pyNext_zipD2_end (zsep D) D1 D2 S.zip S.its ho ⟨S.fst, px.isList⟩ ⟨S.snd, py⟩ (by omega) (by omega) (by omega) fun h1 tk rest => ⟨rfl, ?_⟩
    refine inv.turnedL (t' := tk) (ch := [z, TI, TO, i1, i2]) (fun c o nc ec => ?_) fp
    refine rest c o (fun q => nc ?_) (fun q => nc ?_) (fun q => nc ?_) (fun q => nc ?_) ec <;> rw [q] <;> simp
  self := fun _ _ _ _ _ S go => wpAny_pyIter_zip S.zip go
theorem walk_zipW {K : PySem.W.Frag} {a b : Addr} {xs ys : List V} {n : Nat} (l1 : xs.length = n) (l2 : ys.length = n) : Walk (ItzW K a b) n (fun H => SqL K H a xs ∧ SqT K H b ys) (YPair (fun i => xs[i]?) (fun i => ys[i]?)) where
  goes := fun i _ hi ⟨sx, sy⟩ => ⟨xs, ys, xs[i]'(by omega), ys[i]'(by omega), sx, sy, List.getElem?_eq_getElem _, List.getElem?_eq_getElem _⟩
  stops := fun _ ⟨sx, sy⟩ => ⟨xs, ys, sx, sy, Nat.le_of_eq l1.symm, Nat.le_of_eq l2.symm, .inl l1.symm⟩
  yields := fun _ _ _ _ _ ⟨sx, sy⟩ ⟨T, x, y, e, new, eH, fx, fy⟩ => ⟨T, x, y, e, new, eH, fx xs sx, fy ys sy⟩
/-- the walk of zip(a, b), each a list or a tuple -/
def Itz4 (K : PySem.W.Frag) (a b : Addr) (k1 k2 : Bool) : It := match k1, k2 with
  | true, true => Itz K a b
  | true, false => ItzW K a b
  | false, true => ItzM K a b
  | false, false => RZ.ItzT K a b
def SqB (K : PySem.W.Frag) (H : Hp) (a : Addr) (xs : List V) : Bool → Prop
  | true => SqL K H a xs
  | false => SqT K H a xs
def iZip4 (K : PySem.W.Frag) (ta : TA) : TI := fun σ H R => ta σ H fun vs H1 => ∃ a b xs ys k1 k2, vs = [.ref a, .ref b] ∧ SqB K H1 a xs k1 ∧ SqB K H1 b ys k2 ∧ R (Itz4 K a b k1 k2) H1
theorem pi_zip4 {X : Cx} {e e2 : Expr} {ta : TA} {p pos tpos : Pos} {elts : List Expr} {kk : Nat} (hg : Gl X "zip") (hm : X.mg "zip" = none) (ha : PA X [e, e2] ta) (hs : starEach [e, e2] X.env = (false, eval e X.env) :: starEach [e2] X.env := by rfl)
    (hpl : (backTo pos (starEach [e2] X.env)).any (·.1) = false := by rfl) : PI X (.Tuple elts kk tpos) (.Call (.Name "zip" p) [e, e2] [] pos) (iZip4 X.K ta) := by
  constructor
  intro pn st sg HH R inv h
  have args := ha.run pos pn st sg HH _ inv h
  refine Call_ (ld_blt inv hg hm boot_zip (callWith_type1 (thn args fun us s1 ⟨ws, H1, J, rel, a, b, xs, ys, k1, k2, ew, sx, sy, q⟩ => ?_) hs hpl))
  subst ew
  obtain ⟨u1, u2, rfl, ra, rb⟩ := Vals.two rel
  cases ra
  cases rb
  have young : ∀ c ∈ [s1.heap.objs.size + 4, s1.heap.objs.size + 2, s1.heap.objs.size + 3, s1.heap.objs.size, s1.heap.objs.size + 1], FpOk X pn H1 c := fun c hc => by
    have up : (s1.heap.objs.size : Nat) ≤ c := by
      rcases five hc with q | q | q | q | q <;> rw [q]
      · exact Nat.le_add_right _ 4
      · exact Nat.le_add_right _ 2
      · exact Nat.le_add_right _ 3
      · exact Nat.le_refl _
      · exact Nat.le_add_right _ 1
    exact J.fpOk up (J.hok.fresh up)
  cases k1 with
  | true =>
    obtain ⟨vx, _, px, _⟩ := J.list sx
    cases k2 with
    | true =>
      obtain ⟨vy, _, py, _⟩ := J.list sy
      refine call_zip_2 px.isList py.isList fun h' hz hTI hTO h1 h2 hsz hk => wpAny_pyIter_zip hz ?_
      exact ⟨s1.heap.objs.size + 4, _, _, _, H1, rfl, J.kept (t' := s1.toks) hk, turn_zip (PySem.W.ktu_apart s1.heap.objs.size a b px.lt py.lt), ⟨hz, hTI, ⟨_, _, hTO⟩, h1, h2⟩, young, q⟩
    | false =>
      obtain ⟨vy, _, py, _⟩ := J.tuple sy
      refine zip_begins2 (begins_list a vx.toArray) (begins_tuple b vy.toArray) px.isList py fun h' hz hI hO f g _ kept => wpAny_pyIter_zip hz ?_
      exact ⟨s1.heap.objs.size + 4, _, _, _, H1, rfl, J.kept (t' := s1.toks) kept, turn_zipW (PySem.W.ktu_apart s1.heap.objs.size a b px.lt py.lt), ⟨hz, hI, ⟨_, _, hO⟩, ⟨_, f, rfl, rfl⟩, ⟨_, g, rfl, rfl⟩⟩, young, q⟩
  | false =>
    obtain ⟨vx, _, px, _⟩ := J.tuple sx
    cases k2 with
    | true =>
      obtain ⟨vy, _, py, _⟩ := J.list sy
      refine zip_begins2 (begins_tuple a vx.toArray) (begins_list b vy.toArray) px py.isList fun h' hz hI hO f g _ kept => wpAny_pyIter_zip hz ?_
      exact ⟨s1.heap.objs.size + 4, _, _, _, H1, rfl, J.kept (t' := s1.toks) kept, turn_zipM (PySem.W.ktu_apart s1.heap.objs.size a b px.lt py.lt), ⟨hz, hI, ⟨_, _, hO⟩, ⟨_, f, rfl, rfl⟩, ⟨_, g, rfl, rfl⟩⟩, young, q⟩
    | false =>
      obtain ⟨vy, _, py, _⟩ := J.tuple sy
      refine RZ.call_zipT (show s1.heap.IsTuple a vx.toArray from px) (show s1.heap.IsTuple b vy.toArray from py) fun h' hz hI hO f g _ kept => wpAny_pyIter_zip hz ?_
      exact ⟨s1.heap.objs.size + 4, _, _, _, H1, rfl, J.kept (t' := s1.toks) kept, RZ.turn_zipT (PySem.W.ktu_apart s1.heap.objs.size a b px.lt py.lt), ⟨hz, hI, ⟨_, _, hO⟩, f, g⟩, young, q⟩
theorem pi_zip4K {X : Cx} {K : PySem.W.Frag} {e e2 : Expr} {ta : TA} {p pos tpos : Pos} {elts : List Expr} {kk : Nat} (hg : Gl X "zip") (hm : X.mg "zip" = none) (ha : PA X [e, e2] ta)
    (hs : starEach [e, e2] X.env = (false, eval e X.env) :: starEach [e2] X.env := by rfl) (hpl : (backTo pos (starEach [e2] X.env)).any (·.1) = false := by rfl) (hK : X.K = K := by rfl) :
    PI X (.Tuple elts kk tpos) (.Call (.Name "zip" p) [e, e2] [] pos) (iZip4 K ta) := hK ▸ pi_zip4 hg hm ha hs hpl
theorem walk_zip4 {K : PySem.W.Frag} {a b : Addr} {xs ys : List V} {n : Nat} {k1 k2 : Bool} (l1 : xs.length = n) (l2 : ys.length = n) : Walk (Itz4 K a b k1 k2) n (fun H => SqB K H a xs k1 ∧ SqB K H b ys k2) (YPair (fun i => xs[i]?) (fun i => ys[i]?)) := by
  cases k1 with
  | true =>
    cases k2 with
    | true => exact walk_zip (by rw [l1, l2]; exact (Nat.min_self n).symm)
    | false => exact walk_zipW l1 l2
  | false =>
    cases k2 with
    | true => exact walk_zipM l1 l2
    | false => exact walk_zipT (by rw [l1, l2]; exact (Nat.min_self n).symm)
/-- of which kind it is, for good -/
theorem SqO.kind {K : PySem.W.Frag} {H : Hp} {a : Addr} {xs : List V} (h : SqO H a xs) : ∃ k, ∀ H', Same H H' → SqB K H' a xs k := by
  rcases h with h | h
  · exact ⟨true, fun H' s => SqL.of (s _ _ h)⟩
  · exact ⟨false, fun H' s => sqT (rd_same s h)⟩
end WU

set_option maxRecDepth 100000
set_option maxHeartbeats 8000000
namespace WU
open PySem PySem.Spec PyProof.Rows L2
section
variable {P : Program} {w : World} {K : PySem.W.Frag} {mg : Str → Option Value} {base : Heap} {S : Addr}
theorem SqB.sq {H : Hp} {a : Addr} {xs : List V} {k : Bool} (h : SqB K H a xs k) : SqL K H a xs ∨ SqT K H a xs := by
  cases k with
  | true => exact .inl h
  | false => exact .inr h
theorem range_map {f : Int → Int} (l : List Int) : l.map f = (List.range l.length).map fun k => f (at0 l k) := by
  refine List.ext_getElem (by simp) fun k h1 h2 => ?_
  rw [List.getElem_map, List.getElem_map, List.getElem_range, at0_lt (by simpa using h1)]
theorem powR_succ {p : Int} {pts : List Int} {i : Nat} : powR p pts (i + 1) = powR p pts i ++ [pts.map (pwm p i)] := by
  unfold powR
  rw [List.range_succ, List.map_append]
  rfl
/-- _power_rows(p, points, count) -/
def spPw : Sp := fun vs H Q _ => ∃ (p : Int) (c : V) (pts : List Int) (cnt : Nat), vs = [.int p, c, .int cnt] ∧ SV H c pts ∧ p ∈ primes ∧ (∀ t ∈ pts, 0 ≤ t ∧ t < p) ∧ pts.length ≤ 190 ∧ cnt ≤ 190 ∧
  ∀ y H', Same H H' → MT H' y (powR p pts cnt) → Q y H'
theorem scPw : FnScope ["p", "points", "count", "rows", "powers", "_", "power", "point"] ["p", "points", "count"] (defScope s_power_rows) := ⟨rfl, rfl, rfl, by decide +kernel, rfl, by decide +kernel, by decide +kernel⟩
theorem ok_Pw {f : Addr} {fd : FuncData} (F : FnS K "_power_rows" s_power_rows f fd) (B : Blt5 mg) : FnOk P w K mg base (L2.CX P w) 1 f fd ["p", "points", "count"] spPw := by
  refine F.ok scPw (fun vs H Q E h => ?_) (fun cdv A outer s H vs Q E hr h => ?_)
  · obtain ⟨p, c, pts, cnt, rfl, _⟩ := h
    rfl
  · obtain ⟨p, c, pts, cnt, rfl, ⟨d, rfl, hd⟩, hp, hb, hl, hc, k⟩ := h
    have nd := scPw.nd
    have p2 := fld_le hp
    refine ⟨_, (pss_cons (ps_set (i := 3) nd rfl (Or.inl rfl) (pe_lst pa_nil))
      (pss_cons (ps_set (i := 4) nd rfl (Or.inl rfl) (pe_op op_rep (pe_lst (pa_cons pe_int pa_nil)) (pe_callB (len_seqK (K := K)) (by rfl) B.len (by decide +kernel) (pa_cons (pv 1) pa_nil))))
      (pss_cons (ps_for (passes_of rfl) rfl (pi_range1 rfl B.range (pa_cons (pv 2) pa_nil)) (pg_name (i := 5) nd rfl (Or.inl rfl)) (pss_cons (ps_expr (pe_bm PySem.F.plainAttrs_list PySem.F.slot_list_append PySem.F.type_list_append mt_append (pv 3) (pa_cons (pe_callTy (tup_ofK (K := K)) (by rfl) B.tuple (by decide +kernel) (pa_cons (pv 4) pa_nil)) pa_nil)))
      (pss_one (ps_setLc (i := 4) (own := [("power", 6), ("point", 7)]) (g := (gTup K 2 (gCons (gName 6) (gCons (gName 7) gNil)))) (by rfl) nd rfl rfl (sw_true rfl rfl rfl (by decide +kernel)) (pi_zip4K (K := K) (by rfl) B.zip (pa_cons (pv 4) (pa_cons (pv 1) pa_nil))) (blkOk_by (own := [("power", 6), ("point", 7)]) (N := ["p", "points", "count", "rows", "powers", "_", "power", "point"]) (sc := defScope s_power_rows) (by decide +kernel)) (fun _ _ _ _ _ => (pg_tup rfl (pgs_cons (pg_name (i := 6) nd rfl (Or.inl rfl)) (pgs_cons (pg_name (i := 7) nd rfl (Or.inl rfl)) pgs_nil)))) (fun _ _ _ _ _ => pts_nil) (fun _ _ _ _ _ => (pe_op op_modN (pe_op op_mul (pv 6) (pv 7)) (pv 0)))))))
      (pss_one (ps_ret (pe_callTy (tup_ofK (K := K)) (by rfl) B.tuple (by decide +kernel) (pa_cons (pv 3) pa_nil))))))), ?_⟩
    obtain ⟨kd, hk⟩ := hd.kind (K := K)
    refine ⟨(by show 0 ≤ sizeLine; decide), fun R hR => ?_⟩
    have b0 := Bld.start (F := FT) (H1 := H) hR
    generalize upd H R (.lst []) = H1 at b0 ⊢
    refine ⟨(by show 1 ≤ sizeLine; decide), fun Z hZ => ?_⟩
    have sz : Same H1 (upd H1 Z (.lst [.int 1])) := same_new hZ
    refine ⟨_, rfl, d, _, rfl, (hk _ (b0.same.trans sz)).sq, ?_⟩
    refine ⟨Z, ((pts.map V.int).length : Nat), _, rfl, rfl, upd_same, by omega, by rw [List.length_map]; omega, ?_, fun q hq => ?_⟩
    · rw [Int.toNat_natCast, List.length_map]
      exact Nat.le_of_lt (small1000 (by show 1 * pts.length ≤ 1000; omega))
    rw [Int.toNat_natCast, List.length_map, rep_one]
    generalize upd H1 Z (.lst [.int 1]) = H2 at sz hq ⊢
    have e0 : List.replicate pts.length (V.int 1) = (pts.map (pwm p 0)).map V.int := by
      rw [List.eq_replicate_of_mem (l := (pts.map (pwm p 0)).map V.int) (a := V.int 1) fun x hx => by
        obtain ⟨y, hy, rfl⟩ := List.mem_map.mp hx
        obtain ⟨t, _, rfl⟩ := List.mem_map.mp hy
        rfl, List.length_map, List.length_map]
    rw [e0]
    have sq : Same H2 (upd H2 q (.lst ((pts.map (pwm p 0)).map V.int))) := same_new hq
    have eq : upd H2 q (.lst ((pts.map (pwm p 0)).map V.int)) q = some (.lst ((pts.map (pwm p 0)).map V.int)) := upd_same
    have b1 := b0.skip stab_FT (sz.trans sq)
    have qR : q ≠ R := by
      obtain ⟨_, ys, e, _⟩ := b0
      exact (ne_of_none (sz _ _ e) hq).symm
    generalize upd H2 q (.lst ((pts.map (pwm p 0)).map V.int)) = H3 at sq eq b1 ⊢
    refine ⟨_, rfl, (cnt : Int), rfl, by omega, by omega, for_range (lo := 0) (n := cnt) (fun i σ H' => ∃ q v5, σ = [some (.int p), some (.ref d), some (.int cnt), some (.ref R), some (.ref q), v5, none, none] ∧ Bld FT H R (powR p pts i) H' ∧ q ≠ R ∧ H' q = some (.lst ((pts.map (pwm p i)).map V.int))) ⟨q, none, rfl, b1, qR, eq⟩ ?_ ?_⟩
    · rintro i σ H4 hi ⟨q, v5, rfl, b, qR, eq⟩
      obtain ⟨_, ys, eR, _⟩ := id b
      refine ⟨_, rfl, .inl ⟨rfl, _, SqL.of eR⟩, _, rfl, q, _, rfl, .inl ⟨SqL.of eq, fun T hT => ?_⟩⟩
      have sT : Same H4 (upd H4 T (.tup ((pts.map (pwm p i)).map V.int))) := same_new hT
      have bT := b.skip stab_FT sT
      obtain ⟨acc, ea, la, bA⟩ := b.put (y := .ref T) (z := pts.map (pwm p i)) stab_FT hR sT FT.new (ref_new eR hT) (by rw [powR_len]; exact small1000 (by omega))
      refine ⟨R, _, _, rfl, rfl, ea, la, ?_⟩
      rw [← powR_succ] at bA
      have eqA : upd (upd H4 T (.tup ((pts.map (pwm p i)).map V.int))) R (.lst (acc ++ [.ref T])) q = some (.lst ((pts.map (pwm p i)).map V.int)) := by rw [upd_ne qR]; exact sT _ _ eq
      generalize upd (upd H4 T (.tup ((pts.map (pwm p i)).map V.int))) R (.lst (acc ++ [.ref T])) = H5 at bA eqA ⊢
      refine ⟨_, rfl, _, rfl, q, d, _, _, true, kd, rfl, SqL.of eqA, hk _ bA.same, fun D hD => lc_it (walk_zip4 (n := pts.length) (by rw [List.length_map, List.length_map]) (by rw [List.length_map])) (fun j H' => Bld FI H5 D ((List.range j).map fun k => pwm p (i + 1) (at0 pts k)) H') (Bld.start hD) (fun j H' _ z => ⟨SqL.of (z.same _ _ eqA), hk _ (bA.same.trans z.same)⟩) ?_ ?_⟩
      · rintro j x H6 H7 hj z ⟨T2, x1, x2, rfl, hT2, rfl, g1, g2⟩
        cases (take_map_at pts.length (r := pts.map (pwm p i)) (i := j) (by rw [List.length_map]; exact hj)).symm.trans g1
        cases (take_map_at pts.length (r := pts) (i := j) hj).symm.trans g2
        have bp := pwm_bd (by omega : 2 ≤ p) (at0 pts j) i
        refine ⟨T2, _, rfl, SqT.of upd_same, rfl, _, _, rfl, _, _, rfl, rfl, rfl, ?_⟩
        rw [at0_map hj]
        refine ⟨_, rfl, _, rfl, _, _, rfl, rfl, .inl ⟨by omega, by omega⟩, _, rfl, _, _, rfl, rfl, (show p ≠ 0 by omega), ?_⟩
        have er : ((List.range (j + 1)).map fun k => pwm p (i + 1) (at0 pts k)) = ((List.range j).map fun k => pwm p (i + 1) (at0 pts k)) ++ [pwm p (i + 1) (at0 pts j)] := map_range_succ (f := fun k => pwm p (i + 1) (at0 pts k)) (i := j)
        have r := z.put (H' := upd H6 T2 (.tup [.int (pwm p i (at0 pts j)), .int (at0 pts j)])) (y := .int (pwm p (i + 1) (at0 pts j))) (z := pwm p (i + 1) (at0 pts j)) stab_FI hD (same_new hT2) rfl (by intro z; cases z) (by rw [List.length_map, List.length_range]; exact small1000 (by omega))
        rw [← er] at r
        exact r
      · intro H6 z
        obtain ⟨s6, ys6, eD, py⟩ := z.fin
        rw [fi_map py] at eD
        obtain ⟨_, ysR, eRR, _⟩ := id bA
        refine ⟨D, _, rfl, bA.skip stab_FT s6, (ne_of_none eRR hD).symm, ?_⟩
        rw [eD]
        congr 2
        rw [← range_map]
    · rintro σ H4 ⟨q, v5, rfl, b, qR, eq⟩
      obtain ⟨s4, ys, eR, py⟩ := b.fin
      exact ⟨_, rfl, R, _, rfl, .inl ⟨SqL.of eR, fun T hT => k _ _ (s4.trans (same_new hT)) ⟨T, ys, rfl, upd_same, paired_mono (fun _ _ q => q.same (same_new hT)) py⟩⟩⟩
/-- value_at(p, coefficients, point) -/
def spVA (K : PySem.W.Frag) : Sp := fun vs H Q E => ∃ v c x, vs = [v, c, x] ∧ Ty3 K H v ∧ (isFld v = false → Errs (He.ga K "InvalidNumber") "value" v H E) ∧
  ∀ p, v = .int p → isFld v = true → ∃ (cs : List Int) (t : Int), SV H c cs ∧ x = .int t ∧ (∀ a ∈ cs, 0 ≤ a ∧ a < p) ∧ 0 ≤ t ∧ t < p ∧ ∀ H', Same H H' → Q (.int (hor p cs t)) H'
theorem scVA : FnScope ["p", "coefficients", "point", "value", "coefficient"] ["p", "coefficients", "point"] (defScope s_value_at) := ⟨rfl, rfl, rfl, by decide +kernel, rfl, by decide +kernel, by decide +kernel⟩
theorem fld_int {v : V} (h : isFld v = true) : ∃ p, v = .int p := by
  cases v with
  | int p => exact ⟨p, rfl⟩
  | _ => cases h
theorem hor_drop {p t : Int} {cs : List Int} {i : Nat} (h : i < cs.length) : hor p (cs.drop i) t = (hor p (cs.drop (i + 1)) t * t + at0 cs i).fmod p := by
  rw [List.drop_eq_getElem_cons h, at0_lt h]
  rfl
theorem ok_VA {f f1 : Addr} {fd fd1 : FuncData} (F : FnS K "value_at" s_value_at f fd) (CF : Cal P w K mg base 3 "check_field" f1 fd1 ["p"] (spCheck K)) : FnOk P w K mg base (L2.CX P w) 4 f fd ["p", "coefficients", "point"] (spVA K) := by
  refine F.ok scVA (fun vs H Q E h => ?_) (fun cdv A outer s H vs Q E hr h => ?_)
  · obtain ⟨v, c, x, rfl, _⟩ := h
    rfl
  · obtain ⟨v, c, x, rfl, hv, kN, kY⟩ := h
    have nd := scVA.nd
    refine ⟨_, (pss_cons (ps_expr (pe_cal (E := E) CF (hr.mono (by decide)) (pa_cons (pv 0) pa_nil) (passes_call (takes_of rfl rfl rfl rfl) (fun _ _ _ _ h => h))))
      (pss_cons (ps_set (i := 3) nd rfl (Or.inl rfl) pe_int)
      (pss_cons (ps_for (passes_of rfl) rfl (pi_seqK (K := K) (pe_revAK (K := K) (pv 1))) (pg_name (i := 4) nd rfl (Or.inl rfl)) (pss_one (ps_set (i := 3) nd rfl (Or.inl rfl) (pe_op op_modN (pe_op op_add (pe_op op_mul (pv 3) (pv 2)) (pv 4)) (pv 0)))))
      (pss_one (ps_ret (pv 3)))))), ?_⟩
    refine ⟨_, rfl, v, rfl, hv, fun e => ?_, kN⟩
    obtain ⟨p, rfl⟩ := fld_int e
    obtain ⟨cs, t, ⟨d, rfl, hd⟩, rfl, hb, t0, t1, k⟩ := kY p rfl e
    have p2 := fld_le (fld_mem e)
    have at_ : ∀ {i : Nat} {y : V}, (cs.map V.int).reverse[i]? = some y → ∃ j, i + j + 1 = cs.length ∧ y = .int (at0 cs j) := by
      intro i y hi
      have hl : i < cs.length := by
        have := (List.getElem?_eq_some_iff.mp hi).1
        simpa using this
      rw [List.getElem?_reverse (by simpa using hl), List.length_map] at hi
      refine ⟨cs.length - 1 - i, by omega, ?_⟩
      cases (take_map_at cs.length (r := cs) (i := cs.length - 1 - i) (by omega)).symm.trans hi
      rfl
    have ln : (cs.map V.int).reverse.length = cs.length := by rw [List.length_reverse, List.length_map]
    have ev : ∀ j, j < cs.length → 0 ≤ at0 cs j ∧ at0 cs j < p := fun j hj => by
      rw [at0_lt hj]
      exact hb _ (List.getElem_mem hj)
    rcases hd with hd | hd
    · refine ⟨_, rfl, d, _, rfl, .inl ⟨SqL.of hd, fun R hR => ⟨R, rfl, .inl ⟨⟨_, SqL.of upd_same⟩, for_list (K := K) (a := R) (xs := (cs.map V.int).reverse) (fun i σ H' => ∃ v4, σ = [some (.int p), some (.ref d), some (.int t), some (.int (hor p (cs.drop (cs.length - i)) t)), v4] ∧ Same H H' ∧ H' R = some (.lst (cs.map V.int).reverse)) ⟨none, by rw [Nat.sub_zero, List.drop_length]; rfl, same_new hR, upd_same⟩ (fun i σ H' _ ⟨_, _, _, e⟩ => SqL.of e) ?_ ?_⟩⟩⟩⟩
      · rintro i y σ H' hi ⟨v4, rfl, s1, eR⟩
        obtain ⟨j, hj, rfl⟩ := at_ hi
        have hh := hor_bd (by omega : 0 < p) (cs.drop (cs.length - i)) t
        refine ⟨_, rfl, _, rfl, _, _, rfl, rfl, .inl ⟨by omega, by omega⟩, _, rfl, _, _, rfl, rfl, _, rfl, _, _, rfl, rfl, (show p ≠ 0 by omega), some (.int (at0 cs j)), ?_, s1, eR⟩
        have eh : hor p (cs.drop (cs.length - (i + 1))) t = (hor p (cs.drop (cs.length - i)) t * t + at0 cs j).fmod p := by
          rw [show cs.length - (i + 1) = j by omega, hor_drop (i := j) (by omega), show j + 1 = cs.length - i by omega]
        rw [eh]
        rfl
      · rintro σ H' ⟨v4, rfl, s1, eR⟩
        refine ⟨_, rfl, ?_⟩
        rw [ln, Nat.sub_self]
        exact k H' s1
    · refine ⟨_, rfl, d, _, rfl, .inr ⟨sqT hd, fun R hR => ⟨R, rfl, .inr ⟨⟨_, SqT.of upd_same⟩, for_tup (K := K) (a := R) (xs := (cs.map V.int).reverse) (fun i σ H' => ∃ v4, σ = [some (.int p), some (.ref d), some (.int t), some (.int (hor p (cs.drop (cs.length - i)) t)), v4] ∧ Same H H' ∧ H' R = some (.tup (cs.map V.int).reverse)) ⟨none, by rw [Nat.sub_zero, List.drop_length]; rfl, same_new hR, upd_same⟩ (fun i σ H' _ ⟨_, _, _, e⟩ => SqT.of e) ?_ ?_⟩⟩⟩⟩
      · rintro i y σ H' hi ⟨v4, rfl, s1, eR⟩
        obtain ⟨j, hj, rfl⟩ := at_ hi
        have hh := hor_bd (by omega : 0 < p) (cs.drop (cs.length - i)) t
        refine ⟨_, rfl, _, rfl, _, _, rfl, rfl, .inl ⟨by omega, by omega⟩, _, rfl, _, _, rfl, rfl, _, rfl, _, _, rfl, rfl, (show p ≠ 0 by omega), some (.int (at0 cs j)), ?_, s1, eR⟩
        have eh : hor p (cs.drop (cs.length - (i + 1))) t = (hor p (cs.drop (cs.length - i)) t * t + at0 cs j).fmod p := by
          rw [show cs.length - (i + 1) = j by omega, hor_drop (i := j) (by omega), show j + 1 = cs.length - i by omega]
        rw [eh]
        rfl
      · rintro σ H' ⟨v4, rfl, s1, eR⟩
        refine ⟨_, rfl, ?_⟩
        rw [ln, Nat.sub_self]
        exact k H' s1
/-- polynomial_through(p, points, values) -/
def spTh (K : PySem.W.Frag) : Sp := fun vs H Q E => ∃ v c u, vs = [v, c, u] ∧ Ty3 K H v ∧ (isFld v = false → Errs (He.ga K "InvalidNumber") "value" v H E) ∧
  ∀ p, v = .int p → isFld v = true → ∃ (pts b : List Int), SV H c pts ∧ SV H u b ∧ (∀ t ∈ pts, 0 ≤ t ∧ t < p) ∧ pts.Nodup ∧ Ltr p pts.length b ∧ pts.length ≤ 100 ∧
    ∀ y x H', Same H H' → FT H' y x → SolX p (powR p pts pts.length) b pts.length x → Q y H'
theorem scTh : FnScope ["p", "points", "values"] ["p", "points", "values"] (defScope s_polynomial_through) := ⟨rfl, rfl, rfl, by decide +kernel, rfl, by decide +kernel, by decide +kernel⟩
theorem ok_Th {f f1 f2 f3 : Addr} {fd fd1 fd2 fd3 : FuncData} (F : FnS K "polynomial_through" s_polynomial_through f fd) (B : Blt5 mg) (CF : Cal P w K mg base 3 "check_field" f1 fd1 ["p"] (spCheck K)) (CP : Cal P w K mg base 1 "_power_rows" f2 fd2 ["p", "points", "count"] spPw)
    (CS : Cal P w K mg base 8 "sum_to" f3 fd3 ["p", "rows", "row"] (spSu K)) : FnOk P w K mg base (L2.CX P w) 9 f fd ["p", "points", "values"] (spTh K) := by
  refine F.ok scTh (fun vs H Q E h => ?_) (fun cdv A outer s H vs Q E hr h => ?_)
  · obtain ⟨v, c, x, rfl, _⟩ := h
    rfl
  · obtain ⟨v, c, u, rfl, hv, kN, kY⟩ := h
    refine ⟨_, (pss_cons (ps_expr (pe_cal (E := E) CF (hr.mono (by decide)) (pa_cons (pv 0) pa_nil) (passes_call (takes_of rfl rfl rfl rfl) (fun _ _ _ _ h => h))))
      (pss_one (ps_ret (pe_cal (E := E) CS (hr.mono (by decide)) (pa_cons (pv 0) (pa_cons (pe_cal CP (hr.mono (by decide)) (pa_cons (pv 0) (pa_cons (pv 1) (pa_cons (pe_callB (len_seqK (K := K)) (by rfl) B.len (by decide +kernel) (pa_cons (pv 1) pa_nil)) pa_nil))) passU) (pa_cons (pv 2) pa_nil))) (passes_call (takes_of rfl rfl rfl rfl) (fun _ _ _ _ h => h)))))), ?_⟩
    refine ⟨_, rfl, v, rfl, hv, fun e => ?_, kN⟩
    obtain ⟨p, rfl⟩ := fld_int e
    obtain ⟨pts, b, hc, hu, hb, hn, hbL, hl, k⟩ := kY p rfl e
    have hp := fld_mem e
    have p2 := (fld_le hp).1
    obtain ⟨d, rfl, hd⟩ := id hc
    refine ⟨_, rfl, _, rfl, _, rfl, _, rfl, d, _, rfl, hd.len, p, .ref d, pts, pts.length, (by rw [List.length_map]; rfl), hc, hp, hb, by omega, by omega, fun y H1 s1 hM => ?_⟩
    have hA := powR_ltr (p := p) (pts := pts) (cnt := pts.length) p2
    have ln : (powR p pts pts.length).length = pts.length := powR_len
    obtain ⟨du, rfl, hdu⟩ := hu
    refine ⟨_, rfl, .int p, y, .ref du, rfl, ty3_int p, (fun z => by rw [e] at z; cases z), fun q eq _ => .inr ?_⟩
    cases eq
    refine ⟨pts.length, powR p pts pts.length, b, ⟨du, rfl, hdu.same s1⟩, hbL, hM, hA, by omega, by omega, fun qs R hin => ?_, fun y2 x H2 qs s2 R hnot hx hy => ?_⟩
    · exact absurd hin (cons_of hp hA hbL R (pow_span hp hb hn hbL))
    · exact k y2 x H2 (s1.trans s2) hy ⟨qs, R, hnot, hx⟩
end
end WU

set_option maxRecDepth 100000
set_option maxHeartbeats 8000000
namespace WU
open PySem PySem.Spec PyProof.Rows L2
theorem big100k {n : Nat} (h : n ≤ 100000) : n < sizeLine := Nat.lt_of_le_of_lt h (by decide)
/-- the drawn numbers that are left -/
def PoolB (H : Hp) (a : Addr) (b : Nat) : Prop := ∃ ns : List Int, H a = some (.lst (ns.map V.int)) ∧ ns.length ≤ b
def PoolA (H : Hp) (a : Addr) : Prop := PoolB H a 50000
theorem PoolA.same {H H' : Hp} {a : Addr} (h : PoolA H a) (s : Same H H') : PoolA H' a := by
  obtain ⟨ns, e, l⟩ := h
  exact ⟨ns, s _ _ e, l⟩
theorem PoolA.keep {H H' : Hp} {a b : Addr} (h : PoolA H a) (s : Keep b H H') (n : a ≠ b) : PoolA H' a := by
  obtain ⟨ns, e, l⟩ := h
  exact ⟨ns, s _ _ n e, l⟩
theorem PoolA.ne {H : Hp} {a q : Addr} (h : PoolA H a) (n : H q = none) : a ≠ q := by
  obtain ⟨ns, e, _⟩ := h
  exact ne_of_none e n
theorem Keep.back {a p : Addr} {H H' : Hp} (k : Keep a H H') (h : PoolA H' a) (n : H' p = none) : H p = none := by
  cases e : H p with
  | none => rfl
  | some o =>
    rw [k p o (fun z => by rw [z] at n; exact h.ne n rfl) e] at n
    cases n
theorem Keep.skip {a p : Addr} {o : HO} {H H' : Hp} (k : Keep a H H') (n : H p = none) : Keep a H (upd H' p o) := fun b u hb e => by
  rw [upd_ne (ne_of_none e n)]
  exact k b u hb e
theorem FT.keepP {H H' : Hp} {a : Addr} {y : V} {z : List Int} (h : FT H y z) (hp : PoolA H a) (k : Keep a H H') : FT H' y z := by
  obtain ⟨c, rfl, h⟩ := h
  obtain ⟨ns, e, _⟩ := hp
  refine ⟨c, rfl, ?_⟩
  rcases h with h | ⟨o, h⟩
  · exact .inl (k _ _ (ne_of h e (by intro z; cases z)) h)
  · exact .inr ⟨o, k _ _ (ne_of h e (by intro z; cases z)) h⟩
theorem SqO.keepP {H H' : Hp} {a d : Addr} {xs : List V} (h : SqO H d xs) (hp : PoolA H a) (n : d ≠ a) (k : Keep a H H') : SqO H' d xs := by
  rcases h with h | ⟨h | ⟨o, h⟩⟩
  · exact .inl (k _ _ n h)
  · exact .inr (.inl (k _ _ n h))
  · exact .inr (.inr ⟨o, k _ _ n h⟩)
section
variable {P : Program} {w : World} {K : PySem.W.Frag} {mg : Str → Option Value} {base : Heap} {S : Addr}
def spDr : Sp := fun vs H Q _ => ∃ (a : Addr) (m : Int), vs = [.ref a, .int m] ∧ PoolA H a ∧ 0 < m ∧ ∀ (r : Int) H', 0 ≤ r → r < m → PoolA H' a → Keep a H H' → Q (.int r) H'
theorem scDr : FnScope ["pool", "many"] ["pool", "many"] (defScope s_law_draw) := ⟨rfl, rfl, rfl, by decide +kernel, rfl, by decide +kernel, by decide +kernel⟩
theorem ok_Dr {f : Addr} {fd : FuncData} (F : FnS K "_law_draw" s_law_draw f fd) (B : Blt5 mg) : FnOk P w K mg base (L2.CX P w) 1 f fd ["pool", "many"] spDr := by
  refine F.ok scDr (fun vs H Q E h => ?_) (fun cdv A outer s H vs Q E hr h => ?_)
  · obtain ⟨a, m, rfl, _⟩ := h
    rfl
  · obtain ⟨a, m, rfl, ⟨ns, e, l⟩, hm, k⟩ := h
    refine ⟨_, (pss_cons (ps_if (pt_cmpR op_eq (pe_callB (len_seqK (K := K)) (by rfl) B.len (by decide +kernel) (pa_cons (pv 0) pa_nil)) pe_int (nomark _)) (pss_one (ps_ret pe_int)) pss_nil)
      (pss_one (ps_ret (pe_op op_modN (pe_callTy call_int1 (by rfl) B.int (by decide +kernel) (pa_cons (pe_bm0 PySem.F.plainAttrs_list PySem.F.slot_list_pop PySem.F.type_list_pop mt_pop (pv 0)) pa_nil)) (pv 1))))), ?_⟩
    refine ⟨_, rfl, a, _, rfl, .inl (SqL.of e), rfl, _, rfl, iteD (fun hc => k 0 H (Int.le_refl _) hm ⟨ns, e, l⟩ Keep.refl) fun hc => ?_⟩
    have hl : 0 < ns.length := by
      rcases Nat.eq_zero_or_pos ns.length with z | z
      · exact absurd (congrArg V.int (by rw [List.length_map, z]; rfl)) hc
      · exact z
    have el : (ns.map V.int)[(ns.map V.int).length - 1]? = some (V.int (at0 ns (ns.length - 1))) := by
      rw [List.length_map]
      exact take_map_at ns.length (by omega)
    have b := fm_bd (at0 ns (ns.length - 1)) hm
    refine ⟨_, rfl, .inl ⟨rfl, _, SqL.of e⟩, a, _, _, rfl, rfl, e, el, .inl ⟨_, rfl, _, rfl, _, _, rfl, rfl, (show m ≠ 0 by omega), k _ _ b.1 b.2 ⟨ns.dropLast, ?_, ?_⟩ fun c o hc ec => ?_⟩⟩
    · rw [upd_same, List.map_dropLast]
    · rw [List.length_dropLast]
      omega
    · rw [upd_ne hc]
      exact ec
def spPl (K : PySem.W.Frag) : Sp := fun vs H Q _ => ∃ (a : Addr) (ns : List Int) (m : Nat), vs = [.ref a, .int m] ∧ SqL K H a (ns.map V.int) ∧ ns.length ≤ 63 ∧ m ≤ 1000 ∧ ∀ p H', H p = none → Same H H' → PoolA H' p → Q (.ref p) H'
theorem scPl : FnScope ["script", "many", "pool", "total", "cell", "rest", "k", "mixed"] ["script", "many"] (defScope s_law_pool) := ⟨rfl, rfl, rfl, by decide +kernel, rfl, by decide +kernel, by decide +kernel⟩
/-- a list that is built, new since H -/
structure Nw (H : Hp) (p : Addr) (b : Nat) (H' : Hp) : Prop where
  same : Same H H'
  pool : PoolB H' p b
theorem Nw.le {H H' : Hp} {p : Addr} {b c : Nat} (h : Nw H p b H') (l : b ≤ c) : Nw H p c H' := by
  obtain ⟨s, ns, e, q⟩ := h
  exact ⟨s, ns, e, Nat.le_trans q l⟩
theorem Nw.put {H H' : Hp} {p : Addr} {b : Nat} (hp : H p = none) (h : Nw H p b H') (hb : b ≤ 90000) (x : Int) : ∃ xs, SqL K H' p xs ∧ H' p = some (.lst xs) ∧ xs.length < sizeLine ∧ Nw H p (b + 1) (upd H' p (.lst (xs ++ [.int x]))) := by
  obtain ⟨s, ns, e, q⟩ := h
  refine ⟨_, SqL.of e, e, big100k (by rw [List.length_map]; omega), fun c o ec => ?_, ns ++ [x], ?_, ?_⟩
  · rw [upd_ne (ne_of_none ec hp)]
    exact s _ _ ec
  · rw [upd_same, List.map_append]
    rfl
  · rw [List.length_append]
    exact Nat.succ_le_succ q
theorem ok_Pl {f : Addr} {fd : FuncData} (F : FnS K "_law_pool" s_law_pool f fd) (B : Blt5 mg) : FnOk P w K mg base (L2.CX P w) 1 f fd ["script", "many"] (spPl K) := by
  refine F.ok scPl (fun vs H Q E h => ?_) (fun cdv A outer s H vs Q E hr h => ?_)
  · obtain ⟨a, ns, m, rfl, _⟩ := h
    rfl
  · obtain ⟨a, ns, m, rfl, hS, hl, hm, kk⟩ := h
    have nd := scPl.nd
    refine ⟨_, (pss_cons (ps_set (i := 2) nd rfl (Or.inl rfl) (pe_lst pa_nil))
      (pss_cons (ps_set (i := 3) nd rfl (Or.inl rfl) pe_int)
      (pss_cons (ps_wk (ps_for (passes_of rfl) rfl (pi_listK (K := K) (pv 0)) (pg_name (i := 4) nd rfl (Or.inl rfl)) (pss_cons (ps_set (i := 5) nd rfl (Or.inl rfl) (pe_callB call_abs (by rfl) B.abs (by decide +kernel) (pa_cons (pe_callTy call_int1 (by rfl) B.int (by decide +kernel) (pa_cons (pv 4) pa_nil)) pa_nil)))
      (pss_cons (ps_wk (ps_if (pt_cmpR op_ge (pv 5) (pe_op op_pow pe_int pe_int) (nomark _)) (pss_one (ps_wk (ps_for (passes_of rfl) rfl (pi_range1 rfl B.range (pa_cons pe_int pa_nil)) (pg_name (i := 6) nd rfl (Or.inl rfl)) (pss_cons (ps_wk (ps_if (PW.pt (pw_or (pt_cmpR op_eq (pv 5) pe_int (nomark _)) (pw_or1 (pt_cmpR op_ge (pe_callB (len_seqK (K := K)) (by rfl) B.len (by decide +kernel) (pa_cons (pv 2) pa_nil)) (pv 1) (nomark _))))) (pss_one ps_break) pss_nil))
      (pss_cons (ps_expr (pe_bm PySem.F.plainAttrs_list PySem.F.slot_list_append PySem.F.type_list_append mt_append (pv 2) (pa_cons (pe_op op_modN (pe_callTy call_int1 (by rfl) B.int (by decide +kernel) (pa_cons (pv 5) pa_nil)) pe_int) pa_nil)))
      (pss_one (ps_set (i := 5) nd rfl (Or.inl rfl) (pe_op op_fdivN (pv 5) pe_int)))))))) (pss_cons (ps_set (i := 7) nd rfl (Or.inl rfl) (pe_op op_modN (pe_callTy call_int1 (by rfl) B.int (by decide +kernel) (pa_cons (pe_op op_add (pe_op op_add (pe_op op_mul (pe_callTy call_int1 (by rfl) B.int (by decide +kernel) (pa_cons (pv 4) pa_nil)) pe_int) (pe_op op_mul pe_int (pe_callB (len_seqK (K := K)) (by rfl) B.len (by decide +kernel) (pa_cons (pv 2) pa_nil)))) pe_int) pa_nil)) pe_int))
      (pss_one (ps_expr (pe_bm PySem.F.plainAttrs_list PySem.F.slot_list_append PySem.F.type_list_append mt_append (pv 2) (pa_cons (pe_op op_modN (pe_callTy call_int1 (by rfl) B.int (by decide +kernel) (pa_cons (pe_op op_add (pe_op op_fdivN (pv 7) pe_int) (pe_op op_mul (pv 7) pe_int)) pa_nil)) pe_int) pa_nil)))))))
      (pss_one (ps_set (i := 3) nd rfl (Or.inl rfl) (pe_op op_modN (pe_callTy call_int1 (by rfl) B.int (by decide +kernel) (pa_cons (pe_op op_add (pe_op op_mul (pv 3) pe_int) (pe_callTy call_int1 (by rfl) B.int (by decide +kernel) (pa_cons (pv 4) pa_nil))) pa_nil)) pe_int)))))))
      (pss_cons (ps_wk (ps_for (passes_of rfl) rfl (pi_range1 rfl B.range (pa_cons (pv 1) pa_nil)) (pg_name (i := 6) nd rfl (Or.inl rfl)) (pss_cons (ps_wk (ps_if (pt_cmpR op_ge (pe_callB (len_seqK (K := K)) (by rfl) B.len (by decide +kernel) (pa_cons (pv 2) pa_nil)) (pv 1) (nomark _)) (pss_one ps_break) pss_nil))
      (pss_cons (ps_set (i := 3) nd rfl (Or.inl rfl) (pe_op op_modN (pe_callTy call_int1 (by rfl) B.int (by decide +kernel) (pa_cons (pe_op op_add (pe_op op_add (pe_op op_mul (pv 3) pe_int) (pe_op op_mul pe_int (pv 6))) pe_int) pa_nil)) pe_int))
      (pss_one (ps_expr (pe_bm PySem.F.plainAttrs_list PySem.F.slot_list_append PySem.F.type_list_append mt_append (pv 2) (pa_cons (pe_op op_modN (pe_callTy call_int1 (by rfl) B.int (by decide +kernel) (pa_cons (pe_op op_fdivN (pv 3) pe_int) pa_nil)) pe_int) pa_nil))))))))
      (pss_cons (ps_expr (pe_bm0 PySem.F.plainAttrs_list PySem.F.slot_list_reverse PySem.F.type_list_reverse mt_reverse (pv 2)))
      (pss_one (ps_ret (pv 2)))))))), ?_⟩
    refine ⟨(by show 0 ≤ sizeLine; decide), fun p hp => ?_⟩
    have n0 : Nw H p 0 (upd H p (.lst [])) := ⟨same_new hp, [], upd_same, Nat.le_refl _⟩
    generalize upd H p (.lst []) = H1 at n0 ⊢
    have cellAt : ∀ {i : Nat} {x : V}, (ns.map V.int)[i]? = some x → ∃ z : Int, x = .int z := fun {i x} h => by
      obtain ⟨z, _, e⟩ := List.mem_map.mp (List.mem_of_getElem? h)
      exact ⟨z, e.symm⟩
    refine ⟨fun σ H' => ∃ tot y4 y5 y6 y7, σ = [some (.ref a), some (.int m), some (.ref p), some (.int tot), y4, y5, y6, y7] ∧ Nw H p 3780 H', ?_, ?_⟩
    · refine ⟨_, rfl, a, rfl, ⟨_, n0.same.seq hS⟩, for_list (K := K) (a := a) (xs := ns.map V.int) (fun i σ H' => ∃ tot y4 y5 y6 y7, σ = [some (.ref a), some (.int m), some (.ref p), some (.int tot), y4, y5, y6, y7] ∧ Nw H p (60 * i) H') ⟨7, none, none, none, none, rfl, n0⟩ (fun i σ H' _ ⟨_, _, _, _, _, _, n⟩ => n.same.seq hS) ?_ ?_⟩
      · rintro i x σ H2 hi ⟨tot, y4, y5, y6, y7, rfl, n2⟩
        have hil : i < ns.length := by
          have := (List.getElem?_eq_some_iff.mp hi).1
          rwa [List.length_map] at this
        obtain ⟨z, rfl⟩ := cellAt hi
        refine ⟨_, rfl, .inl ⟨_, rfl, _, rfl, ?_⟩⟩
        refine ⟨fun σ H' => ∃ y5 y6 y7, σ = [some (.ref a), some (.int m), some (.ref p), some (.int tot), some (.int z), y5, y6, y7] ∧ Nw H p (60 * (i + 1)) H', ?_, ?_⟩
        · refine ⟨_, rfl, _, _, rfl, rfl, ⟨by decide, by decide, by decide⟩, _, _, rfl, rfl, _, rfl, iteD (fun _ => ?_) fun _ => ?_⟩
          · refine ⟨fun σ H' => ∃ y5 y6 y7, σ = [some (.ref a), some (.int m), some (.ref p), some (.int tot), some (.int z), y5, y6, y7] ∧ Nw H p (60 * (i + 1)) H', ?_, fun σ H' h => h⟩
            refine ⟨60, rfl, by decide, by decide, for_range (lo := 0) (n := 60) (fun j σ H' => ∃ y5 y6, σ = [some (.ref a), some (.int m), some (.ref p), some (.int tot), some (.int z), some (.int y5), y6, y7] ∧ Nw H p (60 * i + j) H') ⟨_, _, rfl, n2⟩ ?_ ?_⟩
            · rintro j σ H3 hj ⟨y5, y6, rfl, n3⟩
              have brk : ∀ {σ H'}, (∃ y5 y6, σ = [some (.ref a), some (.int m), some (.ref p), some (.int tot), some (.int z), some (.int y5), y6, y7] ∧ Nw H p (60 * i + j) H') → ∃ y5 y6 y7, σ = [some (.ref a), some (.int m), some (.ref p), some (.int tot), some (.int z), y5, y6, y7] ∧ Nw H p (60 * (i + 1)) H' := fun ⟨y5, y6, e, n⟩ => ⟨_, _, _, e, n.le (by omega)⟩
              refine ⟨fun σ H' => ∃ y5 y6, σ = [some (.ref a), some (.int m), some (.ref p), some (.int tot), some (.int z), some (.int y5), y6, y7] ∧ Nw H p (60 * i + j) H', ?_, ?_⟩
              · refine ⟨_, rfl, rfl, _, rfl, iteD (fun _ => iteT (brk ⟨_, _, rfl, n3⟩)) fun _ => ?_⟩
                obtain ⟨ps, ep, _⟩ := n3.pool
                exact ⟨_, rfl, p, _, rfl, .inl (SqL.of ep), _, rfl, _, _, rfl, rfl, _, rfl, iteD (fun _ => brk ⟨_, _, rfl, n3⟩) fun _ => ⟨_, _, rfl, n3⟩⟩
              · rintro σ H4 ⟨y5, y6, rfl, n4⟩
                obtain ⟨xs, q1, q2, q3, q4⟩ := n4.put (K := K) hp (by omega) (y5.fmod 2520)
                exact ⟨_, rfl, .inl ⟨rfl, _, q1⟩, _, rfl, .inl ⟨_, rfl, _, _, rfl, rfl, (show (2520 : Int) ≠ 0 by decide), p, _, _, rfl, rfl, q2, q3, _, rfl, _, _, rfl, rfl, ⟨by decide, by decide⟩, _, _, rfl, q4⟩⟩
            · rintro σ H3 ⟨y5, y6, rfl, n3⟩
              exact ⟨_, _, _, rfl, n3.le (by omega)⟩
          · obtain ⟨ps, ep, _⟩ := n2.pool
            refine ⟨_, rfl, .inl ⟨_, rfl, _, _, rfl, rfl, .inr ⟨by decide, by decide⟩, _, rfl, p, _, rfl, .inl (SqL.of ep), _, _, rfl, rfl, .inl ⟨by decide, by decide⟩, _, _, rfl, rfl, _, _, rfl, rfl, .inl ⟨_, rfl, _, _, rfl, rfl, (show (2147483647 : Int) ≠ 0 by decide), ?_⟩⟩⟩
            dsimp only
            generalize (z * 48271 + 409 * ((List.map V.int ps).length : Int) + 31).fmod 2147483647 = mx
            obtain ⟨xs, q1, q2, q3, q4⟩ := n2.put (K := K) hp (by omega) ((mx.fdiv 41 + mx * 59).fmod 1000003)
            exact ⟨_, rfl, .inl ⟨rfl, _, q1⟩, _, rfl, _, _, rfl, rfl, ⟨by decide, by decide⟩, _, rfl, _, _, rfl, rfl, .inr ⟨by decide, by decide⟩, _, _, rfl, rfl, .inl ⟨_, rfl, _, _, rfl, rfl, (show (1000003 : Int) ≠ 0 by decide), p, _, _, rfl, rfl, q2, q3, _, _, _, rfl, q4.le (by omega)⟩⟩
        · rintro σ H3 ⟨y5, y6, y7, rfl, n3⟩
          exact ⟨_, rfl, _, _, rfl, rfl, .inr ⟨by decide, by decide⟩, _, rfl, .inl ⟨_, rfl, _, _, rfl, rfl, .inl ⟨_, rfl, _, _, rfl, rfl, (show (1000003 : Int) ≠ 0 by decide), _, _, _, _, _, rfl, n3⟩⟩⟩
      · rintro σ H2 ⟨tot, y4, y5, y6, y7, rfl, n2⟩
        exact ⟨tot, y4, y5, y6, y7, rfl, n2.le (by rw [List.length_map]; omega)⟩
    · rintro σ H2 ⟨tot, y4, y5, y6, y7, rfl, n2⟩
      refine ⟨fun σ H' => ∃ tot y4 y5 y6 y7, σ = [some (.ref a), some (.int m), some (.ref p), some (.int tot), y4, y5, y6, y7] ∧ Nw H p 4780 H', ?_, ?_⟩
      · refine ⟨_, rfl, (m : Int), rfl, by omega, by omega, for_range (lo := 0) (n := m) (fun j σ H' => ∃ tot y6, σ = [some (.ref a), some (.int m), some (.ref p), some (.int tot), y4, y5, y6, y7] ∧ Nw H p (3780 + j) H') ⟨_, _, rfl, n2⟩ ?_ ?_⟩
        · rintro j σ H3 hj ⟨tot, y6, rfl, n3⟩
          refine ⟨fun σ H' => ∃ tot, σ = [some (.ref a), some (.int m), some (.ref p), some (.int tot), y4, y5, some (.int (0 + (j : Int))), y7] ∧ Nw H p (3780 + j) H', ?_, ?_⟩
          · obtain ⟨ps, ep, _⟩ := n3.pool
            exact ⟨_, rfl, p, _, rfl, .inl (SqL.of ep), _, rfl, _, _, rfl, rfl, _, rfl, iteD (fun _ => ⟨_, _, _, _, _, rfl, n3.le (by omega)⟩) fun _ => ⟨_, rfl, n3⟩⟩
          · rintro σ H4 ⟨tot, rfl, n4⟩
            refine ⟨_, rfl, _, _, rfl, rfl, .inr ⟨by decide, by decide⟩, _, rfl, _, _, rfl, rfl, .inl ⟨by decide, by decide⟩, _, _, rfl, rfl, _, _, rfl, rfl, .inl ⟨_, rfl, _, _, rfl, rfl, (show (2147483647 : Int) ≠ 0 by decide), ?_⟩⟩
            dsimp only
            generalize (tot * 39373 + 77 * (0 + (j : Int)) + 3).fmod 2147483647 = tt
            obtain ⟨xs, q1, q2, q3, q4⟩ := n4.put (K := K) hp (by omega) ((tt.fdiv 17).fmod 1000003)
            exact ⟨_, rfl, .inl ⟨rfl, _, q1⟩, _, rfl, _, _, rfl, rfl, ⟨by decide, by decide⟩, .inl ⟨_, rfl, _, _, rfl, rfl, (show (1000003 : Int) ≠ 0 by decide), p, _, _, rfl, rfl, q2, q3, _, _, rfl, q4⟩⟩
        · rintro σ H3 ⟨tot, y6, rfl, n3⟩
          exact ⟨_, _, _, _, _, rfl, n3.le (by omega)⟩
      · rintro σ H3 ⟨tot, y4, y5, y6, y7, rfl, n3⟩
        obtain ⟨s3, ps, ep, lp⟩ := n3
        refine ⟨_, rfl, .inl ⟨rfl, _, SqL.of ep⟩, p, _, rfl, rfl, ep, _, rfl, kk p _ hp (fun c o ec => ?_) ⟨ps.reverse, ?_, ?_⟩⟩
        · rw [upd_ne (ne_of_none ec hp)]
          exact s3 _ _ ec
        · rw [upd_same, List.map_reverse]
        · rw [List.length_reverse]
          omega
end
end WU

set_option maxRecDepth 100000
set_option maxHeartbeats 8000000
namespace WU
open PySem PySem.Spec PyProof.Rows L2
section
variable {X : Cx} {K : PySem.W.Frag}
theorem isiTK (hK : X.K = K := by rfl) : CallR X (.builtin "isinstance") (rIsiT K) := hK ▸ call_isiT
theorem ix_seqK (hK : X.K = K := by rfl) : IxR X (rIx K) := hK ▸ ix_seq
end
def leafV : V → Bool
  | .non => true
  | .bl _ => true
  | .int _ => true
  | .str _ => true
  | _ => false
def leafN : V → String
  | .non => "NoneType"
  | .bl _ => "bool"
  | .int _ => "int"
  | _ => "str"
/-- u and v alike, their parts by R -/
def LkR (R : Hp → V → V → Prop) (H : Hp) (u v : V) : Prop := (u = v ∧ leafV v = true) ∨ ∃ a b xs ys, u = .ref a ∧ v = .ref b ∧ ((H a = some (.lst xs) ∧ H b = some (.lst ys)) ∨ (Rd H a (.tup xs) ∧ Rd H b (.tup ys))) ∧ Paired (R H) xs ys ∧ ys.length ≤ 10000
def Lk : Nat → Hp → V → V → Prop
  | 0, _, u, v => u = v ∧ leafV v = true
  | n + 1, H, u, v => LkR (Lk n) H u v
theorem LkR.same {R : Hp → V → V → Prop} {H H' : Hp} {u v : V} (hR : ∀ u v, R H u v → R H' u v) (s : Same H H') (h : LkR R H u v) : LkR R H' u v := by
  rcases h with h | ⟨a, b, xs, ys, e, f, h, p, l⟩
  · exact .inl h
  · exact .inr ⟨a, b, xs, ys, e, f, h.imp (fun h => ⟨s _ _ h.1, s _ _ h.2⟩) (fun h => ⟨rd_same s h.1, rd_same s h.2⟩), paired_mono (fun _ _ q => hR _ _ q) p, l⟩
theorem Lk.same {H H' : Hp} (s : Same H H') : ∀ {n : Nat} {u v : V}, Lk n H u v → Lk n H' u v
  | 0, _, _, h => h
  | n + 1, _, _, h => LkR.same (fun _ _ q => Lk.same s q) s h
theorem lk_leaf {n : Nat} {H : Hp} {v : V} (h : leafV v = true) : Lk n H v v := by
  cases n with
  | zero => exact ⟨rfl, h⟩
  | succ n => exact .inl ⟨rfl, h⟩
theorem lk_ints {n : Nat} {H : Hp} : ∀ b : List Int, Paired (Lk n H) (b.map V.int) (b.map V.int)
  | [] => .nil
  | i :: b => .cons (lk_leaf rfl) (lk_ints b)
section
variable {P : Program} {w : World} {K : PySem.W.Frag} {mg : Str → Option Value} {base : Heap} {S : Addr}
theorem leaf_ty {H : Hp} {v : V} (h : leafV v = true) : TyX K H v (.type (leafN v)) := by
  cases v with
  | non => exact .base .non
  | bl b => exact .base (.bl b)
  | int i => exact .base (.int i)
  | str z => exact .base (.str z)
  | _ => cases h
theorem leaf_tl {v : V} (h : leafV v = true) : PySem.W.kitAny K (.type (leafN v)) [.type "tuple", .type "list"] = some false := by
  cases v with
  | non => exact kitAny_cons (b := false) (kit_ty (show kitB "NoneType" "tuple" = some false by decide +kernel)) (fun _ => kitAny_cons (b := false) (kit_ty (show kitB "NoneType" "list" = some false by decide +kernel)) (fun _ => kitAny_nil) (fun h => nomatch h)) (fun h => nomatch h)
  | bl b => exact kitAny_cons (b := false) (kit_ty (show kitB "bool" "tuple" = some false by decide +kernel)) (fun _ => kitAny_cons (b := false) (kit_ty (show kitB "bool" "list" = some false by decide +kernel)) (fun _ => kitAny_nil) (fun h => nomatch h)) (fun h => nomatch h)
  | int i => exact kitAny_cons (b := false) (kit_ty (show kitB "int" "tuple" = some false by decide +kernel)) (fun _ => kitAny_cons (b := false) (kit_ty (show kitB "int" "list" = some false by decide +kernel)) (fun _ => kitAny_nil) (fun h => nomatch h)) (fun h => nomatch h)
  | str z => exact kitAny_cons (b := false) (kit_ty (show kitB "str" "tuple" = some false by decide +kernel)) (fun _ => kitAny_cons (b := false) (kit_ty (show kitB "str" "list" = some false by decide +kernel)) (fun _ => kitAny_nil) (fun h => nomatch h)) (fun h => nomatch h)
  | _ => cases h
theorem list_tl : PySem.W.kitAny K (.type "list") [.type "tuple", .type "list"] = some true := kitAny_cons (b := false) (kit_ty (show kitB "list" "tuple" = some false by decide +kernel)) (fun _ => kitAny_cons (b := true) (kit_ty (show kitB "list" "list" = some true by decide +kernel)) (fun h => nomatch h) (fun _ => rfl)) (fun h => nomatch h)
theorem tup_tl : PySem.W.kitAny K (.type "tuple") [.type "tuple", .type "list"] = some true := kitAny_cons (b := true) (kit_ty (show kitB "tuple" "tuple" = some true by decide +kernel)) (fun h => nomatch h) (fun _ => rfl)
theorem scSm : FnScope ["told", "due", "k"] ["told", "due"] (defScope s_law_same) := ⟨rfl, rfl, rfl, by decide +kernel, rfl, by decide +kernel, by decide +kernel⟩
def spSmP (R : Hp → V → V → Prop) : Sp := fun vs H Q _ => ∃ u v, vs = [u, v] ∧ R H u v ∧ ∀ H', Same H H' → Q (.bl true) H'
theorem ok_Sm1 {R : Hp → V → V → Prop} (hR : ∀ H H' u v, Same H H' → R H u v → R H' u v) {k : Nat} {f : Addr} {fd : FuncData} (F : FnS K "_law_same" s_law_same f fd) (B : Blt5 mg) (bs : mg "str" = none) (C0 : Cal P w K mg base k "_law_same" f fd ["told", "due"] (spSmP R)) :
    FnOk P w K mg base (L2.CX P w) (k + 1) f fd ["told", "due"] (spSmP (LkR R)) := by
  refine F.ok scSm (fun vs H Q E h => ?_) (fun cdv A outer s H vs Q E hr h => ?_)
  · obtain ⟨u, v, rfl, _⟩ := h
    rfl
  · obtain ⟨u, v, rfl, he, kk⟩ := h
    have nd := scSm.nd
    refine ⟨_, (pss_cons (ps_if (pt_val (pe_callB (isiTK (K := K)) (by rfl) B.isi (by decide +kernel) (pa_cons (pv 1) (pa_cons (pe_tup (pa_cons (pe_bltn (v := .ty "tuple") (by rfl) B.tuple (by decide +kernel) rfl) (pa_cons (pe_bltn (v := .ty "list") (by rfl) B.lst (by decide +kernel) rfl) pa_nil))) pa_nil)))) (pss_cons (ps_if (PW.pt (pw_or (pt_not (pt_val (pe_callB (isiTK (K := K)) (by rfl) B.isi (by decide +kernel) (pa_cons (pv 0) (pa_cons (pe_tup (pa_cons (pe_bltn (v := .ty "tuple") (by rfl) B.tuple (by decide +kernel) rfl) (pa_cons (pe_bltn (v := .ty "list") (by rfl) B.lst (by decide +kernel) rfl) pa_nil))) pa_nil))))) (pw_or1 (pt_cmpR op_ne (pe_callB (isiK (K := K)) (by rfl) B.isi (by decide +kernel) (pa_cons (pv 0) (pa_cons (pe_bltn (v := .ty "list") (by rfl) B.lst (by decide +kernel) rfl) pa_nil))) (pe_callB (isiK (K := K)) (by rfl) B.isi (by decide +kernel) (pa_cons (pv 1) (pa_cons (pe_bltn (v := .ty "list") (by rfl) B.lst (by decide +kernel) rfl) pa_nil))) (nomark _))))) (pss_one (ps_ret pe_bl)) pss_nil)
      (pss_cons (ps_if (pt_cmpR op_ne (pe_callB (len_seqK (K := K)) (by rfl) B.len (by decide +kernel) (pa_cons (pv 0) pa_nil)) (pe_callB (len_seqK (K := K)) (by rfl) B.len (by decide +kernel) (pa_cons (pv 1) pa_nil)) (nomark _)) (pss_one (ps_ret pe_bl)) pss_nil)
      (pss_cons (ps_for (passes_of rfl) rfl (pi_range1 rfl B.range (pa_cons (pe_callB (len_seqK (K := K)) (by rfl) B.len (by decide +kernel) (pa_cons (pv 1) pa_nil)) pa_nil)) (pg_name (i := 2) nd rfl (Or.inl rfl)) (pss_one (ps_if (pt_not (pt_val (pe_cal C0 hr (pa_cons (pe_ix (ix_seqK (K := K)) (pv 0) (pv 2) (fun _ _ => rfl)) (pa_cons (pe_ix (ix_seqK (K := K)) (pv 1) (pv 2) (fun _ _ => rfl)) pa_nil)) passU))) (pss_one (ps_ret pe_bl)) pss_nil)))
      (pss_one (ps_ret pe_bl))))) pss_nil)
      (pss_cons (ps_if (pt_cmpR op_isN (pv 1) pe_non (nomark _)) (pss_one (ps_ret (pe_cmpR op_isN (pv 0) pe_non (nomark _)))) pss_nil)
      (pss_cons (ps_if (pt_val (pe_callB (isiK (K := K)) (by rfl) B.isi (by decide +kernel) (pa_cons (pv 1) (pa_cons (pe_bltn (v := .ty "bool") (by rfl) B.bool (by decide +kernel) rfl) pa_nil)))) (pss_one (ps_ret (pe_and (pe_callB (isiK (K := K)) (by rfl) B.isi (by decide +kernel) (pa_cons (pv 0) (pa_cons (pe_bltn (v := .ty "bool") (by rfl) B.bool (by decide +kernel) rfl) pa_nil))) (pe_one (pe_cmpR op_eq (pv 0) (pv 1) (nomark _)))))) pss_nil)
      (pss_cons (ps_if (pt_val (pe_callB (isiK (K := K)) (by rfl) B.isi (by decide +kernel) (pa_cons (pv 1) (pa_cons (pe_bltn (v := .ty "str") (by rfl) bs (by decide +kernel) rfl) pa_nil)))) (pss_one (ps_ret (pe_and (pe_callB (isiK (K := K)) (by rfl) B.isi (by decide +kernel) (pa_cons (pv 0) (pa_cons (pe_bltn (v := .ty "str") (by rfl) bs (by decide +kernel) rfl) pa_nil))) (pe_one (pe_cmpR op_eq (pv 0) (pv 1) (nomark _)))))) pss_nil)
      (pss_one (ps_ret (pe_and (pe_callB (isiK (K := K)) (by rfl) B.isi (by decide +kernel) (pa_cons (pv 0) (pa_cons (pe_bltn (v := .ty "int") (by rfl) B.int (by decide +kernel) rfl) pa_nil))) (pe_and (pe_not (pe_callB (isiK (K := K)) (by rfl) B.isi (by decide +kernel) (pa_cons (pv 0) (pa_cons (pe_bltn (v := .ty "bool") (by rfl) B.bool (by decide +kernel) rfl) pa_nil)))) (pe_one (pe_cmpR op_eq (pv 0) (pv 1) (nomark _))))))))))), ?_⟩
    refine ⟨_, rfl, (by show 2 ≤ sizeLine; decide), fun t0 ht0 => ?_⟩
    have s0 := same_new (o := .tup [.ty "tuple", .ty "list"]) ht0
    have e0 : upd H t0 (.tup [.ty "tuple", .ty "list"]) t0 = some (.tup [.ty "tuple", .ty "list"]) := upd_same
    generalize upd H t0 (.tup [.ty "tuple", .ty "list"]) = H0 at s0 e0 ⊢
    rcases he with ⟨rfl, hl⟩ | ⟨a, b, xs, ys, rfl, rfl, hab, hP, hl⟩
    · refine ⟨u, t0, _, _, _, _, rfl, e0, .cons (.ty "tuple") (.cons (.ty "list") .nil), leaf_ty hl, leaf_tl hl, _, rfl, iteF ?_⟩
      have kk' : ∀ {c : Prop} [Decidable c], c → Q (.bl (decide c)) H0 := fun hc => by rw [decide_eq_true hc]; exact kk H0 s0
      cases u with
      | int i =>
        refine ⟨_, rfl, rfl, _, rfl, iteFb rfl ?_⟩
        refine ⟨_, rfl, _, _, _, _, _, rfl, .ty "bool", .base (.int i), kit_ty (show kitB "int" "bool" = some false by decide +kernel), _, rfl, iteF ?_⟩
        refine ⟨_, rfl, _, _, _, _, _, rfl, .ty "str", .base (.int i), kit_ty (show kitB "int" "str" = some false by decide +kernel), _, rfl, iteF ?_⟩
        refine ⟨_, rfl, _, _, _, _, _, rfl, .ty "int", .base (.int i), kit_ty (show kitB "int" "int" = some true by decide +kernel), _, rfl, iteT ?_⟩
        exact ⟨_, rfl, _, _, _, _, _, rfl, .ty "bool", .base (.int i), kit_ty (show kitB "int" "bool" = some false by decide +kernel), _, rfl, _, rfl, iteT ⟨_, rfl, _, rfl, rfl, kk' rfl⟩⟩
      | bl i =>
        refine ⟨_, rfl, rfl, _, rfl, iteFb rfl ?_⟩
        refine ⟨_, rfl, _, _, _, _, _, rfl, .ty "bool", .base (.bl i), kit_ty (show kitB "bool" "bool" = some true by decide +kernel), _, rfl, iteT ?_⟩
        exact ⟨_, rfl, _, _, _, _, _, rfl, .ty "bool", .base (.bl i), kit_ty (show kitB "bool" "bool" = some true by decide +kernel), _, rfl, iteT ⟨_, rfl, _, rfl, rfl, kk' rfl⟩⟩
      | non => exact ⟨_, rfl, rfl, _, rfl, iteTb (decide_eq_true rfl) ⟨_, rfl, rfl, kk' rfl⟩⟩
      | str z =>
        refine ⟨_, rfl, rfl, _, rfl, iteFb rfl ?_⟩
        refine ⟨_, rfl, _, _, _, _, _, rfl, .ty "bool", .base (.str z), kit_ty (show kitB "str" "bool" = some false by decide +kernel), _, rfl, iteF ?_⟩
        refine ⟨_, rfl, _, _, _, _, _, rfl, .ty "str", .base (.str z), kit_ty (show kitB "str" "str" = some true by decide +kernel), _, rfl, iteT ?_⟩
        exact ⟨_, rfl, _, _, _, _, _, rfl, .ty "str", .base (.str z), kit_ty (show kitB "str" "str" = some true by decide +kernel), _, rfl, iteT ⟨_, rfl, _, rfl, rfl, kk' rfl⟩⟩
      | _ => cases hl
    · have el := paired_len hP
      obtain ⟨kd, T, hT, sa, sb, tl, isl⟩ : ∃ (kd : Bool) (T : String), (T = "list" ∧ kd = true ∨ T = "tuple" ∧ kd = false) ∧ (∀ H', Same H H' → SqB K H' a xs kd ∧ TyX K H' (.ref a) (.type T)) ∧ (∀ H', Same H H' → SqB K H' b ys kd ∧ TyX K H' (.ref b) (.type T)) ∧
          PySem.W.kitAny K (.type T) [.type "tuple", .type "list"] = some true ∧ PySem.W.kitOne K (.type T) (.type "list") = some kd := by
        rcases hab with ⟨ha, hb⟩ | ⟨ha, hb⟩
        · exact ⟨true, "list", .inl ⟨rfl, rfl⟩, fun H' s => ⟨SqL.of (s _ _ ha), .base (.lst (s _ _ ha))⟩, fun H' s => ⟨SqL.of (s _ _ hb), .base (.lst (s _ _ hb))⟩, list_tl, kit_ty (show kitB "list" "list" = some true by decide +kernel)⟩
        · exact ⟨false, "tuple", .inr ⟨rfl, rfl⟩, fun H' s => ⟨sqT (rd_same s ha), sqT_ty (sqT (rd_same s ha))⟩, fun H' s => ⟨sqT (rd_same s hb), sqT_ty (sqT (rd_same s hb))⟩, tup_tl, kit_ty (show kitB "tuple" "list" = some false by decide +kernel)⟩
      have ix : ∀ {H' : Hp} {c : Addr} {zs : List V} {i : Nat} {v : V} {Q : VK}, SqB K H' c zs kd → zs[i]? = some v → Q v H' → rIx K (.ref c) (.int i) H' Q := fun {H' c zs i v Q} h e q => by
        cases kd with
        | true => exact .inl ⟨c, zs, (i : Int), v, rfl, rfl, h, atI_nat e, q⟩
        | false => exact .inr (.inl ⟨c, zs, (i : Int), v, rfl, rfl, h, atI_nat e, q⟩)
      refine ⟨_, t0, _, _, _, _, rfl, e0, .cons (.ty "tuple") (.cons (.ty "list") .nil), (sb _ s0).2, tl, _, rfl, iteT ?_⟩
      refine ⟨_, rfl, (by show 2 ≤ sizeLine; decide), fun t1 ht1 => ?_⟩
      have s1 := s0.trans (same_new (o := .tup [.ty "tuple", .ty "list"]) ht1)
      have e1 : upd H0 t1 (.tup [.ty "tuple", .ty "list"]) t1 = some (.tup [.ty "tuple", .ty "list"]) := upd_same
      generalize upd H0 t1 (.tup [.ty "tuple", .ty "list"]) = H1 at s1 e1 ⊢
      refine ⟨_, t1, _, _, _, _, rfl, e1, .cons (.ty "tuple") (.cons (.ty "list") .nil), (sa _ s1).2, tl, _, rfl, iteF ?_⟩
      refine ⟨_, rfl, _, _, _, _, _, rfl, .ty "list", (sa _ s1).2, isl, _, rfl, _, _, _, _, _, rfl, .ty "list", (sb _ s1).2, isl, rfl, _, rfl, iteFb (by rw [decide_eq_true rfl]; rfl) ?_⟩
      refine ⟨_, rfl, a, _, rfl, (sa _ s1).1.sq, _, rfl, b, _, rfl, (sb _ s1).1.sq, rfl, _, rfl, iteFb (by rw [decide_eq_true (congrArg (fun n : Nat => V.int n) el)]; rfl) ?_⟩
      refine ⟨_, rfl, b, _, rfl, (sb _ s1).1.sq, (ys.length : Int), rfl, by omega, by omega, for_range (lo := 0) (n := ys.length) (fun i σ H' => ∃ x, σ = [some (.ref a), some (.ref b), x] ∧ Same H H') ⟨none, rfl, s1⟩ ?_ ?_⟩
      · rintro i σ H' hi ⟨x, rfl, s2⟩
        have hy : ys[i]? = some ys[i] := List.getElem?_eq_getElem hi
        obtain ⟨u, hx, r⟩ := paired_of hP hy
        rw [show ((0 : Int) + (i : Int)) = ((i : Nat) : Int) from Int.zero_add _]
        exact ⟨_, rfl, _, rfl, ix (sa _ s2).1 hx ⟨_, rfl, _, rfl, ix (sb _ s2).1 hy ⟨u, _, rfl, hR _ _ _ _ s2 r, fun H3 s3 => ⟨_, rfl, iteF ⟨_, rfl, s2.trans s3⟩⟩⟩⟩⟩
      · rintro σ H' ⟨x, rfl, s2⟩
        exact kk H' s2
theorem ok_Sm {f : Addr} {fd : FuncData} (F : FnS K "_law_same" s_law_same f fd) (B : Blt5 mg) (bs : mg "str" = none) (g : mg "_law_same" = some (.ref f)) (hb : L2.Binds K fd ["told", "due"] []) : ∀ n, FnOk P w K mg base (L2.CX P w) (n + 1) f fd ["told", "due"] (spSmP (Lk n))
  | 0 => by
    have e : FnOk P w K mg base (L2.CX P w) 0 f fd ["told", "due"] (spSmP fun _ _ _ => False) := ⟨fun vs H Q E ⟨_, _, _, z, _⟩ => z.elim, fun A outer s H args us vs Q E _ _ _ _ ⟨_, _, _, z, _⟩ => z.elim⟩
    exact (ok_Sm1 (fun _ _ _ _ _ z => z) F B bs ⟨g, F.kp, hb, e⟩).imp fun vs H Q E ⟨u, v, e, h, q⟩ => ⟨u, v, e, .inl h, q⟩
  | n + 1 => ok_Sm1 (fun _ _ _ _ s z => z.same s) F B bs ⟨g, F.kp, hb, ok_Sm F B bs g hb n⟩
end
end WU

set_option maxRecDepth 100000
set_option maxHeartbeats 4000000
/-! lists and comprehensions within an except suite -/
namespace WU
open PySem PySem.Spec PyProof.Rows L2 L2H HotX
section
variable {prog : Program} {w : World} {A : Around} {E : Value → Shared → Prop} {s : Shared}
/-- the end of a list's walk where an exception is handled -/
theorem list_over {j l hx : Addr} {i : Nat} {vs : Array Value} {Q : Option Value → Shared → Prop} (hot : HotAt A hx s.heap) (hj : s.heap.IsListIter j l i) (hl : s.heap.IsList l vs) (past : vs[i]? = none) (nj : hx ≠ j)
    (k : ∀ h', (∀ b o, b ≠ j → s.heap.get? b = some o → h'.get? b = some o) → Q none { s with heap := h' }) : wpAny (model prog w) A (pyNext (.ref j)) Q E s := by
  obtain ⟨oj, ej, cj, dj⟩ := id hj
  obtain ⟨ol, el, _, nl, dl⟩ := hl
  obtain ⟨hh, oh, vh, eh, dh, ch⟩ := hot
  unfold pyNext
  refine wpAny_bind (wpAny_attempt (wpAny_callSpecial?_slot (name := Str.ofString "__next__") hj.typeIs slot_listiter_next (wpAny_call_entry slot_listiter_next hj.typeIs entry_listiter_next ?_ (args_listiter_next _))))
  show wpAny _ _ (field (.ref j) 0 >>= _) _ _ s
  refine wpAny_bind (wpAny_field ej dj (x := .ref l) rfl ?_)
  show wpAny _ _ (if (Value.ref l == Value.none) = true then _ else _) _ _ s
  rw [if_neg (show ¬ ((Value.ref l == Value.none) = true) from Bool.false_ne_true)]
  show wpAny _ _ (field (.ref j) 1 >>= _) _ _ s
  refine wpAny_bind (wpAny_field ej dj (x := .int i 0) rfl ?_)
  show wpAny _ _ (seqItems? (.ref l) >>= _) _ _ s
  refine wpAny_bind (wpAny_seqItems el dl ?_)
  simp only [Int.toNat_natCast, past]
  refine wpAny_bind (wpAny_rule (wpAny_bind (wpAny_setField ej dj (by simp) ?_)))
  show wpAny _ _ (newExc (.type "StopIteration") [] >>= _) _ _ _
  refine wpAny_bind ?_
  simp only [newExc, newTuple]
  refine wpAny_bind (wpAny_newObj_type ?_ (by size_fits))
  refine wpAny_bind (m := firstArgMember _ _) (wpAny_of_eq (a := Value.none) (by first | rfl | (simp only [firstArgMember]; rfl)) ?_)
  refine wpAny_newObj_type ?_ (by size_fits)
  have keep1 : (s.heap.update j (Obj.mapFields (·.setIfInBounds 0 Value.none))).get? hx = some oh := by
    rw [Heap.get?_update_other _ _ (Ne.symm nj)]
    exact eh
  refine raiseNew_hot ⟨hh, oh, vh, Heap.get?_push_of_some _ (Heap.get?_push_of_some _ keep1), dh, ch⟩ (Nat.ne_of_lt (Heap.lt_size (Heap.get?_push_of_some _ keep1))) (Heap.get?_push_size _ rfl) rfl (by first | (simp; done) | (simp; omega) | (simp only [Array.size_append]; simp; omega)) ?_
  refine wpAny_bind (wpAny_isInstance (T := "StopIteration") (b := true) ⟨_, Heap.get?_update_self _ (Heap.get?_push_size _ rfl) rfl, rfl⟩ isSubtype_stop ?_)
  refine wpAny_pure (k _ fun b o nb e => ?_)
  have e1 : (s.heap.update j (Obj.mapFields (·.setIfInBounds 0 Value.none))).get? b = some o := by
    rw [Heap.get?_update_other _ _ (Ne.symm nb)]
    exact e
  rw [Heap.get?_update_other _ _ (Nat.ne_of_gt (Heap.lt_size (Heap.get?_push_of_some _ e1)))]
  exact Heap.get?_push_of_some _ (Heap.get?_push_of_some _ e1)
end
/-! ### walks where an exception is handled -/
/-- as Turn, with the handled exception told of the heap -/
structure TurnG (P : Program) (w : World) (K : PySem.W.Frag) (tg : Expr) (J : It) (fp : List Addr) (it : Addr) (hx : Addr) (tn : Nat → Heap → Prop) : Prop where
  mem : it ∈ fp
  obj : ∀ i h, tn i h → ∀ b ∈ fp, ∃ o, h.get? b = some o ∧ ∀ v, o.data ≠ .cell v
  keep : ∀ i h h', tn i h → (∀ b ∈ fp, ∀ o, h.get? b = some o → h'.get? b = some o) → tn i h'
  item : ∀ (Y : Cx), Y.prog = P → Y.w = w → Y.K = K → ∀ (i : Nat) (pn : List (Addr × Obj)) (st : Shared) (sg : L2.St) (G : Hp) (E : Value → Shared → Prop), Inv Y pn sg G st → HotAt Y.A hx st.heap → (∀ b ∈ fp, FpOk Y pn G b) → tn i st.heap → J.go i G →
    wpAny (model P w) Y.A (pyNext (.ref it)) (fun r s1 => ∃ u, r = some u ∧ wpAny (model P w) Y.A (letOwnedTupleGo tg (.ref it) u) (fun _ s2 => ∃ x G', Inv Y pn sg G' s2 ∧ RelV x u ∧ J.yld i G x G' ∧ tn (i + 1) s2.heap ∧ ∀ b ∈ fp, G' b = none) E s1) E st
  done : ∀ (Y : Cx), Y.prog = P → Y.w = w → Y.K = K → ∀ (i : Nat) (pn : List (Addr × Obj)) (st : Shared) (sg : L2.St) (G : Hp) (E : Value → Shared → Prop), Inv Y pn sg G st → HotAt Y.A hx st.heap → (∀ b ∈ fp, FpOk Y pn G b) → tn i st.heap → J.stop i G →
    wpAny (model P w) Y.A (pyNext (.ref it)) (fun r s1 => r = none ∧ Inv Y pn sg G s1) E st
  self : ∀ (A : Around) (i : Nat) (st : Shared) (Q : Value → Shared → Prop) (E : Value → Shared → Prop), tn i st.heap → Q (.ref it) st → wpAny (model P w) A (pyIter (.ref it)) Q E st
theorem turn_listG {P : Program} {w : World} {K : PySem.W.Frag} {tg : Expr} {a it hx : Addr} (nh : hx ≠ it) : TurnG P w K tg (Itl K a) [it] it hx (fun i h => h.IsListIter it a i) where
  mem := List.mem_singleton.mpr rfl
  obj := fun i h st b hb => by
    rw [List.mem_singleton.mp hb]
    obtain ⟨o, e, _, d⟩ := st
    exact ⟨o, e, fun v z => by rw [d] at z; cases z⟩
  keep := fun i h h' st k => st.at fun o e => k it (List.mem_singleton.mpr rfl) o e
  item := by
    intro Y eP ew eK i pn st sg G E inv hot fp S go
    subst eP ew eK
    obtain ⟨xs, x, sx, gx⟩ := go
    obtain ⟨us, rx, px, _⟩ := inv.list sx
    obtain ⟨u, hu, ru⟩ := rx.get gx
    obtain ⟨f0, f1, f2, f3, f4, f5⟩ := fp it (List.mem_singleton.mpr rfl)
    refine wpAny_pyNext_list_item S px.isList (x := u) (by simpa using hu) fun h' S' same => ?_
    have inv' : Inv Y pn sg G { st with heap := h' } := inv.turned (t' := st.toks) (fun b o nb e => (same.2 b nb).trans e) f0 f1 f3 f4 f5
    obtain ⟨o, e, c, d⟩ := id S'
    exact ⟨u, rfl, go_of (s := { st with heap := h' }) e c d (by decide) ⟨x, G, inv', ru, ⟨rfl, fun ys hy => by rw [inv.list_inj hy sx]; exact gx⟩, S', fun b hb => (fp b hb).1⟩⟩
  done := by
    intro Y eP ew eK i pn st sg G E inv hot fp S stop
    subst eP ew eK
    obtain ⟨xs, sx, le⟩ := stop
    obtain ⟨us, rx, px, _⟩ := inv.list sx
    obtain ⟨f0, f1, f2, f3, f4, f5⟩ := fp it (List.mem_singleton.mpr rfl)
    have ln := rx.length
    exact list_over hot S px.isList (by simp; omega) nh fun h' kept => ⟨rfl, inv.turned (t' := st.toks) (fun b o nb e => kept b o nb e) f0 f1 f3 f4 f5⟩
  self := fun _ _ _ _ _ S q => wpAny_pyIter_listiter S q
end WU

set_option maxRecDepth 100000
set_option maxHeartbeats 8000000
namespace WU
open PySem PySem.Spec PyProof.Rows L2 L2H HotX
section
variable {X : Cx}
/-- a comprehension over a list where the exception p is handled -/
theorem lc_hot {p : Addr × Obj} {pn : List (Addr × Obj)} {st : Shared} {sg : L2.St} {G : Hp} {Q : VK} {elt tg l : Expr} {ifs : List Expr} {scope : Scope} {own : List (Str × Nat)} {pos pos' : Pos} {tl : TE} {g : TG} {tt : TT} {te : TE} {use : Option (Value → Sem Unit)} {Qf : Value → Shared → Prop}
    (hot : Hot1 X.A p) (hp : p ∈ X.pn) (nN : X.N.Nodup) (inv : Inv X pn sg G st) (hl : PE X l tl) (ok : BlkOk X.N X.env.scope scope own)
    (hg : ∀ (s : Shared) (H : Hp) (C : Addr) (cl : List (Str × Addr)) (fp : List Addr), PG (X.blk s H scope (compEnvC scope cl C X.env) fp) tg g) (ht : ∀ (s : Shared) (H : Hp) (C : Addr) (cl : List (Str × Addr)) (fp : List Addr), PTs (X.blk s H scope (compEnvC scope cl C X.env) fp) ifs tt)
    (he : ∀ (s : Shared) (H : Hp) (C : Addr) (cl : List (Str × Addr)) (fp : List Addr), PE (X.blk s H scope (compEnvC scope cl C X.env) fp) elt te) (hs : ∀ x, foldedSetIterable l X.env x = pure x)
    (h : tLc (iList X.K tl) g tt te (own.map (·.2)) sg G Q)
    (back : ∀ D C s' m G', Inv X pn sg G' s' → Q (.ref D) G' → s'.heap.Ns C m → FpOk X pn G' C → compPost (model X.prog X.w) X.A X.xe use Qf (.ref D) C (.ok .next) s') :
    wpAny (model X.prog X.w) X.A (comprehension (.ListComp elt [⟨tg, l, ifs, 0⟩] scope pos) scope X.env pos' (newList []) false (eval l X.env) use) Qf X.xe st := by
  have frees : ∀ y ∈ scope.names, y.2 = .free → ∃ c, X.env.cells.lookup y.1 = some c := fun y hy e => (ok.free y hy e).elim (fun k => inv.ok.has _ (.inl k)) fun k => inv.ok.has _ (.inr k)
  refine wpAny_comprehension_free (use := use) rfl hs (closure_ok frees) ok.kind (fun y hy e => by rw [ok.uniq y hy, e]) (thn (hl.run pn st sg G _ inv h) fun v t1 ⟨x, G1, J1, rx, a, ex, ⟨xs, sq⟩, q⟩ => ?_)
  subst ex
  cases rx
  obtain ⟨us, rus, pus, _⟩ := J1.list sq
  have pin1 := J1.pin p (List.mem_append_left _ hp)
  apply wpAny_pyIter_list pus.isList
  -- the iterator is laid
  generalize hit : t1.heap.objs.size = it
  have nit : p.1 ≠ it := by
    rw [← hit]
    exact Nat.ne_of_lt (Heap.lt_size pin1.1)
  generalize hs2 : ({ t1 with heap := t1.heap.push { cls := .type "list_iterator", data := .fields #[.ref a, .int 0 0] } } : Shared) = s2
  have J2 : Inv X pn sg G1 s2 := by
    rw [← hs2]
    exact J1.kept (t' := t1.toks) fun b o e => Heap.get?_push_of_some _ e
  have T : TurnG X.prog X.w X.K tg (Itl X.K a) [it] it p.1 (fun i h => h.IsListIter it a i) := turn_listG nit
  have S2 : s2.heap.IsListIter it a 0 := by
    rw [← hs2, ← hit]
    exact ⟨_, Heap.get?_push_size _ rfl, rfl, rfl⟩
  have fp2 : ∀ b ∈ [it], FpOk X pn G1 b := fun b hb => by
    rw [List.mem_singleton.mp hb, ← hit]
    exact J1.fpOk (Nat.le_refl _) (J1.hok.fresh (Nat.le_refl _))
  refine wpAny_newObj_type (newEnv_comp ?_) (by show 0 ≤ sizeLine; decide)
  generalize hD : s2.heap.objs.size = D
  have nD : G1 D = none := J2.hok.fresh (Nat.le_of_eq hD)
  obtain ⟨W, ⟨m0, w0⟩, turn⟩ := q D nD
  generalize hs3 : ({ s2 with heap := s2.heap.push { cls := .type "list", data := .seq ([] : List Value).toArray } } : Shared) = s3
  have h3 : s3.heap = s2.heap.push { cls := .type "list", data := .seq ([] : List Value).toArray } := by rw [← hs3]
  have J3 : Inv X pn sg (upd G1 D (.lst [])) s3 := by
    rw [← hs3]
    refine J2.laid (t' := s2.toks) (fun b o e => Heap.get?_push_of_some _ e) (Nat.le_of_eq hD) ⟨Nat.zero_le _, [], 0, .nil, ?_⟩
    rw [← hD]
    exact Heap.get?_push_size _ rfl
  have small : ∀ b ∈ [it], b < s2.heap.objs.size := fun b hb => by
    obtain ⟨o, e, _⟩ := T.obj _ _ S2 b hb
    exact Heap.lt_size e
  have fp3 : ∀ b ∈ [it], FpOk X pn (upd G1 D (.lst [])) b ∧ b < s3.heap.objs.size := fun b hb => by
    have lt := small b hb
    refine ⟨⟨?_, (fp2 b hb).2⟩, by rw [h3, Heap.size_push]; exact Nat.lt_succ_of_lt lt⟩
    rw [upd_ne (by rw [← hD]; exact Nat.ne_of_lt lt)]
    exact (fp2 b hb).1
  have S3 : s3.heap.IsListIter it a 0 := T.keep _ _ _ S2 fun b _ o e => by rw [h3]; exact Heap.get?_push_of_some _ e
  have J4 := block_start J3 ok nN fp3
  have pin3 := J3.pin p (List.mem_append_left _ hp)
  have PGx := hg s3 (upd G1 D (.lst [])) s3.heap.objs.size (cellsFrom (s3.heap.objs.size + 1) scope.names (cloFrom X.env.cells scope.names [])) [it]
  have PTx := ht s3 (upd G1 D (.lst [])) s3.heap.objs.size (cellsFrom (s3.heap.objs.size + 1) scope.names (cloFrom X.env.cells scope.names [])) [it]
  have PEx := he s3 (upd G1 D (.lst [])) s3.heap.objs.size (cellsFrom (s3.heap.objs.size + 1) scope.names (cloFrom X.env.cells scope.names [])) [it]
  show codeAny _ _ (.compStart (.ListComp elt [⟨tg, l, ifs, 0⟩] scope pos) 0 (.ref it) (.ref D) (compEnvC scope (cellsFrom (s3.heap.objs.size + 1) scope.names (cloFrom X.env.cells scope.names [])) s3.heap.objs.size X.env)) (compPost (model X.prog X.w) X.A X.xe use Qf (.ref D) s3.heap.objs.size)
    { s3 with heap := pushCells (s3.heap.push { cls := .type "dict", data := .dict #[] }) scope.names }
  have none3 : ∀ b ∈ [it], (upd G1 D (.lst [])) b = none := fun b hb => (fp3 b hb).1.1
  generalize hce : compEnvC scope (cellsFrom (s3.heap.objs.size + 1) scope.names (cloFrom X.env.cells scope.names [])) s3.heap.objs.size X.env = ce at J4 PGx PTx PEx ⊢
  have locs : ce.locals = s3.heap.objs.size := by subst hce; rfl
  generalize hG3 : upd G1 D (.lst []) = G3 at J3 J4 PGx PTx PEx w0 none3 fp3 pin3
  generalize hs4 : ({ s3 with heap := pushCells (s3.heap.push { cls := .type "dict", data := .dict #[] }) scope.names } : Shared) = s4 at J4 ⊢
  have up4 : ∀ b o, s3.heap.get? b = some o → s4.heap.get? b = some o := fun b o e => by rw [← hs4]; exact pushCells_keeps _ _ _ _ (Heap.get?_push_of_some _ e)
  have S4 : s4.heap.IsListIter it a 0 := T.keep _ _ _ S3 fun b _ o e => up4 b o e
  -- the handled exception is pinned in the block
  have J5 : Inv (X.blk s3 G3 scope ce [it]) [p] (wipe sg (own.map (·.2))) G3 s4 := J4.pins_of fun r hr => by
    rw [List.mem_singleton.mp hr]
    refine ⟨up4 _ _ pin3.1, pin3.2.1, ?_, fun hm => (List.mem_cons.mp (J3.stkSub p.1 hm)).elim pin3.2.2.1 pin3.2.2.2.1, pin3.2.2.2.2⟩
    show p.1 ≠ ce.locals
    rw [locs]
    exact Nat.ne_of_lt (Heap.lt_size pin3.1)
  have warm : ∀ {σ' : L2.St} {G' : Hp} {s' : Shared} {pl : List (Addr × Obj)}, p ∈ pl → Inv (X.blk s3 G3 scope ce [it]) pl σ' G' s' → HotAt X.A p.1 s'.heap := fun {σ' G' s' pl} hm K => by
    obtain ⟨hh, v1, e1, c1⟩ := hot
    exact ⟨hh, p.2, v1, (K.pin p (List.mem_append_right _ hm)).1, e1, c1⟩
  have stand : ∀ {σ' : L2.St} {G' : Hp} {s' : Shared}, Inv (X.blk s3 G3 scope ce [it]) [p] σ' G' s' → (∀ b ∈ [it], G' b = none) → ∀ b ∈ [it], FpOk (X.blk s3 G3 scope ce [it]) [p] G' b := fun {σ' G' s'} K hn b hb =>
    ⟨hn b hb, (K.ok.exf b hb).1, K.ok.exfs b hb, .inl hb, fun x c e => (K.ok.exf b hb).2 x c e, fun r hr => by
      have : r = p := by simpa using hr
      rw [this, List.mem_singleton.mp hb]
      exact nit⟩
  have loop : codeAny (model X.prog X.w) X.A (.compLoop (.ListComp elt [⟨tg, l, ifs, 0⟩] scope pos) 0 (.ref it) (.ref D) ce) (compPost (model X.prog X.w) X.A X.xe use Qf (.ref D) s3.heap.objs.size) s4 := by
    refine compLoop_any (fun n s' => ∃ i G', Inv (X.blk s3 G3 scope ce [it]) [p] (wipe sg (own.map (·.2))) G' s' ∧ s'.heap.IsListIter it a i ∧ (∀ b ∈ [it], G' b = none) ∧ W i n G') ?_ m0 ⟨0, G3, J5, S4, none3, w0⟩
    rintro n s5 ⟨i, G5, K5, S5, n5, w5⟩
    have w5h := warm List.mem_cons_self K5
    rcases turn i n G5 w5 with ⟨over, qq⟩ | ⟨go, Nx, hNx, step⟩
    · refine thnF (T.done (X.blk s3 G3 scope ce [it]) rfl rfl rfl i [p] s5 _ G5 (fun _ _ => False) K5 w5h (stand K5 n5) S5 over) fun r s6 ⟨hr, K6⟩ => ?_
      subst hr
      have K7 : Inv X pn sg G5 s6 := J3.call' (ch := [it]) K6.os K6.base K6.hok K6.bare fun b hb => ⟨(fp3 b hb).1.2.2.2.1, (fp3 b hb).1.2.1, (fp3 b hb).1.2.2.2.2.1, (fp3 b hb).1.2.2.2.2.2⟩
      have nC : G5 s3.heap.objs.size = none := by
        have z : G5 ce.locals = none := K6.free
        rw [locs] at z
        exact z
      obtain ⟨m, hm, _⟩ := K6.loc
      have hm : s6.heap.Ns ce.locals m := hm
      rw [locs] at hm
      exact back D s3.heap.objs.size s6 m G5 K7 qq hm (J3.fpOk (Nat.le_refl _) nC)
    · refine thnF (T.item (X.blk s3 G3 scope ce [it]) rfl rfl rfl i [p] s5 _ G5 (fun _ _ => False) K5 w5h (stand K5 n5) S5 go) fun r s6 ⟨u, hr, h6⟩ => ?_
      subst hr
      refine thnF h6 fun _ s7 ⟨x, G7, K7, r7, y7, S7, n7⟩ => ?_
      have K8 := K7.pinned (stand K7 n7) (T.obj _ _ S7)
      refine thnF (PGx.run _ s7 _ G7 x u _ K8 r7 (step x G7 y7)) fun _ s8 ⟨σ8, G8, L8, hw8, q8⟩ => ?_
      refine thnF (PTx.run _ s8 σ8 G8 _ L8 q8) fun b s9 ⟨G9, L9, q9⟩ => ?_
      have fin : ∀ {s' : Shared} {G' : Hp}, Inv (X.blk s3 G3 scope ce [it]) ([p] ++ pinsAt [it] s7.heap) σ8 G' s' → Nx G' → ∃ m, m < n ∧ ∃ i G', Inv (X.blk s3 G3 scope ce [it]) [p] (wipe sg (own.map (·.2))) G' s' ∧ s'.heap.IsListIter it a i ∧ (∀ b ∈ [it], G' b = none) ∧ W i m G' := fun {s' G'} L nx => by
        obtain ⟨m', hm, w'⟩ := hNx G' nx
        have held : ∀ b ∈ [it], ∀ o, s7.heap.get? b = some o → s'.heap.get? b = some o ∧ G' b = none := fun b hb o e =>
          let z := L.pin (b, o) (List.mem_append_right _ (List.mem_append_right _ (mem_pinsAt hb e)))
          ⟨z.1, z.2.1⟩
        have len : (wipe sg (own.map (·.2))).length = σ8.length := by rw [← hw8, wipe_length]
        refine ⟨m', hm, i + 1, G', (L.unpinned (pins := [p])).weak len (fun j v e => ?_), T.keep _ _ _ S7 fun b hb o e => (held b hb o e).1, fun b hb => ?_, w'⟩
        · rw [← hw8] at e
          exact (wipe_some e).1
        · obtain ⟨o, e, _⟩ := T.obj _ _ S7 b hb
          exact (held b hb o e).2
      cases b with
      | false =>
        simp only [Bool.false_eq_true, if_false] at q9 ⊢
        exact fin L9 q9
      | true =>
        simp only [if_true] at q9 ⊢
        refine thnF (PEx.run _ s9 σ8 G9 _ L9 q9) fun z s10 ⟨yv, G10, L10, r10, acc, eD, zD, nx⟩ => ?_
        exact app_ok (X := X.blk s3 G3 scope ce [it]) L10 eD zD r10 fun s11 L11 => fin L11 nx
  exact codeAny_compStart_list loop (T.self X.A 0 _ _ _ S4 loop)
theorem pe_lcH {p : Addr × Obj} {elt tg l : Expr} {ifs : List Expr} {scope : Scope} {own : List (Str × Nat)} {pos : Pos} {tl : TE} {g : TG} {tt : TT} {te : TE} (hot : Hot1 X.A p) (hp : p ∈ X.pn) (nN : X.N.Nodup) (hl : PE X l tl) (ok : BlkOk X.N X.env.scope scope own)
    (hg : ∀ (s : Shared) (H : Hp) (C : Addr) (cl : List (Str × Addr)) (fp : List Addr), PG (X.blk s H scope (compEnvC scope cl C X.env) fp) tg g) (ht : ∀ (s : Shared) (H : Hp) (C : Addr) (cl : List (Str × Addr)) (fp : List Addr), PTs (X.blk s H scope (compEnvC scope cl C X.env) fp) ifs tt)
    (he : ∀ (s : Shared) (H : Hp) (C : Addr) (cl : List (Str × Addr)) (fp : List Addr), PE (X.blk s H scope (compEnvC scope cl C X.env) fp) elt te) (hs : ∀ x, foldedSetIterable l X.env x = pure x := by intro _; rfl) :
    PE X (.ListComp elt [⟨tg, l, ifs, 0⟩] scope pos) (tLc (iList X.K tl) g tt te (own.map (·.2))) := by
  constructor
  intro pn st sg G Q inv h
  rw [eval_ListComp]
  refine lc_hot hot hp nN inv hl ok hg ht he hs h fun D C s' m G' K q hm f => ⟨m, hm, fun h'' sb => ?_⟩
  obtain ⟨f0, f1, f2, f3, f4, f5⟩ := f
  exact ⟨.ref D, G', K.turned (t' := s'.toks) (fun b o nb e => (sb.2 b nb).trans e) f0 f1 f3 f4 f5, rfl, q⟩
end
end WU

set_option maxRecDepth 100000
set_option maxHeartbeats 8000000
namespace WU
open PySem PySem.Spec PyProof.Rows L2
section
variable {P : Program} {w : World} {A : Around} {E : Value → Shared → Prop} {s : Shared} {K : PySem.W.Frag} {x D : Addr} {ox od : Obj}
theorem cls_of_exc {R : Option Value → Shared → Prop} (C : ExcC K D) (X : K.In s.heap) (I : PySem.W.InstAt s.heap x ox D (some od)) (h : R (some (.ref D)) { s with toks := s.toks + 1 }) : wpAny (model P w) A (getAttr? (.ref x) "__class__") R E s := by
  have hf : PySem.W.findObj K D (some od) "__class__" = some (.bind (.builtin "getset_descriptor.__get__") (.builtin "object.__class__")) :=
    PySem.W.findObj_data (by obtain ⟨cd, hc, _⟩ := PySem.W.any_some C.hd; rw [hc]; rfl) C.ha C.hn C.ht
  obtain ⟨hp, g, d, t, os⟩ := s
  have T0 := I.type (M := model P w)
  have T1 := PySem.W.looks_findIn (M := model P w) X C.hg
  have T2 := PySem.W.looks_findIn (M := model P w) X C.hk
  have T3 := PySem.W.looks_find (M := model P w) X I hf
  have sub : PySem.W.Looks (model P w) hp (isInstance (.ref x) (.type "BaseException")) true := T0.andThen (PySem.W.looks_subIn X C.hs)
  have n2 : (Value.builtin "BaseException.__getattribute__" == Value.builtin "object.__getattribute__") = false := by decide +kernel
  have n1 : (onTheHeap (Value.ref D) && Value.builtin "BaseException.__getattribute__" == Value.builtin "object.__getattribute__") = false := by rw [n2]; rfl
  unfold getAttr? getAttrBy? getAttrBy
  refine wpAny_bind (wpAny_mkText (wpAny_bind (wpAny_attempt (wpAny_holding (wpAny_bind (T0.at (wpAny_bind (T1.at ?_))))))))
  show wpAny _ _ (if (onTheHeap (Value.ref D) && Value.builtin "BaseException.__getattribute__" == Value.builtin "object.__getattribute__") = true then _ else _) _ _ _
  rw [n1, if_neg Bool.false_ne_true]
  unfold getAttrByItsOwn hookBefore
  refine wpAny_bind ?_
  rw [if_pos (show onTheHeap (Value.ref D) = true from rfl)]
  refine T2.at ?_
  refine wpAny_bind (wpAny_attempt (wpAny_holding ?_))
  unfold callGetattribute
  rw [show (false && onTheHeap (Value.builtin "BaseException.__getattribute__")) = false from rfl, if_neg Bool.false_ne_true]
  unfold boundAndCalled
  rw [PySem.F.excAttr_ValueError.ga.bind (.ref x)]
  refine wpAny_bind (wpAny_pure ?_)
  show wpAny _ _ (call (.builtin "BaseException.__getattribute__") [.ref x, .str "__class__" t]) _ _ _
  refine wpAny_call (codeAny_call_builtin PySem.F.excAttr_ValueError.ga.plain PySem.F.entry_bexc_ga ?_)
  refine @PySem.W.check_slot (model P w) _ _ ⟨hp, g, d, t + 1, os⟩ "BaseException.__getattribute__" "BaseException" "__getattribute__" (.ref x) [.str "__class__" t] [] _ (by decide +kernel) (by decide +kernel) sub (PySem.F.args_bexc_ga (.ref x) (.str "__class__" t)) ?_
  unfold Builtin.«object.__getattribute__»
  refine wpAny_bind (wpAny_of_eq (a := ((Value.ref x : Value), [Value.str "__class__" t])) (by first | rfl | (simp only [slotArgs]; rfl)) ?_)
  refine wpAny_bind (wpAny_pure (wpAny_bind (T0.at (wpAny_bind (T3.at ?_)))))
  show wpAny _ _ (holding [Value.builtin "object.__class__"] (call (.builtin "getset_descriptor.__get__") [.builtin "object.__class__", .ref x, .ref D]) >>= ret) _ _ _
  refine wpAny_bind (wpAny_holding (wpAny_call (PySem.W.class_get (s := ⟨hp, g, d, t + 1, os⟩) (ox := ox) (od := some od) X I C.hm ?_)))
  refine wpAny_pure ?_
  show wpAny _ _ (handedOut (.ref D)) _ _ _
  rw [PySem.W.handedOut_of (v := .ref D) rfl]
  first
    | exact wpAny_pure (wpAny_pure h)
    | exact wpAny_pure h
    | exact wpAny_pure (wpAny_bind (wpAny_pure (wpAny_pure h)))
theorem kit_exc (C : ExcC K D) : PySem.W.KitX K (.ref x) (.ref D) (fun h => PySem.W.InstAt h x ox D (some od)) where
  ty := fun _ _ _ I => I.type
  it := fun _ _ X _ => by
    obtain ⟨cdD, hcD, _⟩ := PySem.W.any_some C.hd
    unfold PySem.W.clsIn at hcD
    split at hcD
    · rename_i c' d' cd' sl' ho
      intro A' Q' E' s' k q
      unfold isType loadHead
      exact wpAny_bind (wpAny_loadPart (k _ _ (X _ _ ho)) (wpAny_pure q))
    · cases hcD
  ne := fun h tp dd its n sl X htp => by
    obtain ⟨cdD, hcD, _⟩ := PySem.W.any_some C.hd
    refine Bool.eq_false_iff.mpr fun q => ?_
    have e : D = tp := Value.ref.inj (beq_iff_eq.mp q)
    subst e
    unfold PySem.W.clsIn at hcD
    split at hcD
    · rename_i c' d' cd' sl' ho
      have z := (X _ _ ho).symm.trans htp
      cases z
    · cases hcD
  ca := fun X I k => cls_of_exc C X I k
end
/-- isinstance(e, c), e the handled exception a -/
def rIsP (K : PySem.W.Frag) (a : Addr) (cls : Value) (d : Option Addr) : List V → Hp → VK → Prop := fun xs H Q => ∃ (D dd : Addr) (fs : List (Str × V)) (c : V) (cv : Value) (b : Bool), xs = [.ref a, c] ∧ cls = .ref D ∧ d = some dd ∧ H dd = some (.xd fs) ∧ ExcC K D ∧ ClsV c cv ∧ PySem.W.kitOne K (.ref D) cv = some b ∧ Q (.bl b) H
theorem call_isP {X : Cx} {p : Addr × Obj} {cls : Value} {d : Option Addr} (hp : p ∈ X.pn) (hz : Zc cls d p.2) (hf : ∃ vs, p.2.data = .fields vs) : CallR X (.builtin "isinstance") (rIsP X.K p.1 cls d) := by
  intro pins s σ H xs us Q I r h
  obtain ⟨D, dd, fs, c, cv, b, rfl, rfl, rfl, hd, C, hc, e, q⟩ := h
  cases r with
  | cons rx rr =>
    cases rr with
    | cons rt rr =>
      cases rr
      cases rx
      have ec := hc.eq rt
      subst ec
      obtain ⟨hget, _⟩ := I.pin p (List.mem_append_left _ hp)
      obtain ⟨vs, hv⟩ := hf
      have hx : ObjOk X.prog X.w H s.heap dd (.xd fs) := I.hok dd _ hd
      obtain ⟨mA, hns, _⟩ := hx
      obtain ⟨od, es, ep, hod, _⟩ := hns
      have J : PySem.W.InstAt s.heap p.1 p.2 D (some od) := ⟨hget, hz.1, by unfold PySem.W.notCls; rw [hv] <;> rfl, by rw [hz.2]; exact hod⟩
      exact PySem.W.kia_one (kit_exc C) I.kIn J e (fun z => nomatch z) fun tk => ⟨.bl b, H, I.kept (t' := tk) fun _ _ z => z, rfl, q⟩
/-- isinstance(e, (c, ..)), e the handled exception a -/
def rIsPT (K : PySem.W.Frag) (a : Addr) (cls : Value) (d : Option Addr) : List V → Hp → VK → Prop := fun xs H Q => ∃ (D dd tp : Addr) (fs : List (Str × V)) (cs : List V) (ws : List Value) (b : Bool), xs = [.ref a, .ref tp] ∧ cls = .ref D ∧ d = some dd ∧ H dd = some (.xd fs) ∧ ExcC K D ∧ H tp = some (.tup cs) ∧ Paired ClsV cs ws ∧ PySem.W.kitAny K (.ref D) ws = some b ∧ Q (.bl b) H
theorem call_isPT {X : Cx} {p : Addr × Obj} {cls : Value} {d : Option Addr} (hp : p ∈ X.pn) (hz : Zc cls d p.2) (hf : ∃ vs, p.2.data = .fields vs) : CallR X (.builtin "isinstance") (rIsPT X.K p.1 cls d) := by
  intro pins s σ H xs us Q I r h
  obtain ⟨D, dd, tp, fs, cs, ws, b, rfl, rfl, rfl, hd, C, hT, hc, e, q⟩ := h
  obtain ⟨u1, u2, rfl, rx, rt⟩ := vals2 r
  cases rx
  cases (show u2 = Value.ref tp from rt)
  obtain ⟨hget, _⟩ := I.pin p (List.mem_append_left _ hp)
  obtain ⟨vs, hv⟩ := hf
  have hx : ObjOk X.prog X.w H s.heap dd (.xd fs) := I.hok dd _ hd
  obtain ⟨mA, hns, _⟩ := hx
  obtain ⟨od, es, ep, hod, _⟩ := hns
  have J : PySem.W.InstAt s.heap p.1 p.2 D (some od) := ⟨hget, hz.1, by unfold PySem.W.notCls; rw [hv] <;> rfl, by rw [hz.2]; exact hod⟩
  obtain ⟨_, its, rv, o, h1, h2, n, h3⟩ := (show ObjOk X.prog X.w H s.heap tp (.tup cs) from I.hok tp _ hT)
  have e3 := ClsV.all hc rv
  subst e3
  obtain ⟨oc, odd, dt, sl⟩ := o
  simp only at h2 h3
  subst h2 h3
  exact PySem.W.kia_tup (kit_exc C) I.kIn J h1 e (fun z => nomatch z) fun tk => ⟨.bl b, H, I.kept (t' := tk) fun _ _ z => z, rfl, q⟩
/-- keywords of a def without defaults -/
theorem binds_kw {K : PySem.W.Frag} {x qual : Str} {params : Arguments} {body : List Stmt} {scope : Scope} {f : Addr} {fd : FuncData} {ps : List Str} (F : FunD K x qual params body scope [] [] f fd) (n : Nat) (ks : List Str) (g : {α : Type} → List α → List α → List α)
    (hrel : ∀ {vs zs : List V} {us ws : List Value}, Vals vs us → Vals zs ws → Vals (g vs zs) (g us ws))
    (h : ∀ (kV doc pm : Value) (an : Option Addr) (cdv ct : Value) (us ws : List Value), us.length = n → ws.length = ks.length → bindArgs (PySem.W.fnOf x qual params body scope .none kV doc pm an cdv ct) ⟨us, ks.zip ws⟩ = pure (ps.zip (g us ws))) :
    KBn K fd ps n ks (fun us ws => g us ws) (fun vs zs => g vs zs) := by
  obtain ⟨oc, od, dV, kV, doc, pm, an, cdv, ct, osl, rfl, lk, hcd, hD, hK⟩ := F.ex
  rcases hD with ⟨_, rfl⟩ | ⟨e, _⟩
  · exact ⟨fun s us ws X l1 l2 => .of_eq (h kV doc pm an cdv ct us ws l1 l2), hrel⟩
  · exact absurd rfl e
/-! ### a def that is called in a suite, with the handled exception -/
/-- what it promises, by the handled exception -/
structure FnP (P : Program) (w : World) (K : PySem.W.Frag) (mg : Str → Option Value) (base : Heap) (CX : CXT) (k : Nat) (f : Addr) (fd : FuncData) (ps : List Str) (sp : Addr → Value → Option Addr → Sp) : Prop where
  len : ∀ a c d vs H Q E, sp a c d vs H Q E → vs.length = ps.length
  run : ∀ (A : Around) (outer : List Env) (s : Shared) (H : Hp) (args : Args) (us : List Value) (vs : List V) (Q : VK) (E : XK) (p : Addr × Obj) (cls : Value) (d : Option Addr), L2H.RoomH k A → L2H.Hot1 A p → Zc cls d p.2 → L2H.PinOk outer H s p → Env0 P w K mg base A outer s H → BindsTo s fd args (ps.zip us) → Vals vs us → sp p.1 cls d vs H Q E →
    codeAny (model P w) A (.call (.ref f) args) (CR CX outer P w H s Q E) s
theorem fnP_of {CX : CXT} {P : Program} {w : World} {K : PySem.W.Frag} {mg : Str → Option Value} {base : Heap} {k : Nat} {f : Addr} {name qual : Str} {params : Arguments} {body : List Stmt} {scope : Scope} {fd : FuncData} {N ps : List Str} {sp : Addr → Value → Option Addr → Sp}
    (F : FunD K name qual params body scope [] [] f fd) (S : FnScope N ps scope) (len : ∀ a c d vs H Q E, sp a c d vs H Q E → vs.length = ps.length)
    (hbody : ∀ (cdv : Value) (A : Around) (outer : List Env) (s : Shared) (H : Hp) (vs : List V) (Q : VK) (E : XK) (p : Addr × Obj) (cls : Value) (d : Option Addr), L2H.Hot1 A p → Zc cls d p.2 → L2H.RoomH k (A.deeper (envOfC qual scope s.heap.objs.size f cdv)) → sp p.1 cls d vs H Q E →
      ∃ t, PSs (L2H.cxH CX P w K mg base N qual scope f cdv A outer s H E p) body t ∧ t { nx := fun _ H' => Q .non H', rt := Q } (L2.start N vs) H) : FnP P w K mg base CX (k + 1) f fd ps sp := by
  obtain ⟨oc, od, dV, kV, doc, pm, an, cdv, ct, osl, rfl, lk, hcd, _, _⟩ := F.ex
  refine ⟨len, fun A outer s H args us vs Q E p cls d hr hot hz hpin e0 hb r hsp => ?_⟩
  have hl := len _ _ _ _ _ _ _ hsp
  have KX : K.In s.heap := e0.mod.kin.keeps fun b o z => (e0.bs b o z).1
  have lim : s.heap.NoLimit := e0.mod.nolimit.keeps fun b o z => (e0.bs b o z).1
  refine codeAny_call_function hr.depth (KX _ _ lk) rfl S.co S.gen rfl (PySem.W.codeRec_of KX hcd) (hb _ _ _ _ ?_)
  refine wpAny_newFunctionEnv_cells S.kind (fun ⟨n, v⟩ hy => ?_) fun env he s1 x => ?_
  · rcases S.par n (List.of_mem_zip hy).1 with q | q
    · exact .inl q
    · exact .inr ⟨q, PySem.W.cellsFrom_some _ _ _ (.inl q)⟩
  subst he
  refine ⟨lim.keeps x.toInCall.keep, codeAny_func ?_⟩
  obtain ⟨t, ht, hq⟩ := hbody cdv A outer s H vs Q E p cls d hot hz (hr.deeper _) hsp
  have I := L2H.inv_startH (CX := CX) (E := E) S hpin e0 hl r x
  refine wpAny_mono (ht.run [] s1 (L2.start N vs) H _ I hq) (fun fl s' hs => ?_) fun e s' hs => hs
  cases fl with
  | ret u =>
    obtain ⟨v, σ', H', J, rv, q⟩ := hs
    exact ⟨v, H', J.os, J.bare, J.base, J.hok, rv, q⟩
  | next =>
    obtain ⟨σ', H', J, q⟩ := hs
    exact ⟨V.non, H', J.os, J.bare, J.base, J.hok, rfl, q⟩
  | brk =>
    obtain ⟨_, _, _, q⟩ := hs
    exact False.elim q
  | cont =>
    obtain ⟨_, _, _, q⟩ := hs
    exact False.elim q
/-- f(e, ..) there; p: the handled exception -/
def tCallP (sp : Addr → Value → Option Addr → Sp) (a : Addr) (cls : Value) (d : Option Addr) (E : L2.St → XK) (t : TA) : TE := fun σ H Q => t σ H fun vs H1 => sp a cls d vs H1 Q (E σ)
theorem pe_callP {X : Cx} {CX : CXT} {k : Nat} {f : Addr} {fd : FuncData} {ps : List Str} {sp : Addr → Value → Option Addr → Sp} {p : Addr × Obj} {cls : Value} {d : Option Addr} {E : L2.St → XK} {x : Str} {q pos : Pos} {e : Expr} {es : List Expr} {t : TA} (Fn : FnP X.prog X.w X.K X.mg X.base CX k f fd ps sp) (hr : L2H.RoomH k X.A) (hot : L2H.Hot1 X.A p) (hz : Zc cls d p.2) (hp : p ∈ X.pn) (hg : Gl X x) (hm : X.mg x = some (.ref f)) (hk : PySem.W.keepIn X.K (.ref f) = true) (hb : L2.Binds X.K fd ps []) (hx : ∀ σ, PassesAt CX X σ (E σ))
    (ha : PA X (e :: es) t) (hdb : (x == ("__debug__" : Str)) = false := by decide) (he : starEach (e :: es) X.env = (false, eval e X.env) :: starEach es X.env := by rfl) (hpl : (backTo pos (starEach es X.env)).any (·.1) = false := by rfl) :
    PE X (.Call (.Name x q) (e :: es) [] pos) (tCallP sp p.1 cls d E t) := by
  constructor
  intro pins s σ H Q I h
  refine wpAny_Call_Name_kw (ld_glob I hg hm ?_ hdb)
  refine PySem.W.callWith_K (h₀ := X.base) I.ok.mod.kin hk (thn (ha.run pos pins s σ H _ I h) fun us s1 ⟨vs, H1, J, r, w⟩ => ⟨J.kIn, ?_⟩) he hpl
  have hl : us.length = ps.length := by rw [← r.length]; exact Fn.len _ _ _ _ _ _ _ w
  have b := hb s1 us J.kIn (by rw [List.append_nil]; exact hl)
  rw [List.append_nil] at b
  have P1 := J.pin p (List.mem_append_left _ hp)
  have hpin : L2H.PinOk X.stack H1 s1 p := ⟨P1.1, P1.2.1, fun hm => (List.mem_cons.mp (J.stkSub p.1 hm)).elim P1.2.2.1 P1.2.2.2.1, P1.2.2.2.2⟩
  refine wpAny_call (codeAny_mono (Fn.run X.A X.stack s1 H1 ⟨us, []⟩ us vs Q (E σ) p cls d hr hot hz hpin J.env0 b r w) fun r s' hq => ?_)
  cases r with
  | error e => exact hx σ pins H1 s1 e s' J hq
  | ok fl =>
    cases fl with
    | ret u => exact J.after hq
    | next => exact False.elim hq
    | brk => exact False.elim hq
    | cont => exact False.elim hq
end WU

set_option maxRecDepth 100000
set_option maxHeartbeats 8000000
namespace WU
open PySem PySem.Spec PyProof.Rows L2 L2H
section
variable {P : Program} {w : World} {K : PySem.W.Frag} {mg : Str → Option Value} {base : Heap}
theorem fnH_of {CX : CXT} {k : Nat} {f : Addr} {name qual : Str} {params : Arguments} {body : List Stmt} {scope : Scope} {dvs : List V} {kws : List (Str × V)} {fd : FuncData} {N ps : List Str} {sp : Sp} (F : FunD K name qual params body scope dvs kws f fd) (S : FnScope N ps scope)
    (len : ∀ vs H Q E, sp vs H Q E → vs.length = ps.length)
    (hbody : ∀ (cdv : Value) (A : Around) (outer : List Env) (s : Shared) (H : Hp) (vs : List V) (Q : VK) (E : XK) (p : Addr × Obj), Hot1 A p → RoomH k (A.deeper (envOfC qual scope s.heap.objs.size f cdv)) → sp vs H Q E →
      ∃ t, PSs (cxH CX P w K mg base N qual scope f cdv A outer s H E p) body t ∧ t { nx := fun _ H' => Q .non H', rt := Q } (L2.start N vs) H) : FnH P w K mg base CX (k + 1) f fd ps sp := by
  obtain ⟨oc, od, dV, kV, doc, pm, an, cdv, ct, osl, rfl, lk, hcd, _, _⟩ := F.ex
  exact fn_ofH lk hcd S len fun A outer s H vs Q E p hot hr hsp => hbody cdv A outer s H vs Q E p hot hr hsp
end
structure CalH (P : Program) (w : World) (K : PySem.W.Frag) (mg : Str → Option Value) (base : Heap) (k : Nat) (x : Str) (f : Addr) (fd : FuncData) (ps : List Str) (sp : Sp) : Prop where
  glob : mg x = some (.ref f)
  kp : PySem.W.keepIn K (.ref f) = true
  binds : L2.Binds K fd ps []
  ok : FnH P w K mg base (L2.CX P w) k f fd ps sp
theorem pe_calH {X : Cx} {k : Nat} {x : Str} {f : Addr} {fd : FuncData} {ps : List Str} {sp : Sp} {e : Expr} {es : List Expr} {t : TA} {q pos : Pos} (C : CalH X.prog X.w X.K X.mg X.base k x f fd ps sp) (hr : RoomH k X.A) (hc : HotC X) (ha : PA X (e :: es) t)
    (hg : Gl X x := by rfl) (hdb : (x == ("__debug__" : Str)) = false := by decide) (he : starEach (e :: es) X.env = (false, eval e X.env) :: starEach es X.env := by rfl) (hpl : (backTo pos (starEach es X.env)).any (·.1) = false := by rfl) :
    PE X (.Call (.Name x q) (e :: es) [] pos) (tCallS sp (fun _ => E0) t) :=
  pe_callH C.ok hr hc hg C.glob C.kp C.binds (fun _ _ _ _ _ _ _ ⟨_, _, _, _, _, _, _, _, _, _, _, _, z⟩ => z.elim) ha hdb he hpl
section
variable {P : Program} {w : World} {K : PySem.W.Frag} {mg : Str → Option Value} {base : Heap} {S : Addr}
theorem ok_SmH1 {R : Hp → V → V → Prop} (hR : ∀ H H' u v, Same H H' → R H u v → R H' u v) {k : Nat} {f : Addr} {fd : FuncData} (F : FnS K "_law_same" s_law_same f fd) (B : Blt5 mg) (bs : mg "str" = none) (C0 : CalH P w K mg base k "_law_same" f fd ["told", "due"] (spSmP R)) :
    FnH P w K mg base (L2.CX P w) (k + 1) f fd ["told", "due"] (spSmP (LkR R)) := by
  refine fnH_of F scSm (fun vs H Q E h => ?_) (fun cdv A outer s H vs Q E p hot hr h => ?_)
  · obtain ⟨u, v, rfl, _⟩ := h
    rfl
  · obtain ⟨u, v, rfl, he, kk⟩ := h
    have nd := scSm.nd
    have hc : HotC (cxH (L2.CX P w) P w K mg base ["told", "due", "k"] "_law_same" (defScope s_law_same) f cdv A outer s H E p) := ⟨p, hot, List.mem_singleton.mpr rfl⟩
    refine ⟨_, (pss_cons (ps_if (pt_val (pe_callB (isiTK (K := K)) (by rfl) B.isi (by decide +kernel) (pa_cons (pv 1) (pa_cons (pe_tup (pa_cons (pe_bltn (v := .ty "tuple") (by rfl) B.tuple (by decide +kernel) rfl) (pa_cons (pe_bltn (v := .ty "list") (by rfl) B.lst (by decide +kernel) rfl) pa_nil))) pa_nil)))) (pss_cons (ps_if (PW.pt (pw_or (pt_not (pt_val (pe_callB (isiTK (K := K)) (by rfl) B.isi (by decide +kernel) (pa_cons (pv 0) (pa_cons (pe_tup (pa_cons (pe_bltn (v := .ty "tuple") (by rfl) B.tuple (by decide +kernel) rfl) (pa_cons (pe_bltn (v := .ty "list") (by rfl) B.lst (by decide +kernel) rfl) pa_nil))) pa_nil))))) (pw_or1 (pt_cmpR op_ne (pe_callB (isiK (K := K)) (by rfl) B.isi (by decide +kernel) (pa_cons (pv 0) (pa_cons (pe_bltn (v := .ty "list") (by rfl) B.lst (by decide +kernel) rfl) pa_nil))) (pe_callB (isiK (K := K)) (by rfl) B.isi (by decide +kernel) (pa_cons (pv 1) (pa_cons (pe_bltn (v := .ty "list") (by rfl) B.lst (by decide +kernel) rfl) pa_nil))) (nomark _))))) (pss_one (ps_ret pe_bl)) pss_nil)
      (pss_cons (ps_if (pt_cmpR op_ne (pe_callB (len_seqK (K := K)) (by rfl) B.len (by decide +kernel) (pa_cons (pv 0) pa_nil)) (pe_callB (len_seqK (K := K)) (by rfl) B.len (by decide +kernel) (pa_cons (pv 1) pa_nil)) (nomark _)) (pss_one (ps_ret pe_bl)) pss_nil)
      (pss_cons (ps_forH (passes_of rfl) hc (pi_range1H rfl B.range (pa_cons (pe_callB (len_seqK (K := K)) (by rfl) B.len (by decide +kernel) (pa_cons (pv 1) pa_nil)) pa_nil)) (pg_name (i := 2) nd rfl (Or.inl rfl)) (pss_one (ps_if (pt_not (pt_val (pe_calH C0 hr hc (pa_cons (pe_ix (ix_seqK (K := K)) (pv 0) (pv 2) (fun _ _ => rfl)) (pa_cons (pe_ix (ix_seqK (K := K)) (pv 1) (pv 2) (fun _ _ => rfl)) pa_nil))))) (pss_one (ps_ret pe_bl)) pss_nil)))
      (pss_one (ps_ret pe_bl))))) pss_nil)
      (pss_cons (ps_if (pt_cmpR op_isN (pv 1) pe_non (nomark _)) (pss_one (ps_ret (pe_cmpR op_isN (pv 0) pe_non (nomark _)))) pss_nil)
      (pss_cons (ps_if (pt_val (pe_callB (isiK (K := K)) (by rfl) B.isi (by decide +kernel) (pa_cons (pv 1) (pa_cons (pe_bltn (v := .ty "bool") (by rfl) B.bool (by decide +kernel) rfl) pa_nil)))) (pss_one (ps_ret (pe_and (pe_callB (isiK (K := K)) (by rfl) B.isi (by decide +kernel) (pa_cons (pv 0) (pa_cons (pe_bltn (v := .ty "bool") (by rfl) B.bool (by decide +kernel) rfl) pa_nil))) (pe_one (pe_cmpR op_eq (pv 0) (pv 1) (nomark _)))))) pss_nil)
      (pss_cons (ps_if (pt_val (pe_callB (isiK (K := K)) (by rfl) B.isi (by decide +kernel) (pa_cons (pv 1) (pa_cons (pe_bltn (v := .ty "str") (by rfl) bs (by decide +kernel) rfl) pa_nil)))) (pss_one (ps_ret (pe_and (pe_callB (isiK (K := K)) (by rfl) B.isi (by decide +kernel) (pa_cons (pv 0) (pa_cons (pe_bltn (v := .ty "str") (by rfl) bs (by decide +kernel) rfl) pa_nil))) (pe_one (pe_cmpR op_eq (pv 0) (pv 1) (nomark _)))))) pss_nil)
      (pss_one (ps_ret (pe_and (pe_callB (isiK (K := K)) (by rfl) B.isi (by decide +kernel) (pa_cons (pv 0) (pa_cons (pe_bltn (v := .ty "int") (by rfl) B.int (by decide +kernel) rfl) pa_nil))) (pe_and (pe_not (pe_callB (isiK (K := K)) (by rfl) B.isi (by decide +kernel) (pa_cons (pv 0) (pa_cons (pe_bltn (v := .ty "bool") (by rfl) B.bool (by decide +kernel) rfl) pa_nil)))) (pe_one (pe_cmpR op_eq (pv 0) (pv 1) (nomark _))))))))))), ?_⟩
    refine ⟨_, rfl, (by show 2 ≤ sizeLine; decide), fun t0 ht0 => ?_⟩
    have s0 := same_new (o := .tup [.ty "tuple", .ty "list"]) ht0
    have e0 : upd H t0 (.tup [.ty "tuple", .ty "list"]) t0 = some (.tup [.ty "tuple", .ty "list"]) := upd_same
    generalize upd H t0 (.tup [.ty "tuple", .ty "list"]) = H0 at s0 e0 ⊢
    rcases he with ⟨rfl, hl⟩ | ⟨a, b, xs, ys, rfl, rfl, hab, hP, hl⟩
    · refine ⟨u, t0, _, _, _, _, rfl, e0, .cons (.ty "tuple") (.cons (.ty "list") .nil), leaf_ty hl, leaf_tl hl, _, rfl, iteF ?_⟩
      have kk' : ∀ {c : Prop} [Decidable c], c → Q (.bl (decide c)) H0 := fun hc => by rw [decide_eq_true hc]; exact kk H0 s0
      cases u with
      | int i =>
        refine ⟨_, rfl, rfl, _, rfl, iteFb rfl ?_⟩
        refine ⟨_, rfl, _, _, _, _, _, rfl, .ty "bool", .base (.int i), kit_ty (show kitB "int" "bool" = some false by decide +kernel), _, rfl, iteF ?_⟩
        refine ⟨_, rfl, _, _, _, _, _, rfl, .ty "str", .base (.int i), kit_ty (show kitB "int" "str" = some false by decide +kernel), _, rfl, iteF ?_⟩
        refine ⟨_, rfl, _, _, _, _, _, rfl, .ty "int", .base (.int i), kit_ty (show kitB "int" "int" = some true by decide +kernel), _, rfl, iteT ?_⟩
        exact ⟨_, rfl, _, _, _, _, _, rfl, .ty "bool", .base (.int i), kit_ty (show kitB "int" "bool" = some false by decide +kernel), _, rfl, _, rfl, iteT ⟨_, rfl, _, rfl, rfl, kk' rfl⟩⟩
      | bl i =>
        refine ⟨_, rfl, rfl, _, rfl, iteFb rfl ?_⟩
        refine ⟨_, rfl, _, _, _, _, _, rfl, .ty "bool", .base (.bl i), kit_ty (show kitB "bool" "bool" = some true by decide +kernel), _, rfl, iteT ?_⟩
        exact ⟨_, rfl, _, _, _, _, _, rfl, .ty "bool", .base (.bl i), kit_ty (show kitB "bool" "bool" = some true by decide +kernel), _, rfl, iteT ⟨_, rfl, _, rfl, rfl, kk' rfl⟩⟩
      | non => exact ⟨_, rfl, rfl, _, rfl, iteTb (decide_eq_true rfl) ⟨_, rfl, rfl, kk' rfl⟩⟩
      | str z =>
        refine ⟨_, rfl, rfl, _, rfl, iteFb rfl ?_⟩
        refine ⟨_, rfl, _, _, _, _, _, rfl, .ty "bool", .base (.str z), kit_ty (show kitB "str" "bool" = some false by decide +kernel), _, rfl, iteF ?_⟩
        refine ⟨_, rfl, _, _, _, _, _, rfl, .ty "str", .base (.str z), kit_ty (show kitB "str" "str" = some true by decide +kernel), _, rfl, iteT ?_⟩
        exact ⟨_, rfl, _, _, _, _, _, rfl, .ty "str", .base (.str z), kit_ty (show kitB "str" "str" = some true by decide +kernel), _, rfl, iteT ⟨_, rfl, _, rfl, rfl, kk' rfl⟩⟩
      | _ => cases hl
    · have el := paired_len hP
      obtain ⟨kd, T, hT, sa, sb, tl, isl⟩ : ∃ (kd : Bool) (T : String), (T = "list" ∧ kd = true ∨ T = "tuple" ∧ kd = false) ∧ (∀ H', Same H H' → SqB K H' a xs kd ∧ TyX K H' (.ref a) (.type T)) ∧ (∀ H', Same H H' → SqB K H' b ys kd ∧ TyX K H' (.ref b) (.type T)) ∧
          PySem.W.kitAny K (.type T) [.type "tuple", .type "list"] = some true ∧ PySem.W.kitOne K (.type T) (.type "list") = some kd := by
        rcases hab with ⟨ha, hb⟩ | ⟨ha, hb⟩
        · exact ⟨true, "list", .inl ⟨rfl, rfl⟩, fun H' s => ⟨SqL.of (s _ _ ha), .base (.lst (s _ _ ha))⟩, fun H' s => ⟨SqL.of (s _ _ hb), .base (.lst (s _ _ hb))⟩, list_tl, kit_ty (show kitB "list" "list" = some true by decide +kernel)⟩
        · exact ⟨false, "tuple", .inr ⟨rfl, rfl⟩, fun H' s => ⟨sqT (rd_same s ha), sqT_ty (sqT (rd_same s ha))⟩, fun H' s => ⟨sqT (rd_same s hb), sqT_ty (sqT (rd_same s hb))⟩, tup_tl, kit_ty (show kitB "tuple" "list" = some false by decide +kernel)⟩
      have ix : ∀ {H' : Hp} {c : Addr} {zs : List V} {i : Nat} {v : V} {Q : VK}, SqB K H' c zs kd → zs[i]? = some v → Q v H' → rIx K (.ref c) (.int i) H' Q := fun {H' c zs i v Q} h e q => by
        cases kd with
        | true => exact .inl ⟨c, zs, (i : Int), v, rfl, rfl, h, atI_nat e, q⟩
        | false => exact .inr (.inl ⟨c, zs, (i : Int), v, rfl, rfl, h, atI_nat e, q⟩)
      refine ⟨_, t0, _, _, _, _, rfl, e0, .cons (.ty "tuple") (.cons (.ty "list") .nil), (sb _ s0).2, tl, _, rfl, iteT ?_⟩
      refine ⟨_, rfl, (by show 2 ≤ sizeLine; decide), fun t1 ht1 => ?_⟩
      have s1 := s0.trans (same_new (o := .tup [.ty "tuple", .ty "list"]) ht1)
      have e1 : upd H0 t1 (.tup [.ty "tuple", .ty "list"]) t1 = some (.tup [.ty "tuple", .ty "list"]) := upd_same
      generalize upd H0 t1 (.tup [.ty "tuple", .ty "list"]) = H1 at s1 e1 ⊢
      refine ⟨_, t1, _, _, _, _, rfl, e1, .cons (.ty "tuple") (.cons (.ty "list") .nil), (sa _ s1).2, tl, _, rfl, iteF ?_⟩
      refine ⟨_, rfl, _, _, _, _, _, rfl, .ty "list", (sa _ s1).2, isl, _, rfl, _, _, _, _, _, rfl, .ty "list", (sb _ s1).2, isl, rfl, _, rfl, iteFb (by rw [decide_eq_true rfl]; rfl) ?_⟩
      refine ⟨_, rfl, a, _, rfl, (sa _ s1).1.sq, _, rfl, b, _, rfl, (sb _ s1).1.sq, rfl, _, rfl, iteFb (by rw [decide_eq_true (congrArg (fun n : Nat => V.int n) el)]; rfl) ?_⟩
      refine ⟨_, rfl, b, _, rfl, (sb _ s1).1.sq, (ys.length : Int), rfl, by omega, by omega, for_range (lo := 0) (n := ys.length) (fun i σ H' => ∃ x, σ = [some (.ref a), some (.ref b), x] ∧ Same H H') ⟨none, rfl, s1⟩ ?_ ?_⟩
      · rintro i σ H' hi ⟨x, rfl, s2⟩
        have hy : ys[i]? = some ys[i] := List.getElem?_eq_getElem hi
        obtain ⟨u, hx, r⟩ := paired_of hP hy
        rw [show ((0 : Int) + (i : Int)) = ((i : Nat) : Int) from Int.zero_add _]
        exact ⟨_, rfl, _, rfl, ix (sa _ s2).1 hx ⟨_, rfl, _, rfl, ix (sb _ s2).1 hy ⟨u, _, rfl, hR _ _ _ _ s2 r, fun H3 s3 => ⟨_, rfl, iteF ⟨_, rfl, s2.trans s3⟩⟩⟩⟩⟩
      · rintro σ H' ⟨x, rfl, s2⟩
        exact kk H' s2
theorem ok_SmH {f : Addr} {fd : FuncData} (F : FnS K "_law_same" s_law_same f fd) (B : Blt5 mg) (bs : mg "str" = none) (g : mg "_law_same" = some (.ref f)) (hb : L2.Binds K fd ["told", "due"] []) : ∀ n, FnH P w K mg base (L2.CX P w) (n + 1) f fd ["told", "due"] (spSmP (Lk n))
  | 0 => by
    have e : FnH P w K mg base (L2.CX P w) 0 f fd ["told", "due"] (spSmP fun _ _ _ => False) := ⟨fun vs H Q E ⟨_, _, _, z, _⟩ => z.elim, fun A outer s H args us vs Q E p _ _ _ _ _ _ ⟨_, _, _, z, _⟩ => z.elim⟩
    have g0 := ok_SmH1 (fun _ _ _ _ _ z => z) F B bs ⟨g, F.kp, hb, e⟩
    exact ⟨fun vs H Q E ⟨u, v, e, h, q⟩ => g0.len vs H Q E ⟨u, v, e, .inl h, q⟩, fun A outer s H args us vs Q E p hr hot hpin e0 hb r ⟨u, v, e, h, q⟩ => g0.run A outer s H args us vs Q E p hr hot hpin e0 hb r ⟨u, v, e, .inl h, q⟩⟩
  | n + 1 => ok_SmH1 (fun _ _ _ _ s z => z.same s) F B bs ⟨g, F.kp, hb, ok_SmH F B bs g hb n⟩
end
end WU

set_option maxRecDepth 100000
set_option maxHeartbeats 8000000
namespace WU
open PySem PySem.Spec PyProof.Rows L2 L2H
theorem Hot1fs {A : Around} {p : Addr × Obj} (h : Hot1 A p) : ∃ vs, p.2.data = .fields vs := by
  obtain ⟨vs, e, _⟩ := h.2
  exact ⟨vs, e⟩
/-- the errors' names, but the one that is told -/
def kns : List Str := ["InvalidPlan", "InvalidTape", "InvalidAnswers", "InvalidLibrary", "Undefined", "InvalidShare", "InvalidMatrix", "InvalidText", "InvalidLine", "UnknownWord", "NothingToUndo"]
structure KN (K : PySem.W.Frag) (mg : Str → Option Value) : Prop where
  g0 : mg "InvalidNumber" = some (.ref (He.ga K "InvalidNumber"))
  gl : ∀ c, c ∈ kns → mg c = some (.ref (He.ga K c))
  xc : ExcC K (He.ga K "InvalidNumber")
  self : PySem.W.kitOne K (.ref (He.ga K "InvalidNumber")) (.ref (He.ga K "InvalidNumber")) = some true
  no : ∀ c, c ∈ kns → PySem.W.kitOne K (.ref (He.ga K "InvalidNumber")) (.ref (He.ga K c)) = some false
  ve : PySem.W.kitOne K (.ref (He.ga K "InvalidNumber")) (.type "ValueError") = some true
  vE : mg "ValueError" = none
section
variable {P : Program} {w : World} {K : PySem.W.Frag} {mg : Str → Option Value} {base : Heap}
/-- _law_kind(e), e an InvalidNumber that is handled -/
def spKd (K : PySem.W.Frag) : Addr → Value → Option Addr → Sp := fun a cls d vs H Q _ => ∃ dd fs, vs = [.ref a] ∧ cls = .ref (He.ga K "InvalidNumber") ∧ d = some dd ∧ H dd = some (.xd fs) ∧ ∀ H', Same H H' → Q (.int 0) H'
theorem scKd : FnScope ["e", "number", "found", "one"] ["e"] (defScope s_law_kind) := ⟨rfl, rfl, rfl, by decide +kernel, rfl, by decide +kernel, by decide +kernel⟩
theorem ok_Kd {f : Addr} {fd : FuncData} (F : FnS K "_law_kind" s_law_kind f fd) (B : Blt5 mg) (T : KN K mg) : FnP P w K mg base (L2.CX P w) 1 f fd ["e"] (spKd K) := by
  refine fnP_of F scKd (fun a c d vs H Q E h => ?_) (fun cdv A outer s H vs Q E p cls d hot hz hr h => ?_)
  · obtain ⟨dd, fs, rfl, _⟩ := h
    rfl
  · obtain ⟨dd, fs, rfl, rfl, rfl, hd, kk⟩ := h
    have hf := Hot1fs hot
    have nd := scKd.nd
    have hp : p ∈ (L2H.cxH (L2.CX P w) P w K mg base ["e", "number", "found", "one"] "_law_kind" (defScope s_law_kind) f cdv A outer s H E p).pn := List.mem_singleton.mpr rfl
    refine ⟨_, (pss_cons (ps_set (i := 1) nd rfl (Or.inl rfl) (pe_callB (call_isP hp hz hf) (by rfl) B.isi (by decide +kernel) (pa_cons (pv 0) (pa_cons (pe_glob (v := .ref (He.ga K "InvalidNumber")) rfl T.g0 rfl) pa_nil))))
      (pss_cons (ps_set (i := 2) nd rfl (Or.inl rfl) (pe_lst (pa_cons (pv 1) (pa_cons (pe_callB (call_isP hp hz hf) (by rfl) B.isi (by decide +kernel) (pa_cons (pv 0) (pa_cons (pe_glob (v := .ref (He.ga K "InvalidPlan")) rfl (T.gl "InvalidPlan" (by decide +kernel)) rfl) pa_nil))) (pa_cons (pe_callB (call_isP hp hz hf) (by rfl) B.isi (by decide +kernel) (pa_cons (pv 0) (pa_cons (pe_glob (v := .ref (He.ga K "InvalidTape")) rfl (T.gl "InvalidTape" (by decide +kernel)) rfl) pa_nil))) (pa_cons (pe_callB (call_isP hp hz hf) (by rfl) B.isi (by decide +kernel) (pa_cons (pv 0) (pa_cons (pe_glob (v := .ref (He.ga K "InvalidAnswers")) rfl (T.gl "InvalidAnswers" (by decide +kernel)) rfl) pa_nil))) pa_nil))))))
      (pss_cons (ps_set (i := 2) nd rfl (Or.inl rfl) (pe_op op_cat (pv 2) (pe_lst (pa_cons (pe_callB (call_isP hp hz hf) (by rfl) B.isi (by decide +kernel) (pa_cons (pv 0) (pa_cons (pe_glob (v := .ref (He.ga K "InvalidLibrary")) rfl (T.gl "InvalidLibrary" (by decide +kernel)) rfl) pa_nil))) (pa_cons (pe_callB (call_isP hp hz hf) (by rfl) B.isi (by decide +kernel) (pa_cons (pv 0) (pa_cons (pe_glob (v := .ref (He.ga K "Undefined")) rfl (T.gl "Undefined" (by decide +kernel)) rfl) pa_nil))) pa_nil)))))
      (pss_cons (ps_if (PW.pt (pw_or (pt_not (pt_val (pe_callB (call_isP hp hz hf) (by rfl) B.isi (by decide +kernel) (pa_cons (pv 0) (pa_cons (pe_bltn (v := .ty "ValueError") (by rfl) T.vE (by decide +kernel) rfl) pa_nil))))) (pw_or1 (pt_val (pe_callB (call_isPT hp hz hf) (by rfl) B.isi (by decide +kernel) (pa_cons (pv 0) (pa_cons (pe_tup (pa_cons (pe_glob (v := .ref (He.ga K "InvalidShare")) rfl (T.gl "InvalidShare" (by decide +kernel)) rfl) (pa_cons (pe_glob (v := .ref (He.ga K "InvalidMatrix")) rfl (T.gl "InvalidMatrix" (by decide +kernel)) rfl) (pa_cons (pe_glob (v := .ref (He.ga K "InvalidText")) rfl (T.gl "InvalidText" (by decide +kernel)) rfl) pa_nil)))) pa_nil))))))) (pss_one (ps_ret (pe_un un_neg pe_int))) pss_nil)
      (pss_cons (ps_if (PW.pt (pw_or (pt_val (pe_callB (call_isPT hp hz hf) (by rfl) B.isi (by decide +kernel) (pa_cons (pv 0) (pa_cons (pe_tup (pa_cons (pe_glob (v := .ref (He.ga K "InvalidLine")) rfl (T.gl "InvalidLine" (by decide +kernel)) rfl) (pa_cons (pe_glob (v := .ref (He.ga K "UnknownWord")) rfl (T.gl "UnknownWord" (by decide +kernel)) rfl) (pa_cons (pe_glob (v := .ref (He.ga K "NothingToUndo")) rfl (T.gl "NothingToUndo" (by decide +kernel)) rfl) pa_nil)))) pa_nil)))) (pw_or1 (pt_cmpR op_ne (pe_callB (len_seqK (K := K)) (by rfl) B.len (by decide +kernel) (pa_cons (pe_lcH (own := [("one", 3)]) (g := gName 3) hot hp nd (pv 2) (blkOk_by (own := [("one", 3)]) (N := ["e", "number", "found", "one"]) (sc := defScope s_law_kind) (by decide +kernel)) (fun _ _ _ _ _ => (pg_name (i := 3) nd rfl (Or.inl rfl))) (fun _ _ _ _ _ => pts_one (pt_val (pv 3))) (fun _ _ _ _ _ => (pv 3))) pa_nil)) pe_int (nomark _))))) (pss_one (ps_ret (pe_un un_neg pe_int))) pss_nil)
      (pss_one (ps_ret (pe_bm PySem.F.plainAttrs_list PySem.F.slot_list_index PySem.F.type_list_index mt_index (pv 2) (pa_cons pe_bl pa_nil))))))))), ?_⟩
    refine ⟨_, rfl, _, dd, fs, _, _, _, rfl, rfl, rfl, hd, T.xc, .own _, T.self, ?_⟩
    refine ⟨_, rfl, _, rfl, _, dd, fs, _, _, _, rfl, rfl, rfl, hd, T.xc, .own _, T.no "InvalidPlan" (by decide +kernel), _, rfl, _, dd, fs, _, _, _, rfl, rfl, rfl, hd, T.xc, .own _, T.no "InvalidTape" (by decide +kernel), _, rfl, _, dd, fs, _, _, _, rfl, rfl, rfl, hd, T.xc, .own _, T.no "InvalidAnswers" (by decide +kernel), (by show 4 ≤ sizeLine; decide), fun q0 hq0 => ?_⟩
    have s0 := same_new (o := .lst [.bl true, .bl false, .bl false, .bl false]) hq0
    have e0 : upd H q0 (.lst [.bl true, .bl false, .bl false, .bl false]) q0 = some (.lst [.bl true, .bl false, .bl false, .bl false]) := upd_same
    generalize upd H q0 (.lst [.bl true, .bl false, .bl false, .bl false]) = H0 at s0 e0 ⊢
    refine ⟨_, rfl, _, rfl, _, dd, fs, _, _, _, rfl, rfl, rfl, (s0 _ _ hd), T.xc, .own _, T.no "InvalidLibrary" (by decide +kernel), _, rfl, _, dd, fs, _, _, _, rfl, rfl, rfl, (s0 _ _ hd), T.xc, .own _, T.no "Undefined" (by decide +kernel), (by show 2 ≤ sizeLine; decide), fun q1 hq1 => ?_⟩
    have s1 := s0.trans (same_new (o := .lst [.bl false, .bl false]) hq1)
    have e0' : upd H0 q1 (.lst [.bl false, .bl false]) q0 = some (.lst [.bl true, .bl false, .bl false, .bl false]) := same_new hq1 _ _ e0
    have e1 : upd H0 q1 (.lst [.bl false, .bl false]) q1 = some (.lst [.bl false, .bl false]) := upd_same
    generalize upd H0 q1 (.lst [.bl false, .bl false]) = H1 at s1 e0' e1 ⊢
    refine ⟨q0, q1, _, _, rfl, rfl, e0', e1, (by show 6 ≤ sizeLine; decide), fun q2 hq2 => ?_⟩
    have s2 := s1.trans (same_new (o := .lst [.bl true, .bl false, .bl false, .bl false, .bl false, .bl false]) hq2)
    have e2 : upd H1 q2 (.lst [.bl true, .bl false, .bl false, .bl false, .bl false, .bl false]) q2 = some (.lst [.bl true, .bl false, .bl false, .bl false, .bl false, .bl false]) := upd_same
    show tSeq _ _ _ _ (upd H1 q2 (.lst [.bl true, .bl false, .bl false, .bl false, .bl false, .bl false]))
    generalize upd H1 q2 (.lst [.bl true, .bl false, .bl false, .bl false, .bl false, .bl false]) = H2 at s2 e2 ⊢
    refine ⟨_, rfl, _, dd, fs, _, _, _, rfl, rfl, rfl, s2 _ _ hd, T.xc, .ty "ValueError", T.ve, _, rfl, iteF ?_⟩
    refine ⟨_, rfl, (by show 3 ≤ sizeLine; decide), fun t0 ht0 => ?_⟩
    have s3 := s2.trans (same_new (o := .tup [.ref (He.ga K "InvalidShare"), .ref (He.ga K "InvalidMatrix"), .ref (He.ga K "InvalidText")]) ht0)
    have e3 : upd H2 t0 (.tup [.ref (He.ga K "InvalidShare"), .ref (He.ga K "InvalidMatrix"), .ref (He.ga K "InvalidText")]) q2 = some (.lst [.bl true, .bl false, .bl false, .bl false, .bl false, .bl false]) := same_new ht0 _ _ e2
    have f3 : upd H2 t0 (.tup [.ref (He.ga K "InvalidShare"), .ref (He.ga K "InvalidMatrix"), .ref (He.ga K "InvalidText")]) t0 = some (.tup [.ref (He.ga K "InvalidShare"), .ref (He.ga K "InvalidMatrix"), .ref (He.ga K "InvalidText")]) := upd_same
    generalize upd H2 t0 (.tup [.ref (He.ga K "InvalidShare"), .ref (He.ga K "InvalidMatrix"), .ref (He.ga K "InvalidText")]) = H3 at s3 e3 f3 ⊢
    refine ⟨_, dd, t0, fs, _, _, _, rfl, rfl, rfl, s3 _ _ hd, T.xc, f3, .cons (.own _) (.cons (.own _) (.cons (.own _) (.nil))), kitAny_cons (b := false) (T.no "InvalidShare" (by decide +kernel)) (fun _ => kitAny_cons (b := false) (T.no "InvalidMatrix" (by decide +kernel)) (fun _ => kitAny_cons (b := false) (T.no "InvalidText" (by decide +kernel)) (fun _ => kitAny_nil) (fun h => nomatch h)) (fun h => nomatch h)) (fun h => nomatch h), _, rfl, iteF ?_⟩
    refine ⟨_, rfl, (by show 3 ≤ sizeLine; decide), fun t1 ht1 => ?_⟩
    have s4 := s3.trans (same_new (o := .tup [.ref (He.ga K "InvalidLine"), .ref (He.ga K "UnknownWord"), .ref (He.ga K "NothingToUndo")]) ht1)
    have e4 : upd H3 t1 (.tup [.ref (He.ga K "InvalidLine"), .ref (He.ga K "UnknownWord"), .ref (He.ga K "NothingToUndo")]) q2 = some (.lst [.bl true, .bl false, .bl false, .bl false, .bl false, .bl false]) := same_new ht1 _ _ e3
    have f4 : upd H3 t1 (.tup [.ref (He.ga K "InvalidLine"), .ref (He.ga K "UnknownWord"), .ref (He.ga K "NothingToUndo")]) t1 = some (.tup [.ref (He.ga K "InvalidLine"), .ref (He.ga K "UnknownWord"), .ref (He.ga K "NothingToUndo")]) := upd_same
    generalize upd H3 t1 (.tup [.ref (He.ga K "InvalidLine"), .ref (He.ga K "UnknownWord"), .ref (He.ga K "NothingToUndo")]) = H4 at s4 e4 f4 ⊢
    refine ⟨_, dd, t1, fs, _, _, _, rfl, rfl, rfl, s4 _ _ hd, T.xc, f4, .cons (.own _) (.cons (.own _) (.cons (.own _) (.nil))), kitAny_cons (b := false) (T.no "InvalidLine" (by decide +kernel)) (fun _ => kitAny_cons (b := false) (T.no "UnknownWord" (by decide +kernel)) (fun _ => kitAny_cons (b := false) (T.no "NothingToUndo" (by decide +kernel)) (fun _ => kitAny_nil) (fun h => nomatch h)) (fun h => nomatch h)) (fun h => nomatch h), _, rfl, iteF ?_⟩
    refine ⟨_, rfl, q2, rfl, ⟨_, SqL.of e4⟩, fun D hD => lc_list (K := K) (a := q2) (xs := [.bl true, .bl false, .bl false, .bl false, .bl false, .bl false]) (fun i H' => Same H4 H' ∧ H' D = some (.lst (if i = 0 then [] else [.bl true]))) ⟨same_new hD, upd_same⟩ (fun i H' _ z => SqL.of (z.1 _ _ e4)) ?_ ?_⟩
    · rintro i y H5 hi ⟨z1, z2⟩
      have nD : ∀ (b : Addr) (u : HO), H4 b = some u → b ≠ D := fun b u z => ne_of_none z hD
      match i, hi with
      | 0, hi =>
        cases hi
        refine ⟨rfl, _, rfl, _, rfl, iteT ⟨_, rfl, [], z2, (by show 0 < sizeLine; decide), fun b u z => ?_, upd_same⟩⟩
        rw [upd_ne (nD b u z)]
        exact z1 _ _ z
      | 1, hi => cases hi; exact ⟨rfl, _, rfl, _, rfl, iteF ⟨z1, z2⟩⟩
      | 2, hi => cases hi; exact ⟨rfl, _, rfl, _, rfl, iteF ⟨z1, z2⟩⟩
      | 3, hi => cases hi; exact ⟨rfl, _, rfl, _, rfl, iteF ⟨z1, z2⟩⟩
      | 4, hi => cases hi; exact ⟨rfl, _, rfl, _, rfl, iteF ⟨z1, z2⟩⟩
      | 5, hi => cases hi; exact ⟨rfl, _, rfl, _, rfl, iteF ⟨z1, z2⟩⟩
      | n + 6, hi => cases hi
    · rintro H5 ⟨z1, z2⟩
      refine ⟨D, _, rfl, .inl (SqL.of z2), rfl, _, rfl, iteFb rfl ?_⟩
      exact ⟨_, rfl, .inl ⟨rfl, _, SqL.of (z1 _ _ e4)⟩, q2, _, _, 0, _, rfl, rfl, SqL.of (z1 _ _ e4), rfl, rfl, rfl, rfl, (fun m z' hm => absurd hm (Nat.not_lt_zero m)), kk _ (s4.trans z1)⟩
end
end WU

set_option maxRecDepth 100000
set_option maxHeartbeats 8000000
namespace WU
open PySem PySem.Spec PyProof.Rows L2
section
variable {P : Program} {w : World} {K : PySem.W.Frag} {mg : Str → Option Value} {base : Heap} {S : Addr}
/-- a value that is no field -/
def OdV (K : PySem.W.Frag) (H : Hp) (v : V) : Prop := Ty3 K H v ∧ isFld v = false ∧ Lk 1 H v v
theorem odV_leaf {H : Hp} {v : V} (h : Ty3 K H v) (f : isFld v = false) (l : leafV v = true) : OdV K H v := ⟨h, f, .inl ⟨rfl, l⟩⟩
theorem odV_int {H : Hp} {i : Int} (h : i < 2 ∨ 31 < i ∨ isFld (.int i) = false) : OdV K H (.int i) := odV_leaf (ty3_int i) (by
  rcases h with h | h | h
  · exact fld_out (.inl h)
  · exact fld_out (.inr h)
  · exact h) rfl
theorem lk0 {H : Hp} : ∀ {xs : List V}, xs.all leafV = true → Paired (Lk 0 H) xs xs
  | [], _ => .nil
  | x :: xs, h => by
    rw [List.all_cons, Bool.and_eq_true] at h
    exact .cons ⟨rfl, h.1⟩ (lk0 h.2)
theorem odV_lst {H : Hp} {q : Addr} {xs : List V} (e : H q = some (.lst xs)) (l : xs.all leafV = true) (n : xs.length ≤ 10000) : OdV K H (.ref q) := ⟨ty3_lst e, rfl, .inr ⟨q, q, xs, xs, rfl, rfl, .inl ⟨e, e⟩, lk0 l, n⟩⟩
theorem odV_tup {H : Hp} {q : Addr} {xs : List V} (e : H q = some (.tup xs)) (l : xs.all leafV = true) (n : xs.length ≤ 10000) : OdV K H (.ref q) := ⟨ty3_tup e, rfl, .inr ⟨q, q, xs, xs, rfl, rfl, .inr ⟨.inl e, .inl e⟩, lk0 l, n⟩⟩
theorem big30 : (10 : Int) ^ (30 : Int).toNat = 1000000000000000000000000000000 := by decide +kernel
def spOd (K : PySem.W.Frag) : Sp := fun vs H Q _ => ∃ a, vs = [.ref a] ∧ PoolA H a ∧ ∀ v H', OdV K H' v → PoolA H' a → Keep a H H' → Q v H'
theorem scOd : FnScope ["pool", "few", "odd"] ["pool"] (defScope s_law_odd_field) := ⟨rfl, rfl, rfl, by decide +kernel, rfl, by decide +kernel, by decide +kernel⟩
theorem ok_Od {f f1 : Addr} {fd fd1 : FuncData} (F : FnS K "_law_odd_field" s_law_odd_field f fd) (B : Blt5 mg) (CD : Cal P w K mg base 1 "_law_draw" f1 fd1 ["pool", "many"] spDr) : FnOk P w K mg base (L2.CX P w) 2 f fd ["pool"] (spOd K) := by
  refine F.ok scOd (fun vs H Q E h => ?_) (fun cdv A outer s H vs Q E hr h => ?_)
  · obtain ⟨a, rfl, _⟩ := h
    rfl
  · obtain ⟨a, rfl, hp, kk⟩ := h
    have nd := scOd.nd
    refine ⟨_, (pss_cons (ps_set (i := 1) nd rfl (Or.inl rfl) (pe_cal CD (hr.mono (by decide)) (pa_cons (pv 0) (pa_cons pe_int pa_nil)) passU))
      (pss_cons (ps_set (i := 2) nd rfl (Or.inl rfl) (pe_lst (pa_cons pe_int (pa_cons pe_int (pa_cons pe_int (pa_cons pe_int (pa_cons pe_int (pa_cons pe_int (pa_cons pe_int (pa_cons pe_int (pa_cons pe_int (pa_cons pe_int (pa_cons pe_int (pa_cons pe_int (pa_cons (pe_un un_neg pe_int) (pa_cons (pe_op op_sub (pe_un un_neg pe_int) (pv 1)) (pa_cons (pe_op op_add pe_int (pv 1)) (pa_cons (pe_op op_add (pe_op op_pow pe_int pe_int) (pv 1)) (pa_cons pe_bl (pa_cons pe_bl (pa_cons pe_non (pa_cons pe_str pa_nil))))))))))))))))))))))
      (pss_cons (ps_set (i := 2) nd rfl (Or.inl rfl) (pe_op op_cat (pv 2) (pe_lst (pa_cons pe_str (pa_cons (pe_tup (pa_cons pe_int pa_nil)) (pa_cons (pe_lst (pa_cons pe_int pa_nil)) (pa_cons (pe_tup pa_nil) (pa_cons (pe_lst (pa_cons (pv 1) (pa_cons pe_non pa_nil))) pa_nil))))))))
      (pss_one (ps_ret (pe_ix (ix_seqK (K := K)) (pv 2) (pe_cal CD (hr.mono (by decide)) (pa_cons (pv 0) (pa_cons pe_int pa_nil)) passU) (fun _ _ => rfl))))))), ?_⟩
    refine ⟨_, rfl, a, _, rfl, hp, by decide, fun few H1 f0 f1 p1 k1 => ?_⟩
    refine ⟨_, rfl, _, rfl, _, rfl, _, _, rfl, rfl, _, rfl, _, _, rfl, rfl, _, _, rfl, rfl, ⟨by decide, by decide, by decide⟩, _, rfl, _, _, rfl, rfl, (by show 20 ≤ sizeLine; decide), fun q0 hq0 => ?_⟩
    have ek0 : ∃ n0 : List V, n0 = [.int 0, .int 1, .int 4, .int 9, .int 15, .int 21, .int 25, .int 27, .int 32, .int 33, .int 35, .int 37, .int (-2), .int (-3 - few), .int (41 + few), .int (10 ^ (30 : Int).toNat + few), .bl true, .bl false, .non, .str "7"] ∧ n0.length = 20 := ⟨_, rfl, rfl⟩
    obtain ⟨n0, en0, ln0⟩ := ek0
    rw [← en0]
    have p2 := p1.same (same_new (o := .lst n0) hq0)
    have k2 := k1.skip (p := q0) (o := .lst n0) (k1.back p1 hq0)
    have e0 : upd H1 q0 (.lst n0) q0 = some (.lst n0) := upd_same
    have a0 := p1.ne hq0
    generalize upd H1 q0 (.lst n0) = H2 at p2 k2 e0 ⊢
    refine ⟨_, rfl, (by show 1 ≤ sizeLine; decide), fun t1 ht1 => ?_⟩
    have p3 := p2.same (same_new (o := .tup [.int 7]) ht1)
    have k3 := k2.skip (p := t1) (o := .tup [.int 7]) (k2.back p2 ht1)
    have e0 := same_new (o := .tup [.int 7]) ht1 _ _ e0
    have e1 : upd H2 t1 (.tup [.int 7]) t1 = some (.tup [.int 7]) := upd_same
    have a1 := p2.ne ht1
    generalize upd H2 t1 (.tup [.int 7]) = H3 at p3 k3 e0 e1 ⊢
    refine ⟨(by show 1 ≤ sizeLine; decide), fun t2 ht2 => ?_⟩
    have p4 := p3.same (same_new (o := .lst [.int 7]) ht2)
    have k4 := k3.skip (p := t2) (o := .lst [.int 7]) (k3.back p3 ht2)
    have e0 := same_new (o := .lst [.int 7]) ht2 _ _ e0
    have e1 := same_new (o := .lst [.int 7]) ht2 _ _ e1
    have e2 : upd H3 t2 (.lst [.int 7]) t2 = some (.lst [.int 7]) := upd_same
    have a2 := p3.ne ht2
    generalize upd H3 t2 (.lst [.int 7]) = H4 at p4 k4 e0 e1 e2 ⊢
    refine ⟨(by show 0 ≤ sizeLine; decide), fun t3 ht3 => ?_⟩
    have p5 := p4.same (same_new (o := .tup []) ht3)
    have k5 := k4.skip (p := t3) (o := .tup []) (k4.back p4 ht3)
    have e0 := same_new (o := .tup []) ht3 _ _ e0
    have e1 := same_new (o := .tup []) ht3 _ _ e1
    have e2 := same_new (o := .tup []) ht3 _ _ e2
    have e3 : upd H4 t3 (.tup []) t3 = some (.tup []) := upd_same
    have a3 := p4.ne ht3
    generalize upd H4 t3 (.tup []) = H5 at p5 k5 e0 e1 e2 e3 ⊢
    refine ⟨_, rfl, (by show 2 ≤ sizeLine; decide), fun t4 ht4 => ?_⟩
    have p6 := p5.same (same_new (o := .lst [.int few, .non]) ht4)
    have k6 := k5.skip (p := t4) (o := .lst [.int few, .non]) (k5.back p5 ht4)
    have e0 := same_new (o := .lst [.int few, .non]) ht4 _ _ e0
    have e1 := same_new (o := .lst [.int few, .non]) ht4 _ _ e1
    have e2 := same_new (o := .lst [.int few, .non]) ht4 _ _ e2
    have e3 := same_new (o := .lst [.int few, .non]) ht4 _ _ e3
    have e4 : upd H5 t4 (.lst [.int few, .non]) t4 = some (.lst [.int few, .non]) := upd_same
    have a4 := p5.ne ht4
    generalize upd H5 t4 (.lst [.int few, .non]) = H6 at p6 k6 e0 e1 e2 e3 e4 ⊢
    refine ⟨(by show 5 ≤ sizeLine; decide), fun q1 hq1 => ?_⟩
    obtain ⟨n1, en1, ln1⟩ : ∃ n1 : List V, n1 = [.str "", .ref t1, .ref t2, .ref t3, .ref t4] ∧ n1.length = 5 := ⟨_, rfl, rfl⟩
    rw [← en1]
    have p7 := p6.same (same_new (o := .lst n1) hq1)
    have k7 := k6.skip (p := q1) (o := .lst n1) (k6.back p6 hq1)
    have s7 := same_new (o := .lst n1) hq1
    have e5 : upd H6 q1 (.lst n1) q1 = some (.lst n1) := upd_same
    have a5 := p6.ne hq1
    generalize upd H6 q1 (.lst n1) = H7 at p7 k7 s7 e5 ⊢
    refine ⟨q0, q1, _, _, rfl, rfl, s7 _ _ e0, e5, (by rw [ln0, ln1]; decide), fun q2 hq2 => ?_⟩
    have p8 := p7.same (same_new (o := .lst (n0 ++ n1)) hq2)
    have k8 := k7.skip (p := q2) (o := .lst (n0 ++ n1)) (k7.back p7 hq2)
    have s8 := s7.trans (same_new (o := .lst (n0 ++ n1)) hq2)
    have e6 : upd H7 q2 (.lst (n0 ++ n1)) q2 = some (.lst (n0 ++ n1)) := upd_same
    have a6 := p7.ne hq2
    generalize upd H7 q2 (.lst (n0 ++ n1)) = H8 at p8 k8 s8 e6 ⊢
    refine ⟨_, rfl, _, rfl, a, _, rfl, p8, by decide, fun r H9 r0 r1 p9 k9 => ?_⟩
    have g1 := k9 _ _ a1.symm (s8 _ _ e1)
    have g2 := k9 _ _ a2.symm (s8 _ _ e2)
    have g3 := k9 _ _ a3.symm (s8 _ _ e3)
    have g4 := k9 _ _ a4.symm (s8 _ _ e4)
    have g6 := k9 _ _ a6.symm e6
    have all : ∀ j, j < 25 → ∃ v, (n0 ++ n1)[j]? = some v ∧ OdV K H9 v := by
      subst en0 en1
      intro j hj
      match j, hj with
      | 0, _ => exact ⟨_, rfl, odV_int (.inr (.inr (by decide)))⟩
      | 1, _ => exact ⟨_, rfl, odV_int (.inr (.inr (by decide)))⟩
      | 2, _ => exact ⟨_, rfl, odV_int (.inr (.inr (by decide)))⟩
      | 3, _ => exact ⟨_, rfl, odV_int (.inr (.inr (by decide)))⟩
      | 4, _ => exact ⟨_, rfl, odV_int (.inr (.inr (by decide)))⟩
      | 5, _ => exact ⟨_, rfl, odV_int (.inr (.inr (by decide)))⟩
      | 6, _ => exact ⟨_, rfl, odV_int (.inr (.inr (by decide)))⟩
      | 7, _ => exact ⟨_, rfl, odV_int (.inr (.inr (by decide)))⟩
      | 8, _ => exact ⟨_, rfl, odV_int (.inr (.inr (by decide)))⟩
      | 9, _ => exact ⟨_, rfl, odV_int (.inr (.inr (by decide)))⟩
      | 10, _ => exact ⟨_, rfl, odV_int (.inr (.inr (by decide)))⟩
      | 11, _ => exact ⟨_, rfl, odV_int (.inr (.inr (by decide)))⟩
      | 12, _ => exact ⟨_, rfl, odV_int (.inl (by decide))⟩
      | 13, _ => exact ⟨_, rfl, odV_int (.inl (by omega))⟩
      | 14, _ => exact ⟨_, rfl, odV_int (.inr (.inl (by omega)))⟩
      | 15, _ => exact ⟨_, rfl, odV_int (.inr (.inl (by rw [big30]; omega)))⟩
      | 16, _ => exact ⟨_, rfl, odV_leaf (ty3_bl true) rfl rfl⟩
      | 17, _ => exact ⟨_, rfl, odV_leaf (ty3_bl false) rfl rfl⟩
      | 18, _ => exact ⟨_, rfl, odV_leaf ty3_non rfl rfl⟩
      | 19, _ => exact ⟨_, rfl, odV_leaf (ty3_str _) rfl rfl⟩
      | 20, _ => exact ⟨_, rfl, odV_leaf (ty3_str _) rfl rfl⟩
      | 21, _ => exact ⟨_, rfl, odV_tup g1 rfl (by decide)⟩
      | 22, _ => exact ⟨_, rfl, odV_lst g2 rfl (by decide)⟩
      | 23, _ => exact ⟨_, rfl, odV_tup g3 rfl (by decide)⟩
      | 24, _ => exact ⟨_, rfl, odV_lst g4 rfl (by show 2 ≤ 10000; decide)⟩
      | n + 25, hj => exact absurd hj (by omega)
    obtain ⟨j, rfl⟩ : ∃ j : Nat, r = (j : Int) := ⟨r.toNat, by omega⟩
    obtain ⟨v, ev, hv⟩ := all j (by omega)
    exact .inl ⟨q2, _, _, v, rfl, rfl, SqL.of g6, atI_nat ev, kk v H9 hv p9 (k8.trans k9)⟩
def spAs : Sp := fun vs H Q _ => ∃ a r xs, vs = [.ref a, .ref r] ∧ PoolA H a ∧ SqO H r xs ∧ r ≠ a ∧ ∀ d H', SqO H' d xs → d ≠ a → PoolA H' a → Keep a H H' → Q (.ref d) H'
theorem scAs : FnScope ["pool", "row"] ["pool", "row"] (defScope s_law_as) := ⟨rfl, rfl, rfl, by decide +kernel, rfl, by decide +kernel, by decide +kernel⟩
theorem ok_As {f f1 : Addr} {fd fd1 : FuncData} (F : FnS K "_law_as" s_law_as f fd) (B : Blt5 mg) (CD : Cal P w K mg base 1 "_law_draw" f1 fd1 ["pool", "many"] spDr) : FnOk P w K mg base (L2.CX P w) 2 f fd ["pool", "row"] spAs := by
  refine F.ok scAs (fun vs H Q E h => ?_) (fun cdv A outer s H vs Q E hr h => ?_)
  · obtain ⟨a, r, xs, rfl, _⟩ := h
    rfl
  · obtain ⟨a, r, xs, rfl, hp, hs, ne, kk⟩ := h
    have nd := scAs.nd
    refine ⟨_, (pss_cons (ps_if (pt_cmpR op_eq (pe_cal CD (hr.mono (by decide)) (pa_cons (pv 0) (pa_cons pe_int pa_nil)) passU) pe_int (nomark _)) (pss_one (ps_ret (pe_callTy (list_ofK (K := K)) (by rfl) B.lst (by decide +kernel) (pa_cons (pv 1) pa_nil)))) pss_nil)
      (pss_one (ps_ret (pe_callTy (tup_ofK (K := K)) (by rfl) B.tuple (by decide +kernel) (pa_cons (pv 1) pa_nil))))), ?_⟩
    refine ⟨_, rfl, a, _, rfl, hp, by decide, fun q H1 f0 f1 p1 k1 => ?_⟩
    have hs1 := hs.keepP hp ne k1
    refine ⟨rfl, _, rfl, iteD (fun _ => ?_) (fun _ => ?_)⟩
    · exact ⟨_, rfl, r, xs, rfl, hs1.len, fun l hl => kk l _ (.inl upd_same) (p1.ne hl).symm (p1.same (same_new hl)) (k1.trans (Keep.new hl))⟩
    · refine ⟨_, rfl, r, xs, rfl, ?_⟩
      rcases hs1 with h | h
      · exact .inl ⟨SqL.of h, fun l hl => kk l _ (.inr (.inl upd_same)) (p1.ne hl).symm (p1.same (same_new hl)) (k1.trans (Keep.new hl))⟩
      · exact .inr ⟨sqT h, kk r _ (.inr h) ne p1 k1⟩
def spVl : Sp := fun vs H Q _ => ∃ (p t : Int) (c : Addr) (cs : List Int), vs = [.int p, .ref c, .int t] ∧ SqO H c (cs.map V.int) ∧ (0 < p ∧ p ≤ 31 ∧ 0 ≤ t ∧ t < p) ∧ cs.length ≤ 10000 ∧ Q (.int (hor p cs t)) H
theorem scVl : FnScope ["p", "coefficients", "point", "total", "k"] ["p", "coefficients", "point"] (defScope s_law_value) := ⟨rfl, rfl, rfl, by decide +kernel, rfl, by decide +kernel, by decide +kernel⟩
theorem ok_Vl {f : Addr} {fd : FuncData} (F : FnS K "_law_value" s_law_value f fd) (B : Blt5 mg) : FnOk P w K mg base (L2.CX P w) 1 f fd ["p", "coefficients", "point"] spVl := by
  refine F.ok scVl (fun vs H Q E h => ?_) (fun cdv A outer s H vs Q E hr h => ?_)
  · obtain ⟨p, t, c, cs, rfl, _⟩ := h
    rfl
  · obtain ⟨p, t, c, cs, rfl, hs, ⟨hp, hp31, t0, t1⟩, hl, kk⟩ := h
    have nd := scVl.nd
    refine ⟨_, (pss_cons (ps_set (i := 3) nd rfl (Or.inl rfl) pe_int)
      (pss_cons (ps_for (passes_of rfl) rfl (pi_range3 rfl B.range (pa_cons (pe_op op_sub (pe_callB (len_seqK (K := K)) (by rfl) B.len (by decide +kernel) (pa_cons (pv 1) pa_nil)) pe_int) (pa_cons (pe_un un_neg pe_int) (pa_cons (pe_un un_neg pe_int) pa_nil)))) (pg_name (i := 4) nd rfl (Or.inl rfl)) (pss_one (ps_set (i := 3) nd rfl (Or.inl rfl) (pe_op op_modN (pe_callTy call_int1 (by rfl) B.int (by decide +kernel) (pa_cons (pe_op op_add (pe_op op_mul (pv 3) (pv 2)) (pe_ix (ix_seqK (K := K)) (pv 1) (pv 4) (fun _ _ => rfl))) pa_nil)) (pv 0)))))
      (pss_one (ps_ret (pv 3))))), ?_⟩
    refine ⟨_, rfl, c, _, rfl, hs.len, ?_⟩
    rw [List.length_map]
    refine ⟨_, _, rfl, rfl, _, rfl, _, rfl, _, _, _, _, rfl, RgC.neg (by omega) (by omega) (by omega) (by omega), ?_⟩
    have en : (((cs.length : Int) - 1) - (-1)).toNat = cs.length := by omega
    refine for_rangeC (n := (((cs.length : Int) - 1) - (-1)).toNat) (fun i σ H' => ∃ v, σ = [some (.int p), some (.ref c), some (.int t), some (.int (hor p (cs.drop (cs.length - i)) t)), v] ∧ H' = H) ⟨none, by rw [Nat.sub_zero, List.drop_length]; rfl, rfl⟩ ?_ ?_
    · rintro i σ H' hi ⟨v, rfl, rfl⟩
      rw [en] at hi
      have hj : cs.length - i = cs.length - (i + 1) + 1 := by omega
      have ek : ((cs.length : Int) - 1 + (i : Int) * (-1)) = ((cs.length - (i + 1) : Nat) : Int) := by omega
      rw [ek]
      have gx : ∀ {Q' : VK}, Q' (.int (at0 cs (cs.length - (i + 1)))) H' → rIx K (.ref c) (.int ((cs.length - (i + 1) : Nat) : Int)) H' Q' := fun {Q'} q => by
        have e := take_map_at cs.length (r := cs) (i := cs.length - (i + 1)) (by omega)
        rcases hs with h | h
        · exact .inl ⟨c, _, _, _, rfl, rfl, SqL.of h, atI_nat e, q⟩
        · exact .inr (.inl ⟨c, _, _, _, rfl, rfl, sqT h, atI_nat e, q⟩)
      have hh := hor_bd hp (cs.drop (cs.length - i)) t
      refine ⟨_, rfl, _, rfl, _, _, rfl, rfl, .inl ⟨by omega, by omega⟩, _, rfl, _, rfl, gx ⟨_, _, rfl, rfl, .inl ⟨_, rfl, _, rfl, _, _, rfl, rfl, (show p ≠ 0 by omega), some (.int ((cs.length - (i + 1) : Nat) : Int)), ?_, rfl⟩⟩⟩
      have eh : hor p (cs.drop (cs.length - (i + 1))) t = (hor p (cs.drop (cs.length - i)) t * t + at0 cs (cs.length - (i + 1))).fmod p := by
        rw [hor_drop (i := cs.length - (i + 1)) (by omega), show cs.length - (i + 1) + 1 = cs.length - i by omega]
      rw [eh]
      rfl
    · rintro σ H' ⟨v, rfl, rfl⟩
      refine ⟨_, rfl, ?_⟩
      rw [en, Nat.sub_self]
      exact kk
end
end WU

set_option maxRecDepth 100000
set_option maxHeartbeats 8000000
namespace WU
open PySem PySem.Spec PyProof.Rows L2
section
variable {P : Program} {w : World} {K : PySem.W.Frag} {mg : Str → Option Value} {base : Heap} {S : Addr}
/-- points of the field p, unlike -/
def Pts (p : Int) (pts : List Int) : Prop := pts.Nodup ∧ (∀ t ∈ pts, 0 ≤ t ∧ t < p) ∧ 0 < pts.length ∧ pts.length ≤ 12
def rgI (p : Int) : List Int := (List.range p.toNat).map fun i => (i : Nat)
theorem rgI_nd (p : Int) : (rgI p).Nodup := List.pairwise_map.mpr (List.nodup_range.imp fun h e => h (by omega))
theorem rgI_bd {p t : Int} (h : t ∈ rgI p) : 0 ≤ t ∧ t < p := by
  obtain ⟨i, hi, rfl⟩ := List.mem_map.mp h
  have := List.mem_range.mp hi
  omega
theorem rgV_rgI {p : Int} : rgV 0 p = (rgI p).map V.int := by
  unfold rgV rgI
  rw [List.map_map, Int.sub_zero]
  refine List.map_congr_left fun i _ => ?_
  show V.int (0 + (i : Int)) = V.int (i : Int)
  rw [Int.zero_add]
theorem er_perm : ∀ (l : List Int) (j : Nat) (h : j < l.length), (l[j] :: l.eraseIdx j).Perm l
  | [], j, h => absurd h (Nat.not_lt_zero j)
  | x :: l, 0, h => .refl _
  | x :: l, j + 1, h => (List.Perm.swap x (l[j]'(Nat.lt_of_succ_lt_succ h)) (l.eraseIdx j)).trans ((er_perm l j (Nat.lt_of_succ_lt_succ h)).cons x)
theorem er_map : ∀ (l : List Int) (j : Nat), (l.map V.int).eraseIdx j = (l.eraseIdx j).map V.int
  | [], _ => rfl
  | x :: l, 0 => rfl
  | x :: l, j + 1 => congrArg (V.int x :: ·) (er_map l j)
def spPt : Sp := fun vs H Q _ => ∃ (a : Addr) (p : Int), vs = [.ref a, .int p] ∧ PoolA H a ∧ p ∈ primes ∧ ∀ y pts H', Pts p pts → H' y = some (.lst (pts.map V.int)) → y ≠ a → PoolA H' a → Keep a H H' → Q (.ref y) H'
theorem scPt : FnScope ["pool", "p", "left", "points", "many", "k"] ["pool", "p"] (defScope s_law_points) := ⟨rfl, rfl, rfl, by decide +kernel, rfl, by decide +kernel, by decide +kernel⟩
theorem ok_Pt {f f1 : Addr} {fd fd1 : FuncData} (F : FnS K "_law_points" s_law_points f fd) (B : Blt5 mg) (bm : mg "min" = none) (CD : Cal P w K mg base 1 "_law_draw" f1 fd1 ["pool", "many"] spDr) : FnOk P w K mg base (L2.CX P w) 2 f fd ["pool", "p"] spPt := by
  refine F.ok scPt (fun vs H Q E h => ?_) (fun cdv A outer s H vs Q E hr h => ?_)
  · obtain ⟨a, p, rfl, _⟩ := h
    rfl
  · obtain ⟨a, p, rfl, hp, hm, kk⟩ := h
    have nd := scPt.nd
    have p2 := fld_le hm
    refine ⟨_, (pss_cons (ps_set (i := 2) nd rfl (Or.inl rfl) (pe_listRg rfl (by rfl) B.lst (prg_1 (by rfl) B.range (pv 1))))
      (pss_cons (ps_set (i := 3) nd rfl (Or.inl rfl) (pe_lst pa_nil))
      (pss_cons (ps_set (i := 4) nd rfl (Or.inl rfl) (pe_ix (ix_seqK (K := K)) (pe_lst (pa_cons (pe_op op_add pe_int (pe_cal CD (hr.mono (by decide)) (pa_cons (pv 0) (pa_cons (pe_callB (call_min2 rfl) (by rfl) B.min (by decide +kernel) (pa_cons (pv 1) (pa_cons pe_int pa_nil))) pa_nil)) passU)) (pa_cons (pe_callB (call_min2 rfl) (by rfl) B.min (by decide +kernel) (pa_cons (pv 1) (pa_cons pe_int pa_nil))) pa_nil))) (pe_callTy call_int1 (by rfl) B.int (by decide +kernel) (pa_cons (pe_cmpR op_eq (pe_cal CD (hr.mono (by decide)) (pa_cons (pv 0) (pa_cons pe_int pa_nil)) passU) pe_int (nomark _)) pa_nil)) (fun _ _ => rfl)))
      (pss_cons (ps_for (passes_of rfl) rfl (pi_range1 rfl B.range (pa_cons (pv 4) pa_nil)) (pg_name (i := 5) nd rfl (Or.inl rfl)) (pss_one (ps_expr (pe_bm PySem.F.plainAttrs_list PySem.F.slot_list_append PySem.F.type_list_append mt_append (pv 3) (pa_cons (pe_bm PySem.F.plainAttrs_list PySem.F.slot_list_pop PySem.F.type_list_pop mt_popAt (pv 2) (pa_cons (pe_cal CD (hr.mono (by decide)) (pa_cons (pv 0) (pa_cons (pe_callB (len_seqK (K := K)) (by rfl) B.len (by decide +kernel) (pa_cons (pv 2) pa_nil)) pa_nil)) passU) pa_nil)) pa_nil)))))
      (pss_one (ps_ret (pv 3))))))), ?_⟩
    refine ⟨_, rfl, p, rfl, ⟨by decide, by decide, by omega, by omega, by omega⟩, fun L hL => ?_⟩
    rw [rgV_rgI]
    have pp1 := hp.same (same_new (o := .lst ((rgI p).map V.int)) hL)
    have k1 : Keep a H (upd H L (.lst ((rgI p).map V.int))) := Keep.new hL
    have eL : upd H L (.lst ((rgI p).map V.int)) L = some (.lst ((rgI p).map V.int)) := upd_same
    have aL := hp.ne hL
    generalize upd H L (.lst ((rgI p).map V.int)) = H1 at pp1 k1 eL ⊢
    refine ⟨(by show 0 ≤ sizeLine; decide), fun R hR => ?_⟩
    have pp2 := pp1.same (same_new (o := .lst []) hR)
    have k2 := k1.skip (p := R) (o := .lst []) (k1.back pp1 hR)
    have nR := k1.back pp1 hR
    have LR : L ≠ R := ne_of_none eL hR
    have eL := same_new (o := .lst []) hR _ _ eL
    have eR : upd H1 R (.lst []) R = some (.lst []) := upd_same
    have aR := pp1.ne hR
    generalize upd H1 R (.lst []) = H2 at pp2 k2 eL eR ⊢
    obtain ⟨m, em, m2, mp, m12⟩ : ∃ m : Int, m = (if (12 : Int) < p then 12 else p) ∧ 2 ≤ m ∧ m ≤ p ∧ m ≤ 12 := ⟨_, rfl, by split <;> omega, by split <;> omega, by split <;> omega⟩
    refine ⟨_, rfl, _, rfl, _, _, rfl, ?_⟩
    rw [← em]
    refine ⟨a, m, rfl, pp2, by omega, fun d H3 d0 d1 p3 k3 => ?_⟩
    refine ⟨_, _, rfl, rfl, _, rfl, _, _, rfl, ?_⟩
    rw [← em]
    refine ⟨(by show 2 ≤ sizeLine; decide), fun q hq => ?_⟩
    have p4 := p3.same (same_new (o := .lst [.int (1 + d), .int m]) hq)
    have k4 := (k2.trans k3).skip (p := q) (o := .lst [.int (1 + d), .int m]) ((k2.trans k3).back p3 hq)
    have eL := same_new (o := .lst [.int (1 + d), .int m]) hq _ _ (k3 _ _ aL.symm eL)
    have eR := same_new (o := .lst [.int (1 + d), .int m]) hq _ _ (k3 _ _ aR.symm eR)
    have eq : upd H3 q (.lst [.int (1 + d), .int m]) q = some (.lst [.int (1 + d), .int m]) := upd_same
    have aq := p3.ne hq
    generalize upd H3 q (.lst [.int (1 + d), .int m]) = H4 at p4 k4 eL eR eq ⊢
    refine ⟨_, rfl, a, _, rfl, p4, by decide, fun e H5 e0 e1 p5 k5 => ?_⟩
    have eL := k5 _ _ aL.symm eL
    have eR := k5 _ _ aR.symm eR
    have eq := k5 _ _ aq.symm eq
    have k5 := k4.trans k5
    refine ⟨rfl, .inr ⟨_, rfl, ?_⟩⟩
    obtain ⟨n, n0, nm, hn⟩ : ∃ n : Nat, 0 < n ∧ (n : Int) ≤ m ∧ ∀ Q' : VK, Q' (.int (n : Int)) H5 → rIx K (.ref q) (.int (if decide (V.int e = V.int 0) = true then 1 else 0)) H5 Q' := by
      by_cases he : V.int e = V.int 0
      · rw [decide_eq_true he]
        exact ⟨m.toNat, by omega, by omega, fun Q' h => .inl ⟨q, _, 1, _, rfl, rfl, SqL.of eq, rfl, by rw [show ((m.toNat : Nat) : Int) = m by omega] at h; exact h⟩⟩
      · rw [decide_eq_false he]
        exact ⟨(1 + d).toNat, by omega, by omega, fun Q' h => .inl ⟨q, _, 0, _, rfl, rfl, SqL.of eq, rfl, by rw [show (((1 + d).toNat : Nat) : Int) = 1 + d by omega] at h; exact h⟩⟩
    refine hn _ ?_
    refine ⟨_, rfl, (n : Int), rfl, by omega, by omega, for_range (lo := 0) (n := n) (fun i σ H' => ∃ (ls ps : List Int) (v5 : Option V), σ = [some (.ref a), some (.int p), some (.ref L), some (.ref R), some (.int n), v5] ∧ H' L = some (.lst (ls.map V.int)) ∧ H' R = some (.lst (ps.map V.int)) ∧
      (ps ++ ls).Perm (rgI p) ∧ ps.length = i ∧ PoolA H' a ∧ Keep a H H') ⟨rgI p, [], none, rfl, eL, eR, .refl _, rfl, p5, k5⟩ ?_ ?_⟩
    · rintro i σ H6 hi ⟨ls, ps, v5, rfl, gL, gR, pm, lp, p6, k6⟩
      have ll : ps.length + ls.length = p.toNat := by
        have := pm.length_eq
        rw [List.length_append] at this
        rw [this]
        unfold rgI
        rw [List.length_map, List.length_range]
      refine ⟨_, rfl, .inl ⟨rfl, _, SqL.of gR⟩, _, rfl, .inl ⟨rfl, _, SqL.of gL⟩, _, rfl, _, rfl, L, _, rfl, .inl (SqL.of gL), a, _, rfl, p6, (by rw [List.length_map]; omega), fun r H7 r0 r1 p7 k7 => ?_⟩
      rw [List.length_map] at r1
      obtain ⟨j, rfl⟩ : ∃ j : Nat, r = (j : Int) := ⟨r.toNat, by omega⟩
      have hj : j < ls.length := by omega
      have gL := k7 _ _ aL.symm gL
      have gR := k7 _ _ aR.symm gR
      have hjv : j < (ls.map V.int).length := by rw [List.length_map]; exact hj
      refine ⟨L, _, _, j, .int (at0 ls j), rfl, rfl, gL, by omega, by omega, ?_, take_map_at ls.length hj, ?_⟩
      · have z := PySem.StrLaws.seqIndex_nonneg (i := (j : Int)) (n := (ls.map V.int).length) (by omega) (by omega)
        rw [z]
        rfl
      have gR2 : upd H7 L (.lst ((ls.map V.int).eraseIdx j)) R = some (.lst (ps.map V.int)) := by rw [upd_ne LR.symm]; exact gR
      have gL2 : upd H7 L (.lst ((ls.map V.int).eraseIdx j)) L = some (.lst ((ls.eraseIdx j).map V.int)) := by rw [upd_same, er_map]
      refine ⟨R, _, _, rfl, rfl, gR2, (by rw [List.length_map]; exact small1000 (by omega)), ls.eraseIdx j, ps ++ [at0 ls j], some (.int (0 + (i : Int))), rfl, by rw [upd_ne LR]; exact gL2, by rw [upd_same, List.map_append]; rfl, ?_, by rw [List.length_append]; show ps.length + 1 = i + 1; omega, ?_, ?_⟩
      · refine List.Perm.trans ?_ pm
        rw [List.append_assoc, at0_lt hj]
        exact (er_perm ls j hj).append_left ps
      · obtain ⟨ns, en, ln⟩ := p7
        exact ⟨ns, by rw [upd_ne aR, upd_ne aL]; exact en, ln⟩
      · intro b u hb eb
        rw [upd_ne (ne_of_none eb nR), upd_ne (ne_of_none eb hL)]
        exact k7 b u hb (k6 b u hb eb)
    · rintro σ H6 ⟨ls, ps, v5, rfl, gL, gR, pm, lp, p6, k6⟩
      have nd2 := pm.nodup_iff.mpr (rgI_nd p)
      exact ⟨_, rfl, kk R ps H6 ⟨(List.nodup_append.mp nd2).1, fun t ht => rgI_bd (pm.mem_iff.mp (List.mem_append_left _ ht)), by omega, by omega⟩ gR aR.symm p6 k6⟩
end
end WU

set_option maxRecDepth 100000
set_option maxHeartbeats 8000000
namespace WU
open PySem PySem.Spec PyProof.Rows L2
def tCallN0 (m : Nat) (sp : Sp) (gV : List V → List V → List V) (E : XK) (tk : TA) : TE := fun σ H Q => tk σ H fun zs H2 => zs.length = m ∧ sp (gV [] zs) H2 Q E
section
variable {X : Cx} {CX : CXT} {k n : Nat} {f : Addr} {fd : FuncData} {ps ks : List Str} {sp : Sp} {E : XK} {x : Str} {p pos : Pos} {e : Expr} {es : List Expr} {kws : List Keyword} {t tk : TA} {g : List Value → List Value → List Value} {gV : List V → List V → List V}
/-- a def called by keywords alone -/
theorem pe_calN0 (C : Cal X.prog X.w X.K X.mg X.base k x f fd ps sp) (hr : Room k X.A) (hb : KBn X.K fd ps 0 ks g gV) (hkw : PK X kws tk) (hx : Passes (L2.CX X.prog X.w) X E) (hg : Gl X x := by rfl)
    (hall : (backToKw pos (keywordEach kws X.env)).all (·.1.isSome) = true := by rfl) (hks : (backToKw pos (keywordEach kws X.env)).filterMap (·.1) = ks := by rfl)
    (hdb : (x == ("__debug__" : Str)) = false := by decide) (hpl : ((backTo pos (starEach [] X.env)).any (·.1) || (backToKw pos (keywordEach kws X.env)).any (·.1.isNone)) = false := by rfl) :
    PE X (.Call (.Name x p) [] kws pos) (tCallN0 ks.length sp gV E tk) := by
  refine ⟨fun pins s σ H Q I h => ?_⟩
  refine wpAny_Call_Name_kw (ld_glob I hg C.glob ?_ hdb)
  refine PySem.W.callWith_KW0 (h₀ := X.base) I.ok.mod.kin C.kp hall ?_ hpl
  refine thn (hkw.run pos pins s σ H _ I h) fun ws s2 ⟨zs, H2, I2, rz, l2, q2⟩ => ⟨I2.kIn, ?_⟩
  rw [hks]
  exact run_fnN C.ok hr hb hx I2 .nil rz rfl l2 q2
theorem pe_calN (C : Cal X.prog X.w X.K X.mg X.base k x f fd ps sp) (hr : Room k X.A) (hb : KBn X.K fd ps n ks g gV) (ha : PA X (e :: es) t) (hkw : PK X kws tk) (hx : Passes (L2.CX X.prog X.w) X E) (hg : Gl X x := by rfl)
    (hall : (backToKw pos (keywordEach kws X.env)).all (·.1.isSome) = true := by rfl) (hks : (backToKw pos (keywordEach kws X.env)).filterMap (·.1) = ks := by rfl)
    (hdb : (x == ("__debug__" : Str)) = false := by decide) (he : starEach (e :: es) X.env = (false, eval e X.env) :: starEach es X.env := by rfl)
    (hpl : ((backTo pos (starEach (e :: es) X.env)).any (·.1) || (backToKw pos (keywordEach kws X.env)).any (·.1.isNone)) = false := by rfl) :
    PE X (.Call (.Name x p) (e :: es) kws pos) (tCallN n ks.length sp gV E t tk) := pe_callN C.ok hr hg C.glob C.kp hb hx ha hkw hall hks hdb he hpl
end
/-- numbers drawn into the list at D -/
def Drn (a : Addr) (p : Int) (H1 : Hp) (D : Addr) (i : Nat) (H' : Hp) : Prop := ∃ ys : List Int, H' D = some (.lst (ys.map V.int)) ∧ ys.length = i ∧ (∀ y ∈ ys, 0 ≤ y ∧ y < p) ∧ PoolA H' a ∧ Keep a H1 H'
theorem Drn.start {a D : Addr} {p : Int} {H1 : Hp} (hp : PoolA H1 a) (hD : H1 D = none) : Drn a p H1 D 0 (upd H1 D (.lst [])) :=
  ⟨[], upd_same, rfl, (fun y h => nomatch h), hp.same (same_new hD), Keep.new hD⟩
theorem Drn.put {a D : Addr} {p r : Int} {i : Nat} {H1 H' H'' : Hp} (d : Drn a p H1 D i H') (hD : H1 D = none) (ne : D ≠ a) (hi : i ≤ 1000) (p' : PoolA H'' a) (k : Keep a H' H'') (r0 : 0 ≤ r) (r1 : r < p) :
    ∃ acc, H'' D = some (.lst acc) ∧ acc.length < sizeLine ∧ Drn a p H1 D (i + 1) (upd H'' D (.lst (acc ++ [.int r]))) := by
  obtain ⟨ys, e, l, b, _, k1⟩ := d
  refine ⟨_, k D _ ne e, by rw [List.length_map]; exact small1000 (by omega), ys ++ [r], by rw [upd_same, List.map_append]; rfl, by rw [List.length_append]; show ys.length + 1 = i + 1; omega, fun y hy => ?_, ?_, ?_⟩
  · rcases List.mem_append.mp hy with h | h
    · exact b y h
    · rw [List.mem_singleton.mp h]
      exact ⟨r0, r1⟩
  · obtain ⟨ns, en, ln⟩ := p'
    exact ⟨ns, by rw [upd_ne ne.symm]; exact en, ln⟩
  · intro c u hc ec
    rw [upd_ne (ne_of_none ec hD)]
    exact k c u hc (k1 c u hc ec)
theorem lk_int {n : Nat} {H : Hp} (i : Int) : Lk n H (.int i) (.int i) := lk_leaf rfl
theorem lk_lsts {H : Hp} {a b : Addr} {ys : List Int} (ea : H a = some (.lst (ys.map V.int))) (eb : H b = some (.lst (ys.map V.int))) (l : ys.length ≤ 1000) : Lk 1 H (.ref a) (.ref b) :=
  .inr ⟨a, b, _, _, rfl, rfl, .inl ⟨ea, eb⟩, lk_ints (n := 0) ys, by rw [List.length_map]; omega⟩
theorem SqO.same' {H H' : Hp} {d : Addr} {xs : List V} (h : SqO H d xs) (s : Same H H') : SqO H' d xs := by
  rcases h with h | ⟨h | ⟨o, h⟩⟩
  · exact .inl (s _ _ h)
  · exact .inr (.inl (s _ _ h))
  · exact .inr (.inr ⟨o, s _ _ h⟩)
section
variable {P : Program} {w : World} {K : PySem.W.Frag} {mg : Str → Option Value} {base : Heap} {S : Addr}
theorem at_last {ys : List Int} (h : 0 < ys.length) : ∃ l, atI (ys.map V.int) (-1) = some (V.int l) := by
  have ne : ys ≠ [] := fun z => by rw [z] at h; exact Nat.lt_irrefl _ h
  refine ⟨ys.getLast ne, ?_⟩
  have e := L2.atI_last (ys.dropLast.map V.int) (V.int (ys.getLast ne))
  rw [show ys.dropLast.map V.int ++ [V.int (ys.getLast ne)] = ys.map V.int by
    rw [← List.map_singleton (f := V.int), ← List.map_append, List.dropLast_concat_getLast]] at e
  exact e
def spVH : Sp := fun vs H Q _ => ∃ (a c : Addr) (p : Int) (cs : List Int), vs = [.ref a, .int p, .ref c] ∧ PoolA H a ∧ p ∈ primes ∧ SqO H c (cs.map V.int) ∧ c ≠ a ∧ (∀ x ∈ cs, 0 ≤ x ∧ x < p) ∧ cs.length ≤ 100 ∧ ∀ H', PoolA H' a → Keep a H H' → Q (.bl true) H'
theorem scVH : FnScope ["pool", "p", "coefficients", "points", "handed", "point", "due", "k"] ["pool", "p", "coefficients"] (defScope s_law_values_hold) := ⟨rfl, rfl, rfl, by decide +kernel, rfl, by decide +kernel, by decide +kernel⟩
theorem ok_VH {f f1 f2 f3 f4 f5 : Addr} {fd fd1 fd2 fd3 fd4 fd5 : FuncData} (F : FnS K "_law_values_hold" s_law_values_hold f fd) (B : Blt5 mg) (CD : Cal P w K mg base 1 "_law_draw" f1 fd1 ["pool", "many"] spDr) (CA : Cal P w K mg base 2 "_law_as" f2 fd2 ["pool", "row"] spAs)
    (CV : Cal P w K mg base 1 "_law_value" f3 fd3 ["p", "coefficients", "point"] spVl) (CVA : Cal P w K mg base 4 "value_at" f4 fd4 ["p", "coefficients", "point"] (spVA K)) (CSm : Cal P w K mg base 2 "_law_same" f5 fd5 ["told", "due"] (spSmP (Lk 1)))
    (bV : KBn K fd4 ["p", "coefficients", "point"] 0 ["point", "coefficients", "p"] (fun us ws => us ++ ws.reverse) (fun vs zs => vs ++ zs.reverse)) :
    FnOk P w K mg base (L2.CX P w) 5 f fd ["pool", "p", "coefficients"] spVH := by
  refine F.ok scVH (fun vs H Q E h => ?_) (fun cdv A outer s H vs Q E hr h => ?_)
  · obtain ⟨a, c, p, cs, rfl, _⟩ := h
    rfl
  · obtain ⟨a, c, p, cs, rfl, hp, hm, hc, nc, hb, hl, kk⟩ := h
    have nd := scVH.nd
    have p2 := fld_le hm
    have nf : ¬ isFld (.int p) = false := fun z => by rw [mem_fld hm] at z; cases z
    refine ⟨_, (pss_cons (ps_set (i := 3) nd rfl (Or.inl rfl) (pe_listRg rfl (by rfl) B.lst (prg_1 (by rfl) B.range (pv 1))))
      (pss_cons (ps_wk (ps_if (pt_cmpR op_gt (pv 1) pe_int (nomark _)) (pss_one (ps_setLc (i := 3) (own := [("k", 7)]) (g := gName 7) (by rfl) nd rfl rfl (sw_true rfl rfl rfl (by decide +kernel)) (pi_range1 rfl B.range (pa_cons pe_int pa_nil)) (blkOk_by (own := [("k", 7)]) (N := ["pool", "p", "coefficients", "points", "handed", "point", "due", "k"]) (sc := defScope s_law_values_hold) (by decide +kernel)) (fun _ _ _ _ _ => (pg_name (i := 7) nd rfl (Or.inl rfl))) (fun _ _ _ _ _ => pts_nil) (fun _ _ _ _ _ => (pe_cal CD (hr.mono (by decide)) (pa_cons (pv 0) (pa_cons (pv 1) pa_nil)) passU)))) pss_nil))
      (pss_cons (ps_set (i := 4) nd rfl (Or.inl rfl) (pe_cal CA (hr.mono (by decide)) (pa_cons (pv 0) (pa_cons (pv 2) pa_nil)) passU))
      (pss_cons (ps_for (passes_of rfl) rfl (pi_listK (K := K) (pv 3)) (pg_name (i := 5) nd rfl (Or.inl rfl)) (pss_cons (ps_set (i := 6) nd rfl (Or.inl rfl) (pe_cal CV (hr.mono (by decide)) (pa_cons (pv 1) (pa_cons (pv 2) (pa_cons (pv 5) pa_nil))) passU))
      (pss_cons (ps_if (pt_not (pt_val (pe_cal CSm (hr.mono (by decide)) (pa_cons (pe_cal CVA (hr.mono (by decide)) (pa_cons (pv 1) (pa_cons (pv 4) (pa_cons (pv 5) pa_nil))) passU) (pa_cons (pv 6) pa_nil)) passU))) (pss_one (ps_ret pe_bl)) pss_nil)
      (pss_one (ps_if (PW.pt (pw_and (pt_cmpR op_eq (pv 5) (pe_ix (ix_listK (K := K)) (pv 3) (pe_un un_neg pe_int) (fun _ _ => rfl)) (nomark _)) (pw_and1 (pt_not (pt_val (pe_cal CSm (hr.mono (by decide)) (pa_cons (pe_calN0 CVA (hr.mono (by decide)) bV (pk_cons (pv 5) (pk_cons (pv 4) (pk_cons (pv 1) pk_nil))) passU) (pa_cons (pv 6) pa_nil)) passU)))))) (pss_one (ps_ret pe_bl)) pss_nil)))))
      (pss_one (ps_ret (pe_cal CSm (hr.mono (by decide)) (pa_cons (pe_callTy (list_ofK (K := K)) (by rfl) B.lst (by decide +kernel) (pa_cons (pv 4) pa_nil)) (pa_cons (pe_callTy (list_ofK (K := K)) (by rfl) B.lst (by decide +kernel) (pa_cons (pv 2) pa_nil)) pa_nil)) passU))))))), ?_⟩
    refine ⟨_, rfl, p, rfl, ⟨by decide, by decide, by omega, by omega, by omega⟩, fun L hL => ?_⟩
    rw [rgV_rgI]
    have pp1 := hp.same (same_new (o := .lst ((rgI p).map V.int)) hL)
    have k1 : Keep a H (upd H L (.lst ((rgI p).map V.int))) := Keep.new hL
    have eL : upd H L (.lst ((rgI p).map V.int)) L = some (.lst ((rgI p).map V.int)) := upd_same
    have aL := hp.ne hL
    generalize upd H L (.lst ((rgI p).map V.int)) = H1 at pp1 k1 eL ⊢
    refine ⟨fun σ H' => ∃ (q : Addr) (ys : List Int), σ = [some (.ref a), some (.int p), some (.ref c), some (.ref q), none, none, none, none] ∧ H' q = some (.lst (ys.map V.int)) ∧ q ≠ a ∧ (∀ y ∈ ys, 0 ≤ y ∧ y < p) ∧ ys.length ≤ 1000 ∧ PoolA H' a ∧ Keep a H H', ?_, ?_⟩
    · refine ⟨_, rfl, _, _, rfl, rfl, _, rfl, iteD (fun _ => ?_) (fun _ => ?_)⟩
      · refine ⟨12, rfl, by decide, by decide, fun D hD => lc_range (lo := 0) (n := 12) (fun i H' => Drn a p H1 D i H') (Drn.start pp1 hD) ?_ ?_⟩
        · intro i H' hi dr
          obtain ⟨_, _, _, _, pq, _⟩ := id dr
          exact ⟨rfl, _, rfl, _, rfl, a, p, rfl, pq, by omega, fun r H'' r0 r1 p'' k'' => dr.put hD (pp1.ne hD).symm (by omega) p'' k'' r0 r1⟩
        · rintro H' ⟨ys, e, l, b, pq, kq⟩
          exact ⟨D, ys, rfl, e, (pp1.ne hD).symm, b, by omega, pq, k1.trans kq⟩
      · refine ⟨L, rgI p, rfl, eL, aL.symm, fun y hy => rgI_bd hy, ?_, pp1, k1⟩
        unfold rgI
        rw [List.length_map, List.length_range]
        omega
    · rintro σ H2 ⟨q, ys, rfl, eq, nq, yb, yl, pp2, k2⟩
      refine ⟨_, rfl, _, rfl, a, c, _, rfl, pp2, hc.keepP hp nc k2, nc, fun d H3 hd nda pp3 k3 => ?_⟩
      have eq := k3 _ _ nq eq
      have k3 := k2.trans k3
      have hc3 := hc.keepP hp nc k3
      refine ⟨_, rfl, q, rfl, ⟨_, SqL.of eq⟩, for_list (K := K) (a := q) (xs := ys.map V.int) (fun i σ H' => ∃ (v5 v6 : Option V), σ = [some (.ref a), some (.int p), some (.ref c), some (.ref q), some (.ref d), v5, v6, none] ∧ Same H3 H') ⟨none, none, rfl, Same.refl _⟩ (fun i σ H' _ ⟨_, _, _, s⟩ => SqL.of (s _ _ eq)) ?_ ?_⟩
      · rintro i x σ H4 hx ⟨v5, v6, rfl, s4⟩
        have hi : i < ys.length := by
          have := (List.getElem?_eq_some_iff.mp hx).1
          simpa using this
        cases (take_map_at ys.length (r := ys) (i := i) hi).symm.trans hx
        have ty := yb (at0 ys i) (by rw [at0_lt hi]; exact List.getElem_mem hi)
        generalize at0 ys i = t at ty
        refine ⟨_, rfl, _, rfl, _, rfl, p, t, c, cs, rfl, hc3.same' s4, ⟨by omega, by omega, ty.1, ty.2⟩, by omega, ?_⟩
        refine ⟨_, rfl, _, rfl, _, rfl, _, _, _, rfl, ty3_int p, fun z => absurd z nf, fun p' e _ => ?_⟩
        cases e
        refine ⟨cs, t, ⟨d, rfl, hd.same' s4⟩, rfl, hb, ty.1, ty.2, fun H5 s5 => ?_⟩
        refine ⟨_, rfl, _, _, rfl, lk_int _, fun H6 s6 => ⟨_, rfl, iteF ?_⟩⟩
        have s6 := s4.trans (s5.trans s6)
        obtain ⟨l, el⟩ := at_last (ys := ys) (by omega)
        refine ⟨_, rfl, _, rfl, _, rfl, q, _, _, _, rfl, rfl, SqL.of (s6 _ _ eq), el, rfl, _, rfl, ?_⟩
        have fin : ∀ H7, Same H3 H7 → ∃ (v5 v6 : Option V), [some (V.ref a), some (V.int p), some (V.ref c), some (V.ref q), some (V.ref d), some (V.int t), some (V.int (hor p cs t)), none] = [some (V.ref a), some (V.int p), some (V.ref c), some (V.ref q), some (V.ref d), v5, v6, none] ∧ Same H3 H7 := fun H7 s7 => ⟨_, _, rfl, s7⟩
        refine iteD (fun _ => ?_) (fun _ => fin _ s6)
        refine ⟨_, rfl, _, rfl, _, rfl, rfl, _, _, _, rfl, ty3_int p, fun z => absurd z nf, fun p' e _ => ?_⟩
        cases e
        refine ⟨cs, t, ⟨d, rfl, hd.same' s6⟩, rfl, hb, ty.1, ty.2, fun H7 s7 => ?_⟩
        exact ⟨_, rfl, _, _, rfl, lk_int _, fun H8 s8 => ⟨_, rfl, iteF (fin _ (s6.trans (s7.trans s8)))⟩⟩
      · rintro σ H4 ⟨v5, v6, rfl, s4⟩
        refine ⟨_, rfl, d, _, rfl, (hd.same' s4).len, fun l1 hl1 => ?_⟩
        have s5 := s4.trans (same_new (o := .lst (cs.map V.int)) hl1)
        have e1 : upd H4 l1 (.lst (cs.map V.int)) l1 = some (.lst (cs.map V.int)) := upd_same
        generalize upd H4 l1 (.lst (cs.map V.int)) = H5 at s5 e1 ⊢
        refine ⟨_, rfl, c, _, rfl, (hc3.same' s5).len, fun l2 hl2 => ?_⟩
        have s6 := s5.trans (same_new (o := .lst (cs.map V.int)) hl2)
        exact ⟨_, _, rfl, lk_lsts (same_new hl2 _ _ e1) upd_same (by omega), fun H' s => kk H' (pp3.same (s6.trans s)) (k3.trans (Keep.of (s6.trans s)))⟩
end
end WU

set_option maxRecDepth 100000
set_option maxHeartbeats 8000000
namespace WU
open PySem PySem.Spec PyProof.Rows L2
theorem solX_ok {p : Int} {pts b x : List Int} (hp : p ∈ primes) (hb : Ltr p pts.length b) (h : SolX p (powR p pts pts.length) b pts.length x) : Ltr p pts.length x ∧ ∀ k, k < pts.length → hor p x (at0 pts k) = at0 b k := by
  obtain ⟨qs, R, hn, sp⟩ := h
  have p2 := (fld_le hp).1
  have hA := powR_ltr (p := p) (pts := pts) (cnt := pts.length) p2
  have ln : (powR p pts pts.length).length = pts.length := powR_len
  obtain ⟨S, L⟩ := sol_slv hp hA hb R hn sp
  rw [ln] at L
  exact ⟨L, slv_hor hp hb L.1 S⟩
theorem lk_tups {H : Hp} {u v : V} {ys : List Int} (ea : FT H u ys) (eb : FT H v ys) (l : ys.length ≤ 1000) : Lk 1 H u v := by
  obtain ⟨a, rfl, ea⟩ := ea
  obtain ⟨b, rfl, eb⟩ := eb
  exact .inr ⟨a, b, _, _, rfl, rfl, .inr ⟨ea, eb⟩, lk_ints (n := 0) ys, by rw [List.length_map]; omega⟩
section
variable {P : Program} {w : World} {K : PySem.W.Frag} {mg : Str → Option Value} {base : Heap} {S : Addr}
def spTH : Sp := fun vs H Q _ => ∃ (a : Addr) (p : Int), vs = [.ref a, .int p] ∧ PoolA H a ∧ p ∈ primes ∧ ∀ H', PoolA H' a → Keep a H H' → Q (.bl true) H'
theorem scTH : FnScope ["pool", "p", "points", "drawn", "values", "places", "letters", "told", "letter", "k", "again", "point"] ["pool", "p"] (defScope s_law_through_holds) := ⟨rfl, rfl, rfl, by decide +kernel, rfl, by decide +kernel, by decide +kernel⟩
theorem ok_TH {f f1 f2 f3 f4 f5 f6 f7 : Addr} {fd fd1 fd2 fd3 fd4 fd5 fd6 fd7 : FuncData} (F : FnS K "_law_through_holds" s_law_through_holds f fd) (B : Blt5 mg) (CD : Cal P w K mg base 1 "_law_draw" f1 fd1 ["pool", "many"] spDr) (CA : Cal P w K mg base 2 "_law_as" f2 fd2 ["pool", "row"] spAs)
    (CV : Cal P w K mg base 1 "_law_value" f3 fd3 ["p", "coefficients", "point"] spVl) (CT : Cal P w K mg base 9 "polynomial_through" f4 fd4 ["p", "points", "values"] (spTh K)) (CSm : Cal P w K mg base 2 "_law_same" f5 fd5 ["told", "due"] (spSmP (Lk 1)))
    (CP : Cal P w K mg base 2 "_law_points" f6 fd6 ["pool", "p"] spPt) (CVH : Cal P w K mg base 5 "_law_values_hold" f7 fd7 ["pool", "p", "coefficients"] spVH)
    (bT : KBn K fd4 ["p", "points", "values"] 1 ["points", "values"] (fun us ws => us ++ ws) (fun vs zs => vs ++ zs)) :
    FnOk P w K mg base (L2.CX P w) 10 f fd ["pool", "p"] spTH := by
  refine F.ok scTH (fun vs H Q E h => ?_) (fun cdv A outer s H vs Q E hr h => ?_)
  · obtain ⟨a, p, rfl, _⟩ := h
    rfl
  · obtain ⟨a, p, rfl, hp, hm, kk⟩ := h
    have nd := scTH.nd
    have p2 := fld_le hm
    have nf : ¬ isFld (.int p) = false := fun z => by rw [mem_fld hm] at z; cases z
    refine ⟨_, (pss_cons (ps_set (i := 2) nd rfl (Or.inl rfl) (pe_cal CP (hr.mono (by decide)) (pa_cons (pv 0) (pa_cons (pv 1) pa_nil)) passU))
      (pss_cons (ps_set (i := 3) nd rfl (Or.inr rfl) (pe_lc (own := [("k", 9)]) (g := gName 9) (by rfl) nd (pi_listK (K := K) (pv 2)) (blkOk_by (own := [("k", 9)]) (N := ["pool", "p", "points", "drawn", "values", "places", "letters", "told", "letter", "k", "again", "point"]) (sc := defScope s_law_through_holds) (by decide +kernel)) (fun _ _ _ _ _ => (pg_name (i := 9) nd rfl (Or.inl rfl))) (fun _ _ _ _ _ => pts_nil) (fun _ _ _ _ _ => (pe_cal CD (hr.mono (by decide)) (pa_cons (pv 0) (pa_cons (pv 1) pa_nil)) passU))))
      (pss_cons (ps_set (i := 4) nd rfl (Or.inl rfl) (pe_callTy (list_ofK (K := K)) (by rfl) B.lst (by decide +kernel) (pa_cons (pv 3) pa_nil)))
      (pss_cons (ps_wk (ps_if (pt_cmpR op_eq (pe_cal CD (hr.mono (by decide)) (pa_cons (pv 0) (pa_cons pe_int pa_nil)) passU) pe_int (nomark _)) (pss_one (ps_setLc (i := 4) (own := [("point", 11)]) (g := gName 11) (by rfl) nd rfl rfl (sw_true rfl rfl rfl (by decide +kernel)) (pi_listK (K := K) (pv 2)) (blkOk_by (own := [("point", 11)]) (N := ["pool", "p", "points", "drawn", "values", "places", "letters", "told", "letter", "k", "again", "point"]) (sc := defScope s_law_through_holds) (by decide +kernel)) (fun _ _ _ _ _ => (pg_name (i := 11) nd rfl (Or.inl rfl))) (fun _ _ _ _ _ => pts_nil) (fun _ _ _ _ _ => (pe_cal CV (hr.mono (by decide)) (pa_cons (pv 1) (pa_cons (pv 3) (pa_cons (pv 11) pa_nil))) passU)))) pss_nil))
      (pss_cons (ps_set (i := 5) nd rfl (Or.inl rfl) (pe_cal CA (hr.mono (by decide)) (pa_cons (pv 0) (pa_cons (pv 2) pa_nil)) passU))
      (pss_cons (ps_set (i := 6) nd rfl (Or.inl rfl) (pe_cal CA (hr.mono (by decide)) (pa_cons (pv 0) (pa_cons (pv 4) pa_nil)) passU))
      (pss_cons (ps_set (i := 7) nd rfl (Or.inl rfl) (pe_cal (E := E0) CT (hr.mono (by decide)) (pa_cons (pv 1) (pa_cons (pv 5) (pa_cons (pv 6) pa_nil))) passU))
      (pss_cons (ps_if (PW.pt (pw_or (pt_not (pt_val (pe_callB (isiK (K := K)) (by rfl) B.isi (by decide +kernel) (pa_cons (pv 7) (pa_cons (pe_bltn (v := .ty "tuple") (by rfl) B.tuple (by decide +kernel) rfl) pa_nil))))) (pw_or1 (pt_cmpR op_ne (pe_callB (len_seqK (K := K)) (by rfl) B.len (by decide +kernel) (pa_cons (pv 7) pa_nil)) (pe_callB (len_seqK (K := K)) (by rfl) B.len (by decide +kernel) (pa_cons (pv 2) pa_nil)) (nomark _))))) (pss_one (ps_ret pe_bl)) pss_nil)
      (pss_cons (ps_for (passes_of rfl) rfl (pi_tupK (K := K) (pv 7)) (pg_name (i := 8) nd rfl (Or.inl rfl)) (pss_one (ps_if (PW.pt (pw_or (pt_not (pt_val (pe_callB (isiK (K := K)) (by rfl) B.isi (by decide +kernel) (pa_cons (pv 8) (pa_cons (pe_bltn (v := .ty "int") (by rfl) B.int (by decide +kernel) rfl) pa_nil))))) (pw_or (pt_val (pe_callB (isiK (K := K)) (by rfl) B.isi (by decide +kernel) (pa_cons (pv 8) (pa_cons (pe_bltn (v := .ty "bool") (by rfl) B.bool (by decide +kernel) rfl) pa_nil)))) (pw_or (pt_cmpR op_lt (pv 8) pe_int (nomark _)) (pw_or1 (pt_cmpR op_ge (pv 8) (pv 1) (nomark _))))))) (pss_one (ps_ret pe_bl)) pss_nil)))
      (pss_cons (ps_for (passes_of rfl) rfl (pi_range1 rfl B.range (pa_cons (pe_callB (len_seqK (K := K)) (by rfl) B.len (by decide +kernel) (pa_cons (pv 2) pa_nil)) pa_nil)) (pg_name (i := 9) nd rfl (Or.inl rfl)) (pss_one (ps_if (pt_cmpR op_ne (pe_cal CV (hr.mono (by decide)) (pa_cons (pv 1) (pa_cons (pv 7) (pa_cons (pe_ix (ix_listK (K := K)) (pv 2) (pv 9) (fun _ _ => rfl)) pa_nil))) passU) (pe_ix (ix_listK (K := K)) (pv 4) (pv 9) (fun _ _ => rfl)) (nomark _)) (pss_one (ps_ret pe_bl)) pss_nil)))
      (pss_cons (ps_set (i := 10) nd rfl (Or.inl rfl) (pe_calN CT (hr.mono (by decide)) bT (pa_cons (pv 1) pa_nil) (pk_cons (pv 5) (pk_cons (pv 6) pk_nil)) passU))
      (pss_cons (ps_if (PW.pt (pw_or (pt_not (pt_val (pe_cal CSm (hr.mono (by decide)) (pa_cons (pv 10) (pa_cons (pv 7) pa_nil)) passU))) (pw_or (pt_not (pt_val (pe_cal CSm (hr.mono (by decide)) (pa_cons (pe_callTy (list_ofK (K := K)) (by rfl) B.lst (by decide +kernel) (pa_cons (pv 5) pa_nil)) (pa_cons (pv 2) pa_nil)) passU))) (pw_or1 (pt_not (pt_val (pe_cal CSm (hr.mono (by decide)) (pa_cons (pe_callTy (list_ofK (K := K)) (by rfl) B.lst (by decide +kernel) (pa_cons (pv 6) pa_nil)) (pa_cons (pv 4) pa_nil)) passU))))))) (pss_one (ps_ret pe_bl)) pss_nil)
      (pss_one (ps_ret (pe_cal CVH (hr.mono (by decide)) (pa_cons (pv 0) (pa_cons (pv 1) (pa_cons (pv 7) pa_nil))) passU))))))))))))))), ?_⟩
    refine ⟨_, rfl, _, rfl, a, p, rfl, hp, hm, fun y pts H1 hpt ey ny p1 k1 => ?_⟩
    obtain ⟨pnd, pbd, pl0, pl12⟩ := hpt
    refine ⟨_, rfl, y, rfl, ⟨_, SqL.of ey⟩, fun D hD => lc_list (K := K) (a := y) (xs := pts.map V.int) (fun i H' => Drn a p H1 D i H') (Drn.start p1 hD) (fun i H' _ dr => by
      obtain ⟨_, _, _, _, _, kq⟩ := dr
      exact SqL.of (kq _ _ ny ey)) ?_ ?_⟩
    · intro i x H' hi dr
      have hl : i < pts.length := by
        have := (List.getElem?_eq_some_iff.mp hi).1
        simpa using this
      obtain ⟨_, _, _, _, pq, _⟩ := id dr
      exact ⟨rfl, _, rfl, _, rfl, a, p, rfl, pq, by omega, fun r H'' r0 r1 p'' k'' => dr.put hD (p1.ne hD).symm (by omega) p'' k'' r0 r1⟩
    · rintro H2 ⟨ds, eD, ld, bd, p2', k2⟩
      rw [List.length_map] at ld
      have nD := (p1.ne hD).symm
      refine ⟨_, rfl, D, _, rfl, .inl (SqL.of eD), fun V0 hV => ?_⟩
      have s3 := same_new (o := .lst (ds.map V.int)) hV
      have eV : upd H2 V0 (.lst (ds.map V.int)) V0 = some (.lst (ds.map V.int)) := upd_same
      have nV := (p2'.ne hV).symm
      have ey := s3 _ _ (k2 _ _ ny ey)
      have eD := s3 _ _ eD
      have p3 := p2'.same s3
      have k3 := k1.trans (k2.trans (Keep.of s3))
      generalize upd H2 V0 (.lst (ds.map V.int)) = H3 at s3 eV ey eD p3 k3 ⊢
      refine ⟨fun σ H' => ∃ (V1 : Addr) (vs : List Int), σ = [some (.ref a), some (.int p), some (.ref y), some (.ref D), some (.ref V1), none, none, none, none, none, none, none] ∧ H' V1 = some (.lst (vs.map V.int)) ∧ V1 ≠ a ∧ vs.length = pts.length ∧ (∀ v ∈ vs, 0 ≤ v ∧ v < p) ∧ PoolA H' a ∧ Keep a H3 H', ?_, ?_⟩
      · refine ⟨_, rfl, a, _, rfl, p3, by decide, fun r H4 r0 r1 p4 k4 => ?_⟩
        refine ⟨rfl, _, rfl, iteD (fun _ => ?_) (fun _ => ⟨V0, ds, rfl, k4 _ _ nV eV, nV, ld, bd, p4, k4⟩)⟩
        have ey := k4 _ _ ny ey
        have eD := k4 _ _ nD eD
        refine ⟨_, rfl, y, rfl, ⟨_, SqL.of ey⟩, fun D2 hD2 => lc_list (K := K) (a := y) (xs := pts.map V.int) (fun i H' => Bld FI H4 D2 ((List.range i).map fun k => hor p ds (at0 pts k)) H') (Bld.start hD2) (fun i H' _ b => SqL.of (b.same _ _ ey)) ?_ ?_⟩
        · intro i x H5 hi b
          have hl : i < pts.length := by
            have := (List.getElem?_eq_some_iff.mp hi).1
            simpa using this
          cases (take_map_at pts.length (r := pts) (i := i) hl).symm.trans hi
          have tb := pbd (at0 pts i) (by rw [at0_lt hl]; exact List.getElem_mem hl)
          refine ⟨rfl, _, rfl, _, rfl, _, rfl, p, at0 pts i, D, ds, rfl, .inl (b.same _ _ eD), ⟨by omega, by omega, tb.1, tb.2⟩, by omega, ?_⟩
          have er : ((List.range (i + 1)).map fun k => hor p ds (at0 pts k)) = ((List.range i).map fun k => hor p ds (at0 pts k)) ++ [hor p ds (at0 pts i)] := map_range_succ (f := fun k => hor p ds (at0 pts k)) (i := i)
          have r := b.put (H' := H5) (y := .int (hor p ds (at0 pts i))) (z := hor p ds (at0 pts i)) stab_FI hD2 (Same.refl _) rfl (by intro z; cases z) (by rw [List.length_map, List.length_range]; exact small1000 (by omega))
          rw [← er] at r
          exact r
        · intro H5 b
          obtain ⟨s5, zs, eD2, py⟩ := b.fin
          rw [fi_map py, List.length_map] at eD2
          refine ⟨D2, _, rfl, eD2, (p4.ne hD2).symm, by rw [List.length_map, List.length_range], fun v hv => ?_, p4.same s5, k4.trans (Keep.of s5)⟩
          obtain ⟨j, _, rfl⟩ := List.mem_map.mp hv
          exact hor_bd (by omega) _ _
      · rintro σ H4 ⟨V1, vs, rfl, eV, nV, vl, vb, p4, k4⟩
        have ey := k4 _ _ ny ey
        have k4 := k3.trans k4
        refine ⟨_, rfl, _, rfl, a, y, _, rfl, p4, .inl ey, ny, fun d1 H5 h1 n1 p5 k5 => ?_⟩
        have ey := k5 _ _ ny ey
        have eV := k5 _ _ nV eV
        refine ⟨_, rfl, _, rfl, a, V1, _, rfl, p5, .inl eV, nV, fun d2 H6 h2 n2 p6 k6 => ?_⟩
        have ey := k6 _ _ ny ey
        have eV := k6 _ _ nV eV
        have h1 := h1.keepP p5 n1 k6
        have k6 := k4.trans (k5.trans k6)
        have hb : Ltr p pts.length vs := ⟨vl, vb⟩
        refine ⟨_, rfl, _, rfl, _, rfl, _, _, _, rfl, ty3_int p, fun z => absurd z nf, fun p' e _ => ?_⟩
        cases e
        refine ⟨pts, vs, ⟨d1, rfl, h1⟩, ⟨d2, rfl, h2⟩, pbd, pnd, hb, by omega, fun y7 x H7 s7 hx sx => ?_⟩
        obtain ⟨⟨xl, xb⟩, xe⟩ := solX_ok hm hb sx
        obtain ⟨T, rfl, hT⟩ := id hx
        have p7 := p6.same s7
        have ey := s7 _ _ ey
        have eV := s7 _ _ eV
        have h1 := h1.same' s7
        have h2 := h2.same' s7
        have k7 := k6.trans (Keep.of s7)
        have nT : T ≠ a := by
          obtain ⟨ns, en, _⟩ := id p7
          rcases hT with h | ⟨o, h⟩
          · exact ne_of h en (by intro z; cases z)
          · exact ne_of h en (by intro z; cases z)
        have el : (x.map V.int).length = (pts.map V.int).length := by rw [List.length_map, List.length_map, xl]
        have lp : (pts.map V.int).length = pts.length := List.length_map _
        refine ⟨_, rfl, _, _, _, _, _, rfl, .ty "tuple", sqT_ty (sqT hT), kit_ty (show kitB "tuple" "tuple" = some true by decide +kernel), _, rfl, iteF ?_⟩
        refine ⟨_, rfl, T, _, rfl, .inr (sqT hT), _, rfl, y, _, rfl, .inl (SqL.of ey), rfl, _, rfl, iteFb (by rw [decide_eq_true (congrArg (fun n : Nat => V.int n) el)]; rfl) ?_⟩
        refine ⟨_, rfl, T, rfl, ⟨_, sqT hT⟩, for_tup (K := K) (a := T) (xs := x.map V.int) (fun i σ H' => ∃ v8, σ = [some (.ref a), some (.int p), some (.ref y), some (.ref D), some (.ref V1), some (.ref d1), some (.ref d2), some (.ref T), v8, none, none, none] ∧ H7 = H') ⟨none, rfl, rfl⟩ (fun i σ H' _ ⟨_, _, e⟩ => e ▸ sqT hT) ?_ ?_⟩
        · rintro i z σ H' hz ⟨v8, rfl, rfl⟩
          have hi : i < x.length := by
            have := (List.getElem?_eq_some_iff.mp hz).1
            simpa using this
          cases (take_map_at x.length (r := x) (i := i) hi).symm.trans hz
          have tb := xb (at0 x i) (by rw [at0_lt hi]; exact List.getElem_mem hi)
          refine ⟨_, rfl, _, _, _, _, _, rfl, .ty "int", .base (.int _), kit_ty (show kitB "int" "int" = some true by decide +kernel), _, rfl, iteF ?_⟩
          refine ⟨_, rfl, _, _, _, _, _, rfl, .ty "bool", .base (.int _), kit_ty (show kitB "int" "bool" = some false by decide +kernel), _, rfl, iteF ?_⟩
          refine ⟨_, rfl, _, _, rfl, rfl, _, rfl, iteFb (decide_eq_false (by omega)) ?_⟩
          exact ⟨_, rfl, _, rfl, _, _, rfl, rfl, _, rfl, iteFb (decide_eq_false (by omega)) ⟨_, rfl, rfl⟩⟩
        · rintro σ H' ⟨v8, rfl, rfl⟩
          refine ⟨_, rfl, y, _, rfl, .inl (SqL.of ey), (((pts.map V.int).length : Nat) : Int), rfl, by omega, by omega, for_range (lo := 0) (n := (pts.map V.int).length) (fun i σ H' => ∃ v9, σ = [some (.ref a), some (.int p), some (.ref y), some (.ref D), some (.ref V1), some (.ref d1), some (.ref d2), some (.ref T), v8, v9, none, none] ∧ H7 = H') ⟨none, rfl, rfl⟩ ?_ ?_⟩
          · rintro i σ H' hi ⟨v9, rfl, rfl⟩
            rw [lp] at hi
            have tb := pbd (at0 pts i) (by rw [at0_lt hi]; exact List.getElem_mem hi)
            refine ⟨_, rfl, _, rfl, _, rfl, _, rfl, y, _, _, _, rfl, rfl, SqL.of ey, (by rw [Int.zero_add]; exact atI_nat (take_map_at pts.length hi)), p, at0 pts i, T, x, rfl, .inr hT, ⟨by omega, by omega, tb.1, tb.2⟩, by omega, ?_⟩
            refine ⟨_, rfl, _, rfl, V1, _, _, _, rfl, rfl, SqL.of eV, (by rw [Int.zero_add]; exact atI_nat (take_map_at vs.length (by omega))), rfl, _, rfl, iteFb (by rw [xe i hi, decide_eq_true rfl]; rfl) ⟨_, rfl, rfl⟩⟩
          · rintro σ H' ⟨v9, rfl, rfl⟩
            refine ⟨_, rfl, _, rfl, _, rfl, rfl, rfl, _, _, _, rfl, ty3_int p, fun z => absurd z nf, fun p' e _ => ?_⟩
            cases e
            refine ⟨pts, vs, ⟨d1, rfl, h1⟩, ⟨d2, rfl, h2⟩, pbd, pnd, hb, by omega, fun y10 x' H8 s8 hx' sx' => ?_⟩
            cases solX_one sx' sx
            refine ⟨_, rfl, _, rfl, _, _, rfl, lk_tups hx' (hx.same s8) (by omega), fun H9 s9 => ⟨_, rfl, iteF ?_⟩⟩
            have s9 := s8.trans s9
            refine ⟨_, rfl, d1, _, rfl, (h1.same' s9).len, fun l1 hl1 => ?_⟩
            have s10 := s9.trans (same_new (o := .lst (pts.map V.int)) hl1)
            refine ⟨_, rfl, _, _, rfl, lk_lsts upd_same (s10 _ _ ey) (by omega), fun H11 s11 => ⟨_, rfl, iteF ?_⟩⟩
            have s11 := s10.trans s11
            refine ⟨_, rfl, d2, _, rfl, (h2.same' s11).len, fun l2 hl2 => ?_⟩
            have s12 := s11.trans (same_new (o := .lst (vs.map V.int)) hl2)
            refine ⟨_, rfl, _, _, rfl, lk_lsts upd_same (s12 _ _ eV) (by omega), fun H13 s13 => ⟨_, rfl, iteF ?_⟩⟩
            have s13 := s12.trans s13
            exact ⟨_, rfl, _, rfl, _, rfl, a, T, p, x, rfl, p7.same s13, hm, .inr (rd_same s13 hT), nT, xb, by omega, fun H' p' k' => kk H' p' ((k7.trans (Keep.of s13)).trans k')⟩
end
end WU

set_option maxRecDepth 100000
set_option maxHeartbeats 8000000
namespace WU
open PySem PySem.Spec PyProof.Rows L2
def spOne (K : PySem.W.Frag) (C : Addr) (f : Str) : Sp := fun vs H Q _ => ∃ (a : Addr) (y : V), vs = [.ref a, y] ∧ OexC K C ∧ PySem.W.findIn K (.ref C) f = some none ∧ H a = some (exo a C none) ∧
  ∀ dx H', H dx = none → dx ≠ a → H' a = some (exo a C (some dx)) → H' dx = some (exd dx [(f, y)]) → (∀ b, b ≠ a → b ≠ dx → H' b = H b) → Q .non H'
section
variable {X : Cx} {k : Nat} {x f : Str} {fd : FuncData} {q : Str} {e : Expr} {ta : TA} {p pos pos2 : Pos}
/-- as pmk_1, where the exception's context is told too -/
theorem pmk_1N (T : Exc1 X.K X.mg x f) (F : FnOk X.prog X.w X.K X.mg X.base (L2.CX X.prog X.w) k (He.ma X.K (He.ga X.K x) "__init__") fd ["self", q] (spInit1 X.K (He.ga X.K x) f)) (hb : Binds X.K fd ["self", q] [])
    (hr : Room (k + 1) X.A) (ha : PA X [e] ta) (hg : Gl X x := by rfl) (hdb : (x == ("__debug__" : Str)) = false := by decide)
    (he : starEach (e :: []) X.env = (false, eval e X.env) :: starEach [] X.env := by rfl) (hpl : (backTo pos (starEach [] X.env)).any (·.1) = false := by rfl) :
    L2N.PMk X (.Call (.Name x p) [e] [] pos) (tMk1 (He.ga X.K x) f ta) := by
  have Fn : FnOk X.prog X.w X.K X.mg X.base (L2.CX X.prog X.w) k (He.ma X.K (He.ga X.K x) "__init__") fd ["self", q] (spOne X.K (He.ga X.K x) f) := F.imp fun vs H Q E ⟨a, y, e1, hC, hno, h1, kq⟩ =>
    ⟨a, y, e1, hC, hno, h1, fun dx n ne => kq dx _ n ne upd_same (by rw [upd_ne ne, upd_same]) fun b b1 b2 => by rw [upd_ne b1, upd_ne b2]⟩
  intro pins s σ H Q I h
  obtain ⟨nm, q', N, bs, bm, sn, sub, ab, col, dd, k0, k1, k2, k3, k5, hC, hbm⟩ := T.oex.cls
  refine wpAny_Call_Name_kw (ld_glob I hg T.glob ?_ hdb)
  refine PySem.W.callWith_K (h₀ := X.base) I.ok.mod.kin T.oex.kC (thn (ha.run pos pins s σ H _ I h) fun us s1 ⟨vs, H1, J, r1, y, hz, q1⟩ => ⟨J.kIn, ?_⟩) he hpl
  subst hz
  show wpAny _ _ (call (.ref (He.ga X.K x)) us) _ _ _
  obtain ⟨hp, g0, dr, tk0, os⟩ := s1
  have hsz : hp.objs.size ≤ hp.objs.size + 1 := Nat.le_succ _
  have hn : H1 (hp.objs.size + 1) = none := J.hok.fresh hsz
  have hget : ((hp.push (PySem.W.kdv_tup us)).push (PySem.HandSPX.excO (He.ga X.K x) hp.objs.size)).get? (hp.objs.size + 1) = some (PySem.HandSPX.excO (He.ga X.K x) hp.objs.size) := by heap_get
  have kk : ∀ b o, hp.get? b = some o → ((hp.push (PySem.W.kdv_tup us)).push (PySem.HandSPX.excO (He.ga X.K x) hp.objs.size)).get? b = some o := fun b o z => Heap.get?_push_of_some _ (Heap.get?_push_of_some _ z)
  have J2 : Inv X pins σ (upd H1 (hp.objs.size + 1) (exo (hp.objs.size + 1) (He.ga X.K x) none)) ⟨(hp.push (PySem.W.kdv_tup us)).push (PySem.HandSPX.excO (He.ga X.K x) hp.objs.size), g0, dr, tk0, os⟩ :=
    J.laid (t' := tk0) kk hsz (exo_ok hget)
  have r2 : Vals (V.ref (hp.objs.size + 1) :: [y]) (Value.ref (hp.objs.size + 1) :: us) := .cons rfl r1
  have hl : (Value.ref (hp.objs.size + 1) :: us ++ []).length = (("self" : Str) :: [q]).length := by
    rw [List.append_nil, ← r2.length]
    rfl
  have hus : us.length ≤ sizeLine := by
    rw [← Paired.length r1, sizeLine_eq]
    show 1 ≤ _
    omega
  have b := hb ⟨(hp.push (PySem.W.kdv_tup us)).push (PySem.HandSPX.excO (He.ga X.K x) hp.objs.size), g0, dr, tk0, os⟩ (Value.ref (hp.objs.size + 1) :: us) J2.kIn hl
  rw [List.append_nil] at b
  have hsp : spOne X.K (He.ga X.K x) f [V.ref (hp.objs.size + 1), y] (upd H1 (hp.objs.size + 1) (exo (hp.objs.size + 1) (He.ga X.K x) none)) (fun v H2 => v = .non ∧ ∃ d : Addr, H2 (hp.objs.size + 1) = some (exo (hp.objs.size + 1) (He.ga X.K x) (some d)) ∧ H2 d = some (exd d [(f, y)]) ∧ H1 d = none ∧
      Q (.ref (He.ga X.K x)) (some d) (upd (del H2 (hp.objs.size + 1)) d (.xd [(f, y)]))) (fun _ _ _ => False) := by
    refine ⟨_, y, rfl, T.oex, T.no, upd_same, fun dx H' n hne ea ed fr => ⟨rfl, dx, ea, ed, by rw [upd_ne hne] at n; exact n, q1 dx _ (fun b o z => ?_) (by rw [upd_ne hne] at n; exact n) upd_same⟩⟩
    have n1 : b ≠ dx := ne_of_none z (by rw [upd_ne hne] at n; exact n)
    have n2 : b ≠ hp.objs.size + 1 := ne_of_none z hn
    rw [upd_ne n1, del_ne n2, fr b n2 n1, upd_ne n2]
    exact z
  refine wpAny_call (PySem.HandSPX.call_own PySem.F.excBase_ValueError (fun Y => PySem.HandSPX.refsVE_contains Y bm hbm) (J.kIn _ _ hC) (PySem.W.looks_findIn J.kIn T.init) (fun self => PySem.W.bind_fn J.kIn self T.tI) hus
    (codeAny_mono (Fn.run _ X.stack _ _ ⟨Value.ref (hp.objs.size + 1) :: us, []⟩ _ _ _ (fun _ _ _ => False) (hr.make (He.ga X.K x) us []) (J2.env0.make (He.ga X.K x) us []) b r2 hsp) fun r s' hq' => ?_))
  cases r with
  | error er => exact passU pins σ _ _ er s' J2 hq'
  | ok fl =>
    cases fl with
    | ret u =>
      obtain ⟨v, H2, os2, bare2, un2, hok2, rv, ev, d, ea, ed, hd1, q2⟩ := hq'
      subst ev
      obtain ⟨h2, g2, d2, t2, os'⟩ := s'
      obtain ⟨t0, G, Y, kG, ge, hoe, na⟩ := mk_end0 (d2 := d2) (t2 := t2) J hsz kk un2 hok2 os2 bare2 ea ed hd1
      exact ⟨rv, ⟨hp.objs.size + 1, _, _, ⟨G, g2, d2, t2, os'⟩, _, .ref (He.ga X.K x), some d, rfl, Y, kG, ge, hoe, ⟨rfl, rfl, fun vs hv => by cases hv; rfl⟩, rfl, rfl, na, rfl, bare2, raises_own T.oex.exC T.oex.tyC, q2⟩⟩
    | next => exact False.elim hq'
    | brk => exact False.elim hq'
    | cont => exact False.elim hq'
end
end WU

set_option maxRecDepth 100000
set_option maxHeartbeats 8000000
namespace WU
open PySem PySem.Spec PyProof.Rows L2
structure CalN (P : Program) (w : World) (K : PySem.W.Frag) (mg : Str → Option Value) (base : Heap) (k : Nat) (x : Str) (f : Addr) (fd : FuncData) (ps : List Str) (sp : Sp) : Prop where
  glob : mg x = some (.ref f)
  kp : PySem.W.keepIn K (.ref f) = true
  binds : L2.Binds K fd ps []
  ok : FnOk P w K mg base (L2N.CX P w) k f fd ps sp
structure CalP (P : Program) (w : World) (K : PySem.W.Frag) (mg : Str → Option Value) (base : Heap) (k : Nat) (x : Str) (f : Addr) (fd : FuncData) (ps : List Str) (sp : Addr → Value → Option Addr → Sp) : Prop where
  glob : mg x = some (.ref f)
  kp : PySem.W.keepIn K (.ref f) = true
  binds : L2.Binds K fd ps []
  ok : FnP P w K mg base (L2.CX P w) k f fd ps sp
theorem pe_calP {X : Cx} {k : Nat} {x : Str} {f : Addr} {fd : FuncData} {ps : List Str} {sp : Addr → Value → Option Addr → Sp} {a : Addr} {oe : Obj} {cls : Value} {d : Option Addr} {e : Expr} {es : List Expr} {t : TA} {q pos : Pos} (C : CalP X.prog X.w X.K X.mg X.base k x f fd ps sp) (hz : Zc cls d oe) (ha : PA X (e :: es) t)
    (hr : L2H.RoomH k X.A) (hot : L2H.Hot1 X.A (a, oe)) (hp : (a, oe) ∈ X.pn) (hg : Gl X x := by rfl) (hdb : (x == ("__debug__" : Str)) = false := by decide) (he : starEach (e :: es) X.env = (false, eval e X.env) :: starEach es X.env := by rfl) (hpl : (backTo pos (starEach es X.env)).any (·.1) = false := by rfl) :
    PE X (.Call (.Name x q) (e :: es) [] pos) (tCallP sp a cls d (fun _ => E0) t) :=
  pe_callP (p := (a, oe)) C.ok hr hot hz hp hg C.glob C.kp C.binds (fun _ _ _ _ _ _ _ ⟨_, _, _, _, _, _, _, _, _, _, _, _, z⟩ => z.elim) ha hdb he hpl
section
variable {P : Program} {w : World} {K : PySem.W.Frag} {mg : Str → Option Value} {base : Heap}
/-- what is no field is refused: n more arguments -/
def spNo (K : PySem.W.Frag) (n : Nat) : Sp := fun vs H Q E => ∃ v rest, vs = v :: rest ∧ rest.length = n ∧ Ty3 K H v ∧ isFld v = false ∧ Errs (He.ga K "InvalidNumber") "value" v H E
theorem ok_ckN {f f1 : Addr} {fd fd1 fdI : FuncData} (F : FnS K "check_field" sCheck f fd) (C1 : Cal P w K mg base 2 "is_field" f1 fd1 ["p"] (spIsFld K)) (T : Exc1 K mg "InvalidNumber" "value")
    (FI : FnOk P w K mg base (L2.CX P w) 1 (He.ma K (He.ga K "InvalidNumber") "__init__") fdI ["self", "value"] (spInit1 K (He.ga K "InvalidNumber") "value")) (bI : Binds K fdI ["self", "value"] []) :
    FnOk P w K mg base (L2N.CX P w) 3 f fd ["p"] (spNo K 0) := by
  refine F.ok scCheck (fun vs H Q E h => ?_) (fun cdv A outer s H vs Q E hr h => ?_)
  · obtain ⟨v, rest, rfl, l, _⟩ := h
    rw [List.length_cons, l]
    rfl
  · obtain ⟨v, rest, rfl, l, ht, e, kN⟩ := h
    cases List.length_eq_zero_iff.mp l
    refine ⟨_, pss_one (ps_if (pt_not (pt_val (pe_cal C1 hr (pa_cons (pv 0) pa_nil) passU))) (pss_one (L2N.ps_raise rfl (L2N.takes_of rfl rfl rfl rfl) (pmk_1N T FI bI hr (pa_cons (pv 0) pa_nil)))) pss_nil), ?_⟩
    refine ⟨_, rfl, v, rfl, ht, _, rfl, ?_⟩
    rw [e]
    exact iteT ⟨_, rfl, v, rfl, kN⟩
theorem takeN {X : Cx} {E : XK} (tk : L2N.Takes X (fun cls d _ H => E cls d H)) : ∀ σ, PassesAt (L2N.CX X.prog X.w) X σ E := fun σ pins H s e s' I c => L2N.passes_call tk (fun _ _ _ _ h => h) pins σ H s e s' I c
theorem ok_ThN {f f1 : Addr} {fd fd1 : FuncData} (F : FnS K "polynomial_through" s_polynomial_through f fd) (C : CalN P w K mg base 3 "check_field" f1 fd1 ["p"] (spNo K 0)) : FnOk P w K mg base (L2N.CX P w) 4 f fd ["p", "points", "values"] (spNo K 2) := by
  refine F.ok scTh (fun vs H Q E h => ?_) (fun cdv A outer s H vs Q E hr h => ?_)
  · obtain ⟨v, rest, rfl, l, _⟩ := h
    rw [List.length_cons, l]
    rfl
  · obtain ⟨v, rest, rfl, l, ht, e, kN⟩ := h
    match rest, l with
    | [u1, u2], _ =>
      refine ⟨_, pss_cons (ps_expr (pe_callS (E := fun _ => E) C.ok hr rfl C.glob C.kp C.binds (takeN (L2N.takes_of rfl rfl rfl rfl)) (pa_cons (pv 0) pa_nil))) pss_never, ?_⟩
      exact ⟨_, rfl, v, [], rfl, rfl, ht, e, kN⟩
theorem ok_VAN {f f1 : Addr} {fd fd1 : FuncData} (F : FnS K "value_at" s_value_at f fd) (C : CalN P w K mg base 3 "check_field" f1 fd1 ["p"] (spNo K 0)) : FnOk P w K mg base (L2N.CX P w) 4 f fd ["p", "coefficients", "point"] (spNo K 2) := by
  refine F.ok scVA (fun vs H Q E h => ?_) (fun cdv A outer s H vs Q E hr h => ?_)
  · obtain ⟨v, rest, rfl, l, _⟩ := h
    rw [List.length_cons, l]
    rfl
  · obtain ⟨v, rest, rfl, l, ht, e, kN⟩ := h
    match rest, l with
    | [u1, u2], _ =>
      refine ⟨_, pss_cons (ps_expr (pe_callS (E := fun _ => E) C.ok hr rfl C.glob C.kp C.binds (takeN (L2N.takes_of rfl rfl rfl rfl)) (pa_cons (pv 0) pa_nil))) pss_never, ?_⟩
      exact ⟨_, rfl, v, [], rfl, rfl, ht, e, kN⟩
theorem scNr : FnScope ["p", "points", "values", "size", "wrong", "rows", "faults", "solved", "found", "powers", "letter"] ["p", "points", "values", "size", "wrong"] (defScope s_polynomial_near) := ⟨rfl, rfl, rfl, by decide +kernel, rfl, by decide +kernel, by decide +kernel⟩
theorem ok_NrN {f f1 : Addr} {fd fd1 : FuncData} (F : FnS K "polynomial_near" s_polynomial_near f fd) (C : CalN P w K mg base 3 "check_field" f1 fd1 ["p"] (spNo K 0)) : FnOk P w K mg base (L2N.CX P w) 4 f fd ["p", "points", "values", "size", "wrong"] (spNo K 4) := by
  refine F.ok scNr (fun vs H Q E h => ?_) (fun cdv A outer s H vs Q E hr h => ?_)
  · obtain ⟨v, rest, rfl, l, _⟩ := h
    rw [List.length_cons, l]
    rfl
  · obtain ⟨v, rest, rfl, l, ht, e, kN⟩ := h
    match rest, l with
    | [u1, u2, u3, u4], _ =>
      refine ⟨_, pss_cons (ps_expr (pe_callS (E := fun _ => E) C.ok hr rfl C.glob C.kp C.binds (takeN (L2N.takes_of rfl rfl rfl rfl)) (pa_cons (pv 0) pa_nil))) pss_never, ?_⟩
      exact ⟨_, rfl, v, [], rfl, rfl, ht, e, kN⟩
end
end WU

set_option maxRecDepth 100000
set_option maxHeartbeats 8000000
namespace WU
open PySem PySem.Spec PyProof.Rows L2
theorem pe_calNS {X : Cx} {k : Nat} {x : Str} {f : Addr} {fd : FuncData} {ps : List Str} {sp : Sp} {W : WX} {e : Expr} {es : List Expr} {t : TA} {q pos : Pos} (C : CalN X.prog X.w X.K X.mg X.base k x f fd ps sp) (hr : Room k X.A) (tk : L2N.Takes X W) (ha : PA X (e :: es) t) (hg : Gl X x := by rfl)
    (hdb : (x == ("__debug__" : Str)) = false := by decide) (he : starEach (e :: es) X.env = (false, eval e X.env) :: starEach es X.env := by rfl) (hpl : (backTo pos (starEach es X.env)).any (·.1) = false := by rfl) :
    PE X (.Call (.Name x q) (e :: es) [] pos) (tCallS sp (WE W) t) := pe_callS C.ok hr hg C.glob C.kp C.binds (fun σ => L2N.passAt tk σ) ha hdb he hpl
section
variable {P : Program} {w : World} {K : PySem.W.Frag} {mg : Str → Option Value} {base : Heap}
theorem Ty3.same {H H' : Hp} {v : V} (h : Ty3 K H v) (s : Same H H') : Ty3 K H' v := by
  obtain ⟨t, ht, h1, h2⟩ := h
  refine ⟨t, ?_, h1, h2⟩
  cases ht with
  | base b =>
    refine .base ?_
    cases b with
    | non => exact .non
    | bl x => exact .bl x
    | int i => exact .int i
    | str x => exact .str x
    | flt x => exact .flt x
    | lst e => exact .lst (s _ _ e)
    | frz e => exact .frz (s _ _ e)
    | tup e => exact .tup (s _ _ e)
    | dK e => exact .dK (s _ _ e)
    | dT e => exact .dT (s _ _ e)
    | ins e cl ha hn htk hm => exact .ins (s _ _ e) cl ha hn htk hm
  | byt b => exact .byt b
  | set e => exact .set (s _ _ e)
  | kList e c => exact .kList e c
  | kTuple e c => exact .kTuple e c
  | kDict e c => exact .kDict e c
  | fTuple e => exact .fTuple (s _ _ e)
  | fDict e => exact .fDict (s _ _ e)
def spRf (K : PySem.W.Frag) : Sp := fun vs H Q _ => ∃ (k : Nat) (v : V), vs = [.int k, v] ∧ k < 4 ∧ OdV K H v ∧ ∀ H', Same H H' → Q (.bl true) H'
theorem scRf : FnScope ["way", "p", "e"] ["way", "p"] (defScope s_law_refused) := ⟨rfl, rfl, rfl, by decide +kernel, rfl, by decide +kernel, by decide +kernel⟩
theorem ok_Rf {f f1 f2 f3 f4 f5 : Addr} {fd fd1 fd2 fd3 fd4 fd5 : FuncData} (F : FnS K "_law_refused" s_law_refused f fd) (C1 : CalN P w K mg base 4 "polynomial_through" f1 fd1 ["p", "points", "values"] (spNo K 2)) (C2 : CalN P w K mg base 4 "value_at" f2 fd2 ["p", "coefficients", "point"] (spNo K 2))
    (C3 : CalN P w K mg base 4 "polynomial_near" f3 fd3 ["p", "points", "values", "size", "wrong"] (spNo K 4)) (CK : CalP P w K mg base 1 "_law_kind" f4 fd4 ["e"] (spKd K)) (CS : CalH P w K mg base 2 "_law_same" f5 fd5 ["told", "due"] (spSmP (Lk 1)))
    (T : Exc1 K mg "InvalidNumber" "value") (XN : XfC K (He.ga K "InvalidNumber")) (gW : mg "WishError" = some (.ref (He.ga K "WishError"))) (eW : PySem.W.exmOne K (.ref (He.ga K "InvalidNumber")) (.ref (He.ga K "WishError")) = some true) :
    FnOk P w K mg base (L2.CX P w) 5 f fd ["way", "p"] (spRf K) := by
  refine F.ok scRf (fun vs H Q E h => ?_) (fun cdv A outer s H vs Q E hr h => ?_)
  · obtain ⟨k, v, rfl, _⟩ := h
    rfl
  · obtain ⟨k, v, rfl, hk, ⟨hv, hf0, hL⟩, kk⟩ := h
    have nd := scRf.nd
    have tk0 : L2N.Takes (cxOf (L2.CX P w) P w K mg base ["way", "p", "e"] "_law_refused" (defScope s_law_refused) f cdv A outer s H E) (fun _ _ _ _ => False) := fun u s' ⟨_, _, _, _, _, _, _, _, _, _, _, _, _, _, _, _, z⟩ => z.elim
    refine ⟨_, pss_cons (L2N.ps_try_as rfl rfl nd (i := 2) rfl rfl ⟨rfl, by decide, .inl gW⟩ tk0
      (fun W pn xe tk _ => (pss_one (ps_if (pt_cmpR op_eq (pv 0) pe_int (nomark _)) (pss_one (ps_expr (pe_calNS C1 hr tk (pa_cons (pv 1) (pa_cons (pe_tup (pa_cons pe_int pa_nil)) (pa_cons (pe_lst (pa_cons pe_int pa_nil)) pa_nil)))))) (pss_one (ps_if (pt_cmpR op_eq (pv 0) pe_int (nomark _)) (pss_one (ps_expr (pe_calNS C1 hr tk (pa_cons (pv 1) (pa_cons (pe_tup pa_nil) (pa_cons (pe_lst pa_nil) pa_nil)))))) (pss_one (ps_if (pt_cmpR op_eq (pv 0) pe_int (nomark _)) (pss_one (ps_expr (pe_calNS C2 hr tk (pa_cons (pv 1) (pa_cons (pe_tup (pa_cons pe_int (pa_cons pe_int pa_nil))) (pa_cons pe_int pa_nil)))))) (pss_one (ps_expr (pe_calNS C3 hr tk (pa_cons (pv 1) (pa_cons (pe_lst (pa_cons pe_int (pa_cons pe_int pa_nil))) (pa_cons (pe_tup (pa_cons pe_int (pa_cons pe_int pa_nil))) (pa_cons pe_int (pa_cons pe_int pa_nil)))))))))))))))
      (fun a oe cls d pn hz hf => (pss_one (ps_ret (pe_and (pe_cmpR op_eq (pe_calP (a := a) (oe := oe) CK hz.zc (pa_cons (pv 2) pa_nil) (by exact L2H.roomH_mark (hr.mono (show 1 ≤ 4 by decide)) _) (by exact ⟨rfl, hf.imp fun vs e => ⟨e, hz.2.2 vs e⟩⟩) (by exact List.mem_cons_self ..)) pe_int (nomark _)) (pe_one (pe_calH CS (by exact L2H.roomH_mark (hr.mono (show 2 ≤ 4 by decide)) _) ⟨(a, oe), (by exact ⟨rfl, hf.imp fun vs e => ⟨e, hz.2.2 vs e⟩⟩), (by exact List.mem_cons_self ..)⟩ (pa_cons (pe_xf XN T.no hz.zc hf (pv 2)) (pa_cons (pv 1) pa_nil))))))))) (pss_one (ps_ret pe_bl)), ?_⟩
    have fin : ∀ {H1 : Hp} {d : Addr}, Same H H1 → H1 d = some (.xd [("value", v)]) → H1 d = some (.xd [("value", v)]) ∧ (∀ H2, Same H1 H2 → H2 d = some (.xd [("value", v)]) ∧ Lk 1 H2 v v ∧ ∀ H3, Same H2 H3 → Q (.bl true) H3) := fun {H1 d} s1 e1 =>
      ⟨e1, fun H2 s2 => ⟨s2 _ _ e1, hL.same (s1.trans s2), fun H3 s3 => kk H3 (s1.trans (s2.trans s3))⟩⟩
    match k, hk with
    | 0, _ =>
      refine ⟨_, rfl, rfl, _, rfl, iteTb (by decide) ⟨_, rfl, (by show 1 ≤ sizeLine; decide), fun q0 hq0 => ?_⟩⟩
      have s0 : Same H (upd H q0 (.tup [.int 0])) := (Same.refl H).trans (same_new hq0)
      generalize upd H q0 (.tup [.int 0]) = G0 at s0 ⊢
      refine ⟨(by show 1 ≤ sizeLine; decide), fun q1 hq1 => ?_⟩
      have s1 : Same H (upd G0 q1 (.lst [.int 0])) := (s0).trans (same_new hq1)
      generalize upd G0 q1 (.lst [.int 0]) = G1 at s1 ⊢
      refine ⟨v, _, rfl, rfl, hv.same s1, hf0, fun d H1 z1 n1 e1 => ?_⟩
      obtain ⟨_, f1⟩ := fin (s1.trans z1) e1
      refine ⟨true, eW, fun _ a ha => ⟨_, rfl, d, _, rfl, rfl, rfl, e1, fun H2 s2 => ?_⟩, fun z => nomatch z⟩
      obtain ⟨e2, l2, f2⟩ := f1 H2 s2
      exact ⟨rfl, _, rfl, iteTb (by decide) ⟨_, rfl, rfl, rfl, d, _, v, rfl, e2, (by simp [List.lookup]), _, rfl, v, v, rfl, l2, f2⟩⟩
    | 1, _ =>
      refine ⟨_, rfl, rfl, _, rfl, iteFb (by decide) ⟨_, rfl, rfl, _, rfl, iteFb (by decide) ⟨_, rfl, rfl, _, rfl, iteTb (by decide) ⟨_, rfl, (by show 2 ≤ sizeLine; decide), fun q0 hq0 => ?_⟩⟩⟩⟩
      have s0 : Same H (upd H q0 (.tup [.int 0, .int 0])) := (Same.refl H).trans (same_new hq0)
      generalize upd H q0 (.tup [.int 0, .int 0]) = G0 at s0 ⊢
      refine ⟨v, _, rfl, rfl, hv.same s0, hf0, fun d H1 z1 n1 e1 => ?_⟩
      obtain ⟨_, f1⟩ := fin (s0.trans z1) e1
      refine ⟨true, eW, fun _ a ha => ⟨_, rfl, d, _, rfl, rfl, rfl, e1, fun H2 s2 => ?_⟩, fun z => nomatch z⟩
      obtain ⟨e2, l2, f2⟩ := f1 H2 s2
      exact ⟨rfl, _, rfl, iteTb (by decide) ⟨_, rfl, rfl, rfl, d, _, v, rfl, e2, (by simp [List.lookup]), _, rfl, v, v, rfl, l2, f2⟩⟩
    | 2, _ =>
      refine ⟨_, rfl, rfl, _, rfl, iteFb (by decide) ⟨_, rfl, rfl, _, rfl, iteFb (by decide) ⟨_, rfl, rfl, _, rfl, iteFb (by decide) ⟨_, rfl, (by show 2 ≤ sizeLine; decide), fun q0 hq0 => ?_⟩⟩⟩⟩
      have s0 : Same H (upd H q0 (.lst [.int 0, .int 1])) := (Same.refl H).trans (same_new hq0)
      generalize upd H q0 (.lst [.int 0, .int 1]) = G0 at s0 ⊢
      refine ⟨(by show 2 ≤ sizeLine; decide), fun q1 hq1 => ?_⟩
      have s1 : Same H (upd G0 q1 (.tup [.int 0, .int 0])) := (s0).trans (same_new hq1)
      generalize upd G0 q1 (.tup [.int 0, .int 0]) = G1 at s1 ⊢
      refine ⟨v, _, rfl, rfl, hv.same s1, hf0, fun d H1 z1 n1 e1 => ?_⟩
      obtain ⟨_, f1⟩ := fin (s1.trans z1) e1
      refine ⟨true, eW, fun _ a ha => ⟨_, rfl, d, _, rfl, rfl, rfl, e1, fun H2 s2 => ?_⟩, fun z => nomatch z⟩
      obtain ⟨e2, l2, f2⟩ := f1 H2 s2
      exact ⟨rfl, _, rfl, iteTb (by decide) ⟨_, rfl, rfl, rfl, d, _, v, rfl, e2, (by simp [List.lookup]), _, rfl, v, v, rfl, l2, f2⟩⟩
    | 3, _ =>
      refine ⟨_, rfl, rfl, _, rfl, iteFb (by decide) ⟨_, rfl, rfl, _, rfl, iteTb (by decide) ⟨_, rfl, (by show 0 ≤ sizeLine; decide), fun q0 hq0 => ?_⟩⟩⟩
      have s0 : Same H (upd H q0 (.tup [])) := (Same.refl H).trans (same_new hq0)
      generalize upd H q0 (.tup []) = G0 at s0 ⊢
      refine ⟨(by show 0 ≤ sizeLine; decide), fun q1 hq1 => ?_⟩
      have s1 : Same H (upd G0 q1 (.lst [])) := (s0).trans (same_new hq1)
      generalize upd G0 q1 (.lst []) = G1 at s1 ⊢
      refine ⟨v, _, rfl, rfl, hv.same s1, hf0, fun d H1 z1 n1 e1 => ?_⟩
      obtain ⟨_, f1⟩ := fin (s1.trans z1) e1
      refine ⟨true, eW, fun _ a ha => ⟨_, rfl, d, _, rfl, rfl, rfl, e1, fun H2 s2 => ?_⟩, fun z => nomatch z⟩
      obtain ⟨e2, l2, f2⟩ := f1 H2 s2
      exact ⟨rfl, _, rfl, iteTb (by decide) ⟨_, rfl, rfl, rfl, d, _, v, rfl, e2, (by simp [List.lookup]), _, rfl, v, v, rfl, l2, f2⟩⟩
    | n + 4, h => exact absurd h (by omega)
end
end WU

set_option maxRecDepth 100000
set_option maxHeartbeats 8000000
namespace WU
open PySem PySem.Spec PyProof.Rows L2
section
variable {P : Program} {w : World} {K : PySem.W.Frag} {mg : Str → Option Value} {base : Heap}
def prs14 : List V := [.int 2, .int 3, .int 5, .int 7, .int 11, .int 13, .int 17, .int 19, .int 23, .int 29, .int 31, .int 2, .int 3, .int 5]
theorem prs14_at (j : Nat) (h : j < 14) : ∃ p : Int, prs14[j]? = some (V.int p) ∧ p ∈ primes := by
    match j, h with
    | 0, _ => exact ⟨2, rfl, by decide⟩
    | 1, _ => exact ⟨3, rfl, by decide⟩
    | 2, _ => exact ⟨5, rfl, by decide⟩
    | 3, _ => exact ⟨7, rfl, by decide⟩
    | 4, _ => exact ⟨11, rfl, by decide⟩
    | 5, _ => exact ⟨13, rfl, by decide⟩
    | 6, _ => exact ⟨17, rfl, by decide⟩
    | 7, _ => exact ⟨19, rfl, by decide⟩
    | 8, _ => exact ⟨23, rfl, by decide⟩
    | 9, _ => exact ⟨29, rfl, by decide⟩
    | 10, _ => exact ⟨31, rfl, by decide⟩
    | 11, _ => exact ⟨2, rfl, by decide⟩
    | 12, _ => exact ⟨3, rfl, by decide⟩
    | 13, _ => exact ⟨5, rfl, by decide⟩
    | n + 14, h => exact absurd h (by omega)
def spLaw (K : PySem.W.Frag) : Sp := fun vs H Q _ => ∃ (a : Addr) (ns : List Int), vs = [.ref a] ∧ SqL K H a (ns.map V.int) ∧ ns.length ≤ 63 ∧ ∀ H', Q (.bl true) H'
theorem scLaw : FnScope ["script", "pool", "k", "p", "way", "j"] ["script"] (defScope sLaw) := ⟨rfl, rfl, rfl, by decide +kernel, rfl, by decide +kernel, by decide +kernel⟩
theorem ok_Law {f f1 f2 f3 f4 f5 f6 f7 f8 f9 : Addr} {fd fd1 fd2 fd3 fd4 fd5 fd6 fd7 fd8 fd9 : FuncData} (F : FnS K "law" sLaw f fd) (B : Blt5 mg) (CD : Cal P w K mg base 1 "_law_draw" f1 fd1 ["pool", "many"] spDr) (CPl : Cal P w K mg base 1 "_law_pool" f2 fd2 ["script", "many"] (spPl K))
    (CTH : Cal P w K mg base 10 "_law_through_holds" f3 fd3 ["pool", "p"] spTH) (CVH : Cal P w K mg base 5 "_law_values_hold" f4 fd4 ["pool", "p", "coefficients"] spVH) (CT : Cal P w K mg base 9 "polynomial_through" f5 fd5 ["p", "points", "values"] (spTh K))
    (CVA : Cal P w K mg base 4 "value_at" f6 fd6 ["p", "coefficients", "point"] (spVA K)) (CSm : Cal P w K mg base 2 "_law_same" f7 fd7 ["told", "due"] (spSmP (Lk 1))) (CRf : Cal P w K mg base 5 "_law_refused" f8 fd8 ["way", "p"] (spRf K)) (COd : Cal P w K mg base 2 "_law_odd_field" f9 fd9 ["pool"] (spOd K)) :
    FnOk P w K mg base CX0 11 f fd ["script"] (spLaw K) := by
  refine F.ok scLaw (fun vs H Q E h => ?_) (fun cdv A outer s H vs Q E hr h => ?_)
  · obtain ⟨a, ns, rfl, _⟩ := h
    rfl
  · obtain ⟨sc, ns, rfl, hS, hl, kk⟩ := h
    have nd := scLaw.nd
    refine ⟨_, (pss_cons (ps_set (i := 1) nd rfl (Or.inr rfl) (pe_cal CPl (hr.mono (by decide)) (pa_cons (pv 0) (pa_cons pe_int pa_nil)) passU))
      (pss_cons (ps_for (passes_of rfl) rfl (pi_range1 rfl B.range (pa_cons pe_int pa_nil)) (pg_name (i := 2) nd rfl (Or.inl rfl)) (pss_cons (ps_set (i := 3) nd rfl (Or.inr rfl) (pe_ix (ix_listK (K := K)) (pe_lst (pa_cons pe_int (pa_cons pe_int (pa_cons pe_int (pa_cons pe_int (pa_cons pe_int (pa_cons pe_int (pa_cons pe_int (pa_cons pe_int (pa_cons pe_int (pa_cons pe_int (pa_cons pe_int (pa_cons pe_int (pa_cons pe_int (pa_cons pe_int pa_nil))))))))))))))) (pe_cal CD (hr.mono (by decide)) (pa_cons (pv 1) (pa_cons pe_int pa_nil)) passU) (fun _ _ => rfl)))
      (pss_cons (ps_if (pt_not (pt_val (pe_cal CTH (hr.mono (by decide)) (pa_cons (pv 1) (pa_cons (pv 3) pa_nil)) passU))) (pss_one (ps_ret pe_bl)) pss_nil)
      (pss_one (ps_if (pt_not (pt_val (pe_cal CVH (hr.mono (by decide)) (pa_cons (pv 1) (pa_cons (pv 3) (pa_cons (pe_lc (own := [("j", 5)]) (g := gName 5) (by rfl) nd (pi_range1 rfl B.range (pa_cons (pe_op op_add pe_int (pe_cal CD (hr.mono (by decide)) (pa_cons (pv 1) (pa_cons pe_int pa_nil)) passU)) pa_nil)) (blkOk_by (own := [("j", 5)]) (N := ["script", "pool", "k", "p", "way", "j"]) (sc := defScope sLaw) (by decide +kernel)) (fun _ _ _ _ _ => (pg_name (i := 5) nd rfl (Or.inl rfl))) (fun _ _ _ _ _ => pts_nil) (fun _ _ _ _ _ => (pe_cal CD (hr.mono (by decide)) (pa_cons (pv 1) (pa_cons (pv 3) pa_nil)) passU))) pa_nil))) passU))) (pss_one (ps_ret pe_bl)) pss_nil)))))
      (pss_cons (ps_for (passes_of rfl) rfl (pi_listK (K := K) (pe_lst (pa_cons pe_int (pa_cons pe_int pa_nil)))) (pg_name (i := 3) nd rfl (Or.inr rfl)) (pss_one (ps_if (PW.pt (pw_or (pt_not (pt_val (pe_cal CSm (hr.mono (by decide)) (pa_cons (pe_cal (E := E0) CT (hr.mono (by decide)) (pa_cons (pv 3) (pa_cons (pe_lst pa_nil) (pa_cons (pe_tup pa_nil) pa_nil))) passU) (pa_cons (pe_tup pa_nil) pa_nil)) passU))) (pw_or1 (pt_not (pt_val (pe_cal CSm (hr.mono (by decide)) (pa_cons (pe_cal (E := E0) CVA (hr.mono (by decide)) (pa_cons (pv 3) (pa_cons (pe_tup pa_nil) (pa_cons (pe_cal CD (hr.mono (by decide)) (pa_cons (pv 1) (pa_cons (pv 3) pa_nil)) passU) pa_nil))) passU) (pa_cons pe_int pa_nil)) passU)))))) (pss_one (ps_ret pe_bl)) pss_nil)))
      (pss_cons (ps_for (passes_of rfl) rfl (pi_range1 rfl B.range (pa_cons pe_int pa_nil)) (pg_name (i := 4) nd rfl (Or.inl rfl)) (pss_one (ps_if (pt_not (pt_val (pe_cal CRf (hr.mono (by decide)) (pa_cons (pv 4) (pa_cons (pe_cal COd (hr.mono (by decide)) (pa_cons (pv 1) pa_nil) passU) pa_nil)) passU))) (pss_one (ps_ret pe_bl)) pss_nil)))
      (pss_one (ps_ret pe_bl)))))), ?_⟩
    refine ⟨_, rfl, sc, ns, 150, rfl, hS, hl, by decide, fun a H1 ha s1 p1 => ?_⟩
    refine ⟨2, rfl, by decide, by decide, for_range (lo := 0) (n := 2) (fun i σ H' => ∃ v2 v3, σ = [some (.ref sc), some (.ref a), v2, v3, none, none] ∧ PoolA H' a) ⟨none, none, rfl, p1⟩ ?_ ?_⟩
    · rintro i σ H2 hi ⟨v2, v3, rfl, p2⟩
      refine ⟨(by show 14 ≤ sizeLine; decide), fun q hq => ?_⟩
      rw [show ([.int 2, .int 3, .int 5, .int 7, .int 11, .int 13, .int 17, .int 19, .int 23, .int 29, .int 31, .int 2, .int 3, .int 5] : List V) = prs14 from rfl]
      have p3 := p2.same (same_new (o := .lst prs14) hq)
      have eq : upd H2 q (.lst prs14) q = some (.lst prs14) := upd_same
      have nq := (p2.ne hq).symm
      generalize upd H2 q (.lst prs14) = H3 at p3 eq ⊢
      refine ⟨_, rfl, a, _, rfl, p3, by decide, fun r H4 r0 r1 p4 k4 => ?_⟩
      obtain ⟨j, rfl⟩ : ∃ j : Nat, r = (j : Int) := ⟨r.toNat, by omega⟩
      obtain ⟨p, ep, hm⟩ := prs14_at j (by omega)
      have p2' := fld_le hm
      refine ⟨q, _, _, _, rfl, rfl, SqL.of (k4 _ _ nq eq), atI_nat ep, ?_⟩
      refine ⟨_, rfl, _, rfl, a, p, rfl, p4, hm, fun H5 p5 k5 => ⟨_, rfl, iteF ?_⟩⟩
      refine ⟨_, rfl, _, rfl, _, rfl, a, _, rfl, p5, by decide, fun r H6 r0 r1 p6 k6 => ?_⟩
      obtain ⟨m, rfl⟩ : ∃ m : Nat, r = (m : Int) := ⟨r.toNat, by omega⟩
      refine ⟨_, _, rfl, rfl, _, rfl, by omega, by omega, fun D hD => lc_range (lo := 0) (n := (1 + (m : Int)).toNat) (fun i H' => Drn a p H6 D i H') (Drn.start p6 hD) ?_ ?_⟩
      · intro i H' hi dr
        obtain ⟨_, _, _, _, pq, _⟩ := id dr
        exact ⟨rfl, _, rfl, _, rfl, a, p, rfl, pq, by omega, fun r H'' r0 r1 p'' k'' => dr.put hD (p6.ne hD).symm (by omega) p'' k'' r0 r1⟩
      · rintro H' ⟨ys, e, l, b, pq, kq⟩
        exact ⟨a, D, p, ys, rfl, pq, hm, .inl e, (p6.ne hD).symm, b, by omega, fun H7 p7 k7 => ⟨_, rfl, iteF ⟨_, _, rfl, p7⟩⟩⟩
    · rintro σ H2 ⟨v2, v3, rfl, p2⟩
      refine ⟨(by show 2 ≤ sizeLine; decide), fun q hq => ?_⟩
      have p3 := p2.same (same_new (o := .lst [.int 2, .int 31]) hq)
      have eq : upd H2 q (.lst [.int 2, .int 31]) q = some (.lst [.int 2, .int 31]) := upd_same
      have nq := (p2.ne hq).symm
      generalize upd H2 q (.lst [.int 2, .int 31]) = H3 at p3 eq ⊢
      refine ⟨q, rfl, ⟨_, SqL.of eq⟩, for_list (K := K) (a := q) (xs := [.int 2, .int 31]) (fun i σ H' => ∃ v3, σ = [some (.ref sc), some (.ref a), v2, v3, none, none] ∧ PoolA H' a ∧ H' q = some (.lst [.int 2, .int 31])) ⟨v3, rfl, p3, eq⟩ (fun i σ H' _ ⟨_, _, _, e⟩ => SqL.of e) ?_ ?_⟩
      · rintro i x σ H4 hx ⟨v3', rfl, p4, e4⟩
        obtain ⟨p, rfl, hm⟩ : ∃ p : Int, x = .int p ∧ p ∈ primes := by
          match i, hx with
          | 0, hx => cases hx; exact ⟨2, rfl, by decide⟩
          | 1, hx => cases hx; exact ⟨31, rfl, by decide⟩
          | n + 2, hx => cases hx
        have p2' := fld_le hm
        have nf : ¬ isFld (.int p) = false := fun z => by rw [mem_fld hm] at z; cases z
        refine ⟨_, rfl, (by show 0 ≤ sizeLine; decide), fun l hl => ?_⟩
        have s5 := same_new (o := .lst []) hl
        have el : upd H4 l (.lst []) l = some (.lst []) := upd_same
        generalize upd H4 l (.lst []) = H5 at s5 el ⊢
        refine ⟨(by show 0 ≤ sizeLine; decide), fun t ht => ?_⟩
        have s6 := s5.trans (same_new (o := .tup []) ht)
        have el := same_new (o := .tup []) ht _ _ el
        have et : upd H5 t (.tup []) t = some (.tup []) := upd_same
        generalize upd H5 t (.tup []) = H6 at s6 el et ⊢
        refine ⟨_, _, _, rfl, ty3_int p, fun z => absurd z nf, fun p' e _ => ?_⟩
        cases e
        have hb : Ltr p ([] : List Int).length [] := ⟨rfl, fun _ z => nomatch z⟩
        refine ⟨[], [], ⟨l, rfl, .inl el⟩, ⟨t, rfl, .inr (.inl et)⟩, (fun _ z => nomatch z), List.nodup_nil, hb, by decide, fun y x H7 s7 hx sx => ?_⟩
        obtain ⟨⟨xl, _⟩, _⟩ := solX_ok (pts := []) hm hb sx
        cases List.length_eq_zero_iff.mp xl
        refine ⟨(by show 0 ≤ sizeLine; decide), fun t2 ht2 => ?_⟩
        have s8 := (s6.trans s7).trans (same_new (o := .tup []) ht2)
        refine ⟨_, _, rfl, lk_tups (hx.same (same_new ht2)) ⟨t2, rfl, .inl upd_same⟩ (by decide), fun H9 s9 => ⟨_, rfl, iteF ?_⟩⟩
        have s9 := s8.trans s9
        refine ⟨_, rfl, (by show 0 ≤ sizeLine; decide), fun t3 ht3 => ?_⟩
        have s10 := s9.trans (same_new (o := .tup []) ht3)
        have e3 : upd H9 t3 (.tup []) t3 = some (.tup []) := upd_same
        have n3 := ((p4.same s9).ne ht3).symm
        generalize upd H9 t3 (.tup []) = H10 at s10 e3 ⊢
        refine ⟨_, rfl, _, rfl, a, p, rfl, p4.same s10, by omega, fun r H11 r0 r1 p11 k11 => ?_⟩
        refine ⟨_, _, _, rfl, ty3_int p, fun z => absurd z nf, fun p' e _ => ?_⟩
        cases e
        refine ⟨[], r, ⟨t3, rfl, .inr (.inl (k11 _ _ n3 e3))⟩, rfl, (fun _ z => nomatch z), r0, r1, fun H12 s12 => ?_⟩
        refine ⟨_, _, rfl, lk_int 0, fun H13 s13 => ⟨_, rfl, iteF ⟨_, rfl, p11.same (s12.trans s13), ?_⟩⟩⟩
        exact s13 _ _ (s12 _ _ (k11 _ _ nq (s10 _ _ e4)))
      · rintro σ H4 ⟨v3', rfl, p4, e4⟩
        refine ⟨4, rfl, by decide, by decide, for_range (lo := 0) (n := 4) (fun i σ H' => ∃ v4, σ = [some (.ref sc), some (.ref a), v2, v3', v4, none] ∧ PoolA H' a) ⟨none, rfl, p4⟩ ?_ ?_⟩
        · rintro i σ H5 hi ⟨v4, rfl, p5⟩
          exact ⟨_, rfl, _, rfl, a, rfl, p5, fun v H6 hv p6 k6 => ⟨i, v, by rw [Int.zero_add]; rfl, hi, hv, fun H7 s7 => ⟨_, rfl, iteF ⟨_, rfl, p6.same s7⟩⟩⟩⟩
        · rintro σ H5 ⟨v4, rfl, p5⟩
          exact kk H5
end
end WU

set_option maxRecDepth 100000
set_option maxHeartbeats 0
namespace WU
open PySem PySem.Spec PyProof.Rows L2
def dG (x : Str) (i : Nat) : He.DefD := ⟨(x, none), x, x, defArgs (top i), defBody (top i), defScope (top i), [], []⟩
def dM (c m : Str) (i j : Nat) (q : Str) (ds : List He.Dv) : He.DefD := ⟨(c, some m), m, q, defArgs (inClass (top i) j), defBody (inClass (top i) j), defScope (inClass (top i) j), ds, []⟩
def fn : List He.DefD := ([dG "is_integer" 15, dG "is_number" 16, dG "is_below" 17, dG "is_sequence" 18, dG "are_letters" 19, dG "is_field" 22, dG "check_field" 23, dG "inverse_of" 24, dG "is_matrix" 26, dG "sum_to" 27, dG "check_matrix" 28, dG "width_of_rows" 29, dG "turned_rows" 30, dG "leads_of" 31, dG "_is_row" 32, dG "_reduced" 33] : List He.DefD) ++ ([dG "_led_by_one" 34, dG "_cleared" 35, dG "_less" 36, dG "polynomial_through" 38, dG "value_at" 39, dG "polynomial_near" 40, dG "_power_rows" 42, dG "_law_pool" 46, dG "_law_draw" 47, dG "_law_same" 48, dG "_law_kind" 49, dG "_law_odd_field" 50, dG "_law_value" 51, dG "_law_as" 52, dG "_law_points" 53, dG "_law_refused" 54] : List He.DefD) ++ ([dG "_law_values_hold" 55, dG "_law_through_holds" 56, dG "law" 57, dM "InvalidNumber" "__init__" 2 0 "InvalidNumber.__init__" [], dM "InvalidMatrix" "__init__" 4 0 "InvalidMatrix.__init__" [], dM "Undefined" "__init__" 12 0 "Undefined.__init__" []] : List He.DefD)
def frees : List Str := ["isinstance", "int", "bool", "len", "abs", "range", "tuple", "list", "all", "any", "zip", "max", "min", "sum", "str", "ValueError"]
def globs : List Str := (["is_integer", "is_number", "is_below", "is_sequence", "are_letters", "is_field", "check_field", "inverse_of", "is_matrix", "sum_to", "check_matrix", "width_of_rows", "turned_rows", "leads_of", "_is_row", "_reduced"] : List Str) ++ (["_led_by_one", "_cleared", "_less", "polynomial_through", "value_at", "polynomial_near", "_power_rows", "_law_pool", "_law_draw", "_law_same", "_law_kind", "_law_odd_field", "_law_value", "_law_as", "_law_points", "_law_refused"] : List Str) ++ (["_law_values_hold", "_law_through_holds", "law", "PRIMES", "WishError", "InvalidNumber", "InvalidPlan", "InvalidTape", "InvalidAnswers", "InvalidLibrary", "Undefined", "InvalidShare", "InvalidMatrix", "InvalidText", "InvalidLine", "UnknownWord"] : List Str) ++ (["NothingToUndo"] : List Str)
def isB0 (o : Option Bool) (b : Bool) : Bool := decide (o = some b)
def exmB (K : PySem.W.Frag) (x y : Str) (b : Bool) : Bool := isB0 (PySem.W.exmOne K (.ref (He.ga K x)) (.ref (He.ga K y))) b
def excB (K : PySem.W.Frag) (D : Addr) : Bool :=
  decide (PySem.W.findIn K (.ref D) "__getattribute__" = some (some (.builtin "BaseException.__getattribute__"))) && (decide (PySem.W.findIn K (.ref D) "__getattr__" = some none) && (isB0 (PySem.W.subIn K (.ref D) (.type "BaseException")) true && (PySem.W.hasDictIn K D &&
    (decide (PySem.W.findIn K (.ref D) "__class__" = some (some (.builtin "object.__class__"))) && (decide (PySem.W.specialIn K (.builtin "object.__class__") "__get__" = some (some (.builtin "getset_descriptor.__get__"))) && (isB0 (PySem.W.takesIn K (.builtin "object.__class__")) true && isB0 (PySem.W.mroIn K D (.type "object")) true))))))
theorem excB_ok {K : PySem.W.Frag} {D : Addr} (h : excB K D = true) : ExcC K D := by
  obtain ⟨h1, h⟩ := and2 h
  obtain ⟨h2, h⟩ := and2 h
  obtain ⟨h3, h⟩ := and2 h
  obtain ⟨h4, h⟩ := and2 h
  obtain ⟨h5, h⟩ := and2 h
  obtain ⟨h6, h⟩ := and2 h
  obtain ⟨h7, h8⟩ := and2 h
  exact ⟨of_decide_eq_true h1, of_decide_eq_true h2, of_decide_eq_true h3, h4, of_decide_eq_true h5, of_decide_eq_true h6, of_decide_eq_true h7, of_decide_eq_true h8⟩
theorem vals_rev : ∀ {vs : List V} {us : List Value}, Vals vs us → Vals vs.reverse us.reverse
  | _, _, .nil => .nil
  | _, _, .cons h t => by
    rw [List.reverse_cons, List.reverse_cons]
    exact (vals_rev t).append (.cons h .nil)
def knB (K : PySem.W.Frag) : Bool := excB K (He.ga K "InvalidNumber") && (isB0 (PySem.W.kitOne K (.ref (He.ga K "InvalidNumber")) (.ref (He.ga K "InvalidNumber"))) true && (isB0 (PySem.W.kitOne K (.ref (He.ga K "InvalidNumber")) (.type "ValueError")) true &&
  (kns.all fun c => isB0 (PySem.W.kitOne K (.ref (He.ga K "InvalidNumber")) (.ref (He.ga K c))) false)))
theorem kns_sub : ∀ c, c ∈ kns → c ∈ globs := by decide +kernel
def ex (K : PySem.W.Frag) : Bool := freeB K frees && (globB K globs && (exc1B K "InvalidNumber" "value" && (xfB K (He.ga K "InvalidNumber") && (exc1B K "InvalidMatrix" "value" && (xfB K (He.ga K "InvalidMatrix") && (exc1B K "Undefined" "what" && (xfB K (He.ga K "Undefined") && (exmB K "InvalidNumber" "InvalidNumber" true && (exmB K "InvalidNumber" "InvalidMatrix" false && (exmB K "InvalidNumber" "Undefined" false && (exmB K "InvalidMatrix" "InvalidNumber" false && (exmB K "InvalidMatrix" "InvalidMatrix" true && (exmB K "InvalidMatrix" "Undefined" false && (exmB K "Undefined" "InvalidNumber" false && (exmB K "Undefined" "InvalidMatrix" false && (exmB K "Undefined" "Undefined" true && (He.tupB K "PRIMES" (primes.map He.Dv.int) && (exmB K "InvalidNumber" "WishError" true && (knB K)))))))))))))))))))
theorem getG {K : PySem.W.Frag} (c : He.SaysD [] fn K) (i : Nat) {x : Str} {j : Nat} (h : fn[i]? = some (dG x j)) : ∃ fd, FnS K x (top j) (He.ga K x) fd := c.def_ i h
theorem getM {K : PySem.W.Frag} (c : He.SaysD [] fn K) (i : Nat) {cl m q : Str} {ds : List He.Dv} {j k : Nat} (h : fn[i]? = some (dM cl m j k q ds)) :
    ∃ fd, FunD K m q (defArgs (inClass (top j) k)) (defBody (inClass (top j) k)) (defScope (inClass (top j) k)) (ds.map (He.Dv.v K)) [] (He.ma K (He.ga K cl) m) fd := c.def_ i h
theorem facts {P : Program} {w : World} {K : PySem.W.Frag} {h : Heap} {mg : Str → Option Value} {fa : Addr} (X : K.In h) (G : h.Ns mainGlobals mg) (hfa : mg "law" = some (.ref fa)) (c : He.SaysD [] fn K) (e : ex K = true) :
    ∃ fd : FuncData, (∀ (s : Shared) (v : Value), BindsTo s fd ⟨[v], []⟩ [("script", v)]) ∧ ∀ base : Heap, K.In base → base.Ns mainGlobals mg → FnOk P w K mg base CX0 11 fa fd ["script"] (spLaw K) := by
  obtain ⟨e0, e⟩ := and2 e
  obtain ⟨e1, e⟩ := and2 e
  obtain ⟨e2, e⟩ := and2 e
  obtain ⟨e3, e⟩ := and2 e
  obtain ⟨e4, e⟩ := and2 e
  obtain ⟨e5, e⟩ := and2 e
  obtain ⟨e6, e⟩ := and2 e
  obtain ⟨e7, e⟩ := and2 e
  obtain ⟨e8, e⟩ := and2 e
  obtain ⟨e9, e⟩ := and2 e
  obtain ⟨e10, e⟩ := and2 e
  obtain ⟨e11, e⟩ := and2 e
  obtain ⟨e12, e⟩ := and2 e
  obtain ⟨e13, e⟩ := and2 e
  obtain ⟨e14, e⟩ := and2 e
  obtain ⟨e15, e⟩ := and2 e
  obtain ⟨e16, e⟩ := and2 e
  obtain ⟨e17, e⟩ := and2 e
  obtain ⟨e18, e19⟩ := and2 e
  have fr : ∀ {x : Str}, x ∈ frees → mg x = none := fun hx => freeB_ok X G e0 hx
  have gl : ∀ {x : Str}, x ∈ globs → mg x = some (.ref (He.ga K x)) := fun hx => globB_ok X G e1 hx
  have b0 : ∀ {o : Option Bool} {b : Bool}, isB0 o b = true → o = some b := fun h => of_decide_eq_true h
  have TInvalidNumber : Exc1 K mg "InvalidNumber" "value" := exc1B_ok X G e2
  have XInvalidNumber := xfB_ok e3
  have TInvalidMatrix : Exc1 K mg "InvalidMatrix" "value" := exc1B_ok X G e4
  have XInvalidMatrix := xfB_ok e5
  have TUndefined : Exc1 K mg "Undefined" "what" := exc1B_ok X G e6
  have XUndefined := xfB_ok e7
  have xInvalidNumber_InvalidNumber := b0 e8
  have xInvalidNumber_InvalidMatrix := b0 e9
  have xInvalidNumber_Undefined := b0 e10
  have xInvalidMatrix_InvalidNumber := b0 e11
  have xInvalidMatrix_InvalidMatrix := b0 e12
  have xInvalidMatrix_Undefined := b0 e13
  have xUndefined_InvalidNumber := b0 e14
  have xUndefined_InvalidMatrix := b0 e15
  have xUndefined_Undefined := b0 e16
  have tP : ∀ H, SqT K H (He.ga K "PRIMES") (primes.map V.int) := fun H => He.tupB_ok e17 H
  have eW := b0 e18
  obtain ⟨n1, n⟩ := and2 e19
  obtain ⟨n2, n⟩ := and2 n
  obtain ⟨n3, n4⟩ := and2 n
  obtain ⟨fd_is_integer, F_is_integer⟩ := getG c 0 (x := "is_integer") (j := 15) rfl
  obtain ⟨fd_is_number, F_is_number⟩ := getG c 1 (x := "is_number") (j := 16) rfl
  obtain ⟨fd_is_below, F_is_below⟩ := getG c 2 (x := "is_below") (j := 17) rfl
  obtain ⟨fd_is_sequence, F_is_sequence⟩ := getG c 3 (x := "is_sequence") (j := 18) rfl
  obtain ⟨fd_are_letters, F_are_letters⟩ := getG c 4 (x := "are_letters") (j := 19) rfl
  obtain ⟨fd_is_field, F_is_field⟩ := getG c 5 (x := "is_field") (j := 22) rfl
  obtain ⟨fd_check_field, F_check_field⟩ := getG c 6 (x := "check_field") (j := 23) rfl
  obtain ⟨fd_inverse_of, F_inverse_of⟩ := getG c 7 (x := "inverse_of") (j := 24) rfl
  obtain ⟨fd_is_matrix, F_is_matrix⟩ := getG c 8 (x := "is_matrix") (j := 26) rfl
  obtain ⟨fd_sum_to, F_sum_to⟩ := getG c 9 (x := "sum_to") (j := 27) rfl
  obtain ⟨fd_check_matrix, F_check_matrix⟩ := getG c 10 (x := "check_matrix") (j := 28) rfl
  obtain ⟨fd_width_of_rows, F_width_of_rows⟩ := getG c 11 (x := "width_of_rows") (j := 29) rfl
  obtain ⟨fd_turned_rows, F_turned_rows⟩ := getG c 12 (x := "turned_rows") (j := 30) rfl
  obtain ⟨fd_leads_of, F_leads_of⟩ := getG c 13 (x := "leads_of") (j := 31) rfl
  obtain ⟨fd__is_row, F__is_row⟩ := getG c 14 (x := "_is_row") (j := 32) rfl
  obtain ⟨fd__reduced, F__reduced⟩ := getG c 15 (x := "_reduced") (j := 33) rfl
  obtain ⟨fd__led_by_one, F__led_by_one⟩ := getG c 16 (x := "_led_by_one") (j := 34) rfl
  obtain ⟨fd__cleared, F__cleared⟩ := getG c 17 (x := "_cleared") (j := 35) rfl
  obtain ⟨fd__less, F__less⟩ := getG c 18 (x := "_less") (j := 36) rfl
  obtain ⟨fd_polynomial_through, F_polynomial_through⟩ := getG c 19 (x := "polynomial_through") (j := 38) rfl
  obtain ⟨fd_value_at, F_value_at⟩ := getG c 20 (x := "value_at") (j := 39) rfl
  obtain ⟨fd_polynomial_near, F_polynomial_near⟩ := getG c 21 (x := "polynomial_near") (j := 40) rfl
  obtain ⟨fd__power_rows, F__power_rows⟩ := getG c 22 (x := "_power_rows") (j := 42) rfl
  obtain ⟨fd__law_pool, F__law_pool⟩ := getG c 23 (x := "_law_pool") (j := 46) rfl
  obtain ⟨fd__law_draw, F__law_draw⟩ := getG c 24 (x := "_law_draw") (j := 47) rfl
  obtain ⟨fd__law_same, F__law_same⟩ := getG c 25 (x := "_law_same") (j := 48) rfl
  obtain ⟨fd__law_kind, F__law_kind⟩ := getG c 26 (x := "_law_kind") (j := 49) rfl
  obtain ⟨fd__law_odd_field, F__law_odd_field⟩ := getG c 27 (x := "_law_odd_field") (j := 50) rfl
  obtain ⟨fd__law_value, F__law_value⟩ := getG c 28 (x := "_law_value") (j := 51) rfl
  obtain ⟨fd__law_as, F__law_as⟩ := getG c 29 (x := "_law_as") (j := 52) rfl
  obtain ⟨fd__law_points, F__law_points⟩ := getG c 30 (x := "_law_points") (j := 53) rfl
  obtain ⟨fd__law_refused, F__law_refused⟩ := getG c 31 (x := "_law_refused") (j := 54) rfl
  obtain ⟨fd__law_values_hold, F__law_values_hold⟩ := getG c 32 (x := "_law_values_hold") (j := 55) rfl
  obtain ⟨fd__law_through_holds, F__law_through_holds⟩ := getG c 33 (x := "_law_through_holds") (j := 56) rfl
  obtain ⟨fd_law, F_law⟩ := getG c 34 (x := "law") (j := 57) rfl
  obtain ⟨fd_InvalidNumber___init__, F_InvalidNumber___init__⟩ := getM c 35 (cl := "InvalidNumber") (m := "__init__") (q := "InvalidNumber.__init__") (ds := []) (j := 2) (k := 0) rfl
  obtain ⟨fd_InvalidMatrix___init__, F_InvalidMatrix___init__⟩ := getM c 36 (cl := "InvalidMatrix") (m := "__init__") (q := "InvalidMatrix.__init__") (ds := []) (j := 4) (k := 0) rfl
  obtain ⟨fd_Undefined___init__, F_Undefined___init__⟩ := getM c 37 (cl := "Undefined") (m := "__init__") (q := "Undefined.__init__") (ds := []) (j := 12) (k := 0) rfl
  have efa := hfa.symm.trans (gl (x := "law") (by decide +kernel))
  cases efa
  have bl := FunD.bindsA (ps := ["script"]) F_law fun _ _ _ _ _ _ us hl => match us, hl with | [_], _ => rfl
  refine ⟨fd_law, fun s v => bl s [v] rfl, fun base _ _ => ?_⟩
  have GInvalidNumber := ok_init1 (P := P) (w := w) (K := K) (mg := mg) (base := base) (C := He.ga K "InvalidNumber") F_InvalidNumber___init__ scInvalidNumber bodyInvalidNumber
  have bdInvalidNumber : Binds K fd_InvalidNumber___init__ ["self", "value"] [] := FunD.bindsN F_InvalidNumber___init__ fun _ _ _ _ _ _ us hl => match us, hl with | [_, _], _ => rfl
  have GInvalidMatrix := ok_init1 (P := P) (w := w) (K := K) (mg := mg) (base := base) (C := He.ga K "InvalidMatrix") F_InvalidMatrix___init__ scInvalidMatrix bodyInvalidMatrix
  have bdInvalidMatrix : Binds K fd_InvalidMatrix___init__ ["self", "value"] [] := FunD.bindsN F_InvalidMatrix___init__ fun _ _ _ _ _ _ us hl => match us, hl with | [_, _], _ => rfl
  have GUndefined := ok_init1 (P := P) (w := w) (K := K) (mg := mg) (base := base) (C := He.ga K "Undefined") F_Undefined___init__ scUndefined bodyUndefined
  have bdUndefined : Binds K fd_Undefined___init__ ["self", "what"] [] := FunD.bindsN F_Undefined___init__ fun _ _ _ _ _ _ us hl => match us, hl with | [_, _], _ => rfl
  have B5 : Blt5 mg := { isi := fr (by decide +kernel), int := fr (by decide +kernel), bool := fr (by decide +kernel), len := fr (by decide +kernel), abs := fr (by decide +kernel), range := fr (by decide +kernel), tuple := fr (by decide +kernel), lst := fr (by decide +kernel), all := fr (by decide +kernel), any := fr (by decide +kernel), zip := fr (by decide +kernel), max := fr (by decide +kernel), min := fr (by decide +kernel), sum := fr (by decide +kernel) }
  have B : Blt4 mg := B5.toBlt4
  have bs : mg "str" = none := fr (by decide +kernel)
  have C0 : Cal P w K mg base 1 "is_integer" _ fd_is_integer ["value"] (spIsInt K) := cal_mk F_is_integer (gl (by decide +kernel)) (ok_isInt F_is_integer B.toBlt) fun _ _ _ _ _ _ us hl => match us, hl with | [_], _ => rfl
  have C1 : Cal P w K mg base 2 "is_number" _ fd_is_number ["value"] (spIsNum K) := cal_mk F_is_number (gl (by decide +kernel)) (ok_isNum F_is_number C0) fun _ _ _ _ _ _ us hl => match us, hl with | [_], _ => rfl
  have C2 : Cal P w K mg base 3 "is_below" _ fd_is_below ["value", "limit"] (spIsBel K) := cal_mk F_is_below (gl (by decide +kernel)) (ok_isBel F_is_below C1) fun _ _ _ _ _ _ us hl => match us, hl with | [_, _], _ => rfl
  have CSq : Cal P w K mg base 1 "is_sequence" _ fd_is_sequence ["value"] (spSeq K) := cal_mk F_is_sequence (gl (by decide +kernel)) (ok_seq F_is_sequence B.toBlt3) fun _ _ _ _ _ _ us hl => match us, hl with | [_], _ => rfl
  have CLs : Cal P w K mg base 4 "are_letters" _ fd_are_letters ["p", "count", "value"] (spLets K) := cal_mk F_are_letters (gl (by decide +kernel)) (ok_lets F_are_letters B.toBlt3 CSq C2) fun _ _ _ _ _ _ us hl => match us, hl with | [_, _, _], _ => rfl
  have C3 : Cal P w K mg base 2 "is_field" _ fd_is_field ["p"] (spIsFld K) := cal_mk F_is_field (gl (by decide +kernel)) (ok_isFld F_is_field C0 (gl (by decide +kernel)) tP) fun _ _ _ _ _ _ us hl => match us, hl with | [_], _ => rfl
  have C4 : Cal P w K mg base 3 "check_field" _ fd_check_field ["p"] (spCheck K) := cal_mk F_check_field (gl (by decide +kernel)) (ok_check F_check_field C3 TInvalidNumber GInvalidNumber bdInvalidNumber) fun _ _ _ _ _ _ us hl => match us, hl with | [_], _ => rfl
  have C5 : Cal P w K mg base 4 "inverse_of" _ fd_inverse_of ["p", "a"] (spInv K) := cal_mk F_inverse_of (gl (by decide +kernel)) (ok_inv F_inverse_of C4 C2 TInvalidNumber TUndefined B.range GInvalidNumber bdInvalidNumber GUndefined bdUndefined) fun _ _ _ _ _ _ us hl => match us, hl with | [_, _], _ => rfl
  have CRw : Cal P w K mg base 5 "_is_row" _ fd__is_row ["value", "p", "columns"] (spRow K) := cal_mk F__is_row (gl (by decide +kernel)) (ok_row F__is_row B CLs) fun _ _ _ _ _ _ us hl => match us, hl with | [_, _, _], _ => rfl
  have CMt : Cal P w K mg base 6 "is_matrix" _ fd_is_matrix ["value", "p", "columns"] (spMat K) := cal_mk F_is_matrix (gl (by decide +kernel)) (ok_mat F_is_matrix B CRw) fun _ _ _ _ _ _ us hl => match us, hl with | [_, _, _], _ => rfl
  have CWd : Cal P w K mg base 1 "width_of_rows" _ fd_width_of_rows ["rows"] (spWid K) := cal_mk F_width_of_rows (gl (by decide +kernel)) (ok_wid F_width_of_rows B) fun _ _ _ _ _ _ us hl => match us, hl with | [_], _ => rfl
  have CCk : Cal P w K mg base 7 "check_matrix" _ fd_check_matrix ["p", "rows"] (spChk K) := cal_mk F_check_matrix (gl (by decide +kernel)) (ok_chk F_check_matrix C4 CMt CWd TInvalidMatrix GInvalidMatrix bdInvalidMatrix) fun _ _ _ _ _ _ us hl => match us, hl with | [_, _], _ => rfl
  have CLe : Cal P w K mg base 1 "_less" _ fd__less ["p", "row", "factor", "lead"] (spLess) := cal_mk F__less (gl (by decide +kernel)) (ok_less F__less B) fun _ _ _ _ _ _ us hl => match us, hl with | [_, _, _, _], _ => rfl
  have CLd : Cal P w K mg base 5 "_led_by_one" _ fd__led_by_one ["p", "row", "column"] (spLed) := cal_mk F__led_by_one (gl (by decide +kernel)) (ok_led F__led_by_one B C5) fun _ _ _ _ _ _ us hl => match us, hl with | [_, _, _], _ => rfl
  have CCl : Cal P w K mg base 2 "_cleared" _ fd__cleared ["p", "rows", "lead", "column"] (spClr) := cal_mk F__cleared (gl (by decide +kernel)) (ok_clr F__cleared CLe) fun _ _ _ _ _ _ us hl => match us, hl with | [_, _, _, _], _ => rfl
  have CRd : Cal P w K mg base 6 "_reduced" _ fd__reduced ["p", "rows"] (spRed) := cal_mk F__reduced (gl (by decide +kernel)) (ok_red F__reduced B CLd CCl) fun _ _ _ _ _ _ us hl => match us, hl with | [_, _], _ => rfl
  have CTR : Cal P w K mg base 1 "turned_rows" _ fd_turned_rows ["rows", "columns"] (spTR) := cal_mk F_turned_rows (gl (by decide +kernel)) (ok_TR F_turned_rows B) fun _ _ _ _ _ _ us hl => match us, hl with | [_, _], _ => rfl
  have CLO : Cal P w K mg base 1 "leads_of" _ fd_leads_of ["reduced"] (spLO) := cal_mk F_leads_of (gl (by decide +kernel)) (ok_LO F_leads_of B) fun _ _ _ _ _ _ us hl => match us, hl with | [_], _ => rfl
  have CST : Cal P w K mg base 8 "sum_to" _ fd_sum_to ["p", "rows", "row"] (spSu K) := cal_mk F_sum_to (gl (by decide +kernel)) (ok_Su F_sum_to B5 CCk CRd CLO CTR TUndefined GUndefined bdUndefined) fun _ _ _ _ _ _ us hl => match us, hl with | [_, _, _], _ => rfl
  have CPw : Cal P w K mg base 1 "_power_rows" _ fd__power_rows ["p", "points", "count"] (spPw) := cal_mk F__power_rows (gl (by decide +kernel)) (ok_Pw F__power_rows B5) fun _ _ _ _ _ _ us hl => match us, hl with | [_, _, _], _ => rfl
  have CVA : Cal P w K mg base 4 "value_at" _ fd_value_at ["p", "coefficients", "point"] (spVA K) := cal_mk F_value_at (gl (by decide +kernel)) (ok_VA F_value_at C4) fun _ _ _ _ _ _ us hl => match us, hl with | [_, _, _], _ => rfl
  have CTh : Cal P w K mg base 9 "polynomial_through" _ fd_polynomial_through ["p", "points", "values"] (spTh K) := cal_mk F_polynomial_through (gl (by decide +kernel)) (ok_Th F_polynomial_through B5 C4 CPw CST) fun _ _ _ _ _ _ us hl => match us, hl with | [_, _, _], _ => rfl
  have CkN : CalN P w K mg base 3 "check_field" _ fd_check_field ["p"] (spNo K 0) := ⟨gl (by decide +kernel), F_check_field.kp, FunD.bindsN F_check_field fun _ _ _ _ _ _ us hl => match us, hl with | [_], _ => rfl, ok_ckN F_check_field C3 TInvalidNumber GInvalidNumber bdInvalidNumber⟩
  have CThN : CalN P w K mg base 4 "polynomial_through" _ fd_polynomial_through ["p", "points", "values"] (spNo K 2) := ⟨gl (by decide +kernel), F_polynomial_through.kp, FunD.bindsN F_polynomial_through fun _ _ _ _ _ _ us hl => match us, hl with | [_, _, _], _ => rfl, ok_ThN F_polynomial_through CkN⟩
  have CVAN : CalN P w K mg base 4 "value_at" _ fd_value_at ["p", "coefficients", "point"] (spNo K 2) := ⟨gl (by decide +kernel), F_value_at.kp, FunD.bindsN F_value_at fun _ _ _ _ _ _ us hl => match us, hl with | [_, _, _], _ => rfl, ok_VAN F_value_at CkN⟩
  have CNrN : CalN P w K mg base 4 "polynomial_near" _ fd_polynomial_near ["p", "points", "values", "size", "wrong"] (spNo K 4) := ⟨gl (by decide +kernel), F_polynomial_near.kp, FunD.bindsN F_polynomial_near fun _ _ _ _ _ _ us hl => match us, hl with | [_, _, _, _, _], _ => rfl, ok_NrN F_polynomial_near CkN⟩
  have CD : Cal P w K mg base 1 "_law_draw" _ fd__law_draw ["pool", "many"] (spDr) := cal_mk F__law_draw (gl (by decide +kernel)) (ok_Dr F__law_draw B5) fun _ _ _ _ _ _ us hl => match us, hl with | [_, _], _ => rfl
  have CPl : Cal P w K mg base 1 "_law_pool" _ fd__law_pool ["script", "many"] (spPl K) := cal_mk F__law_pool (gl (by decide +kernel)) (ok_Pl F__law_pool B5) fun _ _ _ _ _ _ us hl => match us, hl with | [_, _], _ => rfl
  have bSm : L2.Binds K fd__law_same ["told", "due"] [] := FunD.bindsN F__law_same fun _ _ _ _ _ _ us hl => match us, hl with | [_, _], _ => rfl
  have CSm : Cal P w K mg base 2 "_law_same" _ fd__law_same ["told", "due"] (spSmP (Lk 1)) := ⟨gl (by decide +kernel), F__law_same.kp, bSm, ok_Sm F__law_same B5 bs (gl (by decide +kernel)) bSm 1⟩
  have CSH : CalH P w K mg base 2 "_law_same" _ fd__law_same ["told", "due"] (spSmP (Lk 1)) := ⟨gl (by decide +kernel), F__law_same.kp, bSm, ok_SmH F__law_same B5 bs (gl (by decide +kernel)) bSm 1⟩
  have TK : KN K mg := { g0 := gl (by decide +kernel), gl := fun c hc => gl (kns_sub c hc), xc := excB_ok n1, self := b0 n2, ve := b0 n3, no := fun c hc => b0 (List.all_eq_true.mp n4 c hc), vE := fr (by decide +kernel) }
  have CKd : CalP P w K mg base 1 "_law_kind" _ fd__law_kind ["e"] (spKd K) := ⟨gl (by decide +kernel), F__law_kind.kp, FunD.bindsN F__law_kind fun _ _ _ _ _ _ us hl => match us, hl with | [_], _ => rfl, ok_Kd F__law_kind B5 TK⟩
  have COd : Cal P w K mg base 2 "_law_odd_field" _ fd__law_odd_field ["pool"] (spOd K) := cal_mk F__law_odd_field (gl (by decide +kernel)) (ok_Od F__law_odd_field B5 CD) fun _ _ _ _ _ _ us hl => match us, hl with | [_], _ => rfl
  have CVl : Cal P w K mg base 1 "_law_value" _ fd__law_value ["p", "coefficients", "point"] (spVl) := cal_mk F__law_value (gl (by decide +kernel)) (ok_Vl F__law_value B5) fun _ _ _ _ _ _ us hl => match us, hl with | [_, _, _], _ => rfl
  have CAs : Cal P w K mg base 2 "_law_as" _ fd__law_as ["pool", "row"] (spAs) := cal_mk F__law_as (gl (by decide +kernel)) (ok_As F__law_as B5 CD) fun _ _ _ _ _ _ us hl => match us, hl with | [_, _], _ => rfl
  have CPt : Cal P w K mg base 2 "_law_points" _ fd__law_points ["pool", "p"] (spPt) := cal_mk F__law_points (gl (by decide +kernel)) (ok_Pt F__law_points B5 B5.min CD) fun _ _ _ _ _ _ us hl => match us, hl with | [_, _], _ => rfl
  have CRf : Cal P w K mg base 5 "_law_refused" _ fd__law_refused ["way", "p"] (spRf K) := cal_mk F__law_refused (gl (by decide +kernel)) (ok_Rf F__law_refused CThN CVAN CNrN CKd CSH TInvalidNumber XInvalidNumber (gl (by decide +kernel)) eW) fun _ _ _ _ _ _ us hl => match us, hl with | [_, _], _ => rfl
  have bV : KBn K fd_value_at ["p", "coefficients", "point"] 0 ["point", "coefficients", "p"] (fun us ws => us ++ ws.reverse) (fun vs zs => vs ++ zs.reverse) := binds_kw (ps := ["p", "coefficients", "point"]) F_value_at 0 ["point", "coefficients", "p"] (fun us ws => us ++ ws.reverse) (fun r z => r.append (vals_rev z)) fun _ _ _ _ _ _ us ws h1 h2 => match us, ws, h1, h2 with | [], [_, _, _], _, _ => rfl
  have bT : KBn K fd_polynomial_through ["p", "points", "values"] 1 ["points", "values"] (fun us ws => us ++ ws) (fun vs zs => vs ++ zs) := binds_kw (ps := ["p", "points", "values"]) F_polynomial_through 1 ["points", "values"] (fun us ws => us ++ ws) (fun r z => r.append z) fun _ _ _ _ _ _ us ws h1 h2 => match us, ws, h1, h2 with | [_], [_, _], _, _ => rfl
  have CVH : Cal P w K mg base 5 "_law_values_hold" _ fd__law_values_hold ["pool", "p", "coefficients"] (spVH) := cal_mk F__law_values_hold (gl (by decide +kernel)) (ok_VH F__law_values_hold B5 CD CAs CVl CVA CSm bV) fun _ _ _ _ _ _ us hl => match us, hl with | [_, _, _], _ => rfl
  have CTH : Cal P w K mg base 10 "_law_through_holds" _ fd__law_through_holds ["pool", "p"] (spTH) := cal_mk F__law_through_holds (gl (by decide +kernel)) (ok_TH F__law_through_holds B5 CD CAs CVl CTh CSm CPt CVH bT) fun _ _ _ _ _ _ us hl => match us, hl with | [_, _], _ => rfl
  exact ok_Law F_law B5 CD CPl CTH CVH CTh CVA CSm CRf COd
end WU

namespace WU
open PySem PySem.Spec PyProof.Rows L2
theorem walk {l : PySem.W.OpenLaw} {q : Program} {loose : List Str} {XP : (Str → Option Value) → Heap → Prop} {YP : World → Heap → Prop} {d : DefRec} {K : Params → PySem.W.Frag} (hn : l.most = some 63) (hdf : d.params.defaults = []) (hname : d.name = ("law" : Str))
    (hY : ∀ (w : World) (h : Heap), YP w h → (K w.params).In h) (hD : ∀ w : World, He.SaysD [] fn (K w.params)) (hE : ∀ w : World, ex (K w.params) = true) :
    PySem.W.WalkO q loose XP YP l.row.toRowW d [] (fun f vs => PySem.call f vs) :=
  L2.walk_of (n := 63) (k := 11) (x := "script") (CX := fun _ => CX0) (sp := fun w => spLaw (K w.params)) hn (by decide) hdf ⟨rfl, by decide, by decide⟩ hY
    (fun w mg fa h KX G hmg => facts KX G (by rw [← hname]; exact hmg) (hD w) (hE w)) (fun _ _ a ns hl _ hS => ⟨a, ns, rfl, hS, hl, fun _ => rfl⟩) fun _ _ _ _ _ z => z
end WU
open PySem PySem.W PyProof.Rows
set_option maxRecDepth 100000 in
set_option maxHeartbeats 0 in
theorem PySem.Challenge.cw_wishunseen_k53_polynomials_through_point_holds : PySem.Challenge.rw_wishunseen_k53_polynomials_through_point.Holds := by
  w_on; o_law; k_head; (case hw => w_witness2)
  k_fill
  refine WU.walk (l := PySem.Challenge.rw_wishunseen_k53_polynomials_through_point) rfl rfl (by rfl) (fun w h Y => PySem.W.kIn_of Y) ?D ?E
  case D =>
    intro w
    show He.obsD [] WU.fn _ = He.valD WU.fn
    kernel_rfl
  case E =>
    intro w
    kernel_rfl

