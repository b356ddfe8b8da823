import PyProof.Rows.All
import Wide.All
import OpenK.AllK
import Wide.FinOn
import HandS.Base
import HandS.Call
import HandS.Exc
import HandS.List
import HandS.Comp
import HandS.Ends
import HandS.ExcOwn
import HandS.ExcInit
import HandS.OwnEq
import HandS.Words
import HandS.Defaults
import HandS.Head0
import HandS.Head1
import HandS.Head2
import HandS.HeadHook1
import HandS.HeadHook2
import HandS.IsInst
import HandS.ExcField
import HandS.Conv
import HandS.WordsExc
import HandS.Star
import HandS.TupAny
import HandS.Gcd
import KE.DataAny
import HandS.TupMul
import HandS.TupLen
import HandS.DictTup
import HandS.Zip
import HandS.Iter
import HandS.Dict
import HandS.Walk
import KE.GoesMore
import HandS.Strs
import HandS.HeadEnd
import PySem.Challenge.RW_wishunseen_k05_spans_sums_and_products
set_option Elab.async false
set_option linter.all false
set_option maxRecDepth 100000
set_option maxHeartbeats 4000000
/-! try with several clauses «except C as n», and with clauses without a name among them -/
namespace WU
open PySem PySem.Spec PyProof.Rows L2
/-- a clause: the class, its name's slot (if it has one), what the suite does -/
abbrev Cl := Value × Option Nat × (Addr → Value → Option Addr → TS)
/-- behind a named suite the slot is empty -/
def wiped (i : Nat) (D : Ends) : Ends := { nx := fun z h => D.nx (z.set i none) h, rt := D.rt, bk := fun z h => D.bk (z.set i none) h, ct := fun z h => D.ct (z.set i none) h }
def suiteOf (i : Option Nat) (ts : TS) (D : Ends) (σ : L2.St) (H : Hp) (a : Addr) : Prop :=
  match i with
  | some j => ts (wiped j D) (σ.set j (some (V.ref a))) H
  | none => ts D σ H
/-- what the clauses wish of an exception that leaves the body -/
def wCls (K : PySem.W.Frag) (Wout : WX) (D : Ends) : List Cl → WX
  | [] => Wout
  | q :: r => fun cls d σ H => ∃ b, PySem.W.exmOne K cls q.1 = some b ∧ (b = true → ∀ a, H a = none → suiteOf q.2.1 (q.2.2 a cls d) D σ H a) ∧ (b = false → wCls K Wout D r cls d σ H)
inductive Clauses (X : Cx) : List ExceptHandler → List Cl → Prop
  | nil : Clauses X [] []
  | named {x n : Str} {i : Nat} {c : Value} {ts : Addr → Value → Option Addr → TS} {b : Stmt} {su : List Stmt} {p q : Pos} {hs : List ExceptHandler} {l : List Cl}
      (hi : X.N[i]? = some n) (hl : X.env.kindOf n = some .local) (hc : Names X x c)
      (hsu : ∀ (a : Addr) (oe : Obj) (cls : Value) (d : Option Addr) (pn : List (Addr × Obj)), Zc cls d oe → (∃ vs, oe.data = .fields vs) → PSs (X.suite a ((a, oe) :: pn)) (b :: su) (ts a cls d))
      (r : Clauses X hs l) : Clauses X (.ExceptHandler (some (.Name x p)) (some n) (b :: su) q :: hs) ((c, some i, ts) :: l)
section
variable {X : Cx} {body : List Stmt} {h₀ : ExceptHandler} {hds : List ExceptHandler} {l : List Cl} {pos : Pos} {tb : WX → TS} {Wout : WX}
theorem ps_try_cls (hst : X.stack = X.env :: X.outer) (hfr : X.env.frame = some X.env.locals) (hN : X.N.Nodup) (tk : Takes X Wout)
    (hb : ∀ (W : WX) (pn : List (Addr × Obj)) (xe : Value → Shared → Prop), Takes (X.tr pn xe) W →
      PassesOwn (model X.prog X.w) X.A X.env xe → PSs (X.tr pn xe) body (tb W))
    (hh : Clauses X (h₀ :: hds) l) : PS X (.Try body (h₀ :: hds) [] [] pos) (fun D σ H => tb (wCls X.K Wout D l) D σ H) := by
  constructor
  intro pins s σ H D I h
  have okX := I.ok
  have frA : X.A.frames = some (X.env :: X.outer) := okX.frames.trans (congrArg some hst)
  apply wpAny_Try_except
  let xe1 : Value → Shared → Prop := fun e s₁ => wpAny (model X.prog X.w) X.A (noteFrame e X.env) (fun _ s₂ =>
    wpAny (model X.prog X.w) X.A (setFlight e none) (fun _ s₃ => wpAny (model X.prog X.w) X.A (handleBy e X.env (h₀ :: hds))
      (SP X pins D) X.xe s₃) X.xe s₂) X.xe s₁
  have taken : Takes (X.tr (X.pn ++ pins) xe1) (wCls X.K Wout D l) := by
    rintro u st ⟨a, B, sI, pins', σ', H', cls, d, rfl, J', nb, up, sky, na, os, ag, wish⟩
    have J : Inv X pins σ' H' sI := J'.ofTry okX
    rw [show (X.tr (X.pn ++ pins) xe1).stack = X.env :: X.outer from hst] at sky
    show wpAny (model X.prog X.w) X.A (noteFrame (Value.ref a) X.env) _ _ _
    refine Sky.land Zc.steady frA hfr sky fun hA flA upA => ?_
    have JA : Inv X pins σ' H' { st with heap := hA } := J.landed nb flA.1 (up.trans upA) os ag
    obtain ⟨oA, vA, eA, zA, dA⟩ := flA.there
    have offF : a ∉ frs (X.env :: X.outer) := fun hm => by
      obtain ⟨_, o', e', hn⟩ := flA.2.2.1.mem hm
      cases eA.symm.trans e'
      exact hn _ dA
    have offL : a ≠ X.env.locals := by
      rintro rfl
      exact offF (List.mem_filterMap.mpr ⟨X.env, .head _, hfr⟩)
    have offO : a ∉ X.fs := fun hm => by
      obtain ⟨en, hen, q⟩ := List.mem_filterMap.mp hm
      exact offF (List.mem_filterMap.mpr ⟨en, .tail _ hen, q⟩)
    have SA := JA.suite eA dA na offL offO
    have isT : PySem.W.Looks (model X.prog X.w) hA (typeOf (.ref a)) cls := by
      intro A Q E s2 kk q
      refine wpAny_typeOf_ref (kk _ _ eA) ?_
      rw [zA.1]
      exact q
    have onward : ∀ {hs : List ExceptHandler} {l' : List Cl}, Clauses X hs l' → wCls X.K Wout D l' cls d σ' H' →
        wpAny (model X.prog X.w) X.A (handleBy (.ref a) X.env hs) (SP X pins D) X.xe { st with heap := hA } := by
      intro hs l' hk
      induction hk with
      | nil =>
        intro wout
        apply wpAny_handleBy_nil
        obtain ⟨_, _, _, oe, vs, T, oT, tt, he, hz, hd, h1, hr⟩ := id flA
        unfold PySem.passOn
        apply wpAny_bind
        refine wpAny_field he hd h1 ?_
        have nn : ¬ ((Value.ref T == Value.none) = true) := by simp
        rw [if_neg nn]
        have fin : wpAny (model X.prog X.w) X.A (setFlight (.ref a) X.env.frame) (fun _ s4 =>
            wpAny (model X.prog X.w) X.A (throw (.ref a) : Sem Flow) (SP X pins D) X.xe s4) X.xe { st with heap := hA } := by
          rw [hfr]
          refine HandSPX.setFlight_upZ flA fun hB hhB upB => ?_
          apply wpAny_throw
          apply tk
          refine ⟨a, B, sI, pins, σ', H', cls, d, rfl, J, nb, (up.trans upA).trans upB, ?_, na, os, ag, wout⟩
          right; right
          rw [hst]
          exact hhB
        first
          | exact wpAny_bind (wpAny_pure (wpAny_bind fin))
          | exact wpAny_bind fin
      | @named x n i c ts b su p q hs2 l2 hi hl hc hsu r ih =>
        rintro ⟨yes, hyn, onYes, onNo⟩
        refine wpAny_handleBy_cons (codeAny_handlers_test ?_) (by intro z; cases z)
        have hits := PySem.W.exm_one (M := model X.prog X.w) JA.kIn isT hyn
        have asked : ∀ {Q E : Value → Shared → Prop}, Q c { st with heap := hA } →
            wpAny (model X.prog X.w) (X.A.mark (some (.ref a))) (eval (.Name x p) X.env) Q E { st with heap := hA } := by
          intro Q E q
          obtain ⟨g1, g2, g3⟩ := hc
          rcases g3 with g3 | ⟨g3, g4, g5⟩
          · exact ld_glob (X := X.suite a ((a, oA) :: (X.pn ++ pins))) SA g1 g3 q g2
          · exact ld_blt (X := X.suite a ((a, oA) :: (X.pn ++ pins))) SA g1 g3 g4 q g5 g2
        apply asked
        refine hits.here ?_
        cases yes with
        | false => exact ih (onNo rfl)
        | true =>
          apply codeAny_handlers_suite_as
          refine HandSPX.lands_againZ flA fun hB flB upB => ?_
          have JB : Inv X pins σ' H' { st with heap := hB } := J.landed nb flB.1 ((up.trans upA).trans upB) os ag
          obtain ⟨oB, vB, eB, zB, dB⟩ := flB.there
          have SB := JB.suite eB dB na offL offO
          refine store_ok (X := X.suite a ((a, oB) :: (X.pn ++ pins))) (v := .ref a) SB hN hi (Or.inl hl) rfl (fun s5 S5 => ?_) (Or.inr hl)
          have runs := (hsu a oB cls d (X.pn ++ pins) zB ⟨_, dB⟩).run [] s5 _ H' _ S5 (onYes rfl a na)
          refine wpAny_mono runs (fun f s6 hsp => ?_) fun _ _ z => z.elim
          have left_ : ∀ {σ6 : L2.St} {H6 : Hp} {Q : Shared → Prop}, Inv (X.suite a ((a, oB) :: (X.pn ++ pins))) [] σ6 H6 s6 →
              (∀ s7, Inv X pins (σ6.set i none) H6 s7 → Q s7) →
              wpAny (model X.prog X.w) X.A (do bindName X.env n .none; unbindBehindTheSuite X.env n q) (fun _ s7 => Q s7) X.xe s6 :=
            fun S6 k => gone_ok (S6.unsuite okX) hN hi hl k
          match f, hsp with
          | .next, ⟨σ6, H6, S6, q6⟩ => exact left_ S6 fun s7 J7 => ⟨_, _, J7, q6⟩
          | .brk, ⟨σ6, H6, S6, q6⟩ => exact left_ S6 fun s7 J7 => ⟨_, _, J7, q6⟩
          | .cont, ⟨σ6, H6, S6, q6⟩ => exact left_ S6 fun s7 J7 => ⟨_, _, J7, q6⟩
          | .ret u, ⟨v6, σ6, H6, S6, r6, q6⟩ => exact left_ S6 fun s7 J7 => ⟨_, _, _, J7, r6, q6⟩
    exact onward hh wish
  have body_ := (hb _ (X.pn ++ pins) xe1 taken PassesOwn.looking).run [] s σ H D (I.toTry _) h
  refine wpAny_mono body_ (fun f s1 hsp => ?_) fun _ _ z => z
  match f, hsp with
  | .next, ⟨σ', H', J', q⟩ => exact wpAny_execs_nil ⟨σ', H', J'.ofTry okX, q⟩
  | .brk, ⟨σ', H', J', q⟩ => exact ⟨σ', H', J'.ofTry okX, q⟩
  | .cont, ⟨σ', H', J', q⟩ => exact ⟨σ', H', J'.ofTry okX, q⟩
  | .ret u, ⟨v, σ', H', J', r, q⟩ => exact ⟨v, σ', H', J'.ofTry okX, r, q⟩
end
end WU

set_option maxRecDepth 100000
set_option maxHeartbeats 4000000
namespace WU
open PySem PySem.Spec PyProof.Rows L2
/-! ### the head's facts -/
/-- the facts of the defs, and one more Bool -/
def hookB (n : Nat) (fn : List He.DefD) (ex : PySem.W.Frag → Bool) : PySem.W.Hook where
  α := He.AlD × Bool
  obs := fun s => (He.obsDG n [] fn s.heap.get?, ex (He.frG s.heap.get? (He.asD s.heap.get? n)))
  val := fun _ => (He.valD fn, true)
  says := fun _ h => ∃ K : PySem.W.Frag, K.In h ∧ He.SaysD [] fn K ∧ ex K = true
  of := fun _ _ e => ⟨_, He.frG_in, congrArg Prod.fst e, congrArg Prod.snd e⟩
  keeps := fun _ _ _ ⟨K, hK, c⟩ k => ⟨K, PySem.W.Frag.In.keeps hK k, c⟩
def obB (n : Nat) (fn : List He.DefD) (ex : PySem.W.Frag → Bool) (s : PySem.W.SharedT) : He.AlD × Bool :=
  (He.obsDG n [] fn (HandSHeadRun.getT s), ex (He.frG (HandSHeadRun.getT s) (He.asD (HandSHeadRun.getT s) n)))
theorem obB_eq {n : Nat} {fn : List He.DefD} {ex : PySem.W.Frag → Bool} (s : PySem.W.SharedT) : obB n fn ex s = (hookB n fn ex).obs s.abs := by
  have e : HandSHeadRun.getT s = s.abs.heap.get? := funext (HandSHeadRun.getT_eq s)
  unfold obB
  rw [e]
  rfl
theorem and2 {a b : Bool} (h : (a && b) = true) : a = true ∧ b = true := Bool.and_eq_true_iff.mp h
/-- names that the module leaves to the built-ins; names that stand for objects -/
def freeB (K : PySem.W.Frag) (xs : List Str) : Bool := xs.all fun x => decide (PySem.W.nsIn K mainGlobals x = some none)
def globB (K : PySem.W.Frag) (xs : List Str) : Bool := xs.all fun x => decide (PySem.W.nsIn K mainGlobals x = some (some (.ref (He.ga K x))))
section
variable {K : PySem.W.Frag} {h : Heap} {mg : Str → Option Value}
theorem freeB_ok (X : K.In h) (G : h.Ns mainGlobals mg) {xs : List Str} (c : freeB K xs = true) {x : Str} (hx : x ∈ xs) : mg x = none :=
  PySem.W.mg_none_of X G (of_decide_eq_true (List.all_eq_true.mp c x hx))
theorem globB_ok (X : K.In h) (G : h.Ns mainGlobals mg) {xs : List Str} (c : globB K xs = true) {x : Str} (hx : x ∈ xs) : mg x = some (.ref (He.ga K x)) :=
  PySem.W.mg_of X G (of_decide_eq_true (List.all_eq_true.mp c x hx))
end
/-! ### an own exception class over ValueError (or over own ones that are) -/
def oexShape (C : Addr) : Option Obj → Bool
  | some ⟨.type t, _, .cls ⟨_, _, .ref C' :: bm, _, _, true, _, _, _, _, false⟩, ⟨[_, _, _, _, some (.builtin id), _]⟩⟩ =>
    decide (t = "type") && (decide (C' = C) && (decide (id = "ValueError.__new__") && PySem.HandSPX.refsVE bm))
  | _ => false
def oexB (K : PySem.W.Frag) (C : Addr) : Bool :=
  oexShape C (K.lookup C) && (decide (PySem.W.findIn K (.ref C) "__setattr__" = some (some (.builtin "object.__setattr__"))) &&
    (decide (PySem.W.subIn K (.ref C) (.type "BaseException") = some true) && (decide (PySem.W.typeIn K (.ref C) = some (.type "type")) && PySem.W.keepIn K (.ref C))))
theorem oexB_ok {K : PySem.W.Frag} {C : Addr} (h : oexB K C = true) : OexC K C := by
  obtain ⟨h1, h⟩ := and2 h
  obtain ⟨h2, h⟩ := and2 h
  obtain ⟨h3, h⟩ := and2 h
  obtain ⟨h4, h5⟩ := and2 h
  refine ⟨?_, of_decide_eq_true h2, of_decide_eq_true h3, of_decide_eq_true h4, h5⟩
  unfold oexShape at h1
  split at h1
  · rename_i t dd nm bs C' bm N q sn sub ab col k0 k1 k2 k3 id k5 heq
    obtain ⟨e1, h1⟩ := and2 h1
    obtain ⟨e2, h1⟩ := and2 h1
    obtain ⟨e3, e4⟩ := and2 h1
    have q1 := of_decide_eq_true e1
    have q2 := of_decide_eq_true e2
    have q3 := of_decide_eq_true e3
    subst q1 q2 q3
    exact ⟨_, _, _, _, _, _, _, _, _, _, _, _, _, _, _, heq, e4⟩
  · cases h1
/-- what every body asks of an exception class X whose __init__ stands at fI and keeps one field f -/
structure Exc1 (K : PySem.W.Frag) (mg : Str → Option Value) (x : Str) (f : Str) : Prop where
  glob : mg x = some (.ref (He.ga K x))
  oex : OexC K (He.ga K x)
  no : PySem.W.findIn K (.ref (He.ga K x)) f = some none
  init : PySem.W.findIn K (.ref (He.ga K x)) "__init__" = some (some (.ref (He.ma K (He.ga K x) "__init__")))
  tI : PySem.W.typeIn K (.ref (He.ma K (He.ga K x) "__init__")) = some (.type "function")
def exc1B (K : PySem.W.Frag) (x f : Str) : Bool :=
  decide (PySem.W.nsIn K mainGlobals x = some (some (.ref (He.ga K x)))) && (oexB K (He.ga K x) && (decide (PySem.W.findIn K (.ref (He.ga K x)) f = some none) &&
    (decide (PySem.W.findIn K (.ref (He.ga K x)) "__init__" = some (some (.ref (He.ma K (He.ga K x) "__init__")))) && decide (PySem.W.typeIn K (.ref (He.ma K (He.ga K x) "__init__")) = some (.type "function")))))
theorem exc1B_ok {K : PySem.W.Frag} {h : Heap} {mg : Str → Option Value} (X : K.In h) (G : h.Ns mainGlobals mg) {x f : Str} (c : exc1B K x f = true) : Exc1 K mg x f := by
  obtain ⟨h1, c⟩ := and2 c
  obtain ⟨h2, c⟩ := and2 c
  obtain ⟨h3, c⟩ := and2 c
  obtain ⟨h4, h5⟩ := and2 c
  exact ⟨PySem.W.mg_of X G (of_decide_eq_true h1), oexB_ok h2, of_decide_eq_true h3, of_decide_eq_true h4, of_decide_eq_true h5⟩
/-- an if whose test is known by an equation -/
theorem iteTb {c : Bool} {A B : Prop} (hc : c = true) (h : A) : if c = true then A else B := by
  rw [if_pos hc]
  exact h
theorem iteFb {c : Bool} {A B : Prop} (hc : c = false) (h : B) : if c = true then A else B := by
  rw [if_neg (by rw [hc]; decide)]
  exact h
theorem iteD {c : Prop} [Decidable c] {A B : Prop} (h1 : c → A) (h2 : ¬ c → B) : if decide c = true then A else B := by
  by_cases h : c
  · rw [decide_eq_true h]
    exact iteT (h1 h)
  · rw [decide_eq_false h]
    exact iteF (h2 h)
theorem ixN_at {n q : Nat} (h : q < n) : ixN n (q : Int) = some q := by
  unfold ixN
  rw [if_pos (by omega), if_pos (by omega)]
  simp
/-! ### calls -/
/-- the name x stands for a def that keeps sp -/
structure Cal (P : Program) (w : World) (K : PySem.W.Frag) (mg : Str → Option Value) (base : Heap) (k : Nat) (x : Str) (f : Addr) (fd : FuncData) (ps : List Str) (sp : Sp) : Prop where
  glob : mg x = some (.ref f)
  kp : PySem.W.keepIn K (.ref f) = true
  binds : Binds K fd ps []
  ok : FnOk P w K mg base (L2.CX P w) k f fd ps sp
theorem passU {X : Cx} : Passes (L2.CX X.prog X.w) X E0 := fun _ _ _ _ _ _ _ ⟨_, _, _, _, _, _, _, _, _, _, _, _, z⟩ => z.elim
section
variable {X : Cx} {k : Nat} {x : Str} {f : Addr} {fd : FuncData} {ps : List Str} {sp : Sp} {E : XK} {e : Expr} {es : List Expr} {t : TA} {p pos : Pos}
theorem pe_cal (C : Cal X.prog X.w X.K X.mg X.base k x f fd ps sp) (hr : Room k X.A) (ha : PA X (e :: es) t) (hx : Passes (L2.CX X.prog X.w) X E) (hg : Gl X x := by rfl) (hdb : (x == ("__debug__" : Str)) = false := by decide)
    (he : starEach (e :: es) X.env = (false, eval e X.env) :: starEach es X.env := by rfl) (hpl : (backTo pos (starEach es X.env)).any (·.1) = false := by rfl) :
    PE X (.Call (.Name x p) (e :: es) [] pos) (tCall sp [] E t) := pe_call C.ok hr hg C.glob C.kp C.binds .nil hx ha hdb he hpl
theorem pe_calS {W : WX} (C : Cal X.prog X.w X.K X.mg X.base k x f fd ps sp) (hr : Room k X.A) (ha : PA X (e :: es) t) (tk : Takes X W) (hg : Gl X x := by rfl) (hdb : (x == ("__debug__" : Str)) = false := by decide)
    (he : starEach (e :: es) X.env = (false, eval e X.env) :: starEach es X.env := by rfl) (hpl : (backTo pos (starEach es X.env)).any (·.1) = false := by rfl) :
    PE X (.Call (.Name x p) (e :: es) [] pos) (tCallS sp (WE W) t) := pe_callS C.ok hr hg C.glob C.kp C.binds (fun σ => passAt tk σ) ha hdb he hpl
end
/-! ### raise X(e), X's __init__ keeping one field -/
/-- self.f = value -/
def spInit1 (K : PySem.W.Frag) (C : Addr) (f : Str) : Sp := fun vs H Q _ => ∃ (a : Addr) (y : V), vs = [.ref a, y] ∧ OexC K C ∧ PySem.W.findIn K (.ref C) f = some none ∧ H a = some (exo a C none) ∧
  ∀ dx, H dx = none → dx ≠ a → Q .non (upd (upd H dx (exd dx [(f, y)])) a (exo a C (some dx)))
/-- the reading: the error's class, its own dict, the heap behind -/
def tMk1 (C : Addr) (f : Str) (ta : TA) : L2.St → Hp → XK → Prop := fun σ H Q => ta σ H fun vs H1 => ∃ v, vs = [v] ∧ ∀ d H', Same H1 H' → H1 d = none → H' d = some (.xd [(f, v)]) → Q (.ref C) (some d) H'
/-- a reading that may be weakened -/
def lax (ta : TA) : TA := fun σ H Q => ∃ Q0 : List V → Hp → Prop, ta σ H Q0 ∧ ∀ vs H1, Q0 vs H1 → Q vs H1
theorem pa_lax {X : Cx} {es : List Expr} {ta : TA} (ha : PA X es ta) : PA X es (lax ta) :=
  ⟨fun pos pins s σ H Q I h => by
    obtain ⟨Q0, h0, hq⟩ := h
    refine wpAny_mono (ha.run pos pins s σ H Q0 I h0) (fun us s1 hu => ?_) fun _ _ z => z
    obtain ⟨vs, H1, I1, r, q⟩ := hu
    exact ⟨vs, H1, I1, r, hq vs H1 q⟩⟩
section
variable {X : Cx} {k : Nat} {x f : Str} {fd : FuncData} {q : Str} {e : Expr} {ta : TA} {p pos pos2 : Pos}
theorem pmk_1 (T : Exc1 X.K X.mg x f) (F : FnOk X.prog X.w X.K X.mg X.base (L2.CX X.prog X.w) k (He.ma X.K (He.ga X.K x) "__init__") fd ["self", q] (spInit1 X.K (He.ga X.K x) f)) (b : Binds X.K fd ["self", q] [])
    (hr : Room (k + 1) X.A) (ha : PA X [e] ta) (hg : Gl X x := by rfl) (hdb : (x == ("__debug__" : Str)) = false := by decide)
    (he : starEach (e :: []) X.env = (false, eval e X.env) :: starEach [] X.env := by rfl) (hpl : (backTo pos (starEach [] X.env)).any (·.1) = false := by rfl) :
    PMk X (.Call (.Name x p) [e] [] pos) (tMk1 (He.ga X.K x) f ta) := by
  intro pins s σ H Q I h
  refine pmk_oex (CX := L2.CX X.prog X.w) (dvs := []) T.oex T.init T.tI F hr b .nil passU hg T.glob (pa_lax ha) hdb he hpl pins s σ H Q I ⟨_, h, fun vs H1 hv => ?_⟩
  obtain ⟨v, rfl, kk⟩ := hv
  refine ⟨(show 1 ≤ 1000 by decide), fun a na => ⟨a, v, rfl, T.oex, T.no, upd_same, fun dx ndx hdx => ⟨rfl, dx, [(f, v)], upd_same, by rw [upd_ne hdx, upd_same], ?_, ?_⟩⟩⟩
  · rw [upd_ne hdx] at ndx
    exact ndx
  · rw [upd_ne hdx] at ndx
    refine kk dx _ (fun c o hc => ?_) ndx upd_same
    have c1 : c ≠ dx := ne_of_none hc ndx
    have c2 : c ≠ a := ne_of_none hc na
    rw [upd_ne c1, del_ne c2, upd_ne c2, upd_ne c1, upd_ne c2]
    exact hc
theorem ps_raise1 {W : WX} (hc : X.calm = true) (tk : Takes X W) (T : Exc1 X.K X.mg x f) (F : FnOk X.prog X.w X.K X.mg X.base (L2.CX X.prog X.w) k (He.ma X.K (He.ga X.K x) "__init__") fd ["self", q] (spInit1 X.K (He.ga X.K x) f)) (b : Binds X.K fd ["self", q] [])
    (hr : Room (k + 1) X.A) (ha : PA X [e] ta) (hg : Gl X x := by rfl) (hdb : (x == ("__debug__" : Str)) = false := by decide)
    (he : starEach (e :: []) X.env = (false, eval e X.env) :: starEach [] X.env := by rfl) (hpl : (backTo pos (starEach [] X.env)).any (·.1) = false := by rfl) :
    PS X (.Raise (some (.Call (.Name x p) [e] [] pos)) none pos2) (fun _ σ H => tMk1 (He.ga X.K x) f ta σ H fun cls d H' => W cls d σ H') :=
  ps_raise hc tk (pmk_1 T F b hr ha hg hdb he hpl)
end
end WU

namespace WU
open PySem PySem.Spec PyProof.Rows L2
def top (i : Nat) : Stmt := PySem.Challenge.pw_wishunseen_k05_spans_sums_and_products.main.body.getD i (.Pass ⟨0, 0, 0, 0⟩)
abbrev s_wall : Stmt := top 1
abbrev sInvalidNumber_init : Stmt := inClass (top 4) 0
abbrev sInvalidShare_init : Stmt := inClass (top 5) 0
abbrev sInvalidMatrix_init : Stmt := inClass (top 6) 0
abbrev sUndefined_init : Stmt := inClass (top 7) 0
abbrev sIsInt : Stmt := top 9
abbrev sIsNum : Stmt := top 10
abbrev sIsBel : Stmt := top 11
abbrev sSeq : Stmt := top 12
abbrev sLets : Stmt := top 13
abbrev s_figures_of : Stmt := top 14
abbrev sIsFld : Stmt := top 17
abbrev sCheck : Stmt := top 18
abbrev sInv : Stmt := top 19
abbrev s_is_matrix : Stmt := top 21
abbrev s_without_columns : Stmt := top 22
abbrev s_in_span : Stmt := top 23
abbrev s_sum_to : Stmt := top 24
abbrev s_zero_rows : Stmt := top 25
abbrev s_products : Stmt := top 26
abbrev s_matrix_product : Stmt := top 27
abbrev s_check_matrix : Stmt := top 28
abbrev s_width_of_rows : Stmt := top 29
abbrev s_columns_at : Stmt := top 30
abbrev s_turned_rows : Stmt := top 31
abbrev s_leads_of : Stmt := top 32
abbrev s_is_row : Stmt := top 33
abbrev s_u_products : Stmt := top 34
abbrev s_reduced : Stmt := top 35
abbrev s_led_by_one : Stmt := top 36
abbrev s_cleared : Stmt := top 37
abbrev s_less : Stmt := top 38
abbrev s_zero_row : Stmt := top 39
abbrev sShare_init : Stmt := inClass (top 41) 0
abbrev sShare_add : Stmt := inClass (top 41) 1
abbrev sShare_radd : Stmt := inClass (top 41) 2
abbrev sShare_sub : Stmt := inClass (top 41) 3
abbrev sShare_rsub : Stmt := inClass (top 41) 4
abbrev sShare_mul : Stmt := inClass (top 41) 5
abbrev sShare_rmul : Stmt := inClass (top 41) 6
abbrev sShare_neg : Stmt := inClass (top 41) 7
abbrev sShare_eq : Stmt := inClass (top 41) 8
abbrev sShare_bool : Stmt := inClass (top 41) 9
abbrev sShare_str : Stmt := inClass (top 41) 10
abbrev sShare_over : Stmt := inClass (top 41) 11
abbrev sShare_below : Stmt := inClass (top 41) 12
abbrev sShare_told : Stmt := inClass (top 41) 13
abbrev s_is_term : Stmt := top 42
abbrev s_as_share : Stmt := top 43
abbrev s_signed_figures : Stmt := top 44
abbrev sDraws : Stmt := top 46
abbrev sTake : Stmt := top 47
abbrev sOdd : Stmt := top 48
abbrev sLF : Stmt := top 49
abbrev sLFd : Stmt := top 50
abbrev sLN : Stmt := top 51
abbrev s_law_matrix : Stmt := top 52
abbrev s_law_bad_matrix : Stmt := top 53
abbrev s_law_is_matrix : Stmt := top 54
abbrev sLI : Stmt := top 55
abbrev s_law_reduced : Stmt := top 56
abbrev s_law_product : Stmt := top 57
abbrev s_law_sum_of : Stmt := top 58
abbrev s_law_same : Stmt := top 59
abbrev s_law_call : Stmt := top 60
abbrev s_law_told : Stmt := top 61
abbrev s_law_span_right : Stmt := top 62
abbrev s_law_zero_right : Stmt := top 63
abbrev s_law_products_right : Stmt := top 64
abbrev sLaw : Stmt := top 65
theorem scInvalidNumber : FnScope ["self", "value"] ["self", "value"] (defScope sInvalidNumber_init) := ⟨rfl, rfl, rfl, by decide +kernel, rfl, by decide +kernel, by decide +kernel⟩
theorem bodyInvalidNumber (X : Cx) (hN : X.N = (["self", "value"] : List Str)) (hs : X.env.scope = defScope sInvalidNumber_init) : PSs X (defBody sInvalidNumber_init) (tOst X.K "value" (tVar 0) (tVar 1)) :=
  pss_one (ps_ost (pv 0 (by rw [hN] <;> rfl) (by rw [hs]; exact .inl rfl)) (pv 1 (by rw [hN] <;> rfl) (by rw [hs]; exact .inl rfl)))
theorem scInvalidShare : FnScope ["self", "value"] ["self", "value"] (defScope sInvalidShare_init) := ⟨rfl, rfl, rfl, by decide +kernel, rfl, by decide +kernel, by decide +kernel⟩
theorem bodyInvalidShare (X : Cx) (hN : X.N = (["self", "value"] : List Str)) (hs : X.env.scope = defScope sInvalidShare_init) : PSs X (defBody sInvalidShare_init) (tOst X.K "value" (tVar 0) (tVar 1)) :=
  pss_one (ps_ost (pv 0 (by rw [hN] <;> rfl) (by rw [hs]; exact .inl rfl)) (pv 1 (by rw [hN] <;> rfl) (by rw [hs]; exact .inl rfl)))
theorem scInvalidMatrix : FnScope ["self", "value"] ["self", "value"] (defScope sInvalidMatrix_init) := ⟨rfl, rfl, rfl, by decide +kernel, rfl, by decide +kernel, by decide +kernel⟩
theorem bodyInvalidMatrix (X : Cx) (hN : X.N = (["self", "value"] : List Str)) (hs : X.env.scope = defScope sInvalidMatrix_init) : PSs X (defBody sInvalidMatrix_init) (tOst X.K "value" (tVar 0) (tVar 1)) :=
  pss_one (ps_ost (pv 0 (by rw [hN] <;> rfl) (by rw [hs]; exact .inl rfl)) (pv 1 (by rw [hN] <;> rfl) (by rw [hs]; exact .inl rfl)))
theorem scUndefined : FnScope ["self", "what"] ["self", "what"] (defScope sUndefined_init) := ⟨rfl, rfl, rfl, by decide +kernel, rfl, by decide +kernel, by decide +kernel⟩
theorem bodyUndefined (X : Cx) (hN : X.N = (["self", "what"] : List Str)) (hs : X.env.scope = defScope sUndefined_init) : PSs X (defBody sUndefined_init) (tOst X.K "what" (tVar 0) (tVar 1)) :=
  pss_one (ps_ost (pv 0 (by rw [hN] <;> rfl) (by rw [hs]; exact .inl rfl)) (pv 1 (by rw [hN] <;> rfl) (by rw [hs]; exact .inl rfl)))
end WU

set_option maxRecDepth 100000
set_option maxHeartbeats 4000000
namespace WU
open PySem PySem.Spec PyProof.Rows L2
abbrev FnS (K : PySem.W.Frag) (x : Str) (st : Stmt) (f : Addr) (fd : FuncData) : Prop := FunD K x x (defArgs st) (defBody st) (defScope st) [] [] f fd
theorem small4k {n : Nat} (h : n ≤ 4000) : n < sizeLine := Nat.lt_of_le_of_lt h (by decide)
/-! ### any values -/
def isIB : V → Bool
  | .int _ => true
  | .bl _ => true
  | _ => false
def isB : V → Bool
  | .bl _ => true
  | _ => false
def isI : V → Bool
  | .int _ => true
  | _ => false
/-- the value has a type, of which int and bool are known -/
def Ty3 (K : PySem.W.Frag) (H : Hp) (v : V) : Prop := ∃ t, TyX K H v t ∧ PySem.W.kitOne K t (.type "int") = some (isIB v) ∧ PySem.W.kitOne K t (.type "bool") = some (isB v)
section
variable {K : PySem.W.Frag} {H : Hp}
theorem ty3_int (i : Int) : Ty3 K H (.int i) := ⟨_, .base (.int i), kit_ty (show kitB "int" "int" = some true by decide +kernel), kit_ty (show kitB "int" "bool" = some false by decide +kernel)⟩
theorem ty3_bl (b : Bool) : Ty3 K H (.bl b) := ⟨_, .base (.bl b), kit_ty (show kitB "bool" "int" = some true by decide +kernel), kit_ty (show kitB "bool" "bool" = some true by decide +kernel)⟩
theorem ty3_non : Ty3 K H .non := ⟨_, .base .non, kit_ty (show kitB "NoneType" "int" = some false by decide +kernel), kit_ty (show kitB "NoneType" "bool" = some false by decide +kernel)⟩
theorem ty3_str (z : Str) : Ty3 K H (.str z) := ⟨_, .base (.str z), kit_ty (show kitB "str" "int" = some false by decide +kernel), kit_ty (show kitB "str" "bool" = some false by decide +kernel)⟩
theorem ty3_lst {a : Addr} {xs : List V} (e : H a = some (.lst xs)) : Ty3 K H (.ref a) := ⟨_, .base (.lst e), kit_ty (show kitB "list" "int" = some false by decide +kernel), kit_ty (show kitB "list" "bool" = some false by decide +kernel)⟩
theorem ty3_tup {a : Addr} {xs : List V} (e : H a = some (.tup xs)) : Ty3 K H (.ref a) := ⟨_, .base (.tup e), kit_ty (show kitB "tuple" "int" = some false by decide +kernel), kit_ty (show kitB "tuple" "bool" = some false by decide +kernel)⟩
end
section
variable {P : Program} {w : World} {K : PySem.W.Frag} {mg : Str → Option Value} {base : Heap}
structure Blt (mg : Str → Option Value) : Prop where
  isi : mg "isinstance" = none
  int : mg "int" = none
  bool : mg "bool" = none
def spIsInt (K : PySem.W.Frag) : Sp := fun vs H Q _ => ∃ v, vs = [v] ∧ Ty3 K H v ∧ Q (.bl (isI v)) H
theorem scIsInt : FnScope ["value"] ["value"] (defScope sIsInt) := ⟨rfl, rfl, rfl, by decide +kernel, rfl, by decide +kernel, by decide +kernel⟩
theorem ok_isInt {f : Addr} {fd : FuncData} (F : FnS K "is_integer" sIsInt f fd) (B : Blt mg) : FnOk P w K mg base (L2.CX P w) 1 f fd ["value"] (spIsInt K) := by
  refine F.ok scIsInt (fun vs H Q E h => ?_) (fun cdv A outer s H vs Q E hr h => ?_)
  · obtain ⟨v, rfl, _⟩ := h
    rfl
  · obtain ⟨v, rfl, ⟨t, ht, h1, h2⟩, k⟩ := h
    refine ⟨_, pss_one (ps_ret (pe_and (pe_callB call_isi (by rfl) B.isi (by decide +kernel) (pa_cons (pv 0) (pa_cons (pe_bltn (v := .ty "int") (by rfl) B.int (by decide +kernel) rfl) pa_nil)))
      (pe_one (pe_not (pe_callB call_isi (by rfl) B.isi (by decide +kernel) (pa_cons (pv 0) (pa_cons (pe_bltn (v := .ty "bool") (by rfl) B.bool (by decide +kernel) rfl) pa_nil))))))), ?_⟩
    refine ⟨_, rfl, _, _, _, _, _, rfl, .ty "int", ht, h1, _, rfl, ?_⟩
    cases v with
    | int n =>
      refine iteT ⟨_, rfl, _, _, _, _, _, rfl, .ty "bool", ht, h2, _, rfl, k⟩
    | bl b => exact iteT ⟨_, rfl, _, _, _, _, _, rfl, .ty "bool", ht, h2, _, rfl, k⟩
    | _ => exact iteF k
theorem bN {x : Str} {st : Stmt} {f : Addr} {fd : FuncData} {ps : List Str} (F : FnS K x st f fd)
    (h : ∀ (kV doc pm : Value) (an : Option Addr) (cdv ct : Value) (us : List Value), us.length = ps.length → bindArgs (PySem.W.fnOf x x (defArgs st) (defBody st) (defScope st) .none kV doc pm an cdv ct) ⟨us, []⟩ = pure (ps.zip us)) : Binds K fd ps [] := F.bindsN h
theorem cal_mk {x : Str} {st : Stmt} {f : Addr} {fd : FuncData} {ps : List Str} {k : Nat} {sp : Sp} (F : FnS K x st f fd) (g : mg x = some (.ref f)) (ok : FnOk P w K mg base (L2.CX P w) k f fd ps sp)
    (h : ∀ (kV doc pm : Value) (an : Option Addr) (cdv ct : Value) (us : List Value), us.length = ps.length → bindArgs (PySem.W.fnOf x x (defArgs st) (defBody st) (defScope st) .none kV doc pm an cdv ct) ⟨us, []⟩ = pure (ps.zip us)) : Cal P w K mg base k x f fd ps sp :=
  ⟨g, F.kp, F.bindsN h, ok⟩
/-- whether it is a number; .. below n -/
def isN : V → Bool
  | .int i => decide (0 ≤ i)
  | _ => false
def isBel (n : Int) : V → Bool
  | .int i => decide (0 ≤ i) && decide (i < n)
  | _ => false
def spIsNum (K : PySem.W.Frag) : Sp := fun vs H Q _ => ∃ v, vs = [v] ∧ Ty3 K H v ∧ Q (.bl (isN v)) H
def spIsBel (K : PySem.W.Frag) : Sp := fun vs H Q _ => ∃ v n, vs = [v, .int n] ∧ Ty3 K H v ∧ Q (.bl (isBel n v)) H
theorem scIsNum : FnScope ["value"] ["value"] (defScope sIsNum) := ⟨rfl, rfl, rfl, by decide +kernel, rfl, by decide +kernel, by decide +kernel⟩
theorem ok_isNum {f f1 : Addr} {fd fd1 : FuncData} (F : FnS K "is_number" sIsNum f fd) (C1 : Cal P w K mg base 1 "is_integer" f1 fd1 ["value"] (spIsInt K)) : FnOk P w K mg base (L2.CX P w) 2 f fd ["value"] (spIsNum K) := by
  refine F.ok scIsNum (fun vs H Q E h => ?_) (fun cdv A outer s H vs Q E hr h => ?_)
  · obtain ⟨v, rfl, _⟩ := h
    rfl
  · obtain ⟨v, rfl, ht, k⟩ := h
    refine ⟨_, pss_one (ps_ret (pe_and (pe_cal C1 hr (pa_cons (pv 0) pa_nil) passU) (pe_one (pe_cmp (pc_ge (pv 0) pe_int))))), ?_⟩
    refine ⟨_, rfl, v, rfl, ht, _, rfl, ?_⟩
    cases v with
    | int n => exact iteT ⟨_, rfl, _, _, rfl, rfl, k⟩
    | _ => exact iteF k
theorem scIsBel : FnScope ["value", "limit"] ["value", "limit"] (defScope sIsBel) := ⟨rfl, rfl, rfl, by decide +kernel, rfl, by decide +kernel, by decide +kernel⟩
theorem ok_isBel {f f1 : Addr} {fd fd1 : FuncData} (F : FnS K "is_below" sIsBel f fd) (C1 : Cal P w K mg base 2 "is_number" f1 fd1 ["value"] (spIsNum K)) : FnOk P w K mg base (L2.CX P w) 3 f fd ["value", "limit"] (spIsBel K) := by
  refine F.ok scIsBel (fun vs H Q E h => ?_) (fun cdv A outer s H vs Q E hr h => ?_)
  · obtain ⟨v, n, rfl, _⟩ := h
    rfl
  · obtain ⟨v, n, rfl, ht, k⟩ := h
    refine ⟨_, pss_one (ps_ret (pe_and (pe_cal C1 hr (pa_cons (pv 0) pa_nil) passU) (pe_one (pe_cmp (pc_lt (pv 0) (pv 1)))))), ?_⟩
    refine ⟨_, rfl, v, rfl, ht, _, rfl, ?_⟩
    cases v with
    | int i =>
      have k' : Q (.bl (decide (0 ≤ i) && decide (i < n))) H := k
      show if decide (0 ≤ i) = true then _ else _
      by_cases h0 : 0 ≤ i
      · rw [decide_eq_true h0] at k' ⊢
        exact iteT ⟨_, rfl, _, rfl, _, _, rfl, rfl, k'⟩
      · rw [decide_eq_false h0] at k' ⊢
        exact iteF k'
    | _ => exact iteF k
/-- the primes to 31 -/
def primes : List Int := [2, 3, 5, 7, 11, 13, 17, 19, 23, 29, 31]
def isFld : V → Bool
  | .int i => inV (.int i) (primes.map V.int)
  | _ => false
def spIsFld (K : PySem.W.Frag) : Sp := fun vs H Q _ => ∃ v, vs = [v] ∧ Ty3 K H v ∧ Q (.bl (isFld v)) H
theorem scIsFld : FnScope ["p"] ["p"] (defScope sIsFld) := ⟨rfl, rfl, rfl, by decide +kernel, rfl, by decide +kernel, by decide +kernel⟩
theorem ok_isFld {f f1 fP : Addr} {fd fd1 : FuncData} (F : FnS K "is_field" sIsFld f fd) (C1 : Cal P w K mg base 1 "is_integer" f1 fd1 ["value"] (spIsInt K)) (gP : mg "PRIMES" = some (.ref fP)) (tP : ∀ H, SqT K H fP (primes.map V.int)) :
    FnOk P w K mg base (L2.CX P w) 2 f fd ["p"] (spIsFld K) := by
  refine F.ok scIsFld (fun vs H Q E h => ?_) (fun cdv A outer s H vs Q E hr h => ?_)
  · obtain ⟨v, rfl, _⟩ := h
    rfl
  · obtain ⟨v, rfl, ht, k⟩ := h
    refine ⟨_, pss_one (ps_ret (pe_and (pe_cal C1 hr (pa_cons (pv 0) pa_nil) passU) (pe_one (pe_cmpR op_in_seq (pv 0) (pe_glob (v := .ref fP) rfl gP rfl) rfl)))), ?_⟩
    refine ⟨_, rfl, v, rfl, ht, _, rfl, ?_⟩
    cases v with
    | int n => exact iteT ⟨_, rfl, _, _, rfl, .inr (tP H), rfl, by decide, k⟩
    | _ => exact iteF k
/-- an error of class C with its own dict at d, in a heap that has grown -/
def Errs (C : Addr) (f : Str) (v : V) (H : Hp) (E : XK) : Prop := ∀ d H', Same H H' → H d = none → H' d = some (.xd [(f, v)]) → E (.ref C) (some d) H'
def spCheck (K : PySem.W.Frag) : Sp := fun vs H Q E => ∃ v, vs = [v] ∧ Ty3 K H v ∧ (isFld v = true → Q .non H) ∧ (isFld v = false → Errs (He.ga K "InvalidNumber") "value" v H E)
theorem scCheck : FnScope ["p"] ["p"] (defScope sCheck) := ⟨rfl, rfl, rfl, by decide +kernel, rfl, by decide +kernel, by decide +kernel⟩
theorem ok_check {f f1 : Addr} {fd fd1 fdI : FuncData} (F : FnS K "check_field" sCheck f fd) (C1 : Cal P w K mg base 2 "is_field" f1 fd1 ["p"] (spIsFld K)) (T : Exc1 K mg "InvalidNumber" "value")
    (FI : FnOk P w K mg base (L2.CX P w) 1 (He.ma K (He.ga K "InvalidNumber") "__init__") fdI ["self", "value"] (spInit1 K (He.ga K "InvalidNumber") "value")) (bI : Binds K fdI ["self", "value"] []) :
    FnOk P w K mg base (L2.CX P w) 3 f fd ["p"] (spCheck K) := by
  refine F.ok scCheck (fun vs H Q E h => ?_) (fun cdv A outer s H vs Q E hr h => ?_)
  · obtain ⟨v, rfl, _⟩ := h
    rfl
  · obtain ⟨v, rfl, ht, kY, kN⟩ := h
    refine ⟨_, pss_one (ps_if (pt_not (pt_val (pe_cal C1 hr (pa_cons (pv 0) pa_nil) passU))) (pss_one (ps_raise1 rfl (takes_of rfl rfl rfl rfl) T FI bI hr (pa_cons (pv 0) pa_nil))) pss_nil), ?_⟩
    refine ⟨_, rfl, v, rfl, ht, _, rfl, ?_⟩
    cases e : isFld v with
    | true => exact iteF (kY e)
    | false => exact iteT ⟨_, rfl, v, rfl, kN e⟩
end
section
variable {P : Program} {w : World} {K : PySem.W.Frag} {mg : Str → Option Value} {base : Heap}
/-! ### the errors' __init__ -/
theorem ok_init1 {st : Stmt} {qual fld par : Str} {f C : Addr} {fd : FuncData} (F : FunD K "__init__" qual (defArgs st) (defBody st) (defScope st) [] [] f fd) (S : FnScope (("self" : Str) :: [par]) (("self" : Str) :: [par]) (defScope st))
    (body : ∀ X : Cx, X.N = (("self" : Str) :: [par]) → X.env.scope = defScope st → PSs X (defBody st) (tOst X.K fld (tVar 0) (tVar 1))) :
    FnOk P w K mg base (L2.CX P w) 1 f fd (("self" : Str) :: [par]) (spInit1 K C fld) := by
  refine F.ok S (fun vs H Q E h => ?_) (fun cdv A outer s H vs Q E hr h => ?_)
  · obtain ⟨a, y, rfl, _⟩ := h
    rfl
  · obtain ⟨a, y, rfl, hC, hno, ha, k⟩ := h
    refine ⟨_, body _ rfl rfl, ?_⟩
    exact ⟨_, rfl, _, rfl, a, C, rfl, hC, hno, .inl ⟨ha, fun dx n ne => k dx n ne⟩⟩
theorem fld_mem {p : Int} (h : isFld (.int p) = true) : p ∈ primes := by
  have h' : ((primes.map V.int).any fun y => eqV y (.int p)) = true := h
  obtain ⟨y, hy, e⟩ := List.any_eq_true.mp h'
  obtain ⟨q, hq, rfl⟩ := List.mem_map.mp hy
  have e' : (q == p) = true := e
  rw [← beq_iff_eq.mp e']
  exact hq
theorem mem_fld {p : Int} (h : p ∈ primes) : isFld (.int p) = true := by
  show ((primes.map V.int).any fun y => eqV y (.int p)) = true
  exact List.any_eq_true.mpr ⟨.int p, List.mem_map.mpr ⟨p, h, rfl⟩, by show (p == p) = true; simp⟩
theorem fld_le {p : Int} (h : p ∈ primes) : 2 ≤ p ∧ p ≤ 31 := by
  have all : ∀ q ∈ primes, 2 ≤ q ∧ q ≤ 31 := by decide
  exact all p h
/-- the built-ins that the law's helpers call -/
structure Blt2 (mg : Str → Option Value) : Prop extends Blt mg where
  len : mg "len" = none
  abs : mg "abs" = none
  range : mg "range" = none
  tuple : mg "tuple" = none
/-- numbers from 0 on -/
def Nn (ns : List Int) : Prop := ∀ n ∈ ns, 0 ≤ n
/-- _law_draws(script, many) -/
def spDraws (K : PySem.W.Frag) (many : Int) : Sp := fun vs H Q _ => ∃ (a : Addr) (ns : List Int), vs = [.ref a, .int many] ∧ SqL K H a (ns.map V.int) ∧ ns.length ≤ 63 ∧
  ∀ p ds H', Same H H' → H p = none → H' p = some (.lst (ds.map V.int)) → Nn ds → ds.length ≤ many.toNat → Q (.ref p) H'
theorem scDraws : FnScope ["script", "many", "cell", "rests", "draws", "k", "at", "mixed"] ["script", "many"] (defScope sDraws) := ⟨rfl, rfl, rfl, by decide +kernel, rfl, by decide +kernel, by decide +kernel⟩
def rMd : R2 := rI (fun _ j => j ≠ 0) fun i j => .int (i.fmod j)
def rDv : R2 := rI CDivN fun i j => .int (i.fdiv j)
def rMl : R2 := rI CMul fun i j => .int (i * j)
def rAd : R2 := rI0 fun i j => .int (i + j)
def tI1 (t : TE) : TE := tCB (fun xs H Q => (∃ i, xs = [V.int i] ∧ Q (.int i) H) ∨ ∃ k, xs = [V.bl k] ∧ Q (.int (if k then 1 else 0)) H) (tCons t tNil)
/-- the end of a turn: two mixings, one number put behind the others -/
def tTail (K : PySem.W.Frag) : TS := tSeq (tAsg (tOp rMd (tI1 (tOp rAd (tOp rAd (tOp rMl (tVar 2) (tC (.int 48271))) (tOp rMl (tVar 5) (tC (.int 69621)))) (tC (.int 11)))) (tC (.int 2147483647))) (gName 7))
  (tSeq (tAsg (tOp rMd (tI1 (tOp rAd (tOp rDv (tOp rMl (tVar 7) (tVar 7)) (tC (.int 4096))) (tVar 7))) (tC (.int 2147483629))) (gName 7))
    (tDrop (tBM K "list" rAppend (tVar 4) (tCons (tOp rMd (tI1 (tOp rAd (tOp rDv (tOp rMl (tVar 7) (tVar 7)) (tC (.int 4096))) (tOp rMl (tVar 5) (tC (.int 7919))))) (tC (.int 2147483629))) tNil))))
theorem fmod_bd (x : Int) {m : Int} (h : 0 < m) : 0 ≤ x.fmod m ∧ x.fmod m < m := ⟨Int.fmod_nonneg_of_pos x h, Int.fmod_lt_of_pos x h⟩
theorem tail_ok {D : Ends} {s0 s1 s3 s6 s7 : Option V} {c k : Int} {L : Addr} {ds : List Int} {H : Hp} (hL : H L = some (.lst (ds.map V.int))) (hl : ds.length ≤ 4000)
    (kk : ∀ (x : Int) (y : Option V), 0 ≤ x → D.nx [s0, s1, some (.int c), s3, some (.ref L), some (.int k), s6, y] (upd H L (.lst ((ds ++ [x]).map V.int)))) :
    tTail K D [s0, s1, some (.int c), s3, some (.ref L), some (.int k), s6, s7] H := by
  have b1 := fmod_bd (c * 48271 + k * 69621 + 11) (m := 2147483647) (by decide)
  refine ⟨_, rfl, _, _, rfl, rfl, .inr ⟨by decide, by decide⟩, _, rfl, _, _, rfl, rfl, .inr ⟨by decide, by decide⟩, _, _, rfl, rfl, _, _, rfl, rfl, .inl ⟨_, rfl, _, _, rfl, rfl, (show (2147483647 : Int) ≠ 0 by decide), ?_⟩⟩
  dsimp only
  generalize (c * 48271 + k * 69621 + 11).fmod 2147483647 = m at b1 ⊢
  have b2 := fmod_bd ((m * m).fdiv 4096 + m) (m := 2147483629) (by decide)
  refine ⟨_, rfl, _, rfl, _, _, rfl, rfl, .inl ⟨by omega, by omega⟩, _, _, rfl, rfl, ⟨by decide, by decide⟩, _, rfl, _, _, rfl, rfl, .inl ⟨_, rfl, _, _, rfl, rfl, (show (2147483629 : Int) ≠ 0 by decide), ?_⟩⟩
  dsimp only
  generalize ((m * m).fdiv 4096 + m).fmod 2147483629 = n at b2 ⊢
  refine ⟨_, rfl, .inl ⟨rfl, _, SqL.of hL⟩, ?_⟩
  refine ⟨_, rfl, _, rfl, _, _, rfl, rfl, .inl ⟨by omega, by omega⟩, _, _, rfl, rfl, ⟨by decide, by decide⟩, _, rfl, _, _, rfl, rfl, .inr ⟨by decide, by decide⟩, _, _, rfl, rfl, .inl ⟨_, rfl, _, _, rfl, rfl, (show (2147483629 : Int) ≠ 0 by decide), ?_⟩⟩
  refine ⟨L, _, _, rfl, rfl, hL, ?_, ?_⟩
  · rw [List.length_map]
    exact small4k hl
  · have b3 := fmod_bd ((n * n).fdiv 4096 + k * 7919) (m := 2147483629) (by decide)
    have q := kk _ (some (.int n)) b3.1
    rw [List.map_append] at q
    exact q
theorem ok_draws {f : Addr} {fd : FuncData} (F : FnS K "_law_draws" sDraws f fd) (B : Blt2 mg) {many : Int} (hm0 : 0 ≤ many) (hm : many ≤ 4000) : FnOk P w K mg base (L2.CX P w) 1 f fd ["script", "many"] (spDraws K many) := by
  refine F.ok scDraws (fun vs H Q E h => ?_) (fun cdv A outer s H vs Q E hr h => ?_)
  · obtain ⟨a, ns, rfl, _⟩ := h
    rfl
  · obtain ⟨a, ns, rfl, hS, hl, k⟩ := h
    have nd := scDraws.nd
    refine ⟨_, (pss_cons (ps_setLc (i := 3) (own := [("cell", 2)]) (g := gName 2) (by rfl) nd rfl rfl (sw_true rfl rfl rfl (by decide +kernel)) (pi_list (pv 0)) (blkOk_by (own := [("cell", 2)]) (N := ["script", "many", "cell", "rests", "draws", "k", "at", "mixed"]) (sc := defScope sDraws) (by decide +kernel)) (fun _ _ _ _ _ => pg_name (i := 2) nd rfl (Or.inl rfl)) (fun _ _ _ _ _ => pts_nil) (fun _ _ _ _ _ => (pe_callB call_abs (by rfl) B.abs (by decide +kernel) (pa_cons (pe_callTy call_int1 (by rfl) B.int (by decide +kernel) (pa_cons (pv 2) pa_nil)) pa_nil))))
      (pss_cons (ps_set (i := 4) nd rfl (Or.inl rfl) (pe_lst pa_nil))
      (pss_cons (ps_for (passes_of rfl) rfl (pi_range1 rfl B.range (pa_cons (pv 1) pa_nil)) (pg_name (i := 5) nd rfl (Or.inl rfl)) (pss_cons (ps_set (i := 2) nd rfl (Or.inl rfl) (pv 5))
      (pss_cons (ps_if (pt_cmpR op_gt (pe_callB call_len_seq (by rfl) B.len (by decide +kernel) (pa_cons (pv 0) pa_nil)) pe_int (nomark _)) (pss_cons (ps_set (i := 6) nd rfl (Or.inl rfl) (pe_op op_modN (pv 5) (pe_callB call_len_seq (by rfl) B.len (by decide +kernel) (pa_cons (pv 0) pa_nil))))
      (pss_cons (ps_set (i := 2) nd rfl (Or.inl rfl) (pe_callTy call_int1 (by rfl) B.int (by decide +kernel) (pa_cons (pe_ix ix_list (pv 0) (pv 6) (fun _ _ => rfl)) pa_nil)))
      (pss_one (ps_if (PW.pt (pw_and (pt_cmpR op_ge (pv 2) (pe_op op_pow pe_int pe_int) (nomark _)) (pw_and1 (pt_cmpR op_gt (pe_ix ix_list (pv 3) (pv 6) (fun _ _ => rfl)) pe_int (nomark _))))) (pss_cons (ps_expr (pe_bm PySem.F.plainAttrs_list PySem.F.slot_list_append PySem.F.type_list_append mt_append (pv 4) (pa_cons (pe_op op_modN (pe_callTy call_int1 (by rfl) B.int (by decide +kernel) (pa_cons (pe_ix ix_list (pv 3) (pv 6) (fun _ _ => rfl)) pa_nil)) pe_int) pa_nil)))
      (pss_cons (ps_asg (pe_op op_fdivN (pe_callTy call_int1 (by rfl) B.int (by decide +kernel) (pa_cons (pe_ix ix_list (pv 3) (pv 6) (fun _ _ => rfl)) pa_nil)) pe_int) (pg_sub (pv 3) (pv 6) set_list))
      (pss_one ps_continue))) pss_nil)))) pss_nil)
      (pss_cons (ps_set (i := 7) nd rfl (Or.inl rfl) (pe_op op_modN (pe_callTy call_int1 (by rfl) B.int (by decide +kernel) (pa_cons (pe_op op_add (pe_op op_add (pe_op op_mul (pv 2) pe_int) (pe_op op_mul (pv 5) pe_int)) pe_int) pa_nil)) pe_int))
      (pss_cons (ps_set (i := 7) nd rfl (Or.inl rfl) (pe_op op_modN (pe_callTy call_int1 (by rfl) B.int (by decide +kernel) (pa_cons (pe_op op_add (pe_op op_fdivN (pe_op op_mul (pv 7) (pv 7)) pe_int) (pv 7)) pa_nil)) pe_int))
      (pss_one (ps_expr (pe_bm PySem.F.plainAttrs_list PySem.F.slot_list_append PySem.F.type_list_append mt_append (pv 4) (pa_cons (pe_op op_modN (pe_callTy call_int1 (by rfl) B.int (by decide +kernel) (pa_cons (pe_op op_add (pe_op op_fdivN (pe_op op_mul (pv 7) (pv 7)) pe_int) (pe_op op_mul (pv 5) pe_int)) pa_nil)) pe_int) pa_nil)))))))))
      (pss_one (ps_ret (pv 4)))))), ?_⟩
    refine ⟨_, rfl, a, rfl, ⟨_, hS⟩, fun D hD => lc_list (K := K) (a := a) (xs := ns.map V.int) (fun i H' => Same H H' ∧ ∃ rs : List Int, H' D = some (.lst (rs.map V.int)) ∧ rs.length = i ∧ Nn rs)
      ⟨fun c o hc => by rw [upd_ne (ne_of_none hc hD)]; exact hc, [], upd_same, rfl, fun n hn => by cases hn⟩ (fun i H' _ z => z.1.seq hS) ?_ ?_⟩
    · rintro i x H' hi ⟨s1, rs, e, l, n⟩
      obtain ⟨z, hz, rfl⟩ : ∃ z, ns[i]? = some z ∧ x = V.int z := by
        rw [List.getElem?_map] at hi
        cases q : ns[i]? with
        | none => rw [q] at hi; cases hi
        | some z => rw [q] at hi; exact ⟨z, rfl, (Option.some.inj hi).symm⟩
      have hi2 : i < ns.length := (List.getElem?_eq_some_iff.mp hz).1
      refine ⟨rfl, _, rfl, .inl ⟨z, rfl, z, rfl, _, e, ?_, fun c o hc => ?_, rs ++ [if z < 0 then -z else z], ?_, ?_, ?_⟩⟩
      · rw [List.length_map]
        exact small4k (by omega)
      · rw [upd_ne (ne_of_none hc hD)]
        exact s1 c o hc
      · rw [upd_same, List.map_append]
        rfl
      · rw [List.length_append, l]
        rfl
      · intro m hm
        rcases List.mem_append.mp hm with hm | hm
        · exact n m hm
        · rw [List.mem_singleton.mp hm]
          split <;> omega
    · rintro H1 ⟨s1, rs, e, l, n⟩
      rw [List.length_map] at l
      refine ⟨(by show 0 ≤ sizeLine; omega), fun L hL => ?_⟩
      have hDL : D ≠ L := ne_of_none e hL
      have hL0 : H L = none := s1.free hL
      refine ⟨_, rfl, many, rfl, (by omega), (by omega), for_range (lo := 0) (n := many.toNat) (fun i σ H' => ∃ (v2 v5 v6 v7 : Option V) (rs ds : List Int), σ = [some (.ref a), some (.int many), v2, some (.ref D), some (.ref L), v5, v6, v7] ∧ Same H H' ∧
        H' D = some (.lst (rs.map V.int)) ∧ rs.length = ns.length ∧ Nn rs ∧ H' L = some (.lst (ds.map V.int)) ∧ Nn ds ∧ ds.length ≤ i)
        ⟨none, none, none, none, rs, [], rfl, fun c o hc => by rw [upd_ne (ne_of_none hc hL0)]; exact s1 c o hc, by rw [upd_ne hDL]; exact e, l, n, upd_same, (fun m hm => nomatch hm), Nat.le_refl _⟩ ?_ ?_⟩
      · rintro i σ H2 hi ⟨v2, v5, v6, v7, rs, ds, rfl, s2, eD, lD, nD, eL, nL, lL⟩
        have s2S := s2.seq hS
        have put : ∀ (x : Int) (v2 v5 v6 v7 : Option V), 0 ≤ x → ∃ (v2' v5' v6' v7' : Option V) (rs' ds' : List Int), [some (V.ref a), some (V.int many), v2, some (V.ref D), some (V.ref L), v5, v6, v7] = [some (V.ref a), some (V.int many), v2', some (V.ref D), some (V.ref L), v5', v6', v7'] ∧
            Same H (upd H2 L (.lst ((ds ++ [x]).map V.int))) ∧ upd H2 L (.lst ((ds ++ [x]).map V.int)) D = some (.lst (rs'.map V.int)) ∧ rs'.length = ns.length ∧ Nn rs' ∧ upd H2 L (.lst ((ds ++ [x]).map V.int)) L = some (.lst (ds'.map V.int)) ∧ Nn ds' ∧ ds'.length ≤ i + 1 := by
          intro x v2 v5 v6 v7 hx
          refine ⟨v2, v5, v6, v7, rs, ds ++ [x], rfl, fun c o hc => by rw [upd_ne (ne_of_none hc hL0)]; exact s2 c o hc, by rw [upd_ne hDL]; exact eD, lD, nD, upd_same, ?_, by rw [List.length_append]; show ds.length + 1 ≤ i + 1; omega⟩
          intro m hm
          rcases List.mem_append.mp hm with hm | hm
          · exact nL m hm
          · rw [List.mem_singleton.mp hm]
            exact hx
        refine ⟨_, rfl, _, rfl, _, _, rfl, .inl s2S, _, _, rfl, rfl, _, rfl, ?_⟩
        rw [List.length_map]
        by_cases h0 : ns.length = 0
        · rw [decide_eq_false (by omega)]
          refine iteF ?_
          show tTail K _ [some (.ref a), some (.int many), some (.int _), some (.ref D), some (.ref L), some (.int _), _, _] H2
          exact tail_ok eL (by omega) fun x y hx => put x _ _ _ y hx
        · rw [decide_eq_true (by omega)]
          refine iteT ?_
          refine ⟨_, rfl, _, rfl, _, _, rfl, .inl s2S, _, _, rfl, rfl, (by rw [List.length_map]; omega), ?_⟩
          have bq := fmod_bd (0 + (i : Int)) (m := ((ns.map V.int).length : Int)) (by rw [List.length_map]; omega)
          obtain ⟨q, hq⟩ : ∃ q : Nat, (0 + (i : Int)).fmod ((ns.map V.int).length : Int) = (q : Int) := ⟨((0 + (i : Int)).fmod ((ns.map V.int).length : Int)).toNat, by omega⟩
          rw [hq] at bq
          have hql : q < ns.length := by
            have := bq.2
            rw [List.length_map] at this
            omega
          have e1 : (ns.map V.int)[q]? = some (V.int ns[q]) := by rw [List.getElem?_map, List.getElem?_eq_getElem hql] <;> rfl
          have e2 : (rs.map V.int)[q]? = some (V.int (rs[q]'(by omega))) := by rw [List.getElem?_map, List.getElem?_eq_getElem (by omega)] <;> rfl
          refine ⟨_, rfl, _, rfl, a, _, _, _, rfl, rfl, s2S, (by rw [hq]; exact atI_nat e1), .inl ⟨_, rfl, ?_⟩⟩
          have ea2 : atI (rs.map V.int) ((0 + (i : Int)).fmod ((ns.map V.int).length : Int)) = some (.int (rs[q]'(by omega))) := by rw [hq]; exact atI_nat e2
          have nq : 0 ≤ rs[q]'(by omega) := nD _ (List.getElem_mem _)
          refine ⟨_, rfl, _, _, rfl, rfl, ⟨by decide, by decide, by decide⟩, _, _, rfl, rfl, _, rfl, ?_⟩
          refine iteD (fun hc => ?_) (fun hc => ?_)
          · refine ⟨_, rfl, _, rfl, D, _, _, _, rfl, rfl, SqL.of eD, ea2, _, _, rfl, rfl, _, rfl, ?_⟩
            refine iteD (fun hd => ?_) (fun hd => ?_)
            · refine ⟨_, rfl, .inl ⟨rfl, _, SqL.of eL⟩, _, rfl, _, rfl, D, _, _, _, rfl, rfl, SqL.of eD, ea2, .inl ⟨_, rfl, _, _, rfl, rfl, (show (1000003 : Int) ≠ 0 by decide), L, _, _, rfl, rfl, eL, (by rw [List.length_map]; exact small4k (by omega)), ?_⟩⟩
              have eD2 : ∀ o, upd H2 L o D = some (.lst (rs.map V.int)) := fun o => by rw [upd_ne hDL]; exact eD
              refine ⟨_, rfl, _, rfl, D, _, _, _, rfl, rfl, SqL.of (eD2 _), ea2, .inl ⟨_, rfl, _, _, rfl, rfl, ⟨by decide, by decide⟩, _, rfl, _, rfl, D, _, _, q, rfl, rfl, eD2 _, (by rw [hq, List.length_map]; exact ixN_at (by omega)), ?_⟩⟩
              have b4 := fmod_bd (rs[q]'(by omega)) (m := 1000003) (by decide)
              have b5 : 0 ≤ (rs[q]'(by omega)).fdiv 1000003 := Int.fdiv_nonneg nq (by decide)
              have hDc : ∀ {c : Addr} {o : HO}, H c = some o → c ≠ D := fun hc => ne_of_none hc hD
              refine ⟨_, _, _, _, rs.set q ((rs[q]'(by omega)).fdiv 1000003), ds ++ [(rs[q]'(by omega)).fmod 1000003], rfl, fun c o hc => ?_, ?_, ?_, ?_, ?_, ?_, ?_⟩
              · rw [upd_ne (hDc hc), upd_ne (ne_of_none hc hL0)]
                exact s2 c o hc
              · rw [upd_same, List.map_set]
              · rw [List.length_set]
                exact lD
              · intro m hm
                rcases List.mem_or_eq_of_mem_set hm with h | h
                · exact nD m h
                · rw [h]; exact b5
              · rw [upd_ne hDL.symm, upd_same, List.map_append]
                rfl
              · intro m hm
                rcases List.mem_append.mp hm with hm | hm
                · exact nL m hm
                · rw [List.mem_singleton.mp hm]
                  exact b4.1
              · rw [List.length_append]
                show ds.length + 1 ≤ i + 1
                omega
            · show tTail K _ [some (.ref a), some (.int many), some (.int _), some (.ref D), some (.ref L), some (.int _), _, _] H2
              exact tail_ok eL (by omega) fun x y hx => put x _ _ _ y hx
          · show tTail K _ [some (.ref a), some (.int many), some (.int _), some (.ref D), some (.ref L), some (.int _), _, _] H2
            exact tail_ok eL (by omega) fun x y hx => put x _ _ _ y hx
      · rintro σ H2 ⟨v2, v5, v6, v7, rs, ds, rfl, s2, eD, lD, nD, eL, nL, lL⟩
        exact ⟨_, rfl, k L ds H2 s2 hL0 eL nL lL⟩
/-- the hand: the draws and the place in them -/
def HandAt (H : Hp) (a d : Addr) : Prop := ∃ (ds : List Int) (i : Int), H a = some (.lst [.ref d, .int i]) ∧ H d = some (.lst (ds.map V.int)) ∧ Nn ds ∧ 0 ≤ i
theorem hand_ne {H : Hp} {a d : Addr} {ds : List Int} {i : Int} (h1 : H a = some (.lst [.ref d, .int i])) (h2 : H d = some (.lst (ds.map V.int))) : a ≠ d := by
  refine ne_of h1 h2 fun z => ?_
  have z' : [V.ref d, V.int i] = ds.map V.int := HO.lst.inj z
  cases ds with
  | nil => cases z'
  | cons x r =>
    have z2 : V.ref d = V.int x := (List.cons.inj z').1
    cases z2
/-- all but what stands at a is as it was -/
def Keep (a : Addr) (H H' : Hp) : Prop := ∀ b o, b ≠ a → H b = some o → H' b = some o
theorem Keep.refl {a : Addr} {H : Hp} : Keep a H H := fun _ _ _ h => h
theorem Keep.trans {a : Addr} {H H1 H2 : Hp} (x : Keep a H H1) (y : Keep a H1 H2) : Keep a H H2 := fun b o n h => y b o n (x b o n h)
theorem Keep.of {a : Addr} {H H' : Hp} (h : Same H H') : Keep a H H' := fun b o _ e => h b o e
theorem Keep.new {a p : Addr} {o : HO} {H : Hp} (h : H p = none) : Keep a H (upd H p o) := fun b u _ e => by rw [upd_ne (ne_of_none e h)]; exact e
theorem same_new {p : Addr} {o : HO} {H : Hp} (h : H p = none) : Same H (upd H p o) := fun b u e => by rw [upd_ne (ne_of_none e h)]; exact e
theorem HandAt.same {H H' : Hp} {a d : Addr} (h : HandAt H a d) (s : Same H H') : HandAt H' a d := by
  obtain ⟨ds, i, h1, h2, h3, h4⟩ := h
  exact ⟨ds, i, s _ _ h1, s _ _ h2, h3, h4⟩
theorem HandAt.one {H : Hp} {a d : Addr} (h : HandAt H a d) : ∃ o, H a = some o := by
  obtain ⟨ds, i, h1, _⟩ := h
  exact ⟨_, h1⟩
theorem HandAt.two {H : Hp} {a d : Addr} (h : HandAt H a d) : ∃ o, H d = some o := by
  obtain ⟨ds, i, _, h2, _⟩ := h
  exact ⟨_, h2⟩
theorem HandAt.ne {H : Hp} {a d p : Addr} (h : HandAt H a d) (n : H p = none) : a ≠ p ∧ d ≠ p := by
  obtain ⟨o, e⟩ := h.one
  obtain ⟨u, e2⟩ := h.two
  exact ⟨ne_of_none e n, ne_of_none e2 n⟩
theorem HandAt.put {H : Hp} {a d p : Addr} {o : HO} (h : HandAt H a d) (n1 : a ≠ p) (n2 : d ≠ p) : HandAt (upd H p o) a d := by
  obtain ⟨ds, i, h1, h2, h3, h4⟩ := h
  exact ⟨ds, i, by rw [upd_ne n1]; exact h1, by rw [upd_ne n2]; exact h2, h3, h4⟩
theorem HandAt.new {H : Hp} {a d p : Addr} {o : HO} (h : HandAt H a d) (n : H p = none) : HandAt (upd H p o) a d := h.put (h.ne n).1 (h.ne n).2
def spTake : Sp := fun vs H Q _ => ∃ (a d : Addr) (many : Int), vs = [.ref a, .int many] ∧ 0 < many ∧ HandAt H a d ∧ ∀ r H', 0 ≤ r → r < many → HandAt H' a d → Keep a H H' → Q (.int r) H'
theorem scTake : FnScope ["hand", "many", "at", "draws"] ["hand", "many"] (defScope sTake) := ⟨rfl, rfl, rfl, by decide +kernel, rfl, by decide +kernel, by decide +kernel⟩
theorem ok_take {f : Addr} {fd : FuncData} (F : FnS K "_law_take" sTake f fd) (B : Blt2 mg) : FnOk P w K mg base (L2.CX P w) 1 f fd ["hand", "many"] spTake := by
  refine F.ok scTake (fun vs H Q E h => ?_) (fun cdv A outer s H vs Q E hr h => ?_)
  · obtain ⟨a, d, m, rfl, _⟩ := h
    rfl
  · obtain ⟨a, d, m, rfl, hm, ⟨ds, i, h1, h2, h3, h4⟩, k⟩ := h
    have nd := scTake.nd
    have nad := hand_ne h1 h2
    refine ⟨_, (pss_cons (ps_set (i := 2) nd rfl (Or.inl rfl) (pe_ix ix_list (pv 0) pe_int (fun _ _ => rfl)))
      (pss_cons (ps_asg (pe_op op_add (pv 2) pe_int) (pg_sub (pv 0) pe_int set_list))
      (pss_cons (ps_set (i := 3) nd rfl (Or.inl rfl) (pe_ix ix_list (pv 0) pe_int (fun _ _ => rfl)))
      (pss_cons (ps_if (pt_cmpR op_ge (pv 2) (pe_callB call_len_seq (by rfl) B.len (by decide +kernel) (pa_cons (pv 3) pa_nil)) (nomark _)) (pss_one (ps_ret pe_int)) pss_nil)
      (pss_one (ps_ret (pe_op op_modN (pe_op op_fdivN (pe_callTy call_int1 (by rfl) B.int (by decide +kernel) (pa_cons (pe_ix ix_list (pv 3) (pv 2) (fun _ _ => rfl)) pa_nil)) pe_int) (pv 1)))))))), ?_⟩
    refine ⟨_, rfl, a, _, _, _, rfl, rfl, SqL.of h1, atI_nat (j := 1) rfl, ?_⟩
    refine ⟨_, rfl, _, _, rfl, rfl, _, rfl, a, _, _, 1, rfl, rfl, h1, rfl, ?_⟩
    have h2' : ∀ o, upd H a o d = some (.lst (ds.map V.int)) := fun o => by rw [upd_ne nad.symm]; exact h2
    have done : ∀ r, 0 ≤ r → r < m → Q (.int r) (upd H a (.lst [.ref d, .int (i + 1)])) := fun r r0 r1 =>
      k r _ r0 r1 ⟨ds, i + 1, upd_same, h2' _, h3, by omega⟩ fun b o hb e => by rw [upd_ne hb]; exact e
    refine ⟨_, rfl, a, _, _, _, rfl, rfl, SqL.of upd_same, atI_nat (j := 0) rfl, ?_⟩
    refine ⟨_, rfl, _, rfl, d, _, rfl, .inl (SqL.of (h2' _)), _, _, rfl, rfl, _, rfl, ?_⟩
    rw [List.length_map]
    refine iteD (fun hc => ?_) (fun hc => ?_)
    · exact done 0 (by omega) (by omega)
    · obtain ⟨q, hq⟩ : ∃ q : Nat, i = (q : Int) := ⟨i.toNat, by omega⟩
      subst hq
      have hql : q < ds.length := by omega
      have e1 : (ds.map V.int)[q]? = some (V.int ds[q]) := by rw [List.getElem?_map, List.getElem?_eq_getElem hql] <;> rfl
      have b := fmod_bd (ds[q].fdiv 7) hm
      refine ⟨_, rfl, _, rfl, d, _, _, _, rfl, rfl, SqL.of (h2' _), atI_nat e1, .inl ⟨_, rfl, _, _, rfl, rfl, ⟨by decide, by decide⟩, _, rfl, _, _, rfl, rfl, (by omega), done _ b.1 b.2⟩⟩
theorem fld_all {p : Int} (h2 : 2 ≤ p) (h31 : p ≤ 31) : (isFld (.int p) = true → ∀ j : Nat, (j : Int) < p - 2 → ¬ p.fmod (2 + (j : Int)) = 0) ∧ (isFld (.int p) = false → ∃ j : Nat, (j : Int) < p - 2 ∧ p.fmod (2 + (j : Int)) = 0) := by
  have t1 : ∀ n ∈ List.range 32, isFld (.int (n : Int)) = true → ∀ j ∈ List.range 32, (j : Int) < (n : Int) - 2 → ¬ (n : Int).fmod (2 + (j : Int)) = 0 := by decide +kernel
  have t2 : ∀ n ∈ List.range 32, 2 ≤ n → isFld (.int (n : Int)) = false → ∃ j ∈ List.range 32, (j : Int) < (n : Int) - 2 ∧ (n : Int).fmod (2 + (j : Int)) = 0 := by decide +kernel
  obtain ⟨n, rfl⟩ : ∃ n : Nat, p = (n : Int) := ⟨p.toNat, by omega⟩
  have hn : n ∈ List.range 32 := List.mem_range.mpr (by omega)
  refine ⟨fun h j hj => t1 n hn h j (List.mem_range.mpr (by omega)) hj, fun h => ?_⟩
  obtain ⟨j, _, h1, h2⟩ := t2 n hn (by omega) h
  exact ⟨j, h1, h2⟩
theorem fld_out {p : Int} (h : p < 2 ∨ 31 < p) : isFld (.int p) = false := by
  cases e : isFld (.int p) with
  | false => rfl
  | true =>
    have := fld_le (fld_mem e)
    omega
theorem scLF : FnScope ["p", "d"] ["p"] (defScope sLF) := ⟨rfl, rfl, rfl, by decide +kernel, rfl, by decide +kernel, by decide +kernel⟩
theorem ok_LF {f : Addr} {fd : FuncData} (F : FnS K "_law_is_field" sLF f fd) (B : Blt2 mg) : FnOk P w K mg base (L2.CX P w) 1 f fd ["p"] (spIsFld K) := by
  refine F.ok scLF (fun vs H Q E h => ?_) (fun cdv A outer s H vs Q E hr h => ?_)
  · obtain ⟨v, rfl, _⟩ := h
    rfl
  · obtain ⟨v, rfl, ⟨t, ht, h1, h2⟩, k⟩ := h
    have nd := scLF.nd
    refine ⟨_, (pss_cons (ps_if (PW.pt (pw_or (pt_not (pt_val (pe_callB call_isi (by rfl) B.isi (by decide +kernel) (pa_cons (pv 0) (pa_cons (pe_bltn (v := .ty "int") (by rfl) B.int (by decide +kernel) rfl) pa_nil))))) (pw_or (pt_val (pe_callB call_isi (by rfl) B.isi (by decide +kernel) (pa_cons (pv 0) (pa_cons (pe_bltn (v := .ty "bool") (by rfl) B.bool (by decide +kernel) rfl) pa_nil)))) (pw_or (pt_cmpR op_lt (pv 0) pe_int (nomark _)) (pw_or1 (pt_cmpR op_gt (pv 0) pe_int (nomark _))))))) (pss_one (ps_ret pe_bl)) pss_nil)
      (pss_cons (ps_for (passes_of rfl) rfl (pi_range2 rfl B.range (pa_cons pe_int (pa_cons (pe_callTy call_int1 (by rfl) B.int (by decide +kernel) (pa_cons (pv 0) pa_nil)) pa_nil))) (pg_name (i := 1) nd rfl (Or.inl rfl)) (pss_one (ps_if (pt_cmpR op_eq (pe_op op_modN (pe_callTy call_int1 (by rfl) B.int (by decide +kernel) (pa_cons (pv 0) pa_nil)) (pv 1)) pe_int (nomark _)) (pss_one (ps_ret pe_bl)) pss_nil)))
      (pss_one (ps_ret pe_bl)))), ?_⟩
    refine ⟨_, rfl, _, _, _, _, _, rfl, .ty "int", ht, h1, _, rfl, ?_⟩
    cases v with
    | int p =>
      refine iteF ⟨_, rfl, _, _, _, _, _, rfl, .ty "bool", ht, h2, _, rfl, iteF ⟨_, rfl, _, _, rfl, rfl, _, rfl, iteD (fun hc => ?_) (fun hc => ⟨_, rfl, _, _, rfl, rfl, _, rfl, iteD (fun hd => ?_) (fun hd => ?_)⟩)⟩⟩
      · rw [fld_out (.inl hc)] at k
        exact k
      · rw [fld_out (.inr hd)] at k
        exact k
      · have fa := fld_all (p := p) (by omega) (by omega)
        refine ⟨_, rfl, .inl ⟨p, rfl, 2, p, rfl, (by omega), for_range (lo := 2) (n := (p - 2).toNat) (fun i σ H' => ∃ x, σ = [some (.int p), x] ∧ H' = H ∧ ∀ j : Nat, j < i → ¬ p.fmod (2 + (j : Int)) = 0) ⟨none, rfl, rfl, fun j hj => by omega⟩ ?_ ?_⟩⟩
        · rintro i σ H' hi ⟨x, rfl, rfl, hj⟩
          refine ⟨_, rfl, .inl ⟨p, rfl, _, rfl, _, _, rfl, rfl, (by omega), rfl, _, rfl, ?_⟩⟩
          refine iteD (fun he => ?_) (fun he => ?_)
          · have he' : p.fmod (2 + (i : Int)) = 0 := V.int.inj he
            have e : isFld (.int p) = false := by
              cases q : isFld (.int p) with
              | false => rfl
              | true => exact absurd he' (fa.1 q i (by omega))
            rw [e] at k
            exact k
          · refine ⟨_, rfl, rfl, fun j hjj => ?_⟩
            by_cases z : j = i
            · subst z
              exact fun q => he (congrArg V.int q)
            · exact hj j (by omega)
        · rintro σ H' ⟨x, rfl, rfl, hj⟩
          have e : isFld (.int p) = true := by
            cases q : isFld (.int p) with
            | true => rfl
            | false =>
              obtain ⟨j, h3, h4⟩ := fa.2 q
              exact absurd h4 (hj j (by omega))
          rw [e] at k
          exact k
    | bl b => exact iteF ⟨_, rfl, _, _, _, _, _, rfl, .ty "bool", ht, h2, _, rfl, iteT k⟩
    | _ => exact iteT k
def ups (n : Nat) : List Int := ((List.range n).filter fun (j : Nat) => isFld (.int (2 + (j : Int)))).map fun (j : Nat) => 2 + (j : Int)
theorem ups_succ (n : Nat) : ups (n + 1) = if isFld (.int (2 + (n : Int))) = true then ups n ++ [2 + (n : Int)] else ups n := by
  unfold ups
  rw [List.range_succ, List.filter_append, List.map_append]
  cases h : isFld (.int (2 + (n : Int))) <;> simp [h]
theorem ups_len (n : Nat) : (ups n).length ≤ n := by
  unfold ups
  rw [List.length_map]
  exact Nat.le_trans (List.length_filter_le _ _) (by simp)
theorem ups_all : ups 30 = primes := by decide +kernel
def spLFd : Sp := fun vs H Q _ => ∃ (a d : Addr), vs = [.ref a] ∧ HandAt H a d ∧ ∀ p H', p ∈ primes → HandAt H' a d → Keep a H H' → Q (.int p) H'
theorem scLFd : FnScope ["hand", "primes", "p"] ["hand"] (defScope sLFd) := ⟨rfl, rfl, rfl, by decide +kernel, rfl, by decide +kernel, by decide +kernel⟩
theorem ok_LFd {f fF fT : Addr} {fd fdF fdT : FuncData} (F : FnS K "_law_field" sLFd f fd) (B : Blt2 mg) (CF : Cal P w K mg base 1 "_law_is_field" fF fdF ["p"] (spIsFld K)) (CT : Cal P w K mg base 1 "_law_take" fT fdT ["hand", "many"] spTake) :
    FnOk P w K mg base (L2.CX P w) 2 f fd ["hand"] spLFd := by
  refine F.ok scLFd (fun vs H Q E h => ?_) (fun cdv A outer s H vs Q E hr h => ?_)
  · obtain ⟨a, d, rfl, _⟩ := h
    rfl
  · obtain ⟨a, d, rfl, hH, k⟩ := h
    have nd := scLFd.nd
    have hr1 := hr
    refine ⟨_, (pss_cons (ps_setLc (i := 1) (own := [("p", 2)]) (g := gName 2) (by rfl) nd rfl rfl (sw_true rfl rfl rfl (by decide +kernel)) (pi_range2 rfl B.range (pa_cons pe_int (pa_cons pe_int pa_nil))) (blkOk_by (own := [("p", 2)]) (N := ["hand", "primes", "p"]) (sc := defScope sLFd) (by decide +kernel)) (fun _ _ _ _ _ => pg_name (i := 2) nd rfl (Or.inl rfl)) (fun _ _ _ _ _ => pts_one (pt_val (pe_cal CF hr (pa_cons (pv 2) pa_nil) passU))) (fun _ _ _ _ _ => (pv 2)))
      (pss_one (ps_ret (pe_ix ix_list (pv 1) (pe_ix ix_list (pe_lst (pa_cons (pe_cal CT hr1 (pa_cons (pv 0) (pa_cons pe_int pa_nil)) passU) (pa_cons (pe_cal CT hr1 (pa_cons (pv 0) (pa_cons pe_int pa_nil)) passU) pa_nil))) (pe_cal CT hr1 (pa_cons (pv 0) (pa_cons pe_int pa_nil)) passU) (fun _ _ => rfl)) (fun _ _ => rfl))))), ?_⟩
    refine ⟨2, 32, rfl, (by omega), fun D hD => lc_range (lo := 2) (n := 30) (fun i H' => Same H H' ∧ H' D = some (.lst ((ups i).map V.int))) ⟨same_new hD, upd_same⟩ ?_ ?_⟩
    · rintro i H' hi ⟨s1, e⟩
      have eu := ups_succ i
      refine ⟨rfl, _, rfl, _, rfl, ty3_int _, _, rfl, ?_⟩
      cases q : isFld (.int (2 + (i : Int))) with
      | true =>
        rw [if_pos q] at eu
        refine iteT ⟨_, rfl, _, e, (by rw [List.length_map]; exact small4k (Nat.le_trans (ups_len i) (by omega))), fun c o hc => by rw [upd_ne (ne_of_none hc hD)]; exact s1 c o hc, ?_⟩
        rw [upd_same, eu, List.map_append]
        rfl
      | false =>
        rw [if_neg (by rw [q]; decide)] at eu
        refine iteF ⟨s1, ?_⟩
        rw [eu]
        exact e
    · rintro H1 ⟨s1, e⟩
      rw [ups_all] at e
      have h1 := hH.same s1
      refine ⟨_, rfl, _, rfl, a, d, 11, rfl, by decide, h1, fun r1 H2 a0 a1 h2 k2 => ⟨_, rfl, a, d, 3, rfl, by decide, h2, fun r2 H3 b0 b1 h3 k3 => ⟨(by show 2 ≤ sizeLine; decide), fun q hq => ⟨_, rfl, a, d, 2, rfl, by decide, h3.new hq, fun r3 H4 c0 c1 h4 k4 => ?_⟩⟩⟩⟩
      have nq := h3.ne hq
      have nD := hH.ne hD
      have eq : H4 q = some (.lst [.int r1, .int r2]) := k4 _ _ nq.1.symm upd_same
      have eD : H4 D = some (.lst (primes.map V.int)) := k4 _ _ nD.1.symm (by
        have e3 := k3 _ _ nD.1.symm (k2 _ _ nD.1.symm e)
        rw [upd_ne (ne_of_none e3 hq)]
        exact e3)
      have kk : Keep a H H4 := (Keep.of s1).trans (k2.trans (k3.trans ((Keep.new hq).trans k4)))
      have out : ∀ r : Int, 0 ≤ r → r < 11 → rIxL K (.ref D) (.int r) H4 Q := fun r z0 z1 => by
        obtain ⟨m, rfl⟩ : ∃ m : Nat, r = (m : Int) := ⟨r.toNat, by omega⟩
        have hm : m < primes.length := by show m < 11; omega
        have em : (primes.map V.int)[m]? = some (V.int primes[m]) := by rw [List.getElem?_map, List.getElem?_eq_getElem hm] <;> rfl
        exact ⟨D, _, _, _, rfl, rfl, SqL.of eD, atI_nat em, k _ _ (List.getElem_mem hm) h4 kk⟩
      have hc : r3 = 0 ∨ r3 = 1 := by omega
      rcases hc with rfl | rfl
      · exact ⟨q, _, _, .int r1, rfl, rfl, SqL.of eq, rfl, out r1 a0 a1⟩
      · exact ⟨q, _, _, .int r2, rfl, rfl, SqL.of eq, rfl, out r2 b0 (by omega)⟩
end
end WU

set_option maxRecDepth 100000
set_option maxHeartbeats 8000000
namespace WU
open PySem PySem.Spec PyProof.Rows L2
/-! ### walking what may be a list or a tuple -/
def iSeq (K : PySem.W.Frag) (tl : TE) : TI := fun σ H R => tl σ H fun x H1 => ∃ a, x = .ref a ∧ (((∃ xs, SqL K H1 a xs) ∧ R (Itl K a) H1) ∨ ((∃ xs, SqT K H1 a xs) ∧ R (Itt K a) H1))
theorem pi_seq {X : Cx} {tg l : Expr} {tl : TE} (hl : PE X l tl) : PI X tg l (iSeq X.K tl) := by
  constructor
  intro pins st σ H R I h
  refine thn (hl.run pins st σ H _ I h) fun v t1 ⟨x, H2, J, rx, a, ea, q⟩ => ?_
  subst ea
  cases rx
  have fresh : ∀ b ∈ [t1.heap.objs.size], FpOk X pins H2 b := fun b hb => by
    cases List.mem_singleton.mp hb
    exact J.fpOk (Nat.le_refl _) (J.hok.fresh (Nat.le_refl _))
  rcases q with ⟨⟨xs, hq⟩, q⟩ | ⟨⟨xs, hq⟩, q⟩
  · obtain ⟨its, rv, pl, _⟩ := J.list hq
    apply wpAny_pyIter_list pl.isList
    exact ⟨_, [t1.heap.objs.size], _, _, H2, rfl, J.kept (t' := t1.toks) fun b o e => Heap.get?_push_of_some _ e, turn_list a _, ⟨_, Heap.get?_push_size _ rfl, rfl, rfl⟩, fresh, q⟩
  · obtain ⟨its, rv, pl, _⟩ := J.tuple hq
    apply wpAny_pyIter_tuple (show t1.heap.IsTuple a its.toArray from pl)
    exact ⟨_, [t1.heap.objs.size], _, _, H2, rfl, J.kept (t' := t1.toks) fun b o e => Heap.get?_push_of_some _ e, turn_tuple a _, ⟨_, Heap.get?_push_size _ rfl, rfl, rfl⟩, fresh, q⟩
/-! ### data -/
def tyName : PyData → String
  | .none => "NoneType"
  | .bool _ => "bool"
  | .int _ => "int"
  | .str _ => "str"
  | .list _ => "list"
  | .tuple _ => "tuple"
  | .dict _ => "dict"
def isSeq : PyData → Bool
  | .list _ => true
  | .tuple _ => true
  | _ => false
def belD (p : Int) : PyData → Bool
  | .int i => decide (0 ≤ i) && decide (i < p)
  | _ => false
/-- whether it is a sequence of n letters -/
def letsD (p n : Int) : PyData → Bool
  | .list ds => decide ((ds.length : Int) = n) && ds.all (belD p)
  | .tuple ds => decide ((ds.length : Int) = n) && ds.all (belD p)
  | _ => false
def smallD : PyData → Prop
  | .list ds => ds.length ≤ 200
  | .tuple ds => ds.length ≤ 200
  | _ => True
section
variable {K : PySem.W.Frag} {H H' : Hp}
theorem sqL_ty {a : Addr} {xs : List V} (h : SqL K H a xs) : TyX K H (.ref a) (.type "list") := by
  rcases h with (h | ⟨o, h⟩) | ⟨o, its, n, h1, h2, _⟩
  · exact .base (.lst h)
  · exact .base (.frz h)
  · exact .kList h1 h2
theorem sqT_ty {a : Addr} {xs : List V} (h : SqT K H a xs) : TyX K H (.ref a) (.type "tuple") := by
  rcases h with (h | ⟨o, h⟩) | ⟨o, its, n, h1, h2, _⟩
  · exact .base (.tup h)
  · exact .fTuple h
  · exact .kTuple h1 h2
theorem dp_ty {v : V} {d : PyData} (h : Dp K H v d) : TyX K H v (.type (tyName d)) := by
  cases h with
  | non => exact .base .non
  | bl b => exact .base (.bl b)
  | int i => exact .base (.int i)
  | str x => exact .base (.str x)
  | lst h _ => exact sqL_ty h
  | tup h _ => exact sqT_ty h
theorem dp_ty3 {v : V} {d : PyData} (h : Dp K H v d) : Ty3 K H v := by
  have t := dp_ty h
  cases h with
  | non => exact ty3_non
  | bl b => exact ty3_bl b
  | int i => exact ty3_int i
  | str x => exact ty3_str x
  | lst h _ => exact ⟨_, t, kit_ty (show kitB "list" "int" = some false by decide +kernel), kit_ty (show kitB "list" "bool" = some false by decide +kernel)⟩
  | tup h _ => exact ⟨_, t, kit_ty (show kitB "tuple" "int" = some false by decide +kernel), kit_ty (show kitB "tuple" "bool" = some false by decide +kernel)⟩
theorem dp_bel {v : V} {d : PyData} (h : Dp K H v d) (p : Int) : isBel p v = belD p d := by
  cases h <;> rfl
theorem kit_seq {d : PyData} : (∀ kvs, d ≠ .dict kvs) → PySem.W.kitAny K (.type (tyName d)) [.type "list", .type "tuple"] = some (isSeq d) := by
  intro nd
  cases d with
  | none => exact kitAny_cons (b := false) (kit_ty (show kitB "NoneType" "list" = some false by decide +kernel)) (fun _ => kitAny_cons (b := false) (kit_ty (show kitB "NoneType" "tuple" = some false by decide +kernel)) (fun _ => kitAny_nil) (fun h => nomatch h)) (fun h => nomatch h)
  | bool b => exact kitAny_cons (b := false) (kit_ty (show kitB "bool" "list" = some false by decide +kernel)) (fun _ => kitAny_cons (b := false) (kit_ty (show kitB "bool" "tuple" = some false by decide +kernel)) (fun _ => kitAny_nil) (fun h => nomatch h)) (fun h => nomatch h)
  | int i => exact kitAny_cons (b := false) (kit_ty (show kitB "int" "list" = some false by decide +kernel)) (fun _ => kitAny_cons (b := false) (kit_ty (show kitB "int" "tuple" = some false by decide +kernel)) (fun _ => kitAny_nil) (fun h => nomatch h)) (fun h => nomatch h)
  | str x => exact kitAny_cons (b := false) (kit_ty (show kitB "str" "list" = some false by decide +kernel)) (fun _ => kitAny_cons (b := false) (kit_ty (show kitB "str" "tuple" = some false by decide +kernel)) (fun _ => kitAny_nil) (fun h => nomatch h)) (fun h => nomatch h)
  | list xs => exact kitAny_cons (b := true) (kit_ty (show kitB "list" "list" = some true by decide +kernel)) (fun h => nomatch h) (fun _ => rfl)
  | tuple xs => exact kitAny_cons (b := false) (kit_ty (show kitB "tuple" "list" = some false by decide +kernel)) (fun _ => kitAny_cons (b := true) (kit_ty (show kitB "tuple" "tuple" = some true by decide +kernel)) (fun h => nomatch h) (fun _ => rfl)) (fun h => nomatch h)
  | dict kvs => exact absurd rfl (nd kvs)
theorem dp_nodict {v : V} {d : PyData} (h : Dp K H v d) : ∀ kvs, d ≠ .dict kvs := fun kvs z => by
  subst z
  cases h
theorem sqL_same {a : Addr} {xs : List V} (h : SqL K H a xs) (s : Same H H') : SqL K H' a xs := SqL.ext h s
theorem sqT_same {a : Addr} {xs : List V} (h : SqT K H a xs) (s : Same H H') : SqT K H' a xs := SqT.ext h s
mutual
theorem dp_same (s : Same H H') : ∀ {v : V} {d : PyData}, Dp K H v d → Dp K H' v d
  | _, _, .non => .non
  | _, _, .bl b => .bl b
  | _, _, .int i => .int i
  | _, _, .str x => .str x
  | _, _, .lst h k => .lst (sqL_same h s) (dps_same s k)
  | _, _, .tup h k => .tup (sqT_same h s) (dps_same s k)
theorem dps_same (s : Same H H') : ∀ {vs : List V} {ds : List PyData}, DpAll K H vs ds → DpAll K H' vs ds
  | _, _, .nil => .nil
  | _, _, .cons h k => .cons (dp_same s h) (dps_same s k)
end
theorem dps_len : ∀ {vs : List V} {ds : List PyData}, DpAll K H vs ds → vs.length = ds.length
  | _, _, .nil => rfl
  | _, _, .cons _ k => congrArg Nat.succ (dps_len k)
theorem dps_at : ∀ {vs : List V} {ds : List PyData} {i : Nat} {v : V}, DpAll K H vs ds → vs[i]? = some v → ∃ d, ds[i]? = some d ∧ Dp K H v d
  | _, _, _, _, .nil, e => by cases e
  | _, _, 0, _, .cons h _, e => by
    cases e
    exact ⟨_, rfl, h⟩
  | _, _, i + 1, _, .cons _ k, e => dps_at (i := i) k e
end
structure Blt3 (mg : Str → Option Value) : Prop extends Blt2 mg where
  lst : mg "list" = none
  all : mg "all" = none
section
variable {P : Program} {w : World} {K : PySem.W.Frag} {mg : Str → Option Value} {base : Heap}
def spSeq (K : PySem.W.Frag) : Sp := fun vs H Q _ => ∃ v d, vs = [v] ∧ Dp K H v d ∧ ∀ H', Same H H' → Q (.bl (isSeq d)) H'
theorem scSeq : FnScope ["value"] ["value"] (defScope sSeq) := ⟨rfl, rfl, rfl, by decide +kernel, rfl, by decide +kernel, by decide +kernel⟩
theorem ok_seq {f : Addr} {fd : FuncData} (F : FnS K "is_sequence" sSeq f fd) (B : Blt3 mg) : FnOk P w K mg base (L2.CX P w) 1 f fd ["value"] (spSeq K) := by
  refine F.ok scSeq (fun vs H Q E h => ?_) (fun cdv A outer s H vs Q E hr h => ?_)
  · obtain ⟨v, d, rfl, _⟩ := h
    rfl
  · obtain ⟨v, d, rfl, hd, k⟩ := h
    refine ⟨_, (pss_one (ps_ret (pe_callB call_isiT (by rfl) B.isi (by decide +kernel) (pa_cons (pv 0) (pa_cons (pe_tup (pa_cons (pe_bltn (v := .ty "list") (by rfl) B.lst (by decide +kernel) rfl) (pa_cons (pe_bltn (v := .ty "tuple") (by rfl) B.tuple (by decide +kernel) rfl) pa_nil))) pa_nil))))), ?_⟩
    refine ⟨_, rfl, (by show 2 ≤ sizeLine; decide), fun t ht => ⟨v, t, _, _, _, _, rfl, upd_same, .cons (.ty "list") (.cons (.ty "tuple") .nil), dp_ty (dp_same (same_new ht) hd), kit_seq (dp_nodict hd), k _ (same_new ht)⟩⟩
def spLets (K : PySem.W.Frag) : Sp := fun vs H Q _ => ∃ (p n : Int) (v : V) (d : PyData), vs = [.int p, .int n, v] ∧ Dp K H v d ∧ smallD d ∧ ∀ H', Same H H' → Q (.bl (letsD p n d)) H'
theorem scLets : FnScope ["p", "count", "value", "letter"] ["p", "count", "value"] (defScope sLets) := ⟨rfl, rfl, rfl, by decide +kernel, rfl, by decide +kernel, by decide +kernel⟩
theorem ok_lets {f f1 f2 : Addr} {fd fd1 fd2 : FuncData} (F : FnS K "are_letters" sLets f fd) (B : Blt3 mg) (CS : Cal P w K mg base 1 "is_sequence" f1 fd1 ["value"] (spSeq K)) (CB : Cal P w K mg base 3 "is_below" f2 fd2 ["value", "limit"] (spIsBel K)) :
    FnOk P w K mg base (L2.CX P w) 4 f fd ["p", "count", "value"] (spLets K) := by
  refine F.ok scLets (fun vs H Q E h => ?_) (fun cdv A outer s H vs Q E hr h => ?_)
  · obtain ⟨p, n, v, d, rfl, _⟩ := h
    rfl
  · obtain ⟨p, n, v, d, rfl, hd, hz, k⟩ := h
    have nd := scLets.nd
    have hr1 := hr.mono (show 1 ≤ 3 by decide)
    refine ⟨_, (pss_one (ps_ret (pe_and (pe_cal CS hr1 (pa_cons (pv 2) pa_nil) passU) (pe_and (pe_cmpR op_eq (pe_callB call_len_seq (by rfl) B.len (by decide +kernel) (pa_cons (pv 2) pa_nil)) (pv 1) (nomark _)) (pe_one (pe_callB (cr_all rfl) (by rfl) B.all (by decide +kernel) (pa_cons (pe_lc (own := [("letter", 3)]) (g := gName 3) (by rfl) nd (pi_seq (pv 2)) (blkOk_by (own := [("letter", 3)]) (N := ["p", "count", "value", "letter"]) (sc := defScope sLets) (by decide +kernel)) (fun _ _ _ _ _ => pg_name (i := 3) nd rfl (Or.inl rfl)) (fun _ _ _ _ _ => pts_nil) (fun _ _ _ _ _ => (pe_cal CB hr (pa_cons (pv 3) (pa_cons (pv 0) pa_nil)) passU))) pa_nil))))))), ?_⟩
    refine ⟨_, rfl, v, d, rfl, hd, fun H1 s1 => ⟨_, rfl, ?_⟩⟩
    have cs : (isSeq d = false ∧ letsD p n d = false) ∨ ∃ a xs ds, v = .ref a ∧ (SqL K H a xs ∨ SqT K H a xs) ∧ DpAll K H xs ds ∧ ds.length ≤ 200 ∧ isSeq d = true ∧ letsD p n d = (decide ((ds.length : Int) = n) && ds.all (belD p)) := by
      cases hd with
      | non => exact .inl ⟨rfl, rfl⟩
      | bl b => exact .inl ⟨rfl, rfl⟩
      | int i => exact .inl ⟨rfl, rfl⟩
      | str x => exact .inl ⟨rfl, rfl⟩
      | lst h q => exact .inr ⟨_, _, _, rfl, .inl h, q, hz, rfl, rfl⟩
      | tup h q => exact .inr ⟨_, _, _, rfl, .inr h, q, hz, rfl, rfl⟩
    rcases cs with ⟨e1, e2⟩ | ⟨a, xs, ds, rfl, hx, hds, hl, e1, e2⟩
    · rw [e1]
      rw [e2] at k
      exact iteF (k H1 s1)
    · refine iteTb e1 ?_
      rw [e2] at k
      have el := dps_len hds
      have hx1 : SqL K H1 a xs ∨ SqT K H1 a xs := hx.imp (fun h => sqL_same h s1) fun h => sqT_same h s1
      refine ⟨_, rfl, a, xs, rfl, hx1, _, rfl, rfl, _, rfl, ?_⟩
      refine iteD (fun hc => ?_) (fun hc => ?_)
      · have hc' : ((ds.length : Nat) : Int) = n := by
          rw [← el]
          exact V.int.inj hc
        rw [decide_eq_true hc', Bool.true_and] at k
        have st0 : ∀ D, H1 D = none → Same H1 (upd H1 D (.lst [])) ∧ upd H1 D (.lst []) D = some (.lst ((ds.take 0).map fun d => V.bl (belD p d))) := fun D hD => ⟨same_new hD, upd_same⟩
        have turn : ∀ (D : Addr), H1 D = none → ∀ (i : Nat) (y : V) (H2 : Hp), xs[i]? = some y → Same H1 H2 ∧ H2 D = some (.lst ((ds.take i).map fun d => V.bl (belD p d))) →
            isBel p y = belD p (ds.getD i .none) ∧ Ty3 K H2 y ∧ ((ds.take i).map fun d => V.bl (belD p d)).length < sizeLine ∧ Same H1 (upd H2 D (.lst (((ds.take i).map fun d => V.bl (belD p d)) ++ [.bl (isBel p y)]))) ∧
              upd H2 D (.lst (((ds.take i).map fun d => V.bl (belD p d)) ++ [.bl (isBel p y)])) D = some (.lst ((ds.take (i + 1)).map fun d => V.bl (belD p d))) := by
          rintro D hD i y H2 hi ⟨s2, eD⟩
          obtain ⟨di, hdi, hy⟩ := dps_at hds hi
          have eb := dp_bel hy p
          have eg : ds.getD i .none = di := by rw [List.getD_eq_getElem?_getD, hdi] <;> rfl
          refine ⟨by rw [eg]; exact eb, dp_ty3 (dp_same (s1.trans s2) hy), ?_, ?_, ?_⟩
          · rw [List.length_map, List.length_take]
            exact small1000 (by omega)
          · exact fun c o hc => by rw [upd_ne (ne_of_none hc hD)]; exact s2 c o hc
          · rw [upd_same, List.take_succ, hdi, List.map_append, eb]
            rfl
        have fin : ∀ (D : Addr) (H2 : Hp), Same H1 H2 → H2 D = some (.lst ((ds.take xs.length).map fun d => V.bl (belD p d))) → rAll K [.ref D] H2 Q := by
          intro D H2 s2 eD
          rw [el, List.take_length] at eD
          refine ⟨D, ds.map (belD p), rfl, SqL.of (by rw [eD, List.map_map]; rfl), ?_⟩
          have ea : (ds.map (belD p)).all id = ds.all (belD p) := by rw [List.all_map]; rfl
          rw [ea]
          exact k H2 (s1.trans s2)
        refine ⟨_, rfl, a, rfl, ?_⟩
        rcases hx1 with h | h
        · refine .inl ⟨⟨_, h⟩, fun D hD => lc_list (K := K) (a := a) (xs := xs) (fun i H2 => Same H1 H2 ∧ H2 D = some (.lst ((ds.take i).map fun d => V.bl (belD p d)))) (st0 D hD) (fun i H2 _ z => sqL_same h z.1) ?_ (fun H2 z => fin D H2 z.1 z.2)⟩
          rintro i y H2 hi z
          obtain ⟨t1, t2, t3, t4, t5⟩ := turn D hD i y H2 hi z
          exact ⟨rfl, _, rfl, _, rfl, y, p, rfl, t2, _, z.2, t3, t4, t5⟩
        · refine .inr ⟨⟨_, h⟩, fun D hD => lc_tup (K := K) (a := a) (xs := xs) (fun i H2 => Same H1 H2 ∧ H2 D = some (.lst ((ds.take i).map fun d => V.bl (belD p d)))) (st0 D hD) (fun i H2 _ z => sqT_same h z.1) ?_ (fun H2 z => fin D H2 z.1 z.2)⟩
          rintro i y H2 hi z
          obtain ⟨t1, t2, t3, t4, t5⟩ := turn D hD i y H2 hi z
          exact ⟨rfl, _, rfl, _, rfl, y, p, rfl, t2, _, z.2, t3, t4, t5⟩
      · have hc' : ¬ ((ds.length : Nat) : Int) = n := fun z => hc (congrArg V.int (by rw [el]; exact z))
        rw [decide_eq_false hc', Bool.false_and] at k
        exact k H1 s1
end
end WU

set_option maxRecDepth 100000
set_option maxHeartbeats 4000000
namespace WU
open PySem PySem.Spec PyProof.Rows L2
section
variable {P : Program} {w : World} {K : PySem.W.Frag} {mg : Str → Option Value} {base : Heap}
/-! ### the errors' __init__ -/
/-! ### inverse_of -/
/-- whether 1 + j is an inverse -/
def hit (p a : Int) (j : Nat) : Bool := decide ((a * (1 + (j : Int))).fmod p = 1)
def cnd (p a : Int) (n : Nat) : List Int := ((List.range n).filter (hit p a)).map fun (j : Nat) => 1 + (j : Int)
theorem cnd_succ (p a : Int) (n : Nat) : cnd p a (n + 1) = if hit p a n = true then cnd p a n ++ [1 + (n : Int)] else cnd p a n := by
  unfold cnd
  rw [List.range_succ, List.filter_append, List.map_append]
  by_cases h : hit p a n = true
  · rw [if_pos h]
    simp [h]
  · rw [if_neg h]
    simp [h]
theorem cnd_len (p a : Int) (n : Nat) : (cnd p a n).length ≤ n := by
  unfold cnd
  rw [List.length_map]
  exact Nat.le_trans (List.length_filter_le _ _) (by simp)
theorem cnd_none (p a : Int) (n : Nat) (h : ∀ j, j < n → hit p a j = false) : cnd p a n = [] := by
  induction n with
  | zero => rfl
  | succ n ih =>
    rw [cnd_succ, ih fun j hj => h j (by omega), if_neg (by rw [h n (by omega)]; decide)]
theorem cnd_grow (p a : Int) (n : Nat) : ∀ m, ∃ l, cnd p a (n + m) = cnd p a n ++ l
  | 0 => ⟨[], by simp⟩
  | m + 1 => by
    obtain ⟨l, e⟩ := cnd_grow p a n m
    rw [show n + (m + 1) = n + m + 1 from rfl, cnd_succ, e]
    split
    · exact ⟨l ++ [1 + ((n + m : Nat) : Int)], by simp⟩
    · exact ⟨l, rfl⟩
/-- the inverse: the first one -/
def inv (p a : Int) : Int := (cnd p a (p - 1).toNat).headD 0
theorem inv_first {p a : Int} {n : Nat} (hn : n < (p - 1).toNat) (h : ∀ j, j < n → hit p a j = false) (hh : hit p a n = true) : inv p a = 1 + (n : Int) := by
  obtain ⟨l, e⟩ := cnd_grow p a (n + 1) ((p - 1).toNat - (n + 1))
  rw [show n + 1 + ((p - 1).toNat - (n + 1)) = (p - 1).toNat by omega] at e
  unfold inv
  rw [e, cnd_succ, if_pos hh, cnd_none p a n h]
  rfl
theorem inv_there {p a : Int} (hp : p ∈ primes) (h0 : 0 < a) (h1 : a < p) : ∃ l, cnd p a (p - 1).toNat = inv p a :: l := by
  have all : ∀ q ∈ primes, ∀ n ∈ List.range 31, ¬ n = 0 → (n : Int) < q → (cnd q n (q - 1).toNat).isEmpty = false := by decide +kernel
  have hb := fld_le hp
  have e := all p hp a.toNat (List.mem_range.mpr (by omega)) (by omega) (by omega)
  rw [show ((a.toNat : Nat) : Int) = a by omega] at e
  unfold inv
  cases q : cnd p a (p - 1).toNat with
  | nil =>
    rw [q] at e
    cases e
  | cons x l => exact ⟨l, rfl⟩
def spInv (K : PySem.W.Frag) : Sp := fun vs H Q E => ∃ v u, vs = [v, u] ∧ Ty3 K H v ∧ Ty3 K H u ∧ (isFld v = false → Errs (He.ga K "InvalidNumber") "value" v H E) ∧
  ∀ p, v = .int p → isFld v = true → (isBel p u = false → Errs (He.ga K "InvalidNumber") "value" u H E) ∧ (u = .int 0 → Errs (He.ga K "Undefined") "what" (.str "inverse") H E) ∧
    ∀ a, u = .int a → 0 < a → a < p → ∀ H', Same H H' → Q (.int (inv p a)) H'
theorem scInv : FnScope ["p", "a", "b"] ["p", "a"] (defScope sInv) := ⟨rfl, rfl, rfl, by decide +kernel, rfl, by decide +kernel, by decide +kernel⟩
theorem ok_inv {f f1 f2 : Addr} {fd fd1 fd2 fdI fdU : FuncData} (F : FnS K "inverse_of" sInv f fd) (C1 : Cal P w K mg base 3 "check_field" f1 fd1 ["p"] (spCheck K)) (C2 : Cal P w K mg base 3 "is_below" f2 fd2 ["value", "limit"] (spIsBel K))
    (T : Exc1 K mg "InvalidNumber" "value") (TU : Exc1 K mg "Undefined" "what") (gR : mg "range" = none)
    (FI : FnOk P w K mg base (L2.CX P w) 1 (He.ma K (He.ga K "InvalidNumber") "__init__") fdI ["self", "value"] (spInit1 K (He.ga K "InvalidNumber") "value")) (bI : Binds K fdI ["self", "value"] [])
    (FU : FnOk P w K mg base (L2.CX P w) 1 (He.ma K (He.ga K "Undefined") "__init__") fdU ["self", "what"] (spInit1 K (He.ga K "Undefined") "what")) (bU : Binds K fdU ["self", "what"] []) :
    FnOk P w K mg base (L2.CX P w) 4 f fd ["p", "a"] (spInv K) := by
  refine F.ok scInv (fun vs H Q E h => ?_) (fun cdv A outer s H vs Q E hr h => ?_)
  · obtain ⟨v, u, rfl, _⟩ := h
    rfl
  · obtain ⟨v, u, rfl, hv, hu, kF, kk⟩ := h
    have nd := scInv.nd
    have hr2 : Room 2 _ := hr.mono (by decide)
    refine ⟨_, pss_cons (ps_expr (pe_cal (E := E) C1 hr (pa_cons (pv 0) pa_nil) (passes_call (takes_of rfl rfl rfl rfl) (fun _ _ _ _ h => h))))
      (pss_cons (ps_if (pt_not (pt_val (pe_cal C2 hr (pa_cons (pv 1) (pa_cons (pv 0) pa_nil)) passU))) (pss_one (ps_raise1 rfl (takes_of rfl rfl rfl rfl) T FI bI hr2 (pa_cons (pv 1) pa_nil))) pss_nil)
      (pss_cons (ps_if (pt_cmpR op_eq (pv 1) pe_int (nomark _)) (pss_one (ps_raise1 rfl (takes_of rfl rfl rfl rfl) TU FU bU hr2 (pa_cons pe_str pa_nil))) pss_nil)
      (pss_one (ps_ret (pe_ix ix_list (pe_lc (own := [("b", 2)]) (g := gName 2) (by rfl) nd (pi_range2 (by rfl) gR (pa_cons pe_int (pa_cons (pv 0) pa_nil))) (blkOk_by (own := [("b", 2)]) (N := ["p", "a", "b"]) (sc := defScope sInv) (by decide +kernel))
        (fun _ _ _ _ _ => pg_name (i := 2) nd rfl (Or.inl rfl)) (fun _ _ _ _ _ => pts_one (pt_cmpR op_eq (pe_op op_modN (pe_op op_mul (pv 1) (pv 2)) (pv 0)) pe_int (nomark _))) (fun _ _ _ _ _ => pv 2)) pe_int (fun _ _ => rfl)))))), ?_⟩
    refine ⟨_, rfl, v, rfl, hv, fun e => ?_, kF⟩
    cases v with
    | int p =>
      obtain ⟨kB, k0, kI⟩ := kk p rfl e
      refine ⟨_, rfl, _, rfl, u, p, rfl, hu, _, rfl, ?_⟩
      cases eb : isBel p u with
      | false => exact iteT ⟨_, rfl, u, rfl, kB eb⟩
      | true =>
        refine iteF ?_
        cases u with
        | int a =>
          have eb' : (decide (0 ≤ a) && decide (a < p)) = true := eb
          obtain ⟨e0, e1⟩ := and2 eb'
          have h0 := of_decide_eq_true e0
          have h1 := of_decide_eq_true e1
          refine ⟨_, rfl, rfl, _, rfl, ?_⟩
          show if decide (V.int a = V.int 0) = true then _ else _
          by_cases ha : a = 0
          · subst ha
            exact iteT ⟨.str "inverse", rfl, k0 rfl⟩
          · rw [decide_eq_false fun z => ha (V.int.inj z)]
            refine iteF ?_
            have hp := fld_mem e
            have hb := fld_le hp
            refine ⟨_, rfl, ?_⟩
            refine ⟨1, p, rfl, (by omega), fun D hD => ?_⟩
            refine lc_range (lo := 1) (n := (p - 1).toNat) (fun i H' => Same H H' ∧ H' D = some (.lst ((cnd p a i).map V.int))) ⟨fun c o hc => by rw [upd_ne (ne_of_none hc hD)]; exact hc, upd_same⟩ ?_ ?_
            · rintro i H' hi ⟨s1, s2⟩
              refine ⟨rfl, ?_⟩
              refine ⟨_, rfl, _, rfl, a, _, rfl, rfl, .inl ⟨by omega, by omega⟩, _, rfl, _, p, rfl, rfl, (by omega), rfl, _, rfl, ?_⟩
              have ec := cnd_succ p a i
              have ed : decide (V.int ((a * (1 + (i : Int))).fmod p) = V.int 1) = hit p a i := by
                unfold hit
                by_cases z : (a * (1 + (i : Int))).fmod p = 1
                · rw [decide_eq_true z, decide_eq_true (congrArg V.int z)]
                · rw [decide_eq_false z, decide_eq_false fun q => z (V.int.inj q)]
              show if decide (V.int ((a * (1 + (i : Int))).fmod p) = V.int 1) = true then _ else _
              rw [ed]
              cases q : hit p a i with
              | true =>
                rw [if_pos q] at ec
                refine iteT ⟨_, rfl, _, s2, ?_, fun c o hc => ?_, ?_⟩
                · rw [List.length_map]
                  exact small1000 (Nat.le_trans (cnd_len p a i) (by omega))
                · rw [upd_ne (ne_of_none hc hD)]
                  exact s1 c o hc
                · rw [upd_same, ec, List.map_append]
                  rfl
              | false =>
                rw [if_neg (by rw [q]; decide)] at ec
                refine iteF ⟨s1, ?_⟩
                rw [ec]
                exact s2
            · rintro H' ⟨s1, s2⟩
              obtain ⟨l, el⟩ := inv_there hp (show 0 < a by omega) h1
              rw [el] at s2
              refine ⟨_, _, _, _, rfl, rfl, SqL.of s2, atI_nat (j := 0) rfl, kI a rfl (by omega) h1 H' s1⟩
        | _ => cases eb
    | _ => cases e
end
end WU

set_option maxRecDepth 100000
set_option maxHeartbeats 4000000
namespace WU
open PySem PySem.Spec PyProof.Rows L2
section
variable {P : Program} {w : World} {K : PySem.W.Frag} {mg : Str → Option Value} {base : Heap} {S : Addr}
/-- what is asked of the class Share, at S -/
structure ShC (K : PySem.W.Frag) (mg : Str → Option Value) (S : Addr) : Prop where
  g : mg "Share" = some (.ref S)
  cl : Cls K S
  nT : NoAttr K S "top"
  nB : NoAttr K S "bottom"
  ha : PySem.W.findIn K (.ref S) "__class__" = some (some (.builtin "object.__class__"))
  hn : PySem.W.specialIn K (.builtin "object.__class__") "__get__" = some (some (.builtin "getset_descriptor.__get__"))
  htk : PySem.W.takesIn K (.builtin "object.__class__") = some true
  hm : PySem.W.mroIn K S (.type "object") = some true
  kS : PySem.W.kitOne K (.ref S) (.ref S) = some true
  kI : PySem.W.kitOne K (.ref S) (.type "int") = some false
  kB : PySem.W.kitOne K (.ref S) (.type "bool") = some false
theorem nTB : ¬ (("top" : Str) = "bottom") := by decide +kernel
def shf (t b : Int) : List (Str × V) := putF "bottom" (.int b) (putF "top" (.int t) [])
theorem shf_top (t b : Int) : (shf t b).lookup ("top" : Str) = some (.int t) := by
  unfold shf
  rw [lookup_putF, if_neg nTB, lookup_putF, if_pos rfl]
theorem shf_bot (t b : Int) : (shf t b).lookup ("bottom" : Str) = some (.int b) := by
  unfold shf
  rw [lookup_putF, if_pos rfl]
/-- a Share stands at p -/
def ShAt (S : Addr) (H : Hp) (p : Addr) (t b : Int) : Prop := ∃ dx, H p = some (.ins S dx (shf t b))
theorem ShC.ty {H : Hp} {p : Addr} {t b : Int} (C : ShC K mg S) (h : ShAt S H p t b) : TyX K H (.ref p) (.ref S) := by
  obtain ⟨dx, h⟩ := h
  exact .base (.ins h C.cl C.ha C.hn C.htk C.hm)
theorem ShC.ty3 {H : Hp} {p : Addr} {t b : Int} (C : ShC K mg S) (h : ShAt S H p t b) : Ty3 K H (.ref p) := ⟨_, C.ty h, C.kI, C.kB⟩
def spSI (S : Addr) : Sp := fun vs H Q _ => ∃ (p dx : Addr) (n : Int), vs = [.ref p, .int n, .int 1] ∧ H p = some (.ins S dx []) ∧ 0 ≤ n ∧
  ∀ H', ShAt S H' p n 1 → (∀ b o, b ≠ p → H b = some o → H' b = some o) → Q .non H'
theorem scSI : FnScope ["self", "top", "bottom", "common"] ["self", "top", "bottom"] (defScope sShare_init) := ⟨rfl, rfl, rfl, by decide +kernel, rfl, by decide +kernel, by decide +kernel⟩
theorem ok_SI {f f1 : Addr} {fd fd1 : FuncData} (F : FunD K "__init__" "Share.__init__" (defArgs sShare_init) (defBody sShare_init) (defScope sShare_init) [.int 1] [] f fd) (C1 : Cal P w K mg base 1 "is_integer" f1 fd1 ["value"] (spIsInt K)) (C : ShC K mg S)
    (gG : mg "gcd" = some (.builtin "math.gcd")) : FnOk P w K mg base (L2.CX P w) 2 f fd ["self", "top", "bottom"] (spSI S) := by
  refine F.ok scSI (fun vs H Q E h => ?_) (fun cdv A outer s H vs Q E hr h => ?_)
  · obtain ⟨p, dx, n, rfl, _⟩ := h
    rfl
  · obtain ⟨p, dx, n, rfl, hp, hn, k⟩ := h
    have nd := scSI.nd
    refine ⟨_, pss_cons (ps_if (PW.pt (pw_or (pt_not (pt_val (pe_cal C1 hr (pa_cons (pv 1) pa_nil) passU))) (pw_or (pt_not (pt_val (pe_cal C1 hr (pa_cons (pv 2) pa_nil) passU))) (pw_or1 (pt_cmpR op_eq (pv 2) pe_int (nomark _)))))) (pss_one ps_never) pss_nil)
      (pss_cons (ps_set (i := 3) nd rfl (Or.inl rfl) (pe_ifExp (pt_cmpR op_gt (pv 2) pe_int (nomark _)) (pe_callBfun cr_gcd (by rfl) gG (pa_cons (pv 1) (pa_cons (pv 2) pa_nil))) (pe_un un_neg (pe_callBfun cr_gcd (by rfl) gG (pa_cons (pv 1) (pa_cons (pv 2) pa_nil))))))
      (pss_cons (ps_fld (pv 0) (pe_op op_fdivN (pv 1) (pv 3)) rfl)
      (pss_one (ps_fld (pv 0) (pe_op op_fdivN (pv 2) (pv 3)) rfl)))), ?_⟩
    have ti : ∀ i : Int, Ty3 K H (.int i) := ty3_int
    refine ⟨_, rfl, .int n, rfl, ti n, _, rfl, ?_⟩
    refine iteF ⟨_, rfl, .int 1, rfl, ti 1, _, rfl, iteF ⟨_, rfl, rfl, _, rfl, ?_⟩⟩
    rw [decide_eq_false fun z => absurd (V.int.inj z) (by decide)]
    refine iteF ⟨_, rfl, _, _, rfl, rfl, _, rfl, iteT ?_⟩
    refine ⟨_, rfl, _, rfl, n, 1, rfl, ?_⟩
    rw [show Nat.gcd n.natAbs (1 : Int).natAbs = 1 from Nat.gcd_one_right _]
    refine ⟨_, rfl, _, rfl, n, ((1 : Nat) : Int), rfl, rfl, ⟨by decide, by decide⟩, _, rfl, p, S, dx, [], rfl, hp, C.cl, C.nT, (by show 0 < 1000; decide), ?_⟩
    refine ⟨_, rfl, _, rfl, 1, ((1 : Nat) : Int), rfl, rfl, ⟨by decide, by decide⟩, _, rfl, p, S, dx, _, rfl, upd_same, C.cl, C.nB, (by show 1 < 1000; decide), ?_⟩
    have q1 : n.fdiv ((1 : Nat) : Int) = n := Int.fdiv_one n
    have q2 : (1 : Int).fdiv ((1 : Nat) : Int) = 1 := rfl
    dsimp only
    rw [q1, q2]
    exact k _ ⟨dx, upd_same⟩ fun b o hb e => by rw [upd_ne hb, upd_ne hb]; exact e
theorem scSE : FnScope ["self", "other"] ["self", "other"] (defScope sShare_eq) := ⟨rfl, rfl, rfl, by decide +kernel, rfl, by decide +kernel, by decide +kernel⟩
/-- two Shares of the same numbers -/
def ShR (S : Addr) : Addr → Addr → Hp → Prop := fun a b H => ∃ t u, ShAt S H a t u ∧ ShAt S H b t u
theorem ok_SE {f : Addr} {fd : FuncData} (F : FunD K "__eq__" "Share.__eq__" (defArgs sShare_eq) (defBody sShare_eq) (defScope sShare_eq) [] [] f fd) (C : ShC K mg S) (B : Blt mg) : FnOk P w K mg base (L2.CX P w) 1 f fd ["self", "other"] (spEq (ShR S)) := by
  refine F.ok scSE (fun vs H Q E h => ?_) (fun cdv A outer s H vs Q E hr h => ?_)
  · obtain ⟨a, b, rfl, _⟩ := h
    rfl
  · obtain ⟨a, b, rfl, ⟨t, u, h1, h2⟩, k⟩ := h
    refine ⟨_, pss_cons (ps_if (pt_val (pe_callB call_isi (by rfl) B.isi (by decide +kernel) (pa_cons (pv 1) (pa_cons (pe_glob (v := .ref S) rfl C.g rfl) pa_nil))))
      (pss_one (ps_ret (pe_and (pe_cmp (pc_eqI (pe_fld (pv 0) rfl) (pe_fld (pv 1) rfl))) (pe_one (pe_cmp (pc_eqI (pe_fld (pv 0) rfl) (pe_fld (pv 1) rfl))))))) pss_nil) (pss_one ps_never), ?_⟩
    refine ⟨_, rfl, _, _, _, _, _, rfl, .own S, C.ty h2, C.kS, _, rfl, iteT ?_⟩
    obtain ⟨dx, e1⟩ := h1
    obtain ⟨dy, e2⟩ := h2
    refine ⟨_, rfl, a, S, dx, _, _, rfl, e1, C.cl, C.nT, shf_top t u, _, rfl, b, S, dy, _, _, rfl, e2, C.cl, C.nT, shf_top t u, _, _, rfl, rfl, _, rfl, ?_⟩
    refine iteTb (decide_eq_true (rfl : t = t)) ⟨_, rfl, a, S, dx, _, _, rfl, e1, C.cl, C.nB, shf_bot t u, _, rfl, b, S, dy, _, _, rfl, e2, C.cl, C.nB, shf_bot t u, _, _, rfl, rfl, ?_⟩
    have k' := k H Ext.rfl'
    rw [← decide_eq_true (rfl : u = u)] at k'
    exact k'
end
end WU

set_option maxRecDepth 100000
set_option maxHeartbeats 8000000
namespace WU
open PySem PySem.Spec PyProof.Rows L2
section
variable {P : Program} {w : World} {K : PySem.W.Frag} {mg : Str → Option Value} {base : Heap} {S : Addr}
/-- flat, or an object -/
def FR (x : V) : Prop := flatV x = true ∨ ∃ p, x = .ref p
/-- one of the odd values, none of them the hand at a -/
def OddV (S a : Addr) (H : Hp) (v : V) : Prop := flatV v = true ∨ ∃ p, v = .ref p ∧ p ≠ a ∧ ((∃ t b, ShAt S H p t b) ∨ ∃ xs, (H p = some (.lst xs) ∨ H p = some (.tup xs)) ∧ ∀ x ∈ xs, FR x)
theorem OddV.keep {a : Addr} {H H' : Hp} {v : V} (h : OddV S a H v) (k : Keep a H H') : OddV S a H' v := by
  rcases h with h | ⟨p, rfl, ne, h⟩
  · exact .inl h
  · refine .inr ⟨p, rfl, ne, ?_⟩
    rcases h with ⟨t, b, dx, h⟩ | ⟨xs, h, hx⟩
    · exact .inl ⟨t, b, dx, k _ _ ne h⟩
    · exact .inr ⟨xs, h.elim (fun h => .inl (k _ _ ne h)) fun h => .inr (k _ _ ne h), hx⟩
theorem OddV.fr {a : Addr} {H : Hp} {v : V} (h : OddV S a H v) : FR v := by
  rcases h with h | ⟨p, rfl, _⟩
  · exact .inl h
  · exact .inr ⟨p, rfl⟩
theorem OddV.ty3 {a : Addr} {H : Hp} {v : V} (C : ShC K mg S) (h : OddV S a H v) : Ty3 K H v := by
  rcases h with h | ⟨p, rfl, _, h⟩
  · cases v with
    | non => exact ty3_non
    | bl b => exact ty3_bl b
    | int i => exact ty3_int i
    | str z => exact ty3_str z
    | _ => cases h
  · rcases h with ⟨t, b, h⟩ | ⟨xs, h | h, _⟩
    · exact C.ty3 h
    · exact ty3_lst h
    · exact ty3_tup h
theorem sh_make {H : Hp} {x y : Addr} {n : Int} {G : Hp → Prop} {E : XK} (hx : H x = none) (hy : H y = none) (hn : 0 ≤ n) (k : ∀ H', ShAt S H' x n 1 → Same H H' → G H') :
    spSI S [.ref x, .int n, .int 1] (upd (upd H y (.own x)) x (.ins S y [])) (fun v H2 => v = .non ∧ G H2) E :=
  ⟨x, y, n, rfl, upd_same, hn, fun H' sh kp => ⟨rfl, k H' sh fun b o hb => kp b o (ne_of_none hb hx) (by rw [upd_ne (ne_of_none hb hx), upd_ne (ne_of_none hb hy)]; exact hb)⟩⟩
theorem ShAt.same {H H' : Hp} {p : Addr} {t b : Int} (h : ShAt S H p t b) (s : Same H H') : ShAt S H' p t b := by
  obtain ⟨dx, e⟩ := h
  exact ⟨dx, s _ _ e⟩
def spOdd (S : Addr) (n : Nat) : Sp := fun vs H Q _ => ∃ (a d : Addr) (m : Int), vs = [.ref a, .int m] ∧ 0 ≤ m ∧ m < n ∧ HandAt H a d ∧ ∀ v H', OddV S a H' v → HandAt H' a d → Keep a H H' → Q v H'
theorem scOdd : FnScope ["hand", "depth", "kind", "parts", "values", "k"] ["hand", "depth"] (defScope sOdd) := ⟨rfl, rfl, rfl, by decide +kernel, rfl, by decide +kernel, by decide +kernel⟩
theorem ok_odd {f fT fI : Addr} {fd fdT fdI : FuncData} {dI : List Value} (F : FnS K "_law_odd" sOdd f fd) (B : Blt2 mg) (C : ShC K mg S) (CT : Cal P w K mg base 1 "_law_take" fT fdT ["hand", "many"] spTake)
    (MK : Mk K S fI) (GI : FnOk P w K mg base (L2.CX P w) 2 fI fdI ["self", "top", "bottom"] (spSI S)) (bI : Binds K fdI ["self", "top", "bottom"] dI) (vI : Vals [.int 1] dI) (n : Nat)
    (CO : Cal P w K mg base (3 + n) "_law_odd" f fd ["hand", "depth"] (spOdd S n)) : FnOk P w K mg base (L2.CX P w) (3 + n + 1) f fd ["hand", "depth"] (spOdd S (n + 1)) := by
  refine F.ok scOdd (fun vs H Q E h => ?_) (fun cdv A outer s H vs Q E hr h => ?_)
  · obtain ⟨a, d, m, rfl, _⟩ := h
    rfl
  · obtain ⟨a, d, m, rfl, m0, m1, hH, k⟩ := h
    have nd := scOdd.nd
    have hr1 := hr.mono (show 1 ≤ 3 + n by omega)
    have hr3 := hr.mono (show 3 ≤ 3 + n by omega)
    refine ⟨_, (pss_cons (ps_set (i := 2) nd rfl (Or.inl rfl) (pe_cal CT hr1 (pa_cons (pv 0) (pa_cons pe_int pa_nil)) passU))
      (pss_cons (ps_if (PW.pt (pw_and (pt_cmpR op_gt (pv 1) pe_int (nomark _)) (pw_and1 (pt_cmpR op_gt (pv 2) pe_int (nomark _))))) (pss_cons (ps_setLc (i := 3) (own := [("k", 5)]) (g := gName 5) (by rfl) nd rfl rfl (sw_true rfl rfl rfl (by decide +kernel)) (pi_range1 rfl B.range (pa_cons (pe_cal CT hr1 (pa_cons (pv 0) (pa_cons pe_int pa_nil)) passU) pa_nil)) (blkOk_by (own := [("k", 5)]) (N := ["hand", "depth", "kind", "parts", "values", "k"]) (sc := defScope sOdd) (by decide +kernel)) (fun _ _ _ _ _ => pg_name (i := 5) nd rfl (Or.inl rfl)) (fun _ _ _ _ _ => pts_nil) (fun _ _ _ _ _ => (pe_cal CO hr (pa_cons (pv 0) (pa_cons (pe_op op_sub (pv 1) pe_int) pa_nil)) passU)))
      (pss_one (ps_ret (pe_ix ix_list (pe_lst (pa_cons (pv 3) (pa_cons (pe_callTy call_tuple_of (by rfl) B.tuple (by decide +kernel) (pa_cons (pv 3) pa_nil)) pa_nil))) (pe_op op_sub (pv 2) pe_int) (fun _ _ => rfl))))) pss_nil)
      (pss_cons (ps_set (i := 4) nd rfl (Or.inl rfl) (pe_lst (pa_cons pe_bl (pa_cons pe_bl (pa_cons pe_non (pa_cons pe_str (pa_cons pe_str (pa_cons pe_int (pa_cons pe_int (pa_cons (pe_un un_neg pe_int) (pa_cons pe_int (pa_cons pe_int (pa_cons pe_int (pa_cons pe_int (pa_cons (pe_op op_pow pe_int pe_int) (pa_cons (pe_un un_neg (pe_op op_pow pe_int pe_int)) (pa_cons (pe_tup pa_nil) (pa_cons (pe_lst pa_nil) (pa_cons (pe_make MK GI hr3 (by rfl) C.g bI vI passU (pa_cons pe_int pa_nil)) (pa_cons (pe_make MK GI hr3 (by rfl) C.g bI vI passU (pa_cons pe_int pa_nil)) (pa_cons (pe_make MK GI hr3 (by rfl) C.g bI vI passU (pa_cons pe_int pa_nil)) pa_nil)))))))))))))))))))))
      (pss_one (ps_ret (pe_ix ix_list (pv 4) (pe_cal CT hr1 (pa_cons (pv 0) (pa_cons pe_int pa_nil)) passU) (fun _ _ => rfl))))))), ?_⟩
    refine ⟨_, rfl, a, d, 9, rfl, by decide, hH, fun kind H1 r0 r1 hH1 k1 => ?_⟩
    have vals : ∀ w3 : Option V, tSeq (tAsg (tLst (tCons (tC (.bl true)) (tCons (tC (.bl false)) (tCons (tC .non) (tCons (tC (.str "")) (tCons (tC (.str "a1")) (tCons (tC (.int 0)) (tCons (tC (.int 1)) (tCons (tUn (rU fun i => .int (-i)) (tC (.int 1))) (tCons (tC (.int 2)) (tCons (tC (.int 7)) (tCons (tC (.int 31)) (tCons (tC (.int 37))
        (tCons (tOp (rI CPow fun i j => .int (i ^ j.toNat)) (tC (.int 10)) (tC (.int 30))) (tCons (tUn (rU fun i => .int (-i)) (tOp (rI CPow fun i j => .int (i ^ j.toNat)) (tC (.int 10)) (tC (.int 30)))) (tCons (tTup tNil) (tCons (tLst tNil)
        (tCons (tMake S (spSI S) [.int 1] E0 (tCons (tC (.int 7)) tNil)) (tCons (tMake S (spSI S) [.int 1] E0 (tCons (tC (.int 1)) tNil)) (tCons (tMake S (spSI S) [.int 1] E0 (tCons (tC (.int 0)) tNil)) tNil)))))))))))))))))))) (gName 4))
        (tRet (tOp (rIxL K) (tVar 4) (tCall spTake [] E0 (tCons (tVar 0) (tCons (tC (.int 19)) tNil))))) { nx := fun _ H' => Q .non H', rt := Q } [some (.ref a), some (.int m), some (.int kind), w3, none, none] H1 := by
      intro w3
      refine ⟨_, rfl, _, _, rfl, rfl, ⟨by decide, by decide, by decide⟩, _, _, rfl, rfl, ⟨by decide, by decide, by decide⟩, _, rfl, (by show 0 ≤ sizeLine; omega), fun T hT => ⟨(by show 0 ≤ sizeLine; omega), fun L hL => fun x1 y1 hx1 hy1 n1 => ?_⟩⟩
      have n0 := hH1.ne hT
      have h0 := hH1.new (o := .tup []) hT
      have n0' := h0.ne hL
      have h0' := h0.new (o := .lst []) hL
      have s0 : Same H1 (upd (upd H1 T (.tup [])) L (.lst [])) := (same_new hT).trans (same_new hL)
      have eT : upd (upd H1 T (.tup [])) L (.lst []) T = some (.tup []) := by rw [upd_ne (ne_of_none upd_same hL), upd_same]
      have eL : upd (upd H1 T (.tup [])) L (.lst []) L = some (.lst []) := upd_same
      have nx1 := h0'.ne hx1
      refine sh_make hx1 hy1 (by decide) fun H2 sh1 s1 => ?_
      intro x2 y2 hx2 hy2 _
      have nx2 := (h0'.same s1).ne hx2
      refine sh_make hx2 hy2 (by decide) fun H3 sh2 s2 => ?_
      intro x3 y3 hx3 hy3 _
      have nx3 := ((h0'.same s1).same s2).ne hx3
      refine sh_make hx3 hy3 (by decide) fun H4 sh3 s3 => ?_
      have s14 : Same (upd (upd H1 T (.tup [])) L (.lst [])) H4 := (s1.trans s2).trans s3
      have h4 := h0'.same s14
      refine ⟨(by show 19 ≤ sizeLine; decide), fun Z hZ => ?_⟩
      have nZ := h4.ne hZ
      refine ⟨_, rfl, _, rfl, a, d, 19, rfl, by decide, h4.new hZ, fun r H5 r0 r1 h5 k5 => ?_⟩
      have kz : Keep a H4 H5 := (Keep.new hZ).trans k5
      have all : ∀ v ∈ ([.bl true, .bl false, .non, .str "", .str "a1", .int 0, .int 1, .int (-1), .int 2, .int 7, .int 31, .int 37, .int (10 ^ (30 : Int).toNat), .int (-(10 ^ (30 : Int).toNat)), .ref T, .ref L, .ref x1, .ref x2, .ref x3] : List V), OddV S a H5 v := by
        have fl : ∀ v, flatV v = true → OddV S a H5 v := fun v h => .inl h
        have e1 : ∀ p, a ≠ p → ShAt S H4 p 7 1 ∨ ShAt S H4 p 1 1 ∨ ShAt S H4 p 0 1 → OddV S a H5 (.ref p) := fun p ne h => by
          refine OddV.keep (H := H4) (.inr ⟨p, rfl, ne.symm, .inl ?_⟩) kz
          rcases h with h | h | h
          · exact ⟨_, _, h⟩
          · exact ⟨_, _, h⟩
          · exact ⟨_, _, h⟩
        intro v hv
        simp only [List.mem_cons, List.not_mem_nil, or_false] at hv
        rcases hv with rfl | rfl | rfl | rfl | rfl | rfl | rfl | rfl | rfl | rfl | rfl | rfl | rfl | rfl | rfl | rfl | rfl | rfl | rfl
        · exact fl _ rfl
        · exact fl _ rfl
        · exact fl _ rfl
        · exact fl _ rfl
        · exact fl _ rfl
        · exact fl _ rfl
        · exact fl _ rfl
        · exact fl _ rfl
        · exact fl _ rfl
        · exact fl _ rfl
        · exact fl _ rfl
        · exact fl _ rfl
        · exact fl _ rfl
        · exact fl _ rfl
        · exact OddV.keep (H := H4) (.inr ⟨_, rfl, n0.1.symm, .inr ⟨[], .inr (s14 _ _ eT), fun x hx => nomatch hx⟩⟩) kz
        · exact OddV.keep (H := H4) (.inr ⟨_, rfl, n0'.1.symm, .inr ⟨[], .inl (s14 _ _ eL), fun x hx => nomatch hx⟩⟩) kz
        · exact e1 _ nx1.1 (.inl ((sh1.same s2).same s3))
        · exact e1 _ nx2.1 (.inr (.inl (sh2.same s3)))
        · exact e1 _ nx3.1 (.inr (.inr sh3))
      obtain ⟨q, rfl⟩ : ∃ q : Nat, r = (q : Int) := ⟨r.toNat, by omega⟩
      have hq : q < 19 := by omega
      obtain ⟨v, hv⟩ : ∃ v, ([.bl true, .bl false, .non, .str "", .str "a1", .int 0, .int 1, .int (-1), .int 2, .int 7, .int 31, .int 37, .int (10 ^ (30 : Int).toNat), .int (-(10 ^ (30 : Int).toNat)), .ref T, .ref L, .ref x1, .ref x2, .ref x3] : List V)[q]? = some v := ⟨_, List.getElem?_eq_getElem (show q < 19 from hq)⟩
      have ez : H5 Z = some (.lst [.bl true, .bl false, .non, .str "", .str "a1", .int 0, .int 1, .int (-1), .int 2, .int 7, .int 31, .int 37, .int (10 ^ (30 : Int).toNat), .int (-(10 ^ (30 : Int).toNat)), .ref T, .ref L, .ref x1, .ref x2, .ref x3]) := k5 _ _ nZ.1.symm upd_same
      exact ⟨Z, _, _, v, rfl, rfl, SqL.of ez, atI_nat hv, k v H5 (all v (List.mem_of_getElem? hv)) h5 (k1.trans ((Keep.of (s0.trans s14)).trans kz))⟩
    refine ⟨_, rfl, _, _, rfl, rfl, _, rfl, iteD (fun hc => ⟨_, rfl, _, _, rfl, rfl, _, rfl, iteD (fun hd => ?_) (fun hd => ?_)⟩) (fun hc => ?_)⟩
    · refine ⟨_, rfl, a, d, 4, rfl, by decide, hH1, fun cnt H2 c0 c1 hH2 k2 => ⟨cnt, rfl, (by omega), (by omega), fun D hD => ?_⟩⟩
      obtain ⟨naD, ndD⟩ := hH2.ne hD
      refine lc_range (lo := 0) (n := cnt.toNat) (fun i H' => ∃ xs, H' D = some (.lst xs) ∧ xs.length = i ∧ (∀ x ∈ xs, FR x) ∧ HandAt H' a d ∧ Keep a H2 H') ⟨[], upd_same, rfl, (fun x hx => nomatch hx), hH2.new hD, Keep.new hD⟩ ?_ ?_
      · rintro i H3 hi ⟨xs, e, hl, hx, h3, k3⟩
        refine ⟨rfl, _, rfl, _, rfl, _, _, rfl, rfl, a, d, _, rfl, (by omega), (by omega), h3, fun v H4 o h4 k4 => ⟨xs, k4 _ _ naD.symm e, small1000 (by omega), xs ++ [v], upd_same, (by rw [List.length_append, hl]; rfl), ?_, h4.put naD ndD, ?_⟩⟩
        · intro x hm
          rcases List.mem_append.mp hm with hm | hm
          · exact hx x hm
          · rw [List.mem_singleton.mp hm]
            exact o.fr
        · intro b o hb hbo
          have nb : b ≠ D := ne_of_none hbo hD
          rw [upd_ne nb]
          exact k4 b o hb (k3 b o hb hbo)
      · rintro H3 ⟨xs, e, hl, hx, h3, k3⟩
        refine ⟨_, rfl, _, rfl, D, xs, rfl, .inl ⟨SqL.of e, fun T hT => ⟨(by show 2 ≤ sizeLine; decide), fun q hq => ?_⟩⟩⟩
        have nT := h3.ne hT
        have nq := (h3.new hT).ne hq
        have nDT : D ≠ T := ne_of_none e hT
        have nDq : D ≠ q := ne_of_none (show upd H3 T (.tup xs) D = some (.lst xs) by rw [upd_ne nDT]; exact e) hq
        have nTq : T ≠ q := ne_of_none (upd_same (H := H3) (a := T) (o := .tup xs)) hq
        have kk : Keep a H (upd (upd H3 T (.tup xs)) q (.lst [.ref D, .ref T])) := k1.trans (k2.trans (k3.trans ((Keep.new hT).trans (Keep.new hq))))
        have hh := (h3.new (o := .tup xs) hT).new (o := .lst [.ref D, .ref T]) hq
        have hk : kind = 7 ∨ kind = 8 := by omega
        rcases hk with rfl | rfl
        · refine ⟨_, rfl, _, _, rfl, rfl, q, _, _, .ref D, rfl, rfl, SqL.of upd_same, rfl, k _ _ (.inr ⟨D, rfl, naD.symm, .inr ⟨xs, .inl ?_, hx⟩⟩) hh kk⟩
          rw [upd_ne nDq, upd_ne nDT]
          exact e
        · refine ⟨_, rfl, _, _, rfl, rfl, q, _, _, .ref T, rfl, rfl, SqL.of upd_same, rfl, k _ _ (.inr ⟨T, rfl, nT.1.symm, .inr ⟨xs, .inr ?_, hx⟩⟩) hh kk⟩
          rw [upd_ne nTq, upd_same]
    · exact vals _
    · exact vals _
end
end WU

set_option maxRecDepth 100000
set_option maxHeartbeats 8000000
namespace WU
open PySem PySem.Spec PyProof.Rows L2
section
variable {P : Program} {w : World} {K : PySem.W.Frag} {mg : Str → Option Value} {base : Heap} {S : Addr}
def spLN (S : Addr) : Sp := fun vs H Q _ => ∃ (a d : Addr), vs = [.ref a] ∧ HandAt H a d ∧ ∀ v H', OddV S a H' v → isFld v = false → HandAt H' a d → Keep a H H' → Q v H'
theorem scLN : FnScope ["hand", "value"] ["hand"] (defScope sLN) := ⟨rfl, rfl, rfl, by decide +kernel, rfl, by decide +kernel, by decide +kernel⟩
theorem ok_LN {f fF fT fO fI : Addr} {fd fdF fdT fdO fdI : FuncData} {dI : List Value} (F : FnS K "_law_no_field" sLN f fd) (B : Blt2 mg) (C : ShC K mg S) (CF : Cal P w K mg base 1 "_law_is_field" fF fdF ["p"] (spIsFld K)) (CT : Cal P w K mg base 1 "_law_take" fT fdT ["hand", "many"] spTake)
    (CO : Cal P w K mg base 5 "_law_odd" fO fdO ["hand", "depth"] (spOdd S 2)) (MK : Mk K S fI) (GI : FnOk P w K mg base (L2.CX P w) 2 fI fdI ["self", "top", "bottom"] (spSI S)) (bI : Binds K fdI ["self", "top", "bottom"] dI) (vI : Vals [.int 1] dI) :
    FnOk P w K mg base (L2.CX P w) 6 f fd ["hand"] (spLN S) := by
  refine F.ok scLN (fun vs H Q E h => ?_) (fun cdv A outer s H vs Q E hr h => ?_)
  · obtain ⟨a, d, rfl, _⟩ := h
    rfl
  · obtain ⟨a, d, rfl, hH, k⟩ := h
    have nd := scLN.nd
    have hr1 := hr.mono (show 1 ≤ 5 by decide)
    have hr3 := hr.mono (show 3 ≤ 5 by decide)
    refine ⟨_, (pss_cons (ps_set (i := 1) nd rfl (Or.inl rfl) (pe_ix ix_list (pe_lst (pa_cons (pe_op op_sub (pe_cal CT hr1 (pa_cons (pv 0) (pa_cons pe_int pa_nil)) passU) pe_int) (pa_cons (pe_cal CO hr (pa_cons (pv 0) (pa_cons pe_int pa_nil)) passU) (pa_cons pe_int (pa_cons pe_int (pa_cons pe_int (pa_cons (pe_un un_neg pe_int) (pa_cons pe_int (pa_cons pe_int (pa_cons (pe_make MK GI hr3 (by rfl) C.g bI vI passU (pa_cons pe_int pa_nil)) (pa_cons (pe_make MK GI hr3 (by rfl) C.g bI vI passU (pa_cons pe_int pa_nil)) pa_nil))))))))))) (pe_cal CT hr1 (pa_cons (pv 0) (pa_cons pe_int pa_nil)) passU) (fun _ _ => rfl)))
      (pss_cons (ps_if (pt_val (pe_cal CF hr1 (pa_cons (pv 1) pa_nil) passU)) (pss_one (ps_ret pe_int)) pss_nil)
      (pss_one (ps_ret (pv 1))))), ?_⟩
    refine ⟨_, rfl, a, d, 60, rfl, by decide, hH, fun r1 H1 a0 a1 h1 k1 => ⟨_, _, rfl, rfl, _, rfl, a, d, 1, rfl, by decide, by decide, h1, fun o H2 oo h2 k2 => ⟨_, rfl, fun x1 y1 hx1 hy1 _ => ?_⟩⟩⟩
    have nx1 := h2.ne hx1
    refine sh_make hx1 hy1 (by decide) fun H3 sh1 s1 => ?_
    intro x2 y2 hx2 hy2 _
    have nx2 := (h2.same s1).ne hx2
    refine sh_make hx2 hy2 (by decide) fun H4 sh2 s2 => ⟨(by show 10 ≤ sizeLine; decide), fun Z hZ => ?_⟩
    have h4 := (h2.same s1).same s2
    have nZ := h4.ne hZ
    refine ⟨_, rfl, a, d, 10, rfl, by decide, h4.new hZ, fun r H5 c0 c1 h5 k5 => ?_⟩
    have kz : Keep a H4 H5 := (Keep.new hZ).trans k5
    have ez : H5 Z = some (.lst [.int (r1 - 9), o, .int 37, .int 1, .int 0, .int (-2), .int 33, .int 961, .ref x1, .ref x2]) := k5 _ _ nZ.1.symm upd_same
    have kk : Keep a H H5 := k1.trans (k2.trans ((Keep.of (s1.trans s2)).trans kz))
    have all : ∀ v ∈ ([.int (r1 - 9), o, .int 37, .int 1, .int 0, .int (-2), .int 33, .int 961, .ref x1, .ref x2] : List V), OddV S a H5 v := by
      have fl : ∀ v, flatV v = true → OddV S a H5 v := fun v h => .inl h
      intro v hv
      simp only [List.mem_cons, List.not_mem_nil, or_false] at hv
      rcases hv with rfl | rfl | rfl | rfl | rfl | rfl | rfl | rfl | rfl | rfl
      · exact fl _ rfl
      · exact (oo.keep (Keep.of (s1.trans s2))).keep kz
      · exact fl _ rfl
      · exact fl _ rfl
      · exact fl _ rfl
      · exact fl _ rfl
      · exact fl _ rfl
      · exact fl _ rfl
      · exact OddV.keep (H := H4) (.inr ⟨_, rfl, nx1.1.symm, .inl ⟨_, _, sh1.same s2⟩⟩) kz
      · exact OddV.keep (H := H4) (.inr ⟨_, rfl, nx2.1.symm, .inl ⟨_, _, sh2⟩⟩) kz
    obtain ⟨q, rfl⟩ : ∃ q : Nat, r = (q : Int) := ⟨r.toNat, by omega⟩
    have hq : q < 10 := by omega
    obtain ⟨v, hv⟩ : ∃ v, ([.int (r1 - 9), o, .int 37, .int 1, .int 0, .int (-2), .int 33, .int 961, .ref x1, .ref x2] : List V)[q]? = some v := ⟨_, List.getElem?_eq_getElem (show q < 10 from hq)⟩
    have ov := all v (List.mem_of_getElem? hv)
    refine ⟨Z, _, _, v, rfl, rfl, SqL.of ez, atI_nat hv, _, rfl, v, rfl, ov.ty3 C, _, rfl, ?_⟩
    cases e : isFld v with
    | true => exact iteT (k (.int 4) H5 (.inl rfl) (by decide) h5 kk)
    | false => exact iteF ⟨_, rfl, k v H5 ov e h5 kk⟩
def spLI : Sp := fun vs H Q _ => ∃ (a p : Int), vs = [.int a, .int p] ∧ p ∈ primes ∧ 0 < a ∧ a < p ∧ Q (.int (inv p a)) H
theorem scLI : FnScope ["a", "p", "b"] ["a", "p"] (defScope sLI) := ⟨rfl, rfl, rfl, by decide +kernel, rfl, by decide +kernel, by decide +kernel⟩
theorem cnd_hit {p a : Int} {n : Nat} {x : Int} {l : List Int} (h : cnd p a n = x :: l) : ∃ j : Nat, j < n ∧ hit p a j = true := by
  have hx : x ∈ cnd p a n := by rw [h]; exact List.mem_cons_self
  unfold cnd at hx
  obtain ⟨j, hj, _⟩ := List.mem_map.mp hx
  obtain ⟨h1, h2⟩ := List.mem_filter.mp hj
  exact ⟨j, List.mem_range.mp h1, h2⟩
theorem ok_LI {f : Addr} {fd : FuncData} (F : FnS K "_law_inverse" sLI f fd) (B : Blt2 mg) : FnOk P w K mg base (L2.CX P w) 1 f fd ["a", "p"] spLI := by
  refine F.ok scLI (fun vs H Q E h => ?_) (fun cdv A outer s H vs Q E hr h => ?_)
  · obtain ⟨a, p, rfl, _⟩ := h
    rfl
  · obtain ⟨a, p, rfl, hp, h0, h1, k⟩ := h
    have nd := scLI.nd
    have hb := fld_le hp
    refine ⟨_, (pss_cons (ps_for (passes_of rfl) rfl (pi_range2 rfl B.range (pa_cons pe_int (pa_cons (pv 1) pa_nil))) (pg_name (i := 2) nd rfl (Or.inl rfl)) (pss_one (ps_if (pt_cmpR op_eq (pe_op op_modN (pe_callTy call_int1 (by rfl) B.int (by decide +kernel) (pa_cons (pe_op op_mul (pv 0) (pv 2)) pa_nil)) (pv 1)) pe_int (nomark _)) (pss_one (ps_ret (pv 2))) pss_nil)))
      (pss_one (ps_ret pe_int))), ?_⟩
    refine ⟨_, rfl, 1, p, rfl, (by omega), for_range (lo := 1) (n := (p - 1).toNat) (fun i σ H' => ∃ x, σ = [some (.int a), some (.int p), x] ∧ H' = H ∧ ∀ j : Nat, j < i → hit p a j = false) ⟨none, rfl, rfl, fun j hj => by omega⟩ ?_ ?_⟩
    · rintro i σ H' hi ⟨x, rfl, rfl, hj⟩
      refine ⟨_, rfl, _, rfl, _, _, rfl, rfl, .inl ⟨by omega, by omega⟩, .inl ⟨_, rfl, _, rfl, _, _, rfl, rfl, (by omega), rfl, _, rfl, ?_⟩⟩
      refine iteD (fun he => ?_) (fun he => ?_)
      · have hh : hit p a i = true := decide_eq_true (V.int.inj he)
        rw [inv_first hi hj hh] at k
        exact ⟨_, rfl, k⟩
      · refine ⟨_, rfl, rfl, fun j hjj => ?_⟩
        by_cases z : j = i
        · subst z
          exact decide_eq_false fun q => he (congrArg V.int q)
        · exact hj j (by omega)
    · rintro σ H' ⟨x, rfl, rfl, hj⟩
      obtain ⟨l, el⟩ := inv_there hp h0 h1
      obtain ⟨j, hj1, hj2⟩ := cnd_hit el
      rw [hj j hj1] at hj2
      cases hj2
end
end WU

set_option maxRecDepth 100000
set_option maxHeartbeats 8000000
namespace WU
open PySem PySem.Spec PyProof.Rows L2
section
variable {X : Cx}
theorem dps_ints {K : PySem.W.Frag} {H : Hp} : ∀ ns : List Int, DpAll K H (ns.map V.int) (ns.map PyData.int)
  | [] => .nil
  | n :: ns => .cons (.int n) (dps_ints ns)
theorem plain_ints : ∀ ns : List Int, PyData.plainAll (ns.map PyData.int) = true
  | [] => rfl
  | n :: ns => plain_ints ns
theorem any_ints : ∀ ns : List Int, (ns.map PyData.int).any PyData.truthy = ns.any fun n => decide (n ≠ 0)
  | [] => rfl
  | n :: ns => by
    rw [List.map_cons, List.any_cons, List.any_cons, any_ints ns]
    congr 1
    show (n != 0) = _
    by_cases h : n = 0 <;> simp [h]
/-- any(a tuple of ints) -/
def rAnyT (K : PySem.W.Frag) : List V → Hp → VK → Prop := fun vs H Q => ∃ (a : Addr) (ns : List Int), vs = [V.ref a] ∧ SqT K H a (ns.map V.int) ∧ Q (.bl (ns.any fun n => decide (n ≠ 0))) H
theorem cr_anyT (hc : X.calm = true) : CallR X (.builtin "any") (rAnyT X.K) := by
  intro pins s σ H vs us Q I r h
  obtain ⟨a, ns, rfl, hs, q⟩ := h
  obtain ⟨its, rv, hl, _⟩ := I.tuple hs
  rw [Vals.ref1 r]
  obtain ⟨as, hr⟩ := Dp.readsAll I (ns.map PyData.int) _ its (dps_ints ns) rv
  refine PySem.W.any_tuple_data (I.ok.hd hc) (show s.heap.IsTuple a its.toArray from hl) hr (plain_ints ns) (fun x hx => ?_) fun h' tk hk => ?_
  · obtain ⟨n, _, rfl⟩ := List.mem_map.mp hx
    trivial
  · rw [any_ints]
    exact ⟨.bl _, H, I.kept fun b o eo => hk b o eo, rfl, q⟩
end
end WU

set_option maxRecDepth 100000
set_option maxHeartbeats 8000000
namespace WU
open PySem PySem.Spec PyProof.Rows L2
theorem tuple_mul1 (l : Addr) (items : Array Value) (n : Nat) (dd : Option Addr) (sl : Array (Option Value)) (u : Tok) :
    Meets (Builtin.«tuple.__mul__» ⟨[.ref l, .int 1 u], []⟩) (fun _ R s => s.heap.get? l = some { cls := .type "tuple", dict := dd, data := .seq items n, slots := sl } ∧ R (.ok (.ret (Value.ref l))) { s with heap := s.heap, toks := s.toks }) :=
  .of_wp fun prog w A R s h => by
    obtain ⟨hp, g, d, tk, os⟩ := s
    obtain ⟨hl, h⟩ := h
    have f1 := AutoSeq1.idx_int
    have c0 : (decide ((1 : Int) < -(2 ^ 63)) || decide ((1 : Int) ≥ 2 ^ 63)) = false := by decide
    have c1 : (items.isEmpty || (1 : Int) == 1) = true := by simp
    wp_walk using wpAny_loadPart' hl
    repeat (first
      | (refine wpAny_ite_false (decide_eq_false (by rw [c0]; exact Bool.false_ne_true)) ?_; wp_walk using wpAny_loadPart' hl)
      | (refine wpAny_ite_true (decide_eq_true c1) ?_; wp_walk using wpAny_loadPart' hl))
    exact ⟨_, rfl, h⟩
theorem tuple_mul0 (l : Addr) (items : Array Value) (n : Nat) (dd : Option Addr) (sl : Array (Option Value)) (u : Tok) (hi : items.isEmpty = false) :
    Meets (Builtin.«tuple.__mul__» ⟨[.ref l, .int 0 u], []⟩) (fun _ R s => s.heap.get? l = some { cls := .type "tuple", dict := dd, data := .seq items n, slots := sl } ∧
      R (.ok (.ret (Value.ref s.heap.objs.size))) { s with heap := s.heap.push { cls := Value.type "tuple", data := Data.seq #[] }, toks := s.toks }) :=
  .of_wp fun prog w A R s h => by
    obtain ⟨hp, g, d, tk, os⟩ := s
    obtain ⟨hl, h⟩ := h
    have f1 := AutoSeq1.idx_int
    have c0 : (decide ((0 : Int) < -(2 ^ 63)) || decide ((0 : Int) ≥ 2 ^ 63)) = false := by decide
    have c1 : (items.isEmpty || (0 : Int) == 1) = false := by rw [hi]; decide
    have c2 : (decide ((0 : Int) ≤ 0) || items.isEmpty) = true := by rw [decide_eq_true (Int.le_refl 0)]; rfl
    wp_walk using wpAny_loadPart' hl
    repeat (first
      | (refine wpAny_ite_false (decide_eq_false (by rw [c0]; exact Bool.false_ne_true)) ?_; wp_walk using wpAny_loadPart' hl)
      | (refine wpAny_ite_false (decide_eq_false (by rw [c1]; exact Bool.false_ne_true)) ?_; wp_walk using wpAny_loadPart' hl)
      | (refine wpAny_ite_true (decide_eq_true c2) ?_; wp_walk using wpAny_loadPart' hl))
    exact ⟨_, rfl, h⟩
/-- (v,) * k, k from 0 on -/
def rRepA (K : PySem.W.Frag) : R2 := fun x y H Q => ∃ (l : Addr) (k : Nat) (xs : List V), x = .ref l ∧ y = .int k ∧ H l = some (.tup xs) ∧ xs ≠ [] ∧ k ≤ 1000 ∧ xs.length ≤ 1000 ∧ ∀ p H', Same H H' → H' p = some (.tup (List.replicate k xs).flatten) → Q (.ref p) H'
section
variable {X : Cx}
theorem op_repA : OpR X (binaryOp .Mult) (rRepA X.K) := by
  intro pins s σ H x y v u Q I rx ry h
  obtain ⟨l, k, xs, rfl, rfl, hT, hne, h2, hz, q⟩ := h
  by_cases hk : 2 ≤ k
  · refine op_repT pins s σ H _ _ v u Q I rx ry ⟨l, (k : Int), xs, rfl, rfl, SqT.of hT, hne, by omega, by omega, hz, fun p hp => q p _ (same_new hp) ?_⟩
    rw [upd_same]
    rfl
  · cases rx
    obtain ⟨t, rfl⟩ := ry
    obtain ⟨its, r, ⟨⟨cls, dd, data, sl⟩, ho, hc, n, hd⟩, hs⟩ := I.tuple (SqT.of hT)
    simp only at hc hd
    subst hc hd
    have hle : its.length = xs.length := r.length.symm
    have hi : its.toArray.isEmpty = false := by
      cases its with
      | nil => exact absurd (List.eq_nil_of_length_eq_zero hle.symm) hne
      | cons a b => rfl
    have hk2 : k = 0 ∨ k = 1 := by omega
    rcases hk2 with rfl | rfl
    · refine wpAny_binaryOp_repeat_ref (T := "tuple") (U := "int") (by decide) ⟨_, ho, rfl⟩ (fun s' => typeIs_int s' 0 t) noFill_tuple_mul PySem.F.fills_int_mul PySem.F.slot_int_rmul repeat_tuple PySem.F.slot_int_index.lookup
        (call_meets PySem.F.slot_int_rmul (typeIs_int s 0 t) PySem.F.entry_int_rmul (PySem.F.args_int_rmul_2 _ _) (int_rmul_tuple 0 t l its.toArray n dd sl)
          ⟨ho, rfl, ⟨_, ho, rfl⟩, call_meets PySem.F.slot_tuple_mul ⟨_, ho, rfl⟩ PySem.F.entry_tuple_mul (PySem.F.args_tuple_mul_2 _ _) (tuple_mul0 l its.toArray n dd sl t hi) ⟨ho, ?_⟩⟩)
      refine ⟨.ref s.heap.objs.size, _, I.laid (t' := s.toks) (o := .tup []) (fun b ob q => Heap.get?_push_of_some _ q) (Nat.le_refl _) ?_, rfl, q _ _ (same_new (I.hok.fresh (Nat.le_refl _))) upd_same⟩
      exact ⟨Nat.zero_le _, [], .nil, IsTup.new _ _⟩
    · refine wpAny_binaryOp_repeat_ref (T := "tuple") (U := "int") (by decide) ⟨_, ho, rfl⟩ (fun s' => typeIs_int s' 1 t) noFill_tuple_mul PySem.F.fills_int_mul PySem.F.slot_int_rmul repeat_tuple PySem.F.slot_int_index.lookup
        (call_meets PySem.F.slot_int_rmul (typeIs_int s 1 t) PySem.F.entry_int_rmul (PySem.F.args_int_rmul_2 _ _) (int_rmul_tuple 1 t l its.toArray n dd sl)
          ⟨ho, rfl, ⟨_, ho, rfl⟩, call_meets PySem.F.slot_tuple_mul ⟨_, ho, rfl⟩ PySem.F.entry_tuple_mul (PySem.F.args_tuple_mul_2 _ _) (tuple_mul1 l its.toArray n dd sl t) ⟨ho, ?_⟩⟩)
      refine ⟨.ref l, H, I, rfl, q l H (Same.refl H) ?_⟩
      rw [hT]
      simp
end
end WU

set_option maxRecDepth 100000
set_option maxHeartbeats 4000000
namespace WU
open PySem PySem.Spec PyProof.Rows L2
/-! ### rows of letters, by places -/
def at0 (r : List Int) (k : Nat) : Int := r.getD k 0
/-- a row of n letters -/
def Ltr (p : Int) (n : Nat) (b : List Int) : Prop := b.length = n ∧ ∀ i ∈ b, 0 ≤ i ∧ i < p
theorem at0_lt {r : List Int} {k : Nat} (h : k < r.length) : at0 r k = r[k] := by
  unfold at0
  rw [List.getD_eq_getElem?_getD, List.getElem?_eq_getElem h]
  rfl
theorem at0_some {r : List Int} {k : Nat} (h : k < r.length) : r[k]? = some (at0 r k) := by
  rw [at0_lt h, List.getElem?_eq_getElem h]
theorem Ltr.bd {p : Int} {n k : Nat} {r : List Int} (h : Ltr p n r) (hk : k < n) : 0 ≤ at0 r k ∧ at0 r k < p := by
  have hl : k < r.length := by rw [h.1]; exact hk
  rw [at0_lt hl]
  exact h.2 _ (List.getElem_mem hl)
theorem row_ext {n : Nat} {r t : List Int} (hr : r.length = n) (ht : t.length = n) (h : ∀ k, k < n → at0 r k = at0 t k) : r = t := by
  refine List.ext_getElem (by rw [hr, ht]) fun k h1 h2 => ?_
  rw [← at0_lt h1, ← at0_lt h2]
  exact h k (by omega)
theorem ltr_of {p : Int} {n : Nat} {r : List Int} (hl : r.length = n) (h : ∀ k, k < n → 0 ≤ at0 r k ∧ at0 r k < p) : Ltr p n r := by
  refine ⟨hl, fun x hx => ?_⟩
  obtain ⟨k, hk, rfl⟩ := List.getElem_of_mem hx
  rw [← at0_lt hk]
  exact h k (by omega)
def zer (n : Nat) : List Int := List.replicate n 0
theorem zer_len {n : Nat} : (zer n).length = n := List.length_replicate
theorem zer_at {n k : Nat} : at0 (zer n) k = 0 := by
  unfold at0 zer
  rw [List.getD_eq_getElem?_getD, List.getElem?_replicate]
  split <;> rfl
/-- u + c r, by places -/
def addv (p : Int) (u : List Int) (c : Int) (r : List Int) : List Int := List.zipWith (fun a b => (a + c * b).fmod p) u r
theorem addv_len {p c : Int} {n : Nat} {u r : List Int} (hu : u.length = n) (hr : r.length = n) : (addv p u c r).length = n := by
  unfold addv
  rw [List.length_zipWith, hu, hr, Nat.min_self]
theorem addv_at {p c : Int} {n k : Nat} {u r : List Int} (hu : u.length = n) (hr : r.length = n) (hk : k < n) : at0 (addv p u c r) k = (at0 u k + c * at0 r k).fmod p := by
  rw [at0_lt (by rw [addv_len hu hr]; exact hk), at0_lt (r := u) (by omega), at0_lt (r := r) (by omega)]
  unfold addv
  rw [List.getElem_zipWith]
theorem fm_bd (x : Int) {p : Int} (h : 0 < p) : 0 ≤ x.fmod p ∧ x.fmod p < p := ⟨Int.fmod_nonneg_of_pos x h, Int.fmod_lt_of_pos x h⟩
theorem addv_ltr {p c : Int} {n : Nat} {u r : List Int} (hp : 0 < p) (hu : u.length = n) (hr : r.length = n) : Ltr p n (addv p u c r) :=
  ltr_of (addv_len hu hr) fun k hk => by rw [addv_at hu hr hk]; exact fm_bd _ hp
theorem zer_ltr {p : Int} {n : Nat} (hp : 0 < p) : Ltr p n (zer n) := ltr_of zer_len fun k _ => by rw [zer_at]; omega
/-! ### alike modulo p -/
def Cg (p a b : Int) : Prop := ∃ t, a = b + p * t
theorem Cg.rfl' {p a : Int} : Cg p a a := ⟨0, by omega⟩
theorem Cg.symm {p a b : Int} (h : Cg p a b) : Cg p b a := by
  obtain ⟨t, e⟩ := h
  exact ⟨-t, by rw [e, Int.mul_neg]; omega⟩
theorem Cg.trans {p a b c : Int} (h : Cg p a b) (k : Cg p b c) : Cg p a c := by
  obtain ⟨t, e⟩ := h
  obtain ⟨u, f⟩ := k
  exact ⟨t + u, by rw [e, f, Int.mul_add]; omega⟩
theorem Cg.add {p a b c d : Int} (h : Cg p a b) (k : Cg p c d) : Cg p (a + c) (b + d) := by
  obtain ⟨t, e⟩ := h
  obtain ⟨u, f⟩ := k
  exact ⟨t + u, by rw [e, f, Int.mul_add]; omega⟩
theorem Cg.mul {p a b : Int} (c : Int) (h : Cg p a b) : Cg p (c * a) (c * b) := by
  obtain ⟨t, e⟩ := h
  exact ⟨c * t, by rw [e, Int.mul_add, ← Int.mul_assoc, ← Int.mul_assoc, Int.mul_comm c p]⟩
theorem Cg.mulr {p a b : Int} (c : Int) (h : Cg p a b) : Cg p (a * c) (b * c) := by
  rw [Int.mul_comm a, Int.mul_comm b]
  exact h.mul c
theorem Cg.fm {p : Int} (a : Int) : Cg p (a.fmod p) a := ⟨-(a.fdiv p), by rw [Int.fmod_def, Int.mul_neg]; omega⟩
theorem Cg.eq {p a b : Int} (h : Cg p a b) (ha : 0 ≤ a ∧ a < p) (hb : 0 ≤ b ∧ b < p) : a = b := by
  obtain ⟨t, e⟩ := h
  have h1 : a % p = a := Int.emod_eq_of_lt ha.1 ha.2
  have h2 : b % p = b := Int.emod_eq_of_lt hb.1 hb.2
  rw [← h1, ← h2, e, Int.add_mul_emod_self_left]
theorem Cg.fmod {p a b : Int} (hp : 0 < p) (h : Cg p a b) : a.fmod p = b.fmod p := Cg.eq ((Cg.fm a).trans (h.trans (Cg.fm b).symm)) (fm_bd a hp) (fm_bd b hp)
theorem fm_id {p a : Int} (h : 0 ≤ a ∧ a < p) : a.fmod p = a := Cg.eq (Cg.fm a) (fm_bd a (by omega)) h
/-! ### what sums and multiples keep -/
def Lin (p : Int) (n : Nat) (S : List Int → Prop) : Prop := S (zer n) ∧ ∀ u r c, S u → S r → S (addv p u c r)
/-- spanned by rows -/
def Span (p : Int) (n : Nat) (rows : List (List Int)) (v : List Int) : Prop := ∀ S, Lin p n S → (∀ r ∈ rows, S r) → S v
theorem span_lin {p : Int} {n : Nat} {rows : List (List Int)} : Lin p n (Span p n rows) := ⟨fun S l _ => l.1, fun u r c hu hr S l h => l.2 u r c (hu S l h) (hr S l h)⟩
theorem span_mem {p : Int} {n : Nat} {rows : List (List Int)} {r : List Int} (h : r ∈ rows) : Span p n rows r := fun S _ k => k r h
theorem span_sub {p : Int} {n : Nat} {rows rows' : List (List Int)} (h : ∀ r ∈ rows, Span p n rows' r) {v : List Int} (hv : Span p n rows v) : Span p n rows' v := hv _ span_lin h
theorem ltr_lin {p : Int} {n : Nat} (hp : 0 < p) : Lin p n (Ltr p n) := ⟨zer_ltr hp, fun u r c hu hr => addv_ltr hp hu.1 hr.1⟩
/-! ### the elimination -/
def nz (r : List Int) : Bool := r.any fun n => decide (n ≠ 0)
def led (p : Int) (r : List Int) (j : Nat) : List Int := r.map fun l => (inv p (at0 r j) * l).fmod p
def less (p : Int) (r : List Int) (f : Int) (lead : List Int) : List Int := List.zipWith (fun a b => (a - f * b).fmod p) r lead
def clr (p : Int) (lead : List Int) (j : Nat) (r : List Int) : List Int := if at0 r j ≠ 0 then less p r (at0 r j) lead else r
def hot (j : Nat) (r : List Int) : Bool := decide (at0 r j ≠ 0)
/-- one column, as the law goes -/
def stp (p : Int) (j : Nat) (s : List (List Int) × List (List Int)) : List (List Int) × List (List Int) :=
  match s.1.findIdx? (hot j) with
  | none => s
  | some k => ((s.1.eraseIdx k).map fun r => less p r (at0 r j) (led p (s.1.getD k []) j), (s.2.map fun r => less p r (at0 r j) (led p (s.1.getD k []) j)) ++ [led p (s.1.getD k []) j])
def run (p : Int) (rows : List (List Int)) : Nat → List (List Int) × List (List Int)
  | 0 => (rows, [])
  | j + 1 => stp p j (run p rows j)
def wid (rows : List (List Int)) : Nat := (rows.head?.getD []).length
/-- the reduced rows -/
def red (p : Int) (rows : List (List Int)) : List (List Int) := (run p rows (wid rows)).2
theorem less_add (p f : Int) (r lead : List Int) : less p r f lead = addv p r (-f) lead := by
  unfold less addv
  congr 1
  funext a b
  rw [Int.neg_mul]
  rfl
theorem less_len {p f : Int} {n : Nat} {r lead : List Int} (hr : r.length = n) (hl : lead.length = n) : (less p r f lead).length = n := by
  rw [less_add]
  exact addv_len hr hl
theorem less_at {p f : Int} {n k : Nat} {r lead : List Int} (hr : r.length = n) (hl : lead.length = n) (hk : k < n) : at0 (less p r f lead) k = (at0 r k - f * at0 lead k).fmod p := by
  rw [less_add, addv_at hr hl hk, Int.neg_mul]
  rfl
theorem led_len {p : Int} {j n : Nat} {r : List Int} (hr : r.length = n) : (led p r j).length = n := by
  unfold led
  rw [List.length_map, hr]
theorem led_at {p : Int} {j n k : Nat} {r : List Int} (hr : r.length = n) (hk : k < n) : at0 (led p r j) k = (inv p (at0 r j) * at0 r k).fmod p := by
  rw [at0_lt (by rw [led_len hr]; exact hk), at0_lt (r := r) (k := k) (by omega)]
  unfold led
  rw [List.getElem_map]
theorem led_add {p : Int} {j n : Nat} {r : List Int} (hr : r.length = n) : led p r j = addv p (zer n) (inv p (at0 r j)) r := by
  refine row_ext (led_len hr) (addv_len zer_len hr) fun k hk => ?_
  rw [led_at hr hk, addv_at zer_len hr hk, zer_at, Int.zero_add]
/-- the inverse is one -/
theorem inv_mul {p a : Int} (hp : p ∈ primes) (h0 : 0 < a) (h1 : a < p) : (a * inv p a).fmod p = 1 := by
  have all : ∀ q ∈ primes, ∀ n ∈ List.range 31, ¬ n = 0 → (n : Int) < q → ((n : Int) * inv q n).fmod q = 1 := by decide +kernel
  have hb := fld_le hp
  have e := all p hp a.toNat (List.mem_range.mpr (by omega)) (by omega) (by omega)
  rw [show ((a.toNat : Nat) : Int) = a by omega] at e
  exact e
/-- what stands ahead of column j -/
structure Iv (p : Int) (n : Nat) (rows : List (List Int)) (j : Nat) (s : List (List Int) × List (List Int)) (pv : List Nat) : Prop where
  left : ∀ r ∈ s.1, Ltr p n r
  done : ∀ r ∈ s.2, Ltr p n r
  low : ∀ r ∈ s.1, ∀ k, k < j → at0 r k = 0
  len : pv.length = s.2.length
  plt : ∀ c ∈ pv, c < j
  one : ∀ (i l : Nat) (r : List Int) (c : Nat), s.2[i]? = some r → pv[l]? = some c → at0 r c = if i = l then 1 else 0
  to : ∀ r, r ∈ s.1 ∨ r ∈ s.2 → Span p n rows r
  of : ∀ r ∈ rows, Span p n (s.1 ++ s.2) r
theorem iv_zero {p : Int} {n : Nat} {rows : List (List Int)} (h : ∀ r ∈ rows, Ltr p n r) : Iv p n rows 0 (run p rows 0) [] where
  left := h
  done := fun r hr => nomatch hr
  low := fun r _ k hk => absurd hk (Nat.not_lt_zero _)
  len := rfl
  plt := fun c hc => nomatch hc
  one := fun i l r c hi _ => nomatch hi
  to := fun r hr => hr.elim span_mem fun z => nomatch z
  of := fun r hr => span_mem (List.mem_append.mpr (.inl hr))
theorem find_hot {j : Nat} {rows : List (List Int)} {k : Nat} (h : rows.findIdx? (hot j) = some k) : ∃ a r b, rows = a ++ r :: b ∧ a.length = k ∧ hot j r = true ∧ ∀ t ∈ a, hot j t = false := by
  rw [List.findIdx?_eq_some_iff_getElem] at h
  obtain ⟨hk, h1, h2⟩ := h
  refine ⟨rows.take k, rows[k], rows.drop (k + 1), ?_, by rw [List.length_take]; omega, h1, fun t ht => ?_⟩
  · rw [List.getElem_cons_drop, List.take_append_drop]
  · obtain ⟨i, hi, rfl⟩ := List.getElem_of_mem ht
    rw [List.length_take] at hi
    rw [List.getElem_take]
    have := h2 i (by omega)
    simpa using this
theorem erase_mid {α : Type} (a b : List α) (r : α) : (a ++ r :: b).eraseIdx a.length = a ++ b := by
  rw [List.eraseIdx_append_of_length_le (Nat.le_refl _), Nat.sub_self]
  rfl
theorem getD_mid (a b : List (List Int)) (r : List Int) : (a ++ r :: b).getD a.length [] = r := by
  rw [List.getD_eq_getElem?_getD, List.getElem?_append_right (Nat.le_refl _), Nat.sub_self]
  rfl
theorem stp_some {p : Int} {j : Nat} {a b d : List (List Int)} {r : List Int} (hr : hot j r = true) (ha : ∀ t ∈ a, hot j t = false) :
    stp p j (a ++ r :: b, d) = ((a ++ b).map fun t => less p t (at0 t j) (led p r j), (d.map fun t => less p t (at0 t j) (led p r j)) ++ [led p r j]) := by
  have e : (a ++ r :: b).findIdx? (hot j) = some a.length := by
    rw [List.findIdx?_eq_some_iff_getElem]
    refine ⟨by rw [List.length_append]; simp, by rw [List.getElem_append_right (Nat.le_refl _)]; simpa using hr, fun i hi => ?_⟩
    rw [List.getElem_append_left hi, ha _ (List.getElem_mem hi)]
    exact Bool.false_ne_true
  unfold stp
  simp only
  rw [e]
  simp only
  rw [erase_mid, getD_mid]
theorem stp_none {p : Int} {j : Nat} {s : List (List Int) × List (List Int)} (h : ∀ t ∈ s.1, hot j t = false) : stp p j s = s := by
  have e : s.1.findIdx? (hot j) = none := by
    rw [List.findIdx?_eq_none_iff]
    exact h
  unfold stp
  rw [e]
end WU

set_option maxRecDepth 100000
set_option maxHeartbeats 4000000
namespace WU
open PySem PySem.Spec PyProof.Rows L2
theorem prime_pos {p : Int} (hp : p ∈ primes) : 0 < p := by have := fld_le hp; omega
theorem fm_zero {p : Int} : (0 : Int).fmod p = 0 := Int.zero_fmod p
theorem fm_one {p : Int} (hp : p ∈ primes) : (1 : Int).fmod p = 1 := fm_id (by have := fld_le hp; omega)
theorem hot_ne {j : Nat} {r : List Int} (h : hot j r = true) : at0 r j ≠ 0 := of_decide_eq_true h
theorem hot_not {j : Nat} {r : List Int} (h : hot j r = false) : at0 r j = 0 := by
  have := of_decide_eq_false h
  simpa using this
theorem led_one {p : Int} {j n : Nat} {r : List Int} (hp : p ∈ primes) (hr : Ltr p n r) (hj : j < n) (h : hot j r = true) : at0 (led p r j) j = 1 := by
  have b := hr.bd hj
  have z := hot_ne h
  rw [led_at hr.1 hj, Int.mul_comm]
  exact inv_mul hp (by omega) b.2
theorem less_ltr {p f : Int} {n : Nat} {r lead : List Int} (hp : 0 < p) (hr : r.length = n) (hl : lead.length = n) : Ltr p n (less p r f lead) := by
  rw [less_add]
  exact addv_ltr hp hr hl
theorem led_ltr {p : Int} {j n : Nat} {r : List Int} (hp : 0 < p) (hr : r.length = n) : Ltr p n (led p r j) := by
  rw [led_add hr]
  exact addv_ltr hp zer_len hr
/-- a row with nothing at j stays as it is -/
theorem less_zero {p : Int} {n : Nat} {r lead : List Int} (hr : Ltr p n r) (hl : lead.length = n) : less p r 0 lead = r := by
  refine row_ext (less_len hr.1 hl) hr.1 fun k hk => ?_
  rw [less_at hr.1 hl hk, Int.zero_mul, Int.sub_zero]
  exact fm_id (hr.bd hk)
theorem clr_less {p : Int} {j n : Nat} {r lead : List Int} (hr : Ltr p n r) (hl : lead.length = n) : clr p lead j r = less p r (at0 r j) lead := by
  unfold clr
  by_cases h : at0 r j = 0
  · rw [if_neg (by simpa using h), h, less_zero hr hl]
  · rw [if_pos h]
/-- cleared of itself a row is nothing -/
theorem less_self {p : Int} {j n : Nat} {r : List Int} (hp : p ∈ primes) (hr : Ltr p n r) (hj : j < n) (h : hot j r = true) : less p r (at0 r j) (led p r j) = zer n := by
  have p0 := prime_pos hp
  refine row_ext (less_len hr.1 (led_len hr.1)) zer_len fun k hk => ?_
  have b := hr.bd hj
  have z := hot_ne h
  rw [less_at hr.1 (led_len hr.1) hk, zer_at, led_at hr.1 hk]
  have c1 : Cg p (at0 r j * inv p (at0 r j)) 1 := by
    rw [← inv_mul hp (show 0 < at0 r j by omega) b.2]
    exact (Cg.fm _).symm
  have c2 : Cg p (at0 r j * (inv p (at0 r j) * at0 r k).fmod p) (at0 r k) := by
    have := (Cg.fm (p := p) (inv p (at0 r j) * at0 r k)).mul (at0 r j)
    rw [← Int.mul_assoc] at this
    have c3 := c1.mulr (at0 r k)
    rw [Int.one_mul] at c3
    exact this.trans c3
  have c4 : Cg p (at0 r k - at0 r j * (inv p (at0 r j) * at0 r k).fmod p) 0 := by
    obtain ⟨t, e⟩ := c2
    exact ⟨-t, by rw [e, Int.mul_neg]; omega⟩
  rw [Cg.fmod p0 c4, fm_zero]
theorem nz_zer {n : Nat} : nz (zer n) = false := by
  unfold nz zer
  rw [List.any_eq_false]
  intro x hx
  rw [(List.mem_replicate.mp hx).2]
  decide
theorem nz_false {p : Int} {n : Nat} {r : List Int} (hr : r.length = n) (h : nz r = false) : r = zer n := by
  unfold nz at h
  rw [List.any_eq_false] at h
  refine List.eq_replicate_iff.mpr ⟨hr, fun x hx => ?_⟩
  have := h x hx
  simpa using this
theorem nz_hot {j n : Nat} {r : List Int} (hr : r.length = n) (hj : j < n) (h : hot j r = true) : nz r = true := by
  unfold nz
  rw [List.any_eq_true]
  exact ⟨r[j]'(by omega), List.getElem_mem _, by rw [← at0_lt (by omega)]; exact h⟩
theorem less_span {p f : Int} {n : Nat} {rows : List (List Int)} {r l : List Int} (hr : Span p n rows r) (hl : Span p n rows l) : Span p n rows (less p r f l) := by
  rw [less_add]
  exact span_lin.2 _ _ _ hr hl
theorem led_span {p : Int} {j n : Nat} {rows : List (List Int)} {r : List Int} (hl : r.length = n) (hr : Span p n rows r) : Span p n rows (led p r j) := by
  rw [led_add hl]
  exact span_lin.2 _ _ _ span_lin.1 hr
/-- and back: a row is what is left of it and its multiple -/
theorem less_back {p f : Int} {n : Nat} {r l : List Int} (hp : 0 < p) (hr : Ltr p n r) (hl : l.length = n) : r = addv p (less p r f l) f l := by
  have h1 := less_len (p := p) (f := f) hr.1 hl
  refine row_ext hr.1 (addv_len h1 hl) fun k hk => ?_
  rw [addv_at h1 hl hk, less_at hr.1 hl hk]
  have c : Cg p ((at0 r k - f * at0 l k).fmod p + f * at0 l k) (at0 r k) := by
    have := (Cg.fm (p := p) (at0 r k - f * at0 l k)).add (Cg.rfl' (p := p) (a := f * at0 l k))
    rw [Int.sub_add_cancel] at this
    exact this
  rw [Cg.fmod hp c, fm_id (hr.bd hk)]
theorem led_back {p : Int} {j n : Nat} {r : List Int} (hp : p ∈ primes) (hr : Ltr p n r) (hj : j < n) (h : hot j r = true) : r = addv p (zer n) (at0 r j) (led p r j) := by
  have p0 := prime_pos hp
  have e := less_back (f := at0 r j) p0 hr (led_len (p := p) (j := j) hr.1)
  rw [less_self hp hr hj h] at e
  exact e
theorem iv_step {p : Int} {n j : Nat} {rows : List (List Int)} {s : List (List Int) × List (List Int)} {pv : List Nat} (hp : p ∈ primes) (hj : j < n) (I : Iv p n rows j s pv) : ∃ pv', Iv p n rows (j + 1) (stp p j s) pv' := by
  have p0 := prime_pos hp
  cases e : s.1.findIdx? (hot j) with
  | none =>
    rw [List.findIdx?_eq_none_iff] at e
    rw [stp_none e]
    refine ⟨pv, I.left, I.done, fun r hr k hk => ?_, I.len, fun c hc => Nat.lt_succ_of_lt (I.plt c hc), I.one, I.to, I.of⟩
    by_cases z : k = j
    · rw [z]
      exact hot_not (e r hr)
    · exact I.low r hr k (by omega)
  | some k =>
    obtain ⟨a, r, b, ea, hk, hr, ha⟩ := find_hot e
    obtain ⟨l, d⟩ := s
    simp only at ea
    subst ea
    rw [stp_some hr ha]
    have hrm : r ∈ a ++ r :: b := List.mem_append.mpr (.inr (List.mem_cons_self))
    have hrL : Ltr p n r := I.left r hrm
    have hl : (led p r j).length = n := led_len hrL.1
    have sub : ∀ t ∈ a ++ b, t ∈ a ++ r :: b := fun t ht => by
      rcases List.mem_append.mp ht with h | h
      · exact List.mem_append.mpr (.inl h)
      · exact List.mem_append.mpr (.inr (List.mem_cons_of_mem _ h))
    have l1 := led_one hp hrL hj hr
    have lpv : ∀ c, c < j → at0 (led p r j) c = 0 := fun c hc => by
      rw [led_at hrL.1 (by omega), I.low r hrm c hc, Int.mul_zero, fm_zero]
    have tl : Span p n rows (led p r j) := led_span hrL.1 (I.to r (.inl hrm))
    refine ⟨pv ++ [j], ?_⟩
    constructor
    · intro t ht
      obtain ⟨u, hu, rfl⟩ := List.mem_map.mp ht
      exact less_ltr p0 (I.left u (sub u hu)).1 hl
    · intro t ht
      rcases List.mem_append.mp ht with h | h
      · obtain ⟨u, hu, rfl⟩ := List.mem_map.mp h
        exact less_ltr p0 (I.done u hu).1 hl
      · rw [List.mem_singleton.mp h]
        exact led_ltr p0 hrL.1
    · intro t ht k hk
      obtain ⟨u, hu, rfl⟩ := List.mem_map.mp ht
      have hu2 := I.left u (sub u hu)
      rw [less_at hu2.1 hl (by omega)]
      by_cases z : k = j
      · rw [z, l1, Int.mul_one, Int.sub_self, fm_zero]
      · rw [I.low u (sub u hu) k (by omega), lpv k (by omega), Int.mul_zero, Int.sub_zero, fm_zero]
    · rw [List.length_append, List.length_append, List.length_map, I.len]
      rfl
    · intro c hc
      rcases List.mem_append.mp hc with h | h
      · exact Nat.lt_succ_of_lt (I.plt c h)
      · rw [List.mem_singleton.mp h]
        exact Nat.lt_succ_self j
    · intro i m t c hi hm
      have hpl := I.len
      by_cases zi : i < d.length
      · rw [List.getElem?_append_left (by rw [List.length_map]; exact zi), List.getElem?_map] at hi
        obtain ⟨u, hu, rfl⟩ := Option.map_eq_some_iff.mp hi
        have hu2 := I.done u (List.mem_of_getElem? hu)
        by_cases zm : m < pv.length
        · rw [List.getElem?_append_left zm] at hm
          have hc := I.plt c (List.mem_of_getElem? hm)
          rw [less_at hu2.1 hl (by omega), lpv c hc, Int.mul_zero, Int.sub_zero, I.one i m u c hu hm]
          split
          · exact fm_one hp
          · exact fm_zero
        · have hm2 := (List.getElem?_eq_some_iff.mp hm).1
          rw [List.length_append] at hm2
          have em : m = pv.length := by
            have : m < pv.length + 1 := hm2
            omega
          rw [em, List.getElem?_append_right (Nat.le_refl _), Nat.sub_self] at hm
          cases hm
          rw [less_at hu2.1 hl hj, l1, Int.mul_one, Int.sub_self, fm_zero, if_neg (by simp only at hpl; omega)]
      · have hi2 := (List.getElem?_eq_some_iff.mp hi).1
        rw [List.length_append, List.length_map] at hi2
        have ei : i = d.length := by
          have : i < d.length + 1 := hi2
          omega
        rw [ei, List.getElem?_append_right (by rw [List.length_map]; exact Nat.le_refl _), List.length_map, Nat.sub_self] at hi
        cases hi
        by_cases zm : m < pv.length
        · rw [List.getElem?_append_left zm] at hm
          have hc := I.plt c (List.mem_of_getElem? hm)
          rw [lpv c hc, if_neg (by simp only at hpl; omega)]
        · have hm2 := (List.getElem?_eq_some_iff.mp hm).1
          rw [List.length_append] at hm2
          have em : m = pv.length := by
            have : m < pv.length + 1 := hm2
            omega
          rw [em, List.getElem?_append_right (Nat.le_refl _), Nat.sub_self] at hm
          cases hm
          rw [l1, if_pos (by simp only at hpl; omega)]
    · intro t ht
      rcases ht with h | h
      · obtain ⟨u, hu, rfl⟩ := List.mem_map.mp h
        exact less_span (I.to u (.inl (sub u hu))) tl
      · rcases List.mem_append.mp h with h | h
        · obtain ⟨u, hu, rfl⟩ := List.mem_map.mp h
          exact less_span (I.to u (.inr hu)) tl
        · rw [List.mem_singleton.mp h]
          exact tl
    · intro t ht
      refine span_sub (fun u hu => ?_) (I.of t ht)
      generalize hL : ((a ++ b).map fun t => less p t (at0 t j) (led p r j)) ++ ((d.map fun t => less p t (at0 t j) (led p r j)) ++ [led p r j]) = L
      have hlead : Span p n L (led p r j) := span_mem (by rw [← hL]; exact List.mem_append.mpr (.inr (List.mem_append.mpr (.inr (List.mem_singleton.mpr rfl)))))
      have back : ∀ u, Ltr p n u → less p u (at0 u j) (led p r j) ∈ L → Span p n L u := fun u hu hm => by
        rw [less_back (f := at0 u j) p0 hu hl]
        exact span_lin.2 _ _ _ (span_mem hm) hlead
      rcases List.mem_append.mp hu with h | h
      · have hab : u ∈ a ++ b ∨ u = r := by
          rcases List.mem_append.mp h with h | h
          · exact .inl (List.mem_append.mpr (.inl h))
          · rcases List.mem_cons.mp h with h | h
            · exact .inr h
            · exact .inl (List.mem_append.mpr (.inr h))
        rcases hab with h | rfl
        · exact back u (I.left u (sub u h)) (by rw [← hL]; exact List.mem_append.mpr (.inl (List.mem_map.mpr ⟨u, h, rfl⟩)))
        · rw [led_back hp hrL hj hr]
          exact span_lin.2 _ _ _ span_lin.1 hlead
      · exact back u (I.done u h) (by rw [← hL]; exact List.mem_append.mpr (.inr (List.mem_append.mpr (.inl (List.mem_map.mpr ⟨u, h, rfl⟩)))))
theorem iv_run {p : Int} {n : Nat} {rows : List (List Int)} (hp : p ∈ primes) (h : ∀ r ∈ rows, Ltr p n r) : ∀ j, j ≤ n → ∃ pv, Iv p n rows j (run p rows j) pv
  | 0, _ => ⟨[], iv_zero h⟩
  | j + 1, hj => by
    obtain ⟨pv, I⟩ := iv_run hp h j (by omega)
    exact iv_step hp (by omega) I
end WU

set_option maxRecDepth 100000
set_option maxHeartbeats 4000000
namespace WU
open PySem PySem.Spec PyProof.Rows L2
theorem filter_hot_nz {p : Int} {n j : Nat} {l : List (List Int)} (hl : ∀ r ∈ l, Ltr p n r) (hj : j < n) : (l.filter nz).filter (hot j) = l.filter (hot j) := by
  rw [List.filter_filter]
  refine List.filter_congr fun r hr => ?_
  cases h : hot j r with
  | false => rfl
  | true => rw [nz_hot (hl r hr).1 hj h] <;> rfl
theorem filter_first {j : Nat} {l : List (List Int)} {r : List Int} {t : List (List Int)} (h : l.filter (hot j) = r :: t) : ∃ a b, l = a ++ r :: b ∧ hot j r = true ∧ ∀ u ∈ a, hot j u = false := by
  induction l with
  | nil => cases h
  | cons x l ih =>
    rw [List.filter_cons] at h
    cases e : hot j x with
    | true =>
      rw [if_pos e] at h
      cases h
      exact ⟨[], l, rfl, e, fun u hu => nomatch hu⟩
    | false =>
      rw [if_neg (by rw [e]; decide)] at h
      obtain ⟨a, b, e1, e2, e3⟩ := ih h
      refine ⟨x :: a, b, by rw [e1]; rfl, e2, fun u hu => ?_⟩
      rcases List.mem_cons.mp hu with h | h
      · rw [h]
        exact e
      · exact e3 u h
/-- clearing and dropping, and dropping first -/
theorem clr_filter {p : Int} {n j : Nat} {lead : List Int} (hp : 0 < p) (hl : lead.length = n) : ∀ {l : List (List Int)}, (∀ r ∈ l, Ltr p n r) → ((l.filter nz).map (clr p lead j)).filter nz = (l.map fun t => less p t (at0 t j) lead).filter nz
  | [], _ => rfl
  | r :: l, h => by
    have hr := h r (List.mem_cons_self)
    have ih := clr_filter (j := j) hp hl (l := l) fun u hu => h u (List.mem_cons_of_mem _ hu)
    rw [List.filter_cons, List.map_cons, List.filter_cons, ← clr_less (j := j) hr hl]
    cases e : nz r with
    | true =>
      rw [if_pos rfl, List.map_cons, List.filter_cons, ih]
    | false =>
      rw [if_neg (by decide), ih]
      have z := nz_false (p := p) hr.1 e
      have c : clr p lead j r = r := by
        unfold clr
        rw [if_neg]
        rw [z, zer_at]
        decide
      rw [c, e, if_neg (by decide)]
theorem map_clr {p : Int} {n j : Nat} {lead : List Int} (hl : lead.length = n) {l : List (List Int)} (h : ∀ r ∈ l, Ltr p n r) : l.map (clr p lead j) = l.map fun t => less p t (at0 t j) lead :=
  List.map_congr_left fun r hr => clr_less (h r hr) hl
theorem less_mid {p : Int} {n j : Nat} {a b : List (List Int)} {r : List Int} (hp : p ∈ primes) (hr : Ltr p n r) (hj : j < n) (h : hot j r = true) :
    ((a ++ r :: b).map fun t => less p t (at0 t j) (led p r j)).filter nz = ((a ++ b).map fun t => less p t (at0 t j) (led p r j)).filter nz := by
  rw [List.map_append, List.map_append, List.map_cons, List.filter_append, List.filter_append, List.filter_cons, less_self hp hr hj h, nz_zer, if_neg (by decide)]
/-- what the program does at a column is what the law does -/
theorem sim {p : Int} {n j : Nat} {rows : List (List Int)} {s : List (List Int) × List (List Int)} {pv : List Nat} (hp : p ∈ primes) (hj : j < n) (I : Iv p n rows j s pv) :
    ((s.1.filter nz).filter (hot j) = [] → stp p j s = s) ∧ ∀ r t, (s.1.filter nz).filter (hot j) = r :: t → Ltr p n r ∧ hot j r = true ∧
      (((s.1.filter nz).map (clr p (led p r j) j)).filter nz = (stp p j s).1.filter nz) ∧ s.2.map (clr p (led p r j) j) ++ [led p r j] = (stp p j s).2 := by
  rw [filter_hot_nz I.left hj]
  refine ⟨fun e => stp_none fun t ht => ?_, fun r t e => ?_⟩
  · have := List.filter_eq_nil_iff.mp e t ht
    simpa using this
  · obtain ⟨a, b, e1, e2, e3⟩ := filter_first e
    obtain ⟨l, d⟩ := s
    simp only at e1
    subst e1
    have hr : Ltr p n r := I.left r (List.mem_append.mpr (.inr (List.mem_cons_self)))
    have hl : (led p r j).length = n := led_len hr.1
    refine ⟨hr, e2, ?_, ?_⟩
    · rw [clr_filter (prime_pos hp) hl I.left, less_mid hp hr hj e2, stp_some e2 e3]
    · rw [map_clr hl I.done, stp_some e2 e3]
theorem run_stay {p : Int} {rows : List (List Int)} {j : Nat} (h : ∀ t ∈ (run p rows j).1, ∀ i, hot i t = false) : ∀ m, run p rows (j + m) = run p rows j
  | 0 => rfl
  | m + 1 => by
    show stp p (j + m) (run p rows (j + m)) = _
    rw [run_stay h m]
    exact stp_none fun t ht => h t ht _
theorem zer_hot {n i : Nat} : hot i (zer n) = false := by
  unfold hot
  rw [zer_at]
  decide
/-- nothing left: the rest of the columns change nothing -/
theorem run_end {p : Int} {n j : Nat} {rows : List (List Int)} {pv : List Nat} (I : Iv p n rows j (run p rows j) pv) (hj : j ≤ n) (h : (run p rows j).1.filter nz = []) : (run p rows n).2 = (run p rows j).2 := by
  have st := run_stay (p := p) (rows := rows) (j := j) (fun t ht i => by
    have h1 := List.filter_eq_nil_iff.mp h t ht
    rw [nz_false (p := p) (I.left t ht).1 (by simpa using h1)]
    exact zer_hot) (n - j)
  rw [show j + (n - j) = n by omega] at st
  rw [st]
/-- something left: there is a column -/
theorem run_more {p : Int} {n j : Nat} {rows : List (List Int)} {s : List (List Int) × List (List Int)} {pv : List Nat} (I : Iv p n rows j s pv) (h : s.1.filter nz ≠ []) : j < n := by
  obtain ⟨r, t, e⟩ := List.exists_cons_of_ne_nil h
  have hm : r ∈ s.1.filter nz := by rw [e]; exact List.mem_cons_self
  obtain ⟨h1, h2⟩ := List.mem_filter.mp hm
  have hr := I.left r h1
  rcases Nat.lt_or_ge j n with q | q
  · exact q
  · exfalso
    unfold nz at h2
    rw [List.any_eq_true] at h2
    obtain ⟨x, hx, ne⟩ := h2
    obtain ⟨k, hk, rfl⟩ := List.getElem_of_mem hx
    rw [← at0_lt hk, I.low r h1 k (by have := hr.1; omega)] at ne
    cases ne
theorem run_nil {p : Int} {n : Nat} {rows : List (List Int)} (hp : p ∈ primes) (h : ∀ r ∈ rows, Ltr p n r) : ∃ pv, Iv p n rows n (run p rows n) pv ∧ ∀ t ∈ (run p rows n).1, t = zer n := by
  obtain ⟨pv, I⟩ := iv_run hp h n (Nat.le_refl n)
  refine ⟨pv, I, fun t ht => row_ext (I.left t ht).1 zer_len fun k hk => ?_⟩
  rw [I.low t ht k hk, zer_at]
/-! ### how many sums there are -/
def cmb (p : Int) (n : Nat) : List (List Int) → List Int → List Int
  | r :: rs, c :: cs => addv p (cmb p n rs cs) c r
  | _, _ => zer n
theorem cmb_ltr {p : Int} {n : Nat} (hp : 0 < p) : ∀ {rs : List (List Int)} {cs : List Int}, (∀ r ∈ rs, Ltr p n r) → Ltr p n (cmb p n rs cs)
  | [], _, _ => by
    unfold cmb
    exact zer_ltr hp
  | r :: rs, [], _ => by
    unfold cmb
    exact zer_ltr hp
  | r :: rs, c :: cs, h => addv_ltr hp (cmb_ltr hp fun u hu => h u (List.mem_cons_of_mem _ hu)).1 (h r (List.mem_cons_self)).1
theorem cmb_span {p : Int} {n : Nat} {R : List (List Int)} : ∀ {rs : List (List Int)} {cs : List Int}, (∀ r ∈ rs, Span p n R r) → Span p n R (cmb p n rs cs)
  | [], _, _ => by
    unfold cmb
    exact span_lin.1
  | r :: rs, [], _ => by
    unfold cmb
    exact span_lin.1
  | r :: rs, c :: cs, h => span_lin.2 _ _ _ (cmb_span fun u hu => h u (List.mem_cons_of_mem _ hu)) (h r (List.mem_cons_self))
/-- the sum at a place -/
def csum (k : Nat) : List (List Int) → List Int → Int
  | r :: rs, c :: cs => csum k rs cs + c * at0 r k
  | _, _ => 0
theorem cmb_at {p : Int} {n k : Nat} (hp : 0 < p) (hk : k < n) : ∀ {rs : List (List Int)} {cs : List Int}, (∀ r ∈ rs, Ltr p n r) → Cg p (at0 (cmb p n rs cs) k) (csum k rs cs)
  | [], _, _ => by
    unfold cmb csum
    rw [zer_at]
    exact Cg.rfl'
  | r :: rs, [], _ => by
    unfold cmb csum
    rw [zer_at]
    exact Cg.rfl'
  | r :: rs, c :: cs, h => by
    have ih := cmb_at hp hk (rs := rs) (cs := cs) fun u hu => h u (List.mem_cons_of_mem _ hu)
    have l1 := (cmb_ltr (p := p) (n := n) (cs := cs) hp fun u hu => h u (List.mem_cons_of_mem _ hu)).1
    show Cg p (at0 (addv p (cmb p n rs cs) c r) k) (csum k rs cs + c * at0 r k)
    rw [addv_at l1 (h r (List.mem_cons_self)).1 hk]
    exact (Cg.fm _).trans (ih.add Cg.rfl')
/-- rows with a 1 at an own place, and noughts at the others' -/
structure Piv (p : Int) (n : Nat) (rs : List (List Int)) (pv : List Nat) : Prop where
  ltr : ∀ r ∈ rs, Ltr p n r
  len : pv.length = rs.length
  plt : ∀ c ∈ pv, c < n
  one : ∀ (i l : Nat) (r : List Int) (c : Nat), rs[i]? = some r → pv[l]? = some c → at0 r c = if i = l then 1 else 0
theorem Piv.tail {p : Int} {n : Nat} {r : List Int} {rs : List (List Int)} {c : Nat} {pv : List Nat} (P : Piv p n (r :: rs) (c :: pv)) : Piv p n rs pv where
  ltr := fun u hu => P.ltr u (List.mem_cons_of_mem _ hu)
  len := Nat.succ.inj P.len
  plt := fun u hu => P.plt u (List.mem_cons_of_mem _ hu)
  one := fun i l u d hi hl => by
    have := P.one (i + 1) (l + 1) u d hi hl
    rw [this]
    by_cases z : i = l
    · rw [if_pos z, if_pos (by omega)]
    · rw [if_neg z, if_neg (by omega)]
theorem csum_zero {k : Nat} : ∀ {rs : List (List Int)} {cs : List Int}, (∀ r ∈ rs, at0 r k = 0) → csum k rs cs = 0
  | [], _, _ => by
    unfold csum
    rfl
  | r :: rs, [], _ => by
    unfold csum
    rfl
  | r :: rs, c :: cs, h => by
    unfold csum
    rw [csum_zero fun u hu => h u (List.mem_cons_of_mem _ hu), h r (List.mem_cons_self), Int.mul_zero]
    rfl
/-- at the own places stand the letters -/
theorem csum_piv {p : Int} {n : Nat} : ∀ {rs : List (List Int)} {pv : List Nat} {cs : List Int}, Piv p n rs pv → cs.length = rs.length → pv.map (fun c => csum c rs cs) = cs
  | [], pv, cs, P, h => by
    have h1 := List.eq_nil_of_length_eq_zero (h.trans rfl)
    have h2 := List.eq_nil_of_length_eq_zero (P.len.trans rfl)
    rw [h1, h2]
    rfl
  | r :: rs, pv, cs, P, h => by
    cases pv with
    | nil => exact absurd P.len (by simp)
    | cons c pv =>
      cases cs with
      | nil => exact absurd h (by simp)
      | cons d cs =>
        have ih := csum_piv P.tail (Nat.succ.inj h)
        rw [List.map_cons]
        have e0 : csum c (r :: rs) (d :: cs) = d := by
          show csum c rs cs + d * at0 r c = d
          rw [P.one 0 0 r c rfl rfl, if_pos rfl, Int.mul_one, csum_zero, Int.zero_add]
          intro u hu
          obtain ⟨i, hi⟩ := List.getElem?_of_mem hu
          rw [P.one (i + 1) 0 u c hi rfl, if_neg (by omega)]
        rw [e0]
        congr 1
        refine Eq.trans (List.map_congr_left fun e he => ?_) ih
        obtain ⟨l, hl⟩ := List.getElem?_of_mem he
        show csum e rs cs + d * at0 r e = csum e rs cs
        rw [P.one 0 (l + 1) r e rfl hl, if_neg (by omega), Int.mul_zero, Int.add_zero]
def pvs (pv : List Nat) (v : List Int) : List Int := pv.map fun c => at0 v c
/-- what the rows span, read by its own places -/
def Sv (p : Int) (n : Nat) (rs : List (List Int)) (pv : List Nat) (v : List Int) : Prop := Ltr p n v ∧ ∀ k, k < n → Cg p (at0 v k) (csum k rs (pvs pv v))
theorem csum_add {p c : Int} {n k : Nat} {u v : List Int} (hu : u.length = n) (hv : v.length = n) : ∀ {rs : List (List Int)} {pv : List Nat}, (∀ d ∈ pv, d < n) →
    Cg p (csum k rs (pvs pv (addv p u c v))) (csum k rs (pvs pv u) + c * csum k rs (pvs pv v))
  | [], pv, _ => by
    unfold csum
    rw [Int.mul_zero]
    exact Cg.rfl'
  | r :: rs, [], _ => by
    unfold pvs csum
    simp only [List.map_nil]
    rw [Int.mul_zero]
    exact Cg.rfl'
  | r :: rs, d :: pv, h => by
    have ih := csum_add (k := k) (c := c) (p := p) hu hv (rs := rs) (pv := pv) fun e he => h e (List.mem_cons_of_mem _ he)
    show Cg p (csum k rs (pvs pv (addv p u c v)) + at0 (addv p u c v) d * at0 r k) ((csum k rs (pvs pv u) + at0 u d * at0 r k) + c * (csum k rs (pvs pv v) + at0 v d * at0 r k))
    rw [addv_at hu hv (h d (List.mem_cons_self))]
    have c1 := ih.add ((Cg.fm (p := p) (at0 u d + c * at0 v d)).mulr (at0 r k))
    rw [Int.add_mul] at c1
    rw [Int.mul_add, ← Int.mul_assoc]
    rw [show csum k rs (pvs pv u) + at0 u d * at0 r k + (c * csum k rs (pvs pv v) + c * at0 v d * at0 r k) = csum k rs (pvs pv u) + c * csum k rs (pvs pv v) + (at0 u d * at0 r k + c * at0 v d * at0 r k) by omega]
    exact c1
theorem pvs_zer {n : Nat} {pv : List Nat} : pvs pv (zer n) = pv.map fun _ => 0 := List.map_congr_left fun c _ => zer_at
theorem csum_zer {k : Nat} : ∀ {rs : List (List Int)} {pv : List Nat}, csum k rs (pv.map fun _ => 0) = 0
  | [], _ => by
    unfold csum
    rfl
  | r :: rs, [] => by
    show csum k (r :: rs) [] = 0
    unfold csum
    rfl
  | r :: rs, d :: pv => by
    show csum k rs (pv.map fun _ => 0) + 0 * at0 r k = 0
    rw [csum_zer, Int.zero_mul]
    rfl
theorem sv_lin {p : Int} {n : Nat} {rs : List (List Int)} {pv : List Nat} (hp : 0 < p) (h : ∀ d ∈ pv, d < n) : Lin p n (Sv p n rs pv) := by
  refine ⟨⟨zer_ltr hp, fun k hk => ?_⟩, fun u r c hu hr => ⟨addv_ltr hp hu.1.1 hr.1.1, fun k hk => ?_⟩⟩
  · rw [zer_at, pvs_zer, csum_zer]
    exact Cg.rfl'
  · rw [addv_at hu.1.1 hr.1.1 hk]
    exact (Cg.fm _).trans (((hu.2 k hk).add ((hr.2 k hk).mul c)).trans (csum_add hu.1.1 hr.1.1 h).symm)
theorem sv_of {p : Int} {n : Nat} {rs : List (List Int)} {pv : List Nat} (hp : 0 < p) (P : Piv p n rs pv) {cs : List Int} (hl : cs.length = rs.length) (hc : ∀ c ∈ cs, 0 ≤ c ∧ c < p) : pvs pv (cmb p n rs cs) = cs := by
  have e := csum_piv P hl
  refine Eq.trans (List.map_congr_left fun c hc2 => ?_) e
  have b : ∀ i ∈ cs, 0 ≤ i ∧ i < p := hc
  have m : csum c rs cs ∈ cs := by
    rw [← e]
    exact List.mem_map.mpr ⟨c, hc2, by rw [e]⟩
  exact Cg.eq (cmb_at hp (P.plt c hc2) P.ltr) ((cmb_ltr hp P.ltr).bd (P.plt c hc2)) (b _ m)
theorem sv_back {p : Int} {n : Nat} {rs : List (List Int)} {pv : List Nat} (hp : 0 < p) (P : Piv p n rs pv) {v : List Int} (h : Sv p n rs pv v) : cmb p n rs (pvs pv v) = v :=
  row_ext (cmb_ltr hp P.ltr).1 h.1.1 fun k hk => Cg.eq ((cmb_at hp hk P.ltr).trans (h.2 k hk).symm) ((cmb_ltr hp P.ltr).bd hk) (h.1.bd hk)
end WU

set_option maxRecDepth 100000
set_option maxHeartbeats 4000000
namespace WU
open PySem PySem.Spec PyProof.Rows L2
theorem run_empty {p : Int} : ∀ j, run p [] j = ([], [])
  | 0 => rfl
  | j + 1 => by
    show stp p j (run p [] j) = _
    rw [run_empty j]
    exact stp_none fun t ht => nomatch ht
theorem red_run {p : Int} {n : Nat} {rows : List (List Int)} (h : ∀ r ∈ rows, Ltr p n r) : red p rows = (run p rows n).2 := by
  cases rows with
  | nil =>
    unfold red
    rw [run_empty, run_empty]
  | cons r t =>
    unfold red
    have : wid (r :: t) = n := (h r (List.mem_cons_self)).1
    rw [this]
/-- the reduced rows have own places, and span the same -/
theorem red_piv {p : Int} {n : Nat} {rows : List (List Int)} (hp : p ∈ primes) (h : ∀ r ∈ rows, Ltr p n r) : ∃ pv, Piv p n (red p rows) pv ∧ (∀ r ∈ red p rows, Span p n rows r) ∧ ∀ r ∈ rows, Span p n (red p rows) r := by
  obtain ⟨pv, I, hz⟩ := run_nil hp h
  rw [red_run h]
  refine ⟨pv, ⟨I.done, I.len, I.plt, I.one⟩, fun r hr => I.to r (.inr hr), fun r hr => ?_⟩
  refine span_sub (fun u hu => ?_) (I.of r hr)
  rcases List.mem_append.mp hu with q | q
  · rw [hz u q]
    exact span_lin.1
  · exact span_mem q
/-- the sums, row by row -/
def SpanR (p : Int) (n : Nat) : List (List Int) → List Int → Prop
  | [], v => v = zer n
  | r :: rs, v => ∃ u c, SpanR p n rs u ∧ 0 ≤ c ∧ c < p ∧ v = addv p u c r
theorem spanR_ltr {p : Int} {n : Nat} (hp : 0 < p) : ∀ {rs : List (List Int)} {v : List Int}, (∀ r ∈ rs, Ltr p n r) → SpanR p n rs v → Ltr p n v
  | [], v, _, h => by
    rw [show v = zer n from h]
    exact zer_ltr hp
  | r :: rs, v, hr, ⟨u, c, hu, _, _, e⟩ => by
    rw [e]
    exact addv_ltr hp (spanR_ltr hp (fun t ht => hr t (List.mem_cons_of_mem _ ht)) hu).1 (hr r (List.mem_cons_self)).1
theorem addv_zero {p : Int} {n : Nat} {u r : List Int} (hu : Ltr p n u) (hr : r.length = n) : addv p u 0 r = u := by
  refine row_ext (addv_len hu.1 hr) hu.1 fun k hk => ?_
  rw [addv_at hu.1 hr hk, Int.zero_mul, Int.add_zero]
  exact fm_id (hu.bd hk)
theorem addv_one {p : Int} {n : Nat} {r : List Int} (hr : Ltr p n r) : addv p (zer n) 1 r = r := by
  refine row_ext (addv_len zer_len hr.1) hr.1 fun k hk => ?_
  rw [addv_at zer_len hr.1 hk, zer_at, Int.one_mul, Int.zero_add]
  exact fm_id (hr.bd hk)
theorem addv_mix {p c d e : Int} {n : Nat} {u v r : List Int} (hp : 0 < p) (hu : u.length = n) (hv : v.length = n) (hr : r.length = n) :
    addv p (addv p u c r) d (addv p v e r) = addv p (addv p u d v) ((c + d * e).fmod p) r := by
  have l1 := addv_len (p := p) (c := c) hu hr
  have l2 := addv_len (p := p) (c := e) hv hr
  have l3 := addv_len (p := p) (c := d) hu hv
  refine row_ext (addv_len l1 l2) (addv_len l3 hr) fun k hk => ?_
  rw [addv_at l1 l2 hk, addv_at hu hr hk, addv_at hv hr hk, addv_at l3 hr hk, addv_at hu hv hk]
  refine Cg.fmod hp ?_
  have a1 := (Cg.fm (p := p) (at0 u k + c * at0 r k)).add ((Cg.fm (p := p) (at0 v k + e * at0 r k)).mul d)
  have a2 := (Cg.fm (p := p) (at0 u k + d * at0 v k)).add ((Cg.fm (p := p) (c + d * e)).mulr (at0 r k))
  refine a1.trans (Cg.trans ?_ a2.symm)
  have : at0 u k + c * at0 r k + d * (at0 v k + e * at0 r k) = at0 u k + d * at0 v k + (c + d * e) * at0 r k := by
    rw [Int.mul_add, Int.add_mul, Int.mul_assoc]
    omega
  rw [this]
  exact Cg.rfl'
theorem addv_fm {p c : Int} {n : Nat} {u r : List Int} (hp : 0 < p) (hu : u.length = n) (hr : r.length = n) : addv p u (c.fmod p) r = addv p u c r := by
  refine row_ext (addv_len hu hr) (addv_len hu hr) fun k hk => ?_
  rw [addv_at hu hr hk, addv_at hu hr hk]
  exact Cg.fmod hp (Cg.rfl'.add ((Cg.fm c).mulr _))
theorem spanR_zero {p : Int} {n : Nat} (hp : 0 < p) : ∀ {rs : List (List Int)}, (∀ r ∈ rs, Ltr p n r) → SpanR p n rs (zer n)
  | [], _ => rfl
  | r :: rs, h => ⟨zer n, 0, spanR_zero hp (fun t ht => h t (List.mem_cons_of_mem _ ht)), Int.le_refl _, hp, (addv_zero (zer_ltr hp) (h r (List.mem_cons_self)).1).symm⟩
theorem spanR_add {p : Int} {n : Nat} (hp : 0 < p) : ∀ {rs : List (List Int)}, (∀ r ∈ rs, Ltr p n r) → ∀ u v d, SpanR p n rs u → SpanR p n rs v → SpanR p n rs (addv p u d v)
  | [], _, u, v, d, hu, hv => by
    rw [show u = zer n from hu, show v = zer n from hv]
    show addv p (zer n) d (zer n) = zer n
    refine row_ext (addv_len zer_len zer_len) zer_len fun k hk => ?_
    rw [addv_at zer_len zer_len hk, zer_at, Int.mul_zero]
    exact fm_zero
  | r :: rs, h, u, v, d, ⟨u0, c, hu, c0, c1, eu⟩, ⟨v0, e, hv, e0, e1, ev⟩ => by
    have h2 : ∀ t ∈ rs, Ltr p n t := fun t ht => h t (List.mem_cons_of_mem _ ht)
    refine ⟨addv p u0 d v0, (c + d * e).fmod p, spanR_add hp h2 u0 v0 d hu hv, (fm_bd _ hp).1, (fm_bd _ hp).2, ?_⟩
    rw [eu, ev]
    exact addv_mix hp (spanR_ltr hp h2 hu).1 (spanR_ltr hp h2 hv).1 (h r (List.mem_cons_self)).1
theorem spanR_mem {p : Int} {n : Nat} (hp : 1 < p) : ∀ {rs : List (List Int)}, (∀ r ∈ rs, Ltr p n r) → ∀ r ∈ rs, SpanR p n rs r
  | [], _, _, h => nomatch h
  | t :: rs, h, r, hr => by
    have h2 : ∀ t ∈ rs, Ltr p n t := fun t ht => h t (List.mem_cons_of_mem _ ht)
    rcases List.mem_cons.mp hr with e | e
    · rw [e]
      exact ⟨zer n, 1, spanR_zero (by omega) h2, by omega, hp, (addv_one (h t (List.mem_cons_self))).symm⟩
    · exact ⟨r, 0, spanR_mem hp h2 r e, Int.le_refl _, by omega, (addv_zero (h2 r e) (h t (List.mem_cons_self)).1).symm⟩
theorem spanR_span {p : Int} {n : Nat} : ∀ {rs : List (List Int)} {v : List Int}, SpanR p n rs v → Span p n rs v
  | [], v, h => by
    rw [show v = zer n from h]
    exact span_lin.1
  | r :: rs, v, ⟨u, c, hu, _, _, e⟩ => by
    rw [e]
    exact span_lin.2 _ _ _ (span_sub (fun t ht => span_mem (List.mem_cons_of_mem _ ht)) (spanR_span hu)) (span_mem (List.mem_cons_self))
/-- all rows of m letters -/
def allc (p : Nat) : Nat → List (List Int)
  | 0 => [[]]
  | m + 1 => (List.range p).flatMap fun (c : Nat) => (allc p m).map fun t => (c : Int) :: t
theorem allc_mem {p : Nat} : ∀ {m : Nat} {cs : List Int}, cs ∈ allc p m ↔ cs.length = m ∧ ∀ c ∈ cs, 0 ≤ c ∧ c < (p : Int)
  | 0, cs => by
    show cs ∈ [[]] ↔ _
    rw [List.mem_singleton]
    constructor
    · rintro rfl
      exact ⟨rfl, fun c hc => nomatch hc⟩
    · rintro ⟨h, _⟩
      exact List.eq_nil_of_length_eq_zero h
  | m + 1, cs => by
    show cs ∈ (List.range p).flatMap _ ↔ _
    rw [List.mem_flatMap]
    constructor
    · rintro ⟨c, hc, h⟩
      obtain ⟨t, ht, rfl⟩ := List.mem_map.mp h
      obtain ⟨h1, h2⟩ := allc_mem.mp ht
      have := List.mem_range.mp hc
      refine ⟨by rw [List.length_cons, h1], fun d hd => ?_⟩
      rcases List.mem_cons.mp hd with e | e
      · rw [e]
        omega
      · exact h2 d e
    · rintro ⟨h1, h2⟩
      cases cs with
      | nil => cases h1
      | cons c t =>
        have b := h2 c (List.mem_cons_self)
        refine ⟨c.toNat, List.mem_range.mpr (by omega), List.mem_map.mpr ⟨t, allc_mem.mpr ⟨Nat.succ.inj h1, fun d hd => h2 d (List.mem_cons_of_mem _ hd)⟩, ?_⟩⟩
        rw [show ((c.toNat : Nat) : Int) = c by omega]
theorem allc_len {p : Nat} : ∀ m : Nat, (allc p m).length = p ^ m
  | 0 => rfl
  | m + 1 => by
    show ((List.range p).flatMap _).length = _
    rw [List.length_flatMap]
    have : (List.range p).map (fun (c : Nat) => ((allc p m).map fun t => (c : Int) :: t).length) = (List.range p).map fun _ => p ^ m := List.map_congr_left fun c _ => by rw [List.length_map, allc_len m]
    rw [this, List.map_const', List.length_range, List.sum_replicate_nat, Nat.pow_succ, Nat.mul_comm]
theorem nodup_map' {α β : Type} {f : α → β} : ∀ {l : List α}, (∀ a ∈ l, ∀ b ∈ l, f a = f b → a = b) → l.Nodup → (l.map f).Nodup
  | [], _, _ => by simp
  | x :: l, hi, h => by
    rw [List.map_cons, List.nodup_cons]
    rw [List.nodup_cons] at h
    refine ⟨fun hm => ?_, nodup_map' (fun a ha b hb => hi a (List.mem_cons_of_mem _ ha) b (List.mem_cons_of_mem _ hb)) h.2⟩
    obtain ⟨y, hy, e⟩ := List.mem_map.mp hm
    rw [hi y (List.mem_cons_of_mem _ hy) x (List.mem_cons_self) e] at hy
    exact h.1 hy
theorem nodup_flat {α : Type} {f : Nat → List α} : ∀ {l : List Nat}, l.Nodup → (∀ a ∈ l, (f a).Nodup) → (∀ a ∈ l, ∀ b ∈ l, a ≠ b → ∀ x ∈ f a, x ∉ f b) → (l.flatMap f).Nodup
  | [], _, _, _ => by simp
  | x :: l, h, h1, h2 => by
    rw [List.flatMap_cons, List.nodup_append]
    rw [List.nodup_cons] at h
    refine ⟨h1 x (List.mem_cons_self), nodup_flat h.2 (fun a ha => h1 a (List.mem_cons_of_mem _ ha)) (fun a ha b hb => h2 a (List.mem_cons_of_mem _ ha) b (List.mem_cons_of_mem _ hb)), fun a ha b hb e => ?_⟩
    subst e
    obtain ⟨y, hy, hb⟩ := List.mem_flatMap.mp hb
    exact h2 x (List.mem_cons_self) y (List.mem_cons_of_mem _ hy) (fun z => h.1 (z ▸ hy)) a ha hb
theorem allc_nodup {p : Nat} : ∀ m : Nat, (allc p m).Nodup
  | 0 => by
    show ([[]] : List (List Int)).Nodup
    simp
  | m + 1 => by
    refine nodup_flat List.nodup_range (fun c _ => nodup_map' (fun a _ b _ e => (List.cons.inj e).2) (allc_nodup m)) fun a _ b _ ne x hx hb => ?_
    obtain ⟨t, _, rfl⟩ := List.mem_map.mp hx
    obtain ⟨u, _, e⟩ := List.mem_map.mp hb
    exact ne (Int.ofNat.inj (List.cons.inj e).1).symm
theorem nodup_len {α : Type} [DecidableEq α] {l m : List α} (hl : l.Nodup) (hm : m.Nodup) (h : ∀ x, x ∈ l ↔ x ∈ m) : l.length = m.length :=
  ((List.perm_ext_iff_of_nodup hl hm).mpr h).length_eq
/-- as many sums as letters' rows as long as the rank -/
theorem count_sums {p : Int} {n : Nat} {rows : List (List Int)} (hp : p ∈ primes) (h : ∀ r ∈ rows, Ltr p n r) {keys : List (List Int)} (hn : keys.Nodup) (hk : ∀ v, v ∈ keys ↔ SpanR p n rows.reverse v) :
    keys.length = p.toNat ^ (red p rows).length := by
  have p0 := prime_pos hp
  have p1 := fld_le hp
  obtain ⟨pv, P, h1, h2⟩ := red_piv hp h
  have hrev : ∀ r ∈ rows.reverse, Ltr p n r := fun r hr => h r (List.mem_reverse.mp hr)
  have ep : ((p.toNat : Nat) : Int) = p := by omega
  rw [← allc_len]
  refine Eq.trans ?_ (List.length_map (as := allc p.toNat (red p rows).length) (cmb p n (red p rows)))
  refine nodup_len hn (nodup_map' (fun a ha b hb e => ?_) (allc_nodup _)) fun v => ?_
  · obtain ⟨a1, a2⟩ := allc_mem.mp ha
    obtain ⟨b1, b2⟩ := allc_mem.mp hb
    rw [ep] at a2 b2
    rw [← sv_of p0 P a1 a2, ← sv_of p0 P b1 b2, e]
  · rw [hk, List.mem_map]
    constructor
    · intro hv
      have sp := span_sub (rows' := red p rows) (fun r hr => h2 r (List.mem_reverse.mp hr)) (spanR_span hv)
      have svm : ∀ r ∈ red p rows, Sv p n (red p rows) pv r := by
        intro r hr
        refine ⟨P.ltr r hr, fun k hk2 => ?_⟩
        -- a reduced row is its own sum
        obtain ⟨i, hi⟩ := List.getElem?_of_mem hr
        have hil : i < (red p rows).length := (List.getElem?_eq_some_iff.mp hi).1
        have e : pvs pv r = (List.range (red p rows).length).map fun l => if i = l then 1 else 0 := by
          refine List.ext_getElem (by unfold pvs; rw [List.length_map, List.length_map, List.length_range, P.len]) fun l g1 g2 => ?_
          unfold pvs at g1 ⊢
          rw [List.length_map] at g1
          rw [List.getElem_map, List.getElem_map, List.getElem_range]
          exact P.one i l r _ hi (List.getElem?_eq_getElem g1)
        have key : ∀ (rs : List (List Int)) (i : Nat) (r : List Int), rs[i]? = some r → csum k rs ((List.range rs.length).map fun l => if i = l then 1 else 0) = at0 r k := by
          intro rs
          induction rs with
          | nil => intro i r hi; cases hi
          | cons t rs ih =>
            intro i r hi
            rw [List.length_cons, List.range_succ_eq_map, List.map_cons, List.map_map]
            show csum k rs ((List.range rs.length).map fun l => if i = l + 1 then 1 else 0) + (if i = 0 then 1 else 0) * at0 t k = at0 r k
            cases i with
            | zero =>
              cases hi
              rw [if_pos rfl, Int.one_mul]
              have z : ∀ (m : Nat) (rs : List (List Int)), csum k rs ((List.range m).map fun l => if 0 = l + 1 then (1 : Int) else 0) = 0 := by
                intro m rs
                have : ((List.range m).map fun l => if 0 = l + 1 then (1 : Int) else 0) = (List.range m).map fun _ => 0 := List.map_congr_left fun l _ => if_neg (by omega)
                rw [this]
                have q := csum_zer (k := k) (rs := rs) (pv := List.range m)
                exact q
              rw [z, Int.zero_add]
            | succ i =>
              rw [if_neg (by omega), Int.zero_mul, Int.add_zero]
              have : ((List.range rs.length).map fun l => if i + 1 = l + 1 then (1 : Int) else 0) = (List.range rs.length).map fun l => if i = l then 1 else 0 := List.map_congr_left fun l _ => by
                by_cases z : i = l
                · rw [if_pos z, if_pos (by omega)]
                · rw [if_neg z, if_neg (by omega)]
              rw [this]
              exact ih i r hi
        rw [e, key _ i r hi]
        exact Cg.rfl'
      have sv := sp _ (sv_lin p0 P.plt) svm
      refine ⟨pvs pv v, allc_mem.mpr ⟨by unfold pvs; rw [List.length_map, P.len], fun c hc => ?_⟩, sv_back p0 P sv⟩
      unfold pvs at hc
      obtain ⟨d, hd, rfl⟩ := List.mem_map.mp hc
      rw [ep]
      exact sv.1.bd (P.plt d hd)
    · rintro ⟨cs, _, rfl⟩
      have := cmb_span (p := p) (n := n) (cs := cs) h1
      exact this _ ⟨spanR_zero p0 hrev, fun u r c hu hr => spanR_add p0 hrev u r c hu hr⟩ fun r hr => spanR_mem (by omega) hrev r (List.mem_reverse.mpr hr)
end WU

set_option maxRecDepth 100000
set_option maxHeartbeats 8000000
namespace WU
open PySem PySem.Spec PyProof.Rows L2
/-! ### the rules whose readings name the written part, with K told (for use within the blocks of comprehensions) -/
section
variable {X : Cx} {K : PySem.W.Frag}
theorem ix_tupK (hK : X.K = K := by rfl) : IxR X (rIxT K) := hK ▸ ix_tup
theorem ix_listK (hK : X.K = K := by rfl) : IxR X (rIxL K) := hK ▸ ix_list
theorem cr_anyTK (hc : X.calm = true) (hK : X.K = K := by rfl) : CallR X (.builtin "any") (rAnyT K) := hK ▸ cr_anyT hc
theorem cr_allK (hc : X.calm = true) (hK : X.K = K := by rfl) : CallR X (.builtin "all") (rAll K) := hK ▸ cr_all hc
theorem cr_anyK (hc : X.calm = true) (hK : X.K = K := by rfl) : CallR X (.builtin "any") (rAny K) := hK ▸ cr_any hc
theorem cr_sumK (hc : X.calm = true) (hK : X.K = K := by rfl) : CallR X (.builtin "sum") (rSum K) := hK ▸ cr_sum hc
def rLenK (K : PySem.W.Frag) : List V → Hp → VK → Prop := fun xs H Q => ∃ p ys, xs = [.ref p] ∧ (SqL K H p ys ∨ SqT K H p ys) ∧ Q (.int ys.length) H
theorem len_seqK (hK : X.K = K := by rfl) : CallR X (.builtin "len") (rLenK K) := hK ▸ call_len_seq
def rListK (K : PySem.W.Frag) : List V → Hp → VK → Prop := fun xs H Q => ∃ p ys, xs = [.ref p] ∧ (SqL K H p ys ∨ SqT K H p ys) ∧ ∀ l, H l = none → Q (.ref l) (upd H l (.lst ys))
theorem list_ofK (hK : X.K = K := by rfl) : CallR X (.type "list") (rListK K) := hK ▸ call_list_of
def rTupK (K : PySem.W.Frag) : List V → Hp → VK → Prop := fun xs H Q => ∃ p ys, xs = [.ref p] ∧ ((SqL K H p ys ∧ ∀ l, H l = none → Q (.ref l) (upd H l (.tup ys))) ∨ (SqT K H p ys ∧ Q (.ref p) H))
theorem tup_ofK (hK : X.K = K := by rfl) : CallR X (.type "tuple") (rTupK K) := hK ▸ call_tuple_of
theorem isiK (hK : X.K = K := by rfl) : CallR X (.builtin "isinstance") (rIsi K) := hK ▸ call_isi
theorem sl_tupAK (hK : X.K = K := by rfl) : SlR X (rSlA K) := hK ▸ sl_tupA
theorem sl_listK (hK : X.K = K := by rfl) : SlR X (rSlL K) := hK ▸ sl_list
theorem op_catAK (hK : X.K = K := by rfl) : OpR X (binaryOp .Add) (rCatA K) := hK ▸ op_catA
theorem op_repAK (hK : X.K = K := by rfl) : OpR X (binaryOp .Mult) (rRepA K) := hK ▸ op_repA
theorem op_inK (hK : X.K = K := by rfl) : OpR X (compareOp .In) (rIn K false) := hK ▸ op_in_seq
theorem op_notInK (hK : X.K = K := by rfl) : OpR X (compareOp .NotIn) (rIn K true) := hK ▸ op_notIn_seq
theorem op_neDK (hu : X.A.units + 64 < cLine) (hK : X.K = K := by rfl) : OpR X (compareOp .NotEq) (rNeD K) := hK ▸ op_neD hu
theorem op_eqDK (hu : X.A.units + 64 < cLine) (hK : X.K = K := by rfl) : OpR X (compareOp .Eq) (rEqD K) := hK ▸ op_eqD hu
theorem pi_listK {tg l : Expr} {tl : TE} (hl : PE X l tl) (hK : X.K = K := by rfl) : PI X tg l (iList K tl) := hK ▸ pi_list hl
theorem pi_tupK {tg l : Expr} {tl : TE} (hl : PE X l tl) (hK : X.K = K := by rfl) : PI X tg l (iTup K tl) := hK ▸ pi_tup hl
theorem pi_seqK {tg l : Expr} {tl : TE} (hl : PE X l tl) (hK : X.K = K := by rfl) : PI X tg l (iSeq K tl) := hK ▸ pi_seq hl
theorem pg_tupK {es : List Expr} {k : Nat} {pos : Pos} {t : List V → L2.St → Hp → (L2.St → Hp → Prop) → Prop} {n : Nat} (h : PG X (.Tuple es k pos) (gTup X.K n t)) (hK : X.K = K := by rfl) : PG X (.Tuple es k pos) (gTup K n t) := hK ▸ h
theorem pe_bmK {o e : Expr} {es : List Expr} {to : TE} {t : TA} {name : Str} {apos cpos : Pos} {T id : String} {r : V → List V → Hp → VK → Prop} (h : PE X (.Call (.Attribute o name apos) (e :: es) [] cpos) (tBM X.K T r to t)) (hK : X.K = K := by rfl) :
    PE X (.Call (.Attribute o name apos) (e :: es) [] cpos) (tBM K T r to t) := hK ▸ h
theorem pe_fldK {e : Expr} {f : Str} {pos : Pos} {ta : TE} (he : PE X e ta) (hb : attributeBase e f X.env (eval e X.env) = eval e X.env) (hK : X.K = K := by rfl) : PE X (.Attribute e f pos) (tFld K ta f) := hK ▸ pe_fld he hb
end
end WU

set_option maxRecDepth 100000
set_option maxHeartbeats 4000000
namespace WU
open PySem PySem.Spec PyProof.Rows L2
/-- nothing ahead of its own place, the places rising -/
structure Ah (s : List (List Int)) (pv : List Nat) : Prop where
  ahead : ∀ (i : Nat) (r : List Int) (c : Nat), s[i]? = some r → pv[i]? = some c → ∀ k, k < c → at0 r k = 0
  inc : ∀ (i l c d : Nat), pv[i]? = some c → pv[l]? = some d → i < l → c < d
theorem ah_step {p : Int} {n j : Nat} {rows : List (List Int)} {s : List (List Int) × List (List Int)} {pv : List Nat} (hp : p ∈ primes) (hj : j < n) (I : Iv p n rows j s pv) (A : Ah s.2 pv) : ∃ pv', Iv p n rows (j + 1) (stp p j s) pv' ∧ Ah (stp p j s).2 pv' := by
  cases e : s.1.findIdx? (hot j) with
  | none =>
    have hs := stp_none (p := p) (List.findIdx?_eq_none_iff.mp e)
    obtain ⟨pv', I'⟩ := iv_step hp hj I
    refine ⟨pv, ?_, by rw [hs]; exact A⟩
    rw [hs] at I' ⊢
    exact ⟨I'.left, I'.done, I'.low, I.len, fun c hc => Nat.lt_succ_of_lt (I.plt c hc), I.one, I.to, I.of⟩
  | some k =>
    obtain ⟨a, r, b, ea, hk, hr, ha⟩ := find_hot e
    obtain ⟨l, d⟩ := s
    simp only at ea
    subst ea
    have hs := stp_some (p := p) (b := b) (d := d) hr ha
    obtain ⟨pv', I'⟩ := iv_step hp hj I
    rw [hs] at I' ⊢
    have hrm : r ∈ a ++ r :: b := List.mem_append.mpr (.inr (List.mem_cons_self))
    have hrL : Ltr p n r := I.left r hrm
    have hl : (led p r j).length = n := led_len hrL.1
    have l1 := led_one hp hrL hj hr
    have lpv : ∀ c, c < j → at0 (led p r j) c = 0 := fun c hc => by
      rw [led_at hrL.1 (by omega), I.low r hrm c hc, Int.mul_zero, fm_zero]
    have hpl := I.len
    simp only at hpl
    refine ⟨pv ++ [j], ⟨I'.left, I'.done, I'.low, ?_, ?_, ?_, I'.to, I'.of⟩, ?_, ?_⟩
    · rw [List.length_append, List.length_append, List.length_map, hpl]
      rfl
    · intro c hc
      rcases List.mem_append.mp hc with h | h
      · exact Nat.lt_succ_of_lt (I.plt c h)
      · rw [List.mem_singleton.mp h]
        exact Nat.lt_succ_self j
    · intro i m t c hi hm
      by_cases zi : i < d.length
      · rw [List.getElem?_append_left (by rw [List.length_map]; exact zi), List.getElem?_map] at hi
        obtain ⟨u, hu, rfl⟩ := Option.map_eq_some_iff.mp hi
        have hu2 := I.done u (List.mem_of_getElem? hu)
        by_cases zm : m < pv.length
        · rw [List.getElem?_append_left zm] at hm
          have hc := I.plt c (List.mem_of_getElem? hm)
          rw [less_at hu2.1 hl (by omega), lpv c hc, Int.mul_zero, Int.sub_zero, I.one i m u c hu hm]
          split
          · exact fm_one hp
          · exact fm_zero
        · have hm2 := (List.getElem?_eq_some_iff.mp hm).1
          rw [List.length_append] at hm2
          have em : m = pv.length := by
            have : m < pv.length + 1 := hm2
            omega
          rw [em, List.getElem?_append_right (Nat.le_refl _), Nat.sub_self] at hm
          cases hm
          rw [less_at hu2.1 hl hj, l1, Int.mul_one, Int.sub_self, fm_zero, if_neg (by omega)]
      · have hi2 := (List.getElem?_eq_some_iff.mp hi).1
        rw [List.length_append, List.length_map] at hi2
        have ei : i = d.length := by
          have : i < d.length + 1 := hi2
          omega
        rw [ei, List.getElem?_append_right (by rw [List.length_map]; exact Nat.le_refl _), List.length_map, Nat.sub_self] at hi
        cases hi
        by_cases zm : m < pv.length
        · rw [List.getElem?_append_left zm] at hm
          have hc := I.plt c (List.mem_of_getElem? hm)
          rw [lpv c hc, if_neg (by omega)]
        · have hm2 := (List.getElem?_eq_some_iff.mp hm).1
          rw [List.length_append] at hm2
          have em : m = pv.length := by
            have : m < pv.length + 1 := hm2
            omega
          rw [em, List.getElem?_append_right (Nat.le_refl _), Nat.sub_self] at hm
          cases hm
          rw [l1, if_pos (by omega)]
    · intro i t c hi hc k hk
      by_cases zi : i < d.length
      · rw [List.getElem?_append_left (by rw [List.length_map]; exact zi), List.getElem?_map] at hi
        obtain ⟨u, hu, rfl⟩ := Option.map_eq_some_iff.mp hi
        have hu2 := I.done u (List.mem_of_getElem? hu)
        rw [List.getElem?_append_left (by omega)] at hc
        have hcj := I.plt c (List.mem_of_getElem? hc)
        rw [less_at hu2.1 hl (by omega), lpv k (by omega), A.ahead i u c hu hc k hk, Int.mul_zero, Int.sub_zero, fm_zero]
      · have hi2 := (List.getElem?_eq_some_iff.mp hi).1
        rw [List.length_append, List.length_map] at hi2
        have ei : i = d.length := by
          have : i < d.length + 1 := hi2
          omega
        rw [ei, List.getElem?_append_right (by rw [List.length_map]; exact Nat.le_refl _), List.length_map, Nat.sub_self] at hi
        cases hi
        rw [ei, ← hpl, List.getElem?_append_right (Nat.le_refl _), Nat.sub_self] at hc
        cases hc
        exact lpv k hk
    · intro i m c f hi hm him
      have hm2 := (List.getElem?_eq_some_iff.mp hm).1
      rw [List.length_append] at hm2
      have hm3 : m < pv.length + 1 := hm2
      rw [List.getElem?_append_left (by omega)] at hi
      by_cases zm : m < pv.length
      · rw [List.getElem?_append_left zm] at hm
        exact A.inc i m c f hi hm him
      · have em : m = pv.length := by omega
        rw [em, List.getElem?_append_right (Nat.le_refl _), Nat.sub_self] at hm
        cases hm
        exact I.plt c (List.mem_of_getElem? hi)
theorem ah_run {p : Int} {n : Nat} {rows : List (List Int)} (hp : p ∈ primes) (h : ∀ r ∈ rows, Ltr p n r) : ∀ j, j ≤ n → ∃ pv, Iv p n rows j (run p rows j) pv ∧ Ah (run p rows j).2 pv
  | 0, _ => ⟨[], iv_zero h, ⟨fun i r c hi => (nomatch hi), fun i l c d hi => (nomatch hi)⟩⟩
  | j + 1, hj => by
    obtain ⟨pv, I, A⟩ := ah_run hp h j (by omega)
    exact ah_step hp (by omega) I A
/-- a reduced matrix -/
structure Rr (p : Int) (n : Nat) (rs : List (List Int)) (pv : List Nat) : Prop where
  piv : Piv p n rs pv
  ah : Ah rs pv
theorem red_rr {p : Int} {n : Nat} {rows : List (List Int)} (hp : p ∈ primes) (h : ∀ r ∈ rows, Ltr p n r) : ∃ pv, Rr p n (red p rows) pv ∧ (∀ r ∈ red p rows, Span p n rows r) ∧ ∀ r ∈ rows, Span p n (red p rows) r := by
  obtain ⟨pv, I, A⟩ := ah_run hp h n (Nat.le_refl n)
  rw [red_run h]
  have hz : ∀ t ∈ (run p rows n).1, t = zer n := fun t ht => row_ext (I.left t ht).1 zer_len fun k hk => by rw [I.low t ht k hk, zer_at]
  refine ⟨pv, ⟨⟨I.done, I.len, I.plt, I.one⟩, A⟩, fun r hr => I.to r (.inr hr), fun r hr => ?_⟩
  refine span_sub (fun u hu => ?_) (I.of r hr)
  rcases List.mem_append.mp hu with q | q
  · rw [hz u q]
    exact span_lin.1
  · exact span_mem q
/-- rows with own places: a row's own letters -/
theorem sv_row {p : Int} {n : Nat} {rs : List (List Int)} {pv : List Nat} (P : Piv p n rs pv) {r : List Int} (hr : r ∈ rs) : Sv p n rs pv r := by
  refine ⟨P.ltr r hr, fun k hk2 => ?_⟩
  obtain ⟨i, hi⟩ := List.getElem?_of_mem hr
  have e : pvs pv r = (List.range rs.length).map fun l => if i = l then 1 else 0 := by
    refine List.ext_getElem (by unfold pvs; rw [List.length_map, List.length_map, List.length_range, P.len]) fun l g1 g2 => ?_
    unfold pvs at g1 ⊢
    rw [List.length_map] at g1
    rw [List.getElem_map, List.getElem_map, List.getElem_range]
    exact P.one i l r _ hi (List.getElem?_eq_getElem g1)
  have key : ∀ (rs : List (List Int)) (i : Nat) (r : List Int), rs[i]? = some r → csum k rs ((List.range rs.length).map fun l => if i = l then 1 else 0) = at0 r k := by
    intro rs
    induction rs with
    | nil => intro i r hi; cases hi
    | cons t rs ih =>
      intro i r hi
      rw [List.length_cons, List.range_succ_eq_map, List.map_cons, List.map_map]
      show csum k rs ((List.range rs.length).map fun l => if i = l + 1 then 1 else 0) + (if i = 0 then 1 else 0) * at0 t k = at0 r k
      cases i with
      | zero =>
        cases hi
        rw [if_pos rfl, Int.one_mul]
        have : ((List.range rs.length).map fun l => if 0 = l + 1 then (1 : Int) else 0) = (List.range rs.length).map fun _ => 0 := List.map_congr_left fun l _ => if_neg (by omega)
        rw [this]
        have q := csum_zer (k := k) (rs := rs) (pv := List.range rs.length)
        rw [q, Int.zero_add]
      | succ i =>
        rw [if_neg (by omega), Int.zero_mul, Int.add_zero]
        have : ((List.range rs.length).map fun l => if i + 1 = l + 1 then (1 : Int) else 0) = (List.range rs.length).map fun l => if i = l then 1 else 0 := List.map_congr_left fun l _ => by
          by_cases z : i = l
          · rw [if_pos z, if_pos (by omega)]
          · rw [if_neg z, if_neg (by omega)]
        rw [this]
        exact ih i r hi
  rw [e, key _ i r hi]
  exact Cg.rfl'
theorem sv_span {p : Int} {n : Nat} {rs : List (List Int)} {pv : List Nat} (hp : 0 < p) (P : Piv p n rs pv) {v : List Int} (h : Span p n rs v) : Sv p n rs pv v := h _ (sv_lin hp P.plt) fun r hr => sv_row P hr
/-- rising lists -/
def Inc (l : List Nat) : Prop := ∀ (i m c d : Nat), l[i]? = some c → l[m]? = some d → i < m → c < d
theorem Inc.tail {a : Nat} {l : List Nat} (h : Inc (a :: l)) : Inc l := fun i m c d hi hm him => h (i + 1) (m + 1) c d hi hm (by omega)
theorem Inc.head {a x : Nat} {l : List Nat} (h : Inc (a :: l)) (hx : x ∈ l) : a < x := by
  obtain ⟨i, hi⟩ := List.getElem?_of_mem hx
  exact h 0 (i + 1) a x rfl hi (by omega)
theorem sub_inc : ∀ {m l : List Nat}, Inc l → Inc m → (∀ x ∈ l, x ∈ m) → l.length ≤ m.length ∧ (l.length = m.length → l = m)
  | [], l, _, _, h => by
    cases l with
    | nil => exact ⟨Nat.le_refl _, fun _ => rfl⟩
    | cons a l => exact absurd (h a (List.mem_cons_self)) (by simp)
  | b :: m, [], _, _, _ => ⟨Nat.zero_le _, fun e => by cases e⟩
  | b :: m, a :: l, hl, hm, h => by
    by_cases e : a = b
    · subst e
      have := sub_inc (m := m) hl.tail hm.tail fun x hx => by
        rcases List.mem_cons.mp (h x (List.mem_cons_of_mem _ hx)) with q | q
        · exact absurd (hl.head hx) (by omega)
        · exact q
      refine ⟨by rw [List.length_cons, List.length_cons]; omega, fun q => ?_⟩
      rw [this.2 (Nat.succ.inj q)]
    · have ham : a ∈ m := by
        rcases List.mem_cons.mp (h a (List.mem_cons_self)) with q | q
        · exact absurd q e
        · exact q
      have hba := hm.head ham
      have := sub_inc (m := m) hl hm.tail fun x hx => by
        rcases List.mem_cons.mp (h x hx) with q | q
        · exfalso
          rcases List.mem_cons.mp hx with z | z
          · omega
          · have := hl.head z
            omega
        · exact q
      refine ⟨Nat.le_succ_of_le this.1, fun q => ?_⟩
      have q1 := this.1
      simp only [List.length_cons] at q q1
      omega
/-- a sum of products where all but some parts are 0 -/
theorem csum_null {k : Nat} : ∀ {rs : List (List Int)} {cs : List Int}, (∀ (i : Nat) (r : List Int) (c : Int), rs[i]? = some r → cs[i]? = some c → c = 0 ∨ at0 r k = 0) → csum k rs cs = 0
  | [], _, _ => by unfold csum; rfl
  | r :: rs, [], _ => by unfold csum; rfl
  | r :: rs, c :: cs, h => by
    unfold csum
    rw [csum_null fun i r c hr hc => h (i + 1) r c hr hc]
    rcases h 0 r c rfl rfl with e | e
    · rw [e, Int.zero_mul]
      rfl
    · rw [e, Int.mul_zero]
      rfl
/-- where a spanned row begins stands a lead -/
theorem lead_in {p : Int} {n c : Nat} {rs : List (List Int)} {pv : List Nat} {v : List Int} (hp : p ∈ primes) (R : Rr p n rs pv) (hv : Span p n rs v) (hc : c < n) (h0 : ∀ k, k < c → at0 v k = 0) (h1 : at0 v c = 1) : c ∈ pv := by
  by_cases hm : c ∈ pv
  · exact hm
  exfalso
  have p0 := prime_pos hp
  have p2 := fld_le hp
  have sv := sv_span p0 R.piv hv
  have := sv.2 c hc
  rw [h1, csum_null] at this
  · obtain ⟨t, e⟩ := this
    rw [Int.zero_add] at e
    have : p ∣ 1 := ⟨t, e⟩
    have := Int.le_of_dvd (by decide) this
    omega
  · intro i r d hr hd
    unfold pvs at hd
    rw [List.getElem?_map] at hd
    obtain ⟨x, hx, rfl⟩ := Option.map_eq_some_iff.mp hd
    rcases Nat.lt_trichotomy x c with q | q | q
    · exact .inl (h0 x q)
    · exact absurd (q ▸ List.mem_of_getElem? hx) hm
    · exact .inr (R.ah.ahead i r x hr hx c q)
theorem leads_sub {p : Int} {n : Nat} {rs rs' : List (List Int)} {pv pv' : List Nat} (hp : p ∈ primes) (R : Rr p n rs pv) (R' : Rr p n rs' pv') (h : ∀ r ∈ rs, Span p n rs' r) : ∀ c ∈ pv, c ∈ pv' := by
  intro c hc
  obtain ⟨i, hi⟩ := List.getElem?_of_mem hc
  have hil := (List.getElem?_eq_some_iff.mp hi).1
  rw [R.piv.len] at hil
  have hr : rs[i]? = some rs[i] := List.getElem?_eq_getElem hil
  refine lead_in hp R' (h _ (List.getElem_mem hil)) (R.piv.plt c hc) (R.ah.ahead i _ c hr hi) ?_
  rw [R.piv.one i i _ c hr hi, if_pos rfl]
/-- of as many rows, spanned: the same -/
theorem rr_len {p : Int} {n : Nat} {rs rs' : List (List Int)} {pv pv' : List Nat} (hp : p ∈ primes) (R : Rr p n rs pv) (R' : Rr p n rs' pv') (h : ∀ r ∈ rs, Span p n rs' r) : rs.length ≤ rs'.length ∧ (rs.length = rs'.length → rs = rs') := by
  have p0 := prime_pos hp
  have ss := sub_inc R.ah.inc R'.ah.inc (leads_sub hp R R' h)
  rw [R.piv.len, R'.piv.len] at ss
  refine ⟨ss.1, fun e => ?_⟩
  have ep := ss.2 e
  subst ep
  refine List.ext_getElem e fun i h1 h2 => ?_
  have g1 : rs[i]? = some rs[i] := List.getElem?_eq_getElem h1
  have g2 : rs'[i]? = some rs'[i] := List.getElem?_eq_getElem h2
  have q1 := sv_back p0 R'.piv (sv_span p0 R'.piv (h _ (List.getElem_mem h1)))
  have q2 := sv_back p0 R'.piv (sv_span p0 R'.piv (span_mem (List.getElem_mem h2)))
  rw [← q1, ← q2]
  congr 1
  refine List.map_congr_left fun c hc => ?_
  obtain ⟨l, hl⟩ := List.getElem?_of_mem hc
  rw [R.piv.one i l _ c g1 hl, R'.piv.one i l _ c g2 hl]
theorem rr_eq {p : Int} {n : Nat} {rs rs' : List (List Int)} {pv pv' : List Nat} (hp : p ∈ primes) (R : Rr p n rs pv) (R' : Rr p n rs' pv') (h : ∀ r ∈ rs, Span p n rs' r) (h' : ∀ r ∈ rs', Span p n rs r) : rs = rs' := by
  have a := rr_len hp R R' h
  have b := rr_len hp R' R h'
  exact a.2 (by omega)
/-- a further row that is spanned changes nothing; as many rows: it is spanned -/
theorem red_more {p : Int} {n : Nat} {rows : List (List Int)} {r : List Int} (hp : p ∈ primes) (h : ∀ t ∈ rows, Ltr p n t) (hr : Ltr p n r) : (Span p n rows r → red p (rows ++ [r]) = red p rows) ∧ ((red p (rows ++ [r])).length = (red p rows).length → Span p n rows r) := by
  have h2 : ∀ t ∈ rows ++ [r], Ltr p n t := fun t ht => by
    rcases List.mem_append.mp ht with q | q
    · exact h t q
    · rw [List.mem_singleton.mp q]
      exact hr
  obtain ⟨pv, R, a1, a2⟩ := red_rr hp h
  obtain ⟨pv2, R2, b1, b2⟩ := red_rr hp h2
  have up : ∀ t ∈ red p rows, Span p n (red p (rows ++ [r])) t := fun t ht => span_sub b2 (span_sub (fun u hu => span_mem (List.mem_append.mpr (.inl hu))) (a1 t ht))
  constructor
  · intro hs
    refine (rr_eq hp R R2 up fun t ht => ?_).symm
    refine span_sub a2 (span_sub (fun u hu => ?_) (b1 t ht))
    rcases List.mem_append.mp hu with q | q
    · exact span_mem q
    · rw [List.mem_singleton.mp q]
      exact hs
  · intro e
    have := (rr_len hp R R2 up).2 e.symm
    have hr2 := b2 r (List.mem_append.mpr (.inr (List.mem_singleton.mpr rfl)))
    rw [← this] at hr2
    exact span_sub a1 hr2
/-- reduced again it stays -/
theorem red_red {p : Int} {n : Nat} {rows : List (List Int)} (hp : p ∈ primes) (h : ∀ t ∈ rows, Ltr p n t) : red p (red p rows) = red p rows := by
  obtain ⟨pv, R, a1, a2⟩ := red_rr hp h
  obtain ⟨pv2, R2, b1, b2⟩ := red_rr hp R.piv.ltr
  exact rr_eq hp R2 R b1 b2
end WU

set_option maxRecDepth 100000
set_option maxHeartbeats 4000000
namespace WU
open PySem PySem.Spec PyProof.Rows L2
/-- the product of two rows, as far as m -/
def dotn : Nat → List Int → List Int → Int
  | 0, _, _ => 0
  | m + 1, x, v => dotn m x v + at0 x m * at0 v m
theorem dotn_congr {x y u v : List Int} : ∀ {m : Nat}, (∀ k, k < m → at0 x k * at0 u k = at0 y k * at0 v k) → dotn m x u = dotn m y v
  | 0, _ => rfl
  | m + 1, h => by
    unfold dotn
    rw [dotn_congr fun k hk => h k (by omega), h m (by omega)]
theorem dotn_comm {x u : List Int} (m : Nat) : dotn m x u = dotn m u x := dotn_congr fun k _ => Int.mul_comm _ _
theorem dotn_two {x u : List Int} {c d : Nat} {a b : Int} : ∀ {m : Nat}, (∀ k, k < m → at0 x k * at0 u k = (if k = c then a else 0) + (if k = d then b else 0)) → dotn m x u = (if c < m then a else 0) + (if d < m then b else 0)
  | 0, _ => by
    unfold dotn
    rw [if_neg (by omega), if_neg (by omega)]
    rfl
  | m + 1, h => by
    unfold dotn
    rw [dotn_two fun k hk => h k (by omega), h m (by omega)]
    by_cases e : c < m
    · rw [if_pos e, if_pos (show c < m + 1 by omega), if_neg (show ¬ m = c by omega)]
      by_cases f : d < m
      · rw [if_pos f, if_pos (show d < m + 1 by omega), if_neg (show ¬ m = d by omega)]
        omega
      · rw [if_neg f]
        by_cases g : m = d
        · rw [if_pos g, if_pos (show d < m + 1 by omega)]
          omega
        · rw [if_neg g, if_neg (show ¬ d < m + 1 by omega)]
          omega
    · rw [if_neg e]
      by_cases e2 : m = c
      · rw [if_pos e2, if_pos (show c < m + 1 by omega)]
        by_cases f : d < m
        · rw [if_pos f, if_pos (show d < m + 1 by omega), if_neg (show ¬ m = d by omega)]
          omega
        · rw [if_neg f]
          by_cases g : m = d
          · rw [if_pos g, if_pos (show d < m + 1 by omega)]
            omega
          · rw [if_neg g, if_neg (show ¬ d < m + 1 by omega)]
            omega
      · rw [if_neg e2, if_neg (show ¬ c < m + 1 by omega)]
        by_cases f : d < m
        · rw [if_pos f, if_pos (show d < m + 1 by omega), if_neg (show ¬ m = d by omega)]
          omega
        · rw [if_neg f]
          by_cases g : m = d
          · rw [if_pos g, if_pos (show d < m + 1 by omega)]
            omega
          · rw [if_neg g, if_neg (show ¬ d < m + 1 by omega)]
            omega
theorem dotn_one {x u : List Int} {c : Nat} {a : Int} {m : Nat} (h : ∀ k, k < m → at0 x k * at0 u k = if k = c then a else 0) : dotn m x u = if c < m then a else 0 := by
  have := dotn_two (x := x) (u := u) (c := c) (d := c) (a := a) (b := 0) (m := m) fun k hk => by
    rw [h k hk]
    split <;> omega
  rw [this]
  split <;> omega
theorem dotn_null {x u : List Int} {m : Nat} (h : ∀ k, k < m → at0 x k * at0 u k = 0) : dotn m x u = 0 := by
  have := dotn_one (x := x) (u := u) (c := 0) (a := 0) (m := m) fun k hk => by
    rw [h k hk]
    split <;> rfl
  rw [this]
  split <;> rfl
theorem dotn_addv {p c : Int} {n : Nat} {x u v : List Int} (hu : u.length = n) (hv : v.length = n) : ∀ {m : Nat}, m ≤ n → Cg p (dotn m x (addv p u c v)) (dotn m x u + c * dotn m x v)
  | 0, _ => by
    unfold dotn
    rw [Int.mul_zero]
    exact Cg.rfl'
  | m + 1, h => by
    unfold dotn
    rw [addv_at hu hv (by omega)]
    have c1 := (dotn_addv (p := p) (c := c) (x := x) hu hv (m := m) (by omega)).add ((Cg.fm (p := p) (at0 u m + c * at0 v m)).mul (at0 x m))
    have e : dotn m x u + c * dotn m x v + at0 x m * (at0 u m + c * at0 v m) = dotn m x u + at0 x m * at0 u m + c * (dotn m x v + at0 x m * at0 v m) := by
      rw [Int.mul_add, Int.mul_add, ← Int.mul_assoc, ← Int.mul_assoc, Int.mul_comm (at0 x m) c]
      omega
    rw [e] at c1
    exact c1
theorem dotn_zer {n m : Nat} {x : List Int} : dotn m x (zer n) = 0 := dotn_null fun k _ => by rw [zer_at, Int.mul_zero]
/-- rows to which the product with x is what stands at the last place -/
theorem phi_lin {p : Int} {m : Nat} {x : List Int} (hp : 0 < p) : Lin p (m + 1) fun v => Ltr p (m + 1) v ∧ Cg p (dotn m x v) (at0 v m) := by
  refine ⟨⟨zer_ltr hp, ?_⟩, fun u r c hu hr => ⟨addv_ltr hp hu.1.1 hr.1.1, ?_⟩⟩
  · rw [dotn_zer, zer_at]
    exact Cg.rfl'
  · have h1 := dotn_addv (p := p) (c := c) (x := x) hu.1.1 hr.1.1 (m := m) (by omega)
    refine h1.trans ((hu.2.add (hr.2.mul c)).trans ?_)
    rw [addv_at hu.1.1 hr.1.1 (by omega)]
    exact (Cg.fm _).symm
/-- rows to which the product with x is 0 -/
theorem ker_lin {p : Int} {n : Nat} {x : List Int} (hp : 0 < p) : Lin p n fun v => Ltr p n v ∧ Cg p (dotn n x v) 0 := by
  refine ⟨⟨zer_ltr hp, ?_⟩, fun u r c hu hr => ⟨addv_ltr hp hu.1.1 hr.1.1, ?_⟩⟩
  · rw [dotn_zer]
    exact Cg.rfl'
  · have h1 := dotn_addv (p := p) (c := c) (x := x) hu.1.1 hr.1.1 (m := n) (Nat.le_refl n)
    refine h1.trans ((hu.2.add (hr.2.mul c)).trans ?_)
    rw [Int.mul_zero]
    exact Cg.rfl'
/-- a column, and the equations -/
def colm (A : List (List Int)) (k : Nat) : List Int := A.map fun r => at0 r k
def eqn (A : List (List Int)) (b : List Int) (k : Nat) : List Int := colm A k ++ [at0 b k]
def eqs (A : List (List Int)) (b : List Int) (n : Nat) : List (List Int) := (List.range n).map (eqn A b)
theorem colm_len {A : List (List Int)} {k : Nat} : (colm A k).length = A.length := List.length_map _
theorem colm_at {A : List (List Int)} {k i : Nat} {r : List Int} (h : A[i]? = some r) : at0 (colm A k) i = at0 r k := by
  have hi := (List.getElem?_eq_some_iff.mp h).1
  have he := (List.getElem?_eq_some_iff.mp h).2
  rw [at0_lt (by rw [colm_len]; exact hi)]
  unfold colm
  rw [List.getElem_map, he]
theorem eqn_len {A : List (List Int)} {b : List Int} {k : Nat} : (eqn A b k).length = A.length + 1 := by
  unfold eqn
  rw [List.length_append, colm_len]
  rfl
theorem eqn_at {A : List (List Int)} {b : List Int} {k i : Nat} (h : i < A.length) : at0 (eqn A b k) i = at0 (colm A k) i := by
  unfold eqn at0
  rw [List.getD_eq_getElem?_getD, List.getElem?_append_left (by rw [colm_len]; exact h), ← List.getD_eq_getElem?_getD]
theorem eqn_last {A : List (List Int)} {b : List Int} {k : Nat} : at0 (eqn A b k) A.length = at0 b k := by
  unfold eqn at0
  rw [List.getD_eq_getElem?_getD, List.getElem?_append_right (by rw [colm_len]; exact Nat.le_refl _), colm_len, Nat.sub_self]
  rfl
theorem eqn_ltr {p : Int} {n : Nat} {A : List (List Int)} {b : List Int} {k : Nat} (hA : ∀ r ∈ A, Ltr p n r) (hb : Ltr p n b) (hk : k < n) : Ltr p (A.length + 1) (eqn A b k) := by
  refine ⟨eqn_len, fun x hx => ?_⟩
  unfold eqn colm at hx
  rcases List.mem_append.mp hx with q | q
  · obtain ⟨r, hr, rfl⟩ := List.mem_map.mp q
    exact (hA r hr).bd hk
  · rw [List.mem_singleton.mp q]
    exact hb.bd hk
theorem eqs_ltr {p : Int} {n : Nat} {A : List (List Int)} {b : List Int} (hA : ∀ r ∈ A, Ltr p n r) (hb : Ltr p n b) : ∀ r ∈ eqs A b n, Ltr p (A.length + 1) r := by
  intro r hr
  obtain ⟨k, hk, rfl⟩ := List.mem_map.mp hr
  exact eqn_ltr hA hb (List.mem_range.mp hk)
/-- x solves -/
def Slv (p : Int) (n : Nat) (A : List (List Int)) (b x : List Int) : Prop := ∀ k, k < n → Cg p (dotn A.length x (colm A k)) (at0 b k)
def addz (u : List Int) (c : Int) (v : List Int) : List Int := List.zipWith (fun a b => a + c * b) u v
theorem addz_at {c : Int} {m k : Nat} {u v : List Int} (hu : u.length = m) (hv : v.length = m) (hk : k < m) : at0 (addz u c v) k = at0 u k + c * at0 v k := by
  have hl : (addz u c v).length = m := by unfold addz; rw [List.length_zipWith, hu, hv, Nat.min_self]
  rw [at0_lt (by omega), at0_lt (r := u) (by omega), at0_lt (r := v) (by omega)]
  unfold addz
  rw [List.getElem_zipWith]
theorem dotn_addz {c : Int} {m : Nat} {u v y : List Int} (hu : u.length = m) (hv : v.length = m) : ∀ {t : Nat}, t ≤ m → dotn t (addz u c v) y = dotn t u y + c * dotn t v y
  | 0, _ => by
    unfold dotn
    rw [Int.mul_zero]
    rfl
  | t + 1, h => by
    unfold dotn
    rw [dotn_addz hu hv (by omega), addz_at hu hv (by omega), Int.add_mul, Int.mul_add, Int.mul_assoc]
    omega
def unt (m i : Nat) : List Int := (zer m).set i 1
theorem unt_len {m i : Nat} : (unt m i).length = m := by unfold unt; rw [List.length_set, zer_len]
theorem at0_set {l : List Int} {i k : Nat} {a : Int} (hi : i < l.length) : at0 (l.set i a) k = if k = i then a else at0 l k := by
  unfold at0
  rw [List.getD_eq_getElem?_getD, List.getElem?_set, List.getD_eq_getElem?_getD]
  by_cases e : i = k
  · rw [if_pos e, if_pos hi, if_pos e.symm]
    rfl
  · rw [if_neg e, if_neg (fun z => e z.symm)]
theorem unt_at {m i k : Nat} (hi : i < m) : at0 (unt m i) k = if k = i then 1 else 0 := by
  unfold unt
  rw [at0_set (by rw [zer_len]; exact hi), zer_at]
theorem slv_of {p : Int} {n : Nat} {A : List (List Int)} {b : List Int} (hp : 0 < p) (hA : ∀ r ∈ A, Ltr p n r) (h : Span p n A b) : ∃ x, x.length = A.length ∧ Slv p n A b x := by
  have : Ltr p n b ∧ ∃ x, x.length = A.length ∧ Slv p n A b x := by
    refine h (fun b => Ltr p n b ∧ ∃ x, x.length = A.length ∧ Slv p n A b x) ⟨⟨zer_ltr hp, zer A.length, zer_len, fun k hk => ?_⟩, ?_⟩ ?_
    · rw [dotn_comm, dotn_zer, zer_at]
      exact Cg.rfl'
    · rintro u r c ⟨hu, x, lx, hx⟩ ⟨hr, y, ly, hy⟩
      refine ⟨addv_ltr hp hu.1 hr.1, addz x c y, by unfold addz; rw [List.length_zipWith, lx, ly, Nat.min_self], fun k hk => ?_⟩
      rw [dotn_addz lx ly (Nat.le_refl _), addv_at hu.1 hr.1 hk]
      exact ((hx k hk).add ((hy k hk).mul c)).trans (Cg.fm _).symm
    · intro r hr
      obtain ⟨i, hi⟩ := List.getElem?_of_mem hr
      have hil := (List.getElem?_eq_some_iff.mp hi).1
      refine ⟨hA r hr, unt A.length i, unt_len, fun k hk => ?_⟩
      rw [dotn_one (c := i) (a := at0 r k), if_pos hil]
      · exact Cg.rfl'
      · intro k2 hk2
        rw [unt_at hil]
        by_cases e : k2 = i
        · rw [if_pos e, if_pos e, e, colm_at hi, Int.one_mul]
        · rw [if_neg e, if_neg e, Int.zero_mul]
  exact this.2
theorem slv_phi {p : Int} {n : Nat} {A : List (List Int)} {b x : List Int} (hA : ∀ r ∈ A, Ltr p n r) (hb : Ltr p n b) (h : Slv p n A b x) : ∀ v ∈ eqs A b n, Ltr p (A.length + 1) v ∧ Cg p (dotn A.length x v) (at0 v A.length) := by
  intro v hv
  refine ⟨eqs_ltr hA hb v hv, ?_⟩
  obtain ⟨k, hk, rfl⟩ := List.mem_map.mp hv
  rw [eqn_last, dotn_congr (v := colm A k) (y := x) fun i hi => by rw [eqn_at hi]]
  exact h k (List.mem_range.mp hk)
/-- spanned: no equation 0 = 1 -/
theorem cons_of {p : Int} {n : Nat} {A : List (List Int)} {b : List Int} {pv : List Nat} (hp : p ∈ primes) (hA : ∀ r ∈ A, Ltr p n r) (hb : Ltr p n b) (R : Rr p (A.length + 1) (red p (eqs A b n)) pv) (h : Span p n A b) : A.length ∉ pv := by
  intro hm
  have p0 := prime_pos hp
  have p2 := fld_le hp
  obtain ⟨x, lx, hx⟩ := slv_of p0 hA h
  obtain ⟨pv', R', a1, a2⟩ := red_rr hp (eqs_ltr hA hb)
  obtain ⟨i, hi⟩ := List.getElem?_of_mem hm
  have hil := (List.getElem?_eq_some_iff.mp hi).1
  rw [R.piv.len] at hil
  have hr : (red p (eqs A b n))[i]? = some (red p (eqs A b n))[i] := List.getElem?_eq_getElem hil
  have ph := (a1 _ (List.getElem_mem hil)) _ (phi_lin (x := x) p0) (slv_phi hA hb hx)
  have e1 := R.piv.one i i _ _ hr hi
  rw [if_pos rfl] at e1
  have e0 := R.ah.ahead i _ _ hr hi
  have z : dotn A.length x (red p (eqs A b n))[i] = 0 := dotn_null fun k hk => by rw [e0 k hk, Int.mul_zero]
  have := ph.2
  rw [z, e1] at this
  obtain ⟨t, e⟩ := this
  have : p ∣ 1 := ⟨-t, by rw [Int.mul_neg]; omega⟩
  have := Int.le_of_dvd (by decide) this
  omega
/-- values put at places, one behind the other -/
structure SetP (x0 : List Int) (pv : List Nat) (val : Nat → Int) (t : Nat) (x : List Int) : Prop where
  len : x.length = x0.length
  put : ∀ l c, l < t → pv[l]? = some c → at0 x c = val l
  old : ∀ k, (∀ l, l < t → pv[l]? ≠ some k) → at0 x k = at0 x0 k
theorem setP_zero {x0 : List Int} {pv : List Nat} {val : Nat → Int} : SetP x0 pv val 0 x0 := ⟨rfl, fun l c h => absurd h (by omega), fun _ _ => rfl⟩
theorem setP_step {x0 x : List Int} {pv : List Nat} {val : Nat → Int} {t c : Nat} (hi : Inc pv) (h : SetP x0 pv val t x) (hc : pv[t]? = some c) (hl : c < x0.length) : SetP x0 pv val (t + 1) (x.set c (val t)) := by
  have hl2 : c < x.length := by rw [h.len]; exact hl
  refine ⟨by rw [List.length_set, h.len], fun l d hlt hd => ?_, fun k hk => ?_⟩
  · rw [at0_set hl2]
    by_cases e : d = c
    · rw [if_pos e]
      subst e
      by_cases e2 : l = t
      · rw [e2]
      · have := hi l t d d hd hc (by omega)
        omega
    · rw [if_neg e]
      refine h.put l d ?_ hd
      by_cases e2 : l = t
      · rw [e2, hc] at hd
        exact absurd (Option.some.inj hd).symm e
      · omega
  · rw [at0_set hl2, if_neg (fun e => hk t (by omega) (by rw [e]; exact hc))]
    exact h.old k fun l hlt => hk l (by omega)
/-- the solution that is told -/
theorem sol_slv {p : Int} {n : Nat} {A : List (List Int)} {b x : List Int} {pv : List Nat} (hp : p ∈ primes) (hA : ∀ r ∈ A, Ltr p n r) (hb : Ltr p n b) (R : Rr p (A.length + 1) (red p (eqs A b n)) pv) (hm : A.length ∉ pv)
    (hx : SetP (zer A.length) pv (fun l => at0 ((red p (eqs A b n)).getD l []) A.length) (red p (eqs A b n)).length x) : Slv p n A b x ∧ Ltr p A.length x := by
  have p0 := prime_pos hp
  obtain ⟨pv', R', a1, a2⟩ := red_rr hp (eqs_ltr hA hb)
  have lt : ∀ (l c : Nat), pv[l]? = some c → l < (red p (eqs A b n)).length ∧ c < A.length := fun l c h => by
    have h1 := (List.getElem?_eq_some_iff.mp h).1
    have h2 := R.piv.plt c (List.mem_of_getElem? h)
    refine ⟨by rw [← R.piv.len]; exact h1, ?_⟩
    by_cases e : c = A.length
    · exact absurd (e ▸ List.mem_of_getElem? h) hm
    · omega
  have gd : ∀ (l : Nat) (h : l < (red p (eqs A b n)).length), (red p (eqs A b n)).getD l [] = (red p (eqs A b n))[l] := fun l h => by rw [List.getD_eq_getElem?_getD, List.getElem?_eq_getElem h]; rfl
  have ph : ∀ v ∈ red p (eqs A b n), Ltr p (A.length + 1) v ∧ Cg p (dotn A.length x v) (at0 v A.length) := by
    intro v hv
    refine ⟨R.piv.ltr v hv, ?_⟩
    obtain ⟨i, hi⟩ := List.getElem?_of_mem hv
    have hil := (List.getElem?_eq_some_iff.mp hi).1
    obtain ⟨c, hc⟩ : ∃ c, pv[i]? = some c := ⟨_, List.getElem?_eq_getElem (by rw [R.piv.len]; exact hil)⟩
    have hcm := (lt i c hc).2
    rw [dotn_one (c := c) (a := at0 v A.length), if_pos hcm]
    · exact Cg.rfl'
    · intro k hk
      by_cases e : k = c
      · rw [if_pos e, e, hx.put i c hil hc, R.piv.one i i v c hi hc, if_pos rfl, Int.mul_one]
        show at0 ((red p (eqs A b n)).getD i []) A.length = _
        rw [gd i hil]
        have := (List.getElem?_eq_some_iff.mp hi).2
        rw [this]
      · rw [if_neg e]
        by_cases hk2 : ∃ l : Nat, pv[l]? = some k
        · obtain ⟨l, hl⟩ := hk2
          rw [R.piv.one i l v k hi hl, if_neg (fun z => e (by rw [z, hl] at hc; exact Option.some.inj hc)), Int.mul_zero]
        · rw [hx.old k (fun l _ z => hk2 ⟨l, z⟩), zer_at, Int.zero_mul]
  constructor
  · intro k hk
    have hm2 : eqn A b k ∈ eqs A b n := List.mem_map.mpr ⟨k, List.mem_range.mpr hk, rfl⟩
    have := (a2 _ hm2) _ (phi_lin (x := x) p0) ph
    have q := this.2
    rw [eqn_last, dotn_congr (v := colm A k) (y := x) fun i hi => by rw [eqn_at hi]] at q
    exact q
  · refine ltr_of (by rw [hx.len, zer_len]) fun k hk => ?_
    by_cases hk2 : ∃ l : Nat, pv[l]? = some k
    · obtain ⟨l, hl⟩ := hk2
      have hl2 := (lt l k hl).1
      rw [hx.put l k hl2 hl]
      show 0 ≤ at0 ((red p (eqs A b n)).getD l []) A.length ∧ _
      rw [gd l hl2]
      exact (R.piv.ltr _ (List.getElem_mem hl2)).bd (by omega)
    · rw [hx.old k (fun l _ z => hk2 ⟨l, z⟩), zer_at]
      omega
/-- the rows times letters, added up -/
def lsum (p : Int) (n : Nat) (A : List (List Int)) (x : List Int) : Nat → List Int
  | 0 => zer n
  | t + 1 => addv p (lsum p n A x t) (at0 x t) (A.getD t [])
theorem lsum_at {p : Int} {n k : Nat} {A : List (List Int)} {x : List Int} (hp : 0 < p) (hA : ∀ r ∈ A, Ltr p n r) (hk : k < n) : ∀ t, t ≤ A.length → Ltr p n (lsum p n A x t) ∧ Cg p (at0 (lsum p n A x t) k) (dotn t x (colm A k))
  | 0, _ => ⟨zer_ltr hp, by
    show Cg p (at0 (zer n) k) 0
    rw [zer_at]
    exact Cg.rfl'⟩
  | t + 1, ht => by
    obtain ⟨i1, i2⟩ := lsum_at hp hA hk (x := x) t (by omega)
    have hr : A[t]? = some (A[t]'(by omega)) := List.getElem?_eq_getElem (by omega)
    have gd : A.getD t [] = A[t]'(by omega) := by rw [List.getD_eq_getElem?_getD, hr]; rfl
    have hrL := hA _ (List.getElem_mem (show t < A.length by omega))
    show Ltr p n (addv p (lsum p n A x t) (at0 x t) (A.getD t [])) ∧ Cg p (at0 (addv p (lsum p n A x t) (at0 x t) (A.getD t [])) k) (dotn t x (colm A k) + at0 x t * at0 (colm A k) t)
    rw [gd]
    refine ⟨addv_ltr hp i1.1 hrL.1, ?_⟩
    rw [addv_at i1.1 hrL.1 hk, colm_at hr]
    exact (Cg.fm _).trans (i2.add Cg.rfl')
theorem lsum_ltr {p : Int} {n : Nat} {A : List (List Int)} {x : List Int} (hp : 0 < p) (hA : ∀ r ∈ A, Ltr p n r) : ∀ t, t ≤ A.length → Ltr p n (lsum p n A x t)
  | 0, _ => zer_ltr hp
  | t + 1, ht => by
    have hr : A[t]? = some (A[t]'(by omega)) := List.getElem?_eq_getElem (by omega)
    have gd : A.getD t [] = A[t]'(by omega) := by rw [List.getD_eq_getElem?_getD, hr]; rfl
    show Ltr p n (addv p (lsum p n A x t) (at0 x t) (A.getD t []))
    rw [gd]
    exact addv_ltr hp (lsum_ltr hp hA t (by omega)).1 (hA _ (List.getElem_mem (show t < A.length by omega))).1
theorem lsum_span {p : Int} {n : Nat} {A : List (List Int)} {x : List Int} (hA : ∀ r ∈ A, Ltr p n r) : ∀ t, t ≤ A.length → Span p n A (lsum p n A x t)
  | 0, _ => span_lin.1
  | t + 1, ht => by
    have hr : A[t]? = some (A[t]'(by omega)) := List.getElem?_eq_getElem (by omega)
    have gd : A.getD t [] = A[t]'(by omega) := by rw [List.getD_eq_getElem?_getD, hr]; rfl
    show Span p n A (addv p (lsum p n A x t) (at0 x t) (A.getD t []))
    rw [gd]
    exact span_lin.2 _ _ _ (lsum_span hA t (by omega)) (span_mem (List.getElem_mem (show t < A.length by omega)))
theorem lsum_eq {p : Int} {n : Nat} {A : List (List Int)} {b x : List Int} (hp : 0 < p) (hA : ∀ r ∈ A, Ltr p n r) (hb : Ltr p n b) (h : Slv p n A b x) : lsum p n A x A.length = b := by
  have l := lsum_ltr (x := x) hp hA A.length (Nat.le_refl _)
  exact row_ext l.1 hb.1 fun k hk => Cg.eq ((lsum_at hp hA hk A.length (Nat.le_refl _)).2.trans (h k hk)) (l.bd hk) (hb.bd hk)
/-- not spanned: an equation 0 = 1 -/
theorem cons_not {p : Int} {n : Nat} {A : List (List Int)} {b : List Int} {pv : List Nat} (hp : p ∈ primes) (hA : ∀ r ∈ A, Ltr p n r) (hb : Ltr p n b) (R : Rr p (A.length + 1) (red p (eqs A b n)) pv) (h : ¬ Span p n A b) : A.length ∈ pv := by
  by_cases hm : A.length ∈ pv
  · exact hm
  exfalso
  have p0 := prime_pos hp
  -- the told solution is there
  have lt : ∀ (l c : Nat), pv[l]? = some c → c < A.length := fun l c h => by
    have h2 := R.piv.plt c (List.mem_of_getElem? h)
    by_cases e : c = A.length
    · exact absurd (e ▸ List.mem_of_getElem? h) hm
    · omega
  have ex : ∀ t, t ≤ pv.length → ∃ x, SetP (zer A.length) pv (fun l => at0 ((red p (eqs A b n)).getD l []) A.length) t x := by
    intro t
    induction t with
    | zero => exact fun _ => ⟨_, setP_zero⟩
    | succ t ih =>
      intro ht
      obtain ⟨x, hx⟩ := ih (by omega)
      have hc : pv[t]? = some (pv[t]'(by omega)) := List.getElem?_eq_getElem (by omega)
      exact ⟨_, setP_step R.ah.inc hx hc (by rw [zer_len]; exact lt t _ hc)⟩
  obtain ⟨x, hx⟩ := ex pv.length (Nat.le_refl _)
  rw [R.piv.len] at hx
  have s := sol_slv hp hA hb R hm hx
  exact h (by rw [← lsum_eq p0 hA hb s.1]; exact lsum_span hA _ (Nat.le_refl _))
end WU

set_option maxRecDepth 100000
set_option maxHeartbeats 4000000
namespace WU
open PySem PySem.Spec PyProof.Rows L2
/-- the places that are no leads -/
def free (n : Nat) (pv : List Nat) : List Nat := (List.range n).filter fun k => decide (k ∉ pv)
theorem free_mem {n : Nat} {pv : List Nat} {k : Nat} : k ∈ free n pv ↔ k < n ∧ k ∉ pv := by
  unfold free
  rw [List.mem_filter, List.mem_range]
  constructor
  · rintro ⟨a, b⟩
    exact ⟨a, of_decide_eq_true b⟩
  · rintro ⟨a, b⟩
    exact ⟨a, decide_eq_true b⟩
theorem inc_of_pairwise : ∀ {l : List Nat}, l.Pairwise (· < ·) → Inc l
  | [], _ => fun i m c d hi => by cases hi
  | a :: l, h => by
    rw [List.pairwise_cons] at h
    intro i m c d hi hm him
    cases m with
    | zero => omega
    | succ m =>
      cases i with
      | zero =>
        cases hi
        exact h.1 d (List.mem_of_getElem? (show l[m]? = some d from hm))
      | succ i => exact inc_of_pairwise h.2 i m c d hi hm (by omega)
theorem inc_filter {q : Nat → Bool} {n : Nat} : Inc ((List.range n).filter q) := inc_of_pairwise (List.Pairwise.filter q List.pairwise_lt_range)
theorem inc_nodup {l : List Nat} (h : Inc l) {i m c : Nat} (hi : l[i]? = some c) (hm : l[m]? = some c) : i = m := by
  rcases Nat.lt_trichotomy i m with e | e | e
  · exact absurd (h i m c c hi hm e) (by omega)
  · exact e
  · exact absurd (h m i c c hm hi e) (by omega)
theorem free_len {n : Nat} {pv : List Nat} (hi : Inc pv) (hl : ∀ c ∈ pv, c < n) : (free n pv).length + pv.length = n := by
  have e : pv = (List.range n).filter fun k => decide (k ∈ pv) := by
    have h1 := sub_inc (l := pv) (m := (List.range n).filter fun k => decide (k ∈ pv)) hi inc_filter fun x hx => List.mem_filter.mpr ⟨List.mem_range.mpr (hl x hx), decide_eq_true hx⟩
    have h2 := sub_inc (l := (List.range n).filter fun k => decide (k ∈ pv)) (m := pv) inc_filter hi fun x hx => of_decide_eq_true (List.mem_filter.mp hx).2
    exact h1.2 (by omega)
  have h3 : ∀ l : List Nat, (l.filter fun k => decide (k ∉ pv)).length + (l.filter fun k => decide (k ∈ pv)).length = l.length := by
    intro l
    induction l with
    | nil => rfl
    | cons a l ih =>
      rw [List.filter_cons, List.filter_cons]
      by_cases q : a ∈ pv
      · rw [if_neg (by simpa using q), if_pos (by simpa using q), List.length_cons, List.length_cons]
        omega
      · rw [if_pos (by simpa using q), if_neg (by simpa using q), List.length_cons, List.length_cons]
        omega
  have h4 := h3 (List.range n)
  rw [← e, List.length_range] at h4
  exact h4
/-- as many as the rank, where each has its own place -/
theorem piv_span {p : Int} {n : Nat} {rs : List (List Int)} {pv : List Nat} (hp : 0 < p) (P : Piv p n rs pv) {v : List Int} : Span p n rs v ↔ v ∈ (allc p.toNat rs.length).map (cmb p n rs) := by
  have ep : ((p.toNat : Nat) : Int) = p := by omega
  rw [List.mem_map]
  constructor
  · intro h
    have sv := sv_span hp P h
    refine ⟨pvs pv v, allc_mem.mpr ⟨by unfold pvs; rw [List.length_map, P.len], fun c hc => ?_⟩, sv_back hp P sv⟩
    unfold pvs at hc
    obtain ⟨d, hd, rfl⟩ := List.mem_map.mp hc
    rw [ep]
    exact sv.1.bd (P.plt d hd)
  · rintro ⟨cs, _, rfl⟩
    exact cmb_span fun r hr => span_mem hr
theorem piv_nodup {p : Int} {n : Nat} {rs : List (List Int)} {pv : List Nat} (hp : 0 < p) (P : Piv p n rs pv) : ((allc p.toNat rs.length).map (cmb p n rs)).Nodup := by
  have ep : ((p.toNat : Nat) : Int) = p := by omega
  refine nodup_map' (fun a ha b hb e => ?_) (allc_nodup _)
  obtain ⟨a1, a2⟩ := allc_mem.mp ha
  obtain ⟨b1, b2⟩ := allc_mem.mp hb
  rw [ep] at a2 b2
  rw [← sv_of hp P a1 a2, ← sv_of hp P b1 b2, e]
theorem red_len {p : Int} {n : Nat} {rs : List (List Int)} {pv : List Nat} (hp : p ∈ primes) (P : Piv p n rs pv) : (red p rs).length = rs.length := by
  have p0 := prime_pos hp
  have p2 := fld_le hp
  obtain ⟨pv2, R, a1, a2⟩ := red_rr hp P.ltr
  have := nodup_len (piv_nodup p0 R.piv) (piv_nodup p0 P) fun v => by
    rw [← piv_span p0 R.piv, ← piv_span p0 P]
    exact ⟨fun h => span_sub a1 h, fun h => span_sub a2 h⟩
  rw [List.length_map, List.length_map, allc_len, allc_len] at this
  rcases Nat.lt_trichotomy (red p rs).length rs.length with e | e | e
  · exact absurd this (Nat.ne_of_lt (Nat.pow_lt_pow_right (by omega) e))
  · exact e
  · exact absurd this (Nat.ne_of_gt (Nat.pow_lt_pow_right (by omega) e))
/-- one row that all others are 0 with -/
def zval (p : Int) (L : List (List Int)) (f l : Nat) : Int := (-(at0 (L.getD l []) f)).fmod p
def ZR (p : Int) (n : Nat) (L : List (List Int)) (pv : List Nat) (f : Nat) (z : List Int) : Prop := SetP (unt n f) pv (zval p L f) L.length z
theorem zr_at {p : Int} {n f : Nat} {L : List (List Int)} {pv : List Nat} {z : List Int} (R : Rr p n L pv) (hf : f ∈ free n pv) (h : ZR p n L pv f z) : z.length = n ∧ (∀ k, k < n → k ∉ pv → at0 z k = if k = f then 1 else 0) ∧ ∀ l c, pv[l]? = some c → at0 z c = zval p L f l := by
  obtain ⟨f1, f2⟩ := free_mem.mp hf
  refine ⟨by rw [h.len, unt_len], fun k hk hn => ?_, fun l c hc => ?_⟩
  · rw [h.old k fun l _ e => hn (List.mem_of_getElem? e), unt_at f1]
  · refine h.put l c ?_ hc
    rw [← R.piv.len]
    exact (List.getElem?_eq_some_iff.mp hc).1
theorem zr_ltr {p : Int} {n f : Nat} {L : List (List Int)} {pv : List Nat} {z : List Int} (hp : p ∈ primes) (R : Rr p n L pv) (hf : f ∈ free n pv) (h : ZR p n L pv f z) : Ltr p n z := by
  obtain ⟨a, b, c⟩ := zr_at R hf h
  have p2 := fld_le hp
  refine ltr_of a fun k hk => ?_
  by_cases q : k ∈ pv
  · obtain ⟨l, hl⟩ := List.getElem?_of_mem q
    rw [c l k hl]
    exact fm_bd _ (by omega)
  · rw [b k hk q]
    split <;> omega
theorem zr_ker {p : Int} {n f : Nat} {rows : List (List Int)} {pv : List Nat} {z : List Int} (hp : p ∈ primes) (hA : ∀ r ∈ rows, Ltr p n r) (R : Rr p n (red p rows) pv) (hf : f ∈ free n pv) (h : ZR p n (red p rows) pv f z) : ∀ u ∈ rows, Cg p (dotn n z u) 0 := by
  have p0 := prime_pos hp
  obtain ⟨a, b, c⟩ := zr_at R hf h
  obtain ⟨f1, f2⟩ := free_mem.mp hf
  obtain ⟨pv', R', a1, a2⟩ := red_rr hp hA
  have key : ∀ v ∈ red p rows, Ltr p n v ∧ Cg p (dotn n z v) 0 := by
    intro v hv
    refine ⟨R.piv.ltr v hv, ?_⟩
    obtain ⟨i, hi⟩ := List.getElem?_of_mem hv
    have hil := (List.getElem?_eq_some_iff.mp hi).1
    obtain ⟨d, hd⟩ : ∃ d, pv[i]? = some d := ⟨_, List.getElem?_eq_getElem (by rw [R.piv.len]; exact hil)⟩
    have hdn := R.piv.plt d (List.mem_of_getElem? hd)
    have gd : (red p rows).getD i [] = v := by rw [List.getD_eq_getElem?_getD, hi]; rfl
    have zd : at0 z d = zval p (red p rows) f i := c i d hd
    rw [dotn_two (c := f) (d := d) (a := at0 v f) (b := zval p (red p rows) f i), if_pos f1, if_pos hdn]
    · unfold zval
      rw [gd]
      have := (Cg.rfl' (p := p) (a := at0 v f)).add (Cg.fm (p := p) (-(at0 v f)))
      rw [show at0 v f + -(at0 v f) = 0 by omega] at this
      exact this
    · intro k hk
      by_cases q : k ∈ pv
      · obtain ⟨l, hl⟩ := List.getElem?_of_mem q
        have nf : ¬ k = f := fun e => f2 (e ▸ q)
        rw [if_neg nf, R.piv.one i l v k hi hl]
        by_cases e : i = l
        · subst e
          rw [hd] at hl
          have ek := Option.some.inj hl
          rw [if_pos rfl, if_pos ek.symm, ← ek, zd]
          omega
        · rw [if_neg e, if_neg (fun z2 => e (by rw [z2] at hl; exact inc_nodup R.ah.inc hd hl)), Int.mul_zero]
          rfl
      · have nd : ¬ k = d := fun e => q (e ▸ List.mem_of_getElem? hd)
        rw [b k hk q, if_neg nd]
        by_cases e : k = f
        · rw [if_pos e, if_pos e, e]
          omega
        · rw [if_neg e, if_neg e]
          omega
  intro u hu
  exact ((a2 u hu) _ (ker_lin (x := z) p0) key).2
/-- the rows for all free places -/
theorem zr_piv {p : Int} {n : Nat} {L Z : List (List Int)} {pv : List Nat} (hp : p ∈ primes) (R : Rr p n L pv) (hl : Z.length = (free n pv).length) (h : ∀ (i : Nat) (f : Nat) (z : List Int), (free n pv)[i]? = some f → Z[i]? = some z → ZR p n L pv f z) : Piv p n Z (free n pv) := by
  have ofZ : ∀ (i : Nat) z, Z[i]? = some z → ∃ f, (free n pv)[i]? = some f ∧ f ∈ free n pv ∧ ZR p n L pv f z := fun i z hz => by
    have hi := (List.getElem?_eq_some_iff.mp hz).1
    have hf : (free n pv)[i]? = some (free n pv)[i] := List.getElem?_eq_getElem (by omega)
    exact ⟨_, hf, List.mem_of_getElem? hf, h i _ z hf hz⟩
  refine ⟨fun z hz => ?_, hl.symm, fun c hc => (free_mem.mp hc).1, fun i l z c hi hc => ?_⟩
  · obtain ⟨i, hi⟩ := List.getElem?_of_mem hz
    obtain ⟨f, hf, hm, hz2⟩ := ofZ i z hi
    exact zr_ltr hp R hm hz2
  · obtain ⟨f, hf, hm, hz2⟩ := ofZ i z hi
    obtain ⟨c1, c2⟩ := free_mem.mp (List.mem_of_getElem? hc)
    rw [(zr_at R hm hz2).2.1 c c1 c2]
    have inc : Inc (free n pv) := inc_filter
    by_cases e : i = l
    · subst e
      rw [hf] at hc
      rw [if_pos rfl, if_pos (Option.some.inj hc).symm]
    · rw [if_neg e, if_neg (fun q => e (inc_nodup inc hf (by rw [← q]; exact hc)))]
/-- what zero_rows tells -/
theorem zero_ok {p : Int} {n : Nat} {rows Z : List (List Int)} {pv : List Nat} (hp : p ∈ primes) (hA : ∀ r ∈ rows, Ltr p n r) (R : Rr p n (red p rows) pv) (hl : Z.length = (free n pv).length) (h : ∀ (i : Nat) (f : Nat) (z : List Int), (free n pv)[i]? = some f → Z[i]? = some z → ZR p n (red p rows) pv f z) :
    (∀ z ∈ Z, Ltr p n z) ∧ (∀ r ∈ red p Z, Ltr p n r) ∧ red p (red p Z) = red p Z ∧ (∀ r ∈ red p Z, ∀ u ∈ rows, Cg p (dotn n r u) 0) ∧ (red p Z).length + (red p rows).length = n := by
  have p0 := prime_pos hp
  have P := zr_piv hp R hl h
  obtain ⟨pv2, R2, a1, a2⟩ := red_rr hp P.ltr
  refine ⟨P.ltr, R2.piv.ltr, red_red hp P.ltr, fun r hr u hu => ?_, ?_⟩
  · have := (a1 r hr) _ (ker_lin (x := u) p0) fun z hz => ?_
    · rw [dotn_comm]
      exact this.2
    · obtain ⟨i, hi⟩ := List.getElem?_of_mem hz
      have hil := (List.getElem?_eq_some_iff.mp hi).1
      have hf : (free n pv)[i]? = some (free n pv)[i] := List.getElem?_eq_getElem (by omega)
      refine ⟨P.ltr z hz, ?_⟩
      rw [dotn_comm]
      exact zr_ker hp hA R (List.mem_of_getElem? hf) (h i _ z hf hi) u hu
  · rw [red_len hp P, hl, ← R.piv.len]
    exact free_len R.ah.inc R.piv.plt
end WU

set_option maxRecDepth 100000
set_option maxHeartbeats 8000000
namespace WU
open PySem PySem.Spec PyProof.Rows L2
/-! ### t.index(z) of ints -/
theorem flat_ints (ys : List Int) : (ys.map V.int).all flatV = true := by
  rw [List.all_map]
  exact List.all_eq_true.mpr fun _ _ => rfl
def rIxI (K : PySem.W.Frag) : V → List V → Hp → VK → Prop := fun x xs H Q => ∃ p, ∃ ys : List Int, ∃ z j, x = .ref p ∧ xs = [.int z] ∧ SqT K H p (ys.map V.int) ∧ ys[j]? = some z ∧ (∀ m, m < j → ys[m]? ≠ some z) ∧ Q (.int (j : Nat)) H
section
variable {X : Cx}
/-- what stands at a place of a tuple of ints -/
theorem int_item {ys : List Int} {its : List Value} (r : Vals (ys.map V.int) its) {k : Nat} (hk : k < its.toArray.size) : ∃ y tk, ys[k]? = some y ∧ its.toArray[k] = Value.int y tk := by
  have lk : k < its.length := by simpa using hk
  have ly : k < ys.length := by
    have := r.length
    rw [List.length_map] at this
    omega
  obtain ⟨v, hv, tk, ev⟩ := r.get (i := k) (x := .int ys[k]) (by rw [List.getElem?_map, List.getElem?_eq_getElem ly]; rfl)
  refine ⟨_, tk, List.getElem?_eq_getElem ly, ?_⟩
  rw [List.getElem?_eq_getElem lk] at hv
  rw [List.getElem_toArray, Option.some.inj hv, ← ev]
theorem mt_tupIx : MtR X "tuple.index" (rIxI X.K) := by
  intro pn st sg HH self args sv avs QQ inv rself rargs ⟨c, ys, z, j, e1, e2, hseq, hat, hfirst, hQ⟩
  subst e1 e2
  cases rself
  obtain ⟨_, rfl, tk, rfl⟩ := vals1 rargs
  obtain ⟨its, rel, ⟨⟨oc, od, ot, osl⟩, hobj, hcls, num, hdata⟩, _⟩ := inv.tuple hseq
  simp only at hcls hdata
  subst hcls hdata
  have lj : j < its.toArray.size := by
    have h1 := (List.getElem?_eq_some_iff.mp hat).1
    have h2 := rel.length
    rw [List.length_map] at h2
    rw [List.size_toArray]
    omega
  have yes : eqU (.int z) its.toArray[j] = true := by
    obtain ⟨y, t2, hy, ey⟩ := int_item rel lj
    cases hat.symm.trans hy
    rw [ey]
    exact (show (z == z) = true from beq_self_eq_true z)
  have no : ∀ k (hk : k < its.toArray.size), k < j → eqU (.int z) its.toArray[k] = false := fun k hk hkj => by
    obtain ⟨y, t2, hy, ey⟩ := int_item rel hk
    rw [ey]
    refine beq_eq_false_iff_ne.mpr (fun eq => hfirst k hkj ?_)
    rw [hy]
    exact congrArg some eq
  refine call_meets PySem.F.slot_tuple_index ⟨_, hobj, rfl⟩ PySem.F.entry_tuple_index (PySem.F.args_tuple_index_2 _ _) (TI.tuple_indexAt c its.toArray num od osl _ (eqU (.int z)) j lj yes no) ⟨hobj, ?_, ⟨.int (j : Nat), HH, inv.tok _, ⟨_, rfl⟩, hQ⟩⟩
  exact fun it hit => mem_eqAt (x := .int z) ⟨tk, rfl⟩ rfl rel (flat_ints ys) it (by simpa using hit)
theorem mt_tupIxK {K : PySem.W.Frag} (hK : X.K = K := by rfl) : MtR X "tuple.index" (rIxI K) := hK ▸ mt_tupIx
end
/-! ### zip of a tuple and a list -/
def ItzM (K : PySem.W.Frag) (a b : Addr) : It :=
  ⟨fun i H => ∃ (xs ys : List V) (x y : V), SqT K H a xs ∧ SqL K H b ys ∧ xs[i]? = some x ∧ ys[i]? = some y,
    fun i H v H' => ∃ T x y, v = .ref T ∧ H T = none ∧ H' = upd H T (.tup [x, y]) ∧ (∀ xs, SqT K H a xs → xs[i]? = some x) ∧ ∀ ys, SqL K H b ys → ys[i]? = some y,
    fun i H => ∃ xs ys : List V, SqT K H a xs ∧ SqL K H b ys ∧ i ≤ xs.length ∧ i ≤ ys.length ∧ (i = xs.length ∨ i = ys.length)⟩
theorem not_two {x y z : Addr} (h1 : x ≠ y) (h2 : x ≠ z) : x ∉ [y, z] := fun h => by
  rw [List.mem_cons, List.mem_singleton] at h
  exact h.elim h1 h2
theorem zsep {z TI TO i1 i2 a b : Addr} (D : ZipApart z TI TO i1 i2 a b) : ZipSep2 z TI TO i1 i2 [i1, a] [i2, b] where
  TIz := D.TIz
  TOz := D.TOz
  TITO := D.TITO
  TIi1 := D.TIi1
  TIi2 := D.TIi2
  mem1 := List.mem_cons_self
  mem2 := List.mem_cons_self
  zf1 := not_two D.i1z.symm D.l1z.symm
  zf2 := not_two D.i2z.symm D.l2z.symm
  Tf1 := not_two D.TOi1 D.l1TO.symm
  Tf2 := not_two D.TOi2 D.l2TO.symm
  sep1_2 := not_two D.i12 D.l2i1.symm
  sep2_1 := not_two D.i12.symm D.l1i2.symm
/-- how the zip of a tuple and a list stands ahead of its k-th turn -/
structure ZSt (z TI TO i1 i2 a b : Addr) (k : Nat) (hp : Heap) : Prop where
  zip : IsZip hp z TI TO .none
  its : IsPair hp TI (.ref i1) (.ref i2)
  out : ∃ x y, IsPair hp TO x y
  fst : hp.IsTupleIter i1 a k
  snd : hp.IsListIter i2 b k
theorem five {z TI TO i1 i2 c : Addr} (h : c ∈ [z, TI, TO, i1, i2]) : c = z ∨ c = TI ∨ c = TO ∨ c = i1 ∨ c = i2 := by
  simpa only [List.mem_cons, List.not_mem_nil, or_false] using h
theorem ZSt.lt {z TI TO i1 i2 a b : Addr} {k : Nat} {hp : Heap} (S : ZSt z TI TO i1 i2 a b k hp) {c : Addr} (h : c ∈ [z, TI, TO, i1, i2]) : c < hp.objs.size := by
  obtain ⟨_, _, ho⟩ := S.out
  obtain ⟨_, h4, _⟩ := S.fst
  obtain ⟨_, h5, _⟩ := S.snd
  rcases five h with q | q | q | q | q <;> rw [q]
  · exact Heap.lt_size S.zip
  · exact Heap.lt_size S.its
  · exact Heap.lt_size ho
  · exact Heap.lt_size h4
  · exact Heap.lt_size h5
theorem turn_zipM {P : Program} {w : World} {K : PySem.W.Frag} {elts : List Expr} {kk : Nat} {tpos : Pos} {a b z TI TO i1 i2 : Addr} (D : ZipApart z TI TO i1 i2 a b) : Turn P w K (.Tuple elts kk tpos) (ItzM K a b) [z, TI, TO, i1, i2] z (ZSt z TI TO i1 i2 a b) where
  mem := List.mem_cons_self
  obj := fun k hp S c hc => by
    obtain ⟨_, _, ho⟩ := S.out
    obtain ⟨o4, h4, _, d4⟩ := S.fst
    obtain ⟨o5, h5, _, d5⟩ := S.snd
    rcases five hc with q | q | q | q | q <;> subst q
    · exact ⟨_, S.zip, fun v => by intro e; cases e⟩
    · exact ⟨_, S.its, fun v => by intro e; cases e⟩
    · exact ⟨_, ho, fun v => by intro e; cases e⟩
    · exact ⟨o4, h4, fun v e => by rw [d4] at e; cases e⟩
    · exact ⟨o5, h5, fun v e => by rw [d5] at e; cases e⟩
  keep := fun k hp hp' S same => by
    obtain ⟨x, y, ho⟩ := S.out
    exact ⟨same _ List.mem_cons_self _ S.zip, same TI (by simp) _ S.its, ⟨x, y, same TO (by simp) _ ho⟩, S.fst.at fun ob => same i1 (by simp) ob, S.snd.at fun ob => same i2 (by simp) ob⟩
  item := by
    intro X eP ew eK calm k pn st sg HH EE inv fp S go
    subst eP ew eK
    obtain ⟨xs, ys, x, y, sx, sy, gx, gy⟩ := go
    obtain ⟨us, rx, px, _⟩ := inv.tuple sx
    obtain ⟨vs, ry, py, _⟩ := inv.list sy
    obtain ⟨ux, hux, rux⟩ := rx.get gx
    obtain ⟨uy, huy, ruy⟩ := ry.get gy
    obtain ⟨_, _, ho⟩ := S.out
    have nh := inv.ok.hd calm
    have D1 := Draws.tuple (prog := X.prog) (w := X.w) (A := X.A.in1) nh i1 a D.l1i1 us.toArray
    have D2 := Draws.list (prog := X.prog) (w := X.w) (A := X.A.in1) nh i2 b D.l2i2 vs.toArray
    have lx : k < us.toArray.size := by rw [List.size_toArray]; exact (List.getElem?_eq_some_iff.mp hux).1
    have ly : k < vs.toArray.size := by rw [List.size_toArray]; exact (List.getElem?_eq_some_iff.mp huy).1
    have zl := S.lt (c := z) List.mem_cons_self
    refine wpAny_pyNext_zipD2_item (zsep D) D1 D2 S.zip S.its ho ⟨S.fst, px⟩ ⟨S.snd, py.isList⟩ lx ly ?_
    intro v1 v2 h1 tk q1 q2 z1 o1 f1 g1 new1 _ rest
    have q1' : us[k]? = some v1 := by simpa using q1
    have q2' : vs[k]? = some v2 := by simpa using q2
    cases hux.symm.trans q1'
    cases huy.symm.trans q2'
    refine ⟨_, rfl, wpAny_letOwnedTupleGo_zip (s := { st with heap := h1, toks := tk }) z1 fun h2 z2 but => ?_⟩
    have tup2 : h2.get? st.heap.objs.size = some { cls := .type "tuple", data := .seq #[ux, uy] } := (but.2 _ (Nat.ne_of_gt zl)).trans new1
    have out : ∀ c o, c ∉ [z, TI, TO, i1, i2] → st.heap.get? c = some o → h2.get? c = some o := fun c o nc ec => by
      have nz : c ≠ z := fun q => nc (by rw [q]; simp)
      have nO : c ≠ TO := fun q => nc (by rw [q]; simp)
      have n1 : c ≠ i1 := fun q => nc (by rw [q]; simp)
      have n2 : c ≠ i2 := fun q => nc (by rw [q]; simp)
      exact (but.2 c nz).trans (rest c o nz nO n1 n2 ec)
    have J : Inv X pn sg (upd HH st.heap.objs.size (.tup [x, y])) { st with heap := h2, toks := tk } :=
      inv.turnedNew (t' := tk) (ch := [z, TI, TO, i1, i2]) out fp (Nat.le_refl _) ⟨by show 2 ≤ sizeLine; decide, [ux, uy], .cons rux (.cons ruy .nil), ⟨_, tup2, rfl, _, rfl⟩⟩
    refine ⟨.ref st.heap.objs.size, _, J, rfl, ⟨_, x, y, rfl, inv.hok.fresh (Nat.le_refl _), rfl, fun l hl => ?_, fun l hl => ?_⟩, ⟨z2, ?_, ⟨ux, uy, ?_⟩, ?_, ?_⟩, fun c hc => ?_⟩
    · rw [inv.tuple_inj hl sx]
      exact gx
    · rw [inv.list_inj hl sy]
      exact gy
    · have e := rest TI _ D.TIz D.TITO D.TIi1 D.TIi2 S.its
      exact (but.2 TI D.TIz).trans e
    · exact (but.2 TO D.TOz).trans o1
    · exact f1.1.at fun ob eo => (but.2 i1 D.i1z).trans eo
    · exact g1.1.at fun ob eo => (but.2 i2 D.i2z).trans eo
    · rw [upd_ne (Nat.ne_of_lt (S.lt hc))]
      exact (fp c hc).1
  done := by
    intro X eP ew eK calm k pn st sg HH EE inv fp S go
    subst eP ew eK
    obtain ⟨xs, ys, sx, sy, l1, l2, fin⟩ := go
    obtain ⟨us, rx, px, _⟩ := inv.tuple sx
    obtain ⟨vs, ry, py, _⟩ := inv.list sy
    obtain ⟨_, _, ho⟩ := S.out
    have nh := inv.ok.hd calm
    have D1 := Draws.tuple (prog := X.prog) (w := X.w) (A := X.A.in1) nh i1 a D.l1i1 us.toArray
    have D2 := Draws.list (prog := X.prog) (w := X.w) (A := X.A.in1) nh i2 b D.l2i2 vs.toArray
    have m1 : us.toArray.size = xs.length := by rw [List.size_toArray, ← rx.length]
    have m2 : vs.toArray.size = ys.length := by rw [List.size_toArray, ← ry.length]
    refine wpAny_pyNext_zipD2_end (zsep D) D1 D2 S.zip S.its ho ⟨S.fst, px⟩ ⟨S.snd, py.isList⟩ (by omega) (by omega) (by omega) fun h1 tk rest => ⟨rfl, ?_⟩
    refine inv.turnedL (t' := tk) (ch := [z, TI, TO, i1, i2]) (fun c o nc ec => ?_) fp
    refine rest c o (fun q => nc ?_) (fun q => nc ?_) (fun q => nc ?_) (fun q => nc ?_) ec <;> rw [q] <;> simp
  self := fun _ _ _ _ _ S go => wpAny_pyIter_zip S.zip go
def iZipM (K : PySem.W.Frag) (ta : TA) : TI := fun σ H R => ta σ H fun vs H1 => ∃ a b xs ys, vs = [.ref a, .ref b] ∧ ((SqT K H1 a xs ∧ SqL K H1 b ys ∧ R (ItzM K a b) H1) ∨ (SqT K H1 a xs ∧ SqT K H1 b ys ∧ R (RZ.ItzT K a b) H1))
theorem pi_zipM {X : Cx} {e e2 : Expr} {ta : TA} {p pos tpos : Pos} {elts : List Expr} {kk : Nat} (hg : Gl X "zip") (hm : X.mg "zip" = none) (ha : PA X [e, e2] ta) (hs : starEach [e, e2] X.env = (false, eval e X.env) :: starEach [e2] X.env := by rfl)
    (hpl : (backTo pos (starEach [e2] X.env)).any (·.1) = false := by rfl) : PI X (.Tuple elts kk tpos) (.Call (.Name "zip" p) [e, e2] [] pos) (iZipM X.K ta) := by
  constructor
  intro pn st sg HH R inv h
  have args := ha.run pos pn st sg HH _ inv h
  refine Call_ (ld_blt inv hg hm boot_zip (callWith_type1 (thn args fun us s1 ⟨ws, H1, J, rel, a, b, xs, ys, ew, q⟩ => ?_) hs hpl))
  subst ew
  obtain ⟨u1, u2, rfl, ra, rb⟩ := Vals.two rel
  cases ra
  cases rb
  have young : ∀ c ∈ [s1.heap.objs.size + 4, s1.heap.objs.size + 2, s1.heap.objs.size + 3, s1.heap.objs.size, s1.heap.objs.size + 1], FpOk X pn H1 c := fun c hc => by
    have up : (s1.heap.objs.size : Nat) ≤ c := by
      rcases five hc with q | q | q | q | q <;> rw [q]
      · exact Nat.le_add_right _ 4
      · exact Nat.le_add_right _ 2
      · exact Nat.le_add_right _ 3
      · exact Nat.le_refl _
      · exact Nat.le_add_right _ 1
    exact J.fpOk up (J.hok.fresh up)
  rcases q with ⟨sx, sy, q⟩ | ⟨sx, sy, q⟩
  · obtain ⟨vx, _, px, _⟩ := J.tuple sx
    obtain ⟨vy, _, py, _⟩ := J.list sy
    have la : a < s1.heap.objs.size := px.lt
    refine zip_begins2 (begins_tuple a vx.toArray) (begins_list b vy.toArray) px py.isList fun h' hz hI hO f g _ kept => wpAny_pyIter_zip hz ?_
    refine ⟨s1.heap.objs.size + 4, _, _, _, H1, rfl, J.kept (t' := s1.toks) kept, turn_zipM (PySem.W.ktu_apart s1.heap.objs.size a b la py.lt), ?_, young, q⟩
    exact ⟨hz, hI, ⟨_, _, hO⟩, ⟨_, f, rfl, rfl⟩, ⟨_, g, rfl, rfl⟩⟩
  · obtain ⟨vx, _, px, _⟩ := J.tuple sx
    obtain ⟨vy, _, py, _⟩ := J.tuple sy
    refine RZ.call_zipT (show s1.heap.IsTuple a vx.toArray from px) (show s1.heap.IsTuple b vy.toArray from py) fun h' hz hI hO f g _ kept => wpAny_pyIter_zip hz ?_
    exact ⟨s1.heap.objs.size + 4, _, _, _, H1, rfl, J.kept (t' := s1.toks) kept, RZ.turn_zipT (PySem.W.ktu_apart s1.heap.objs.size a b px.lt py.lt), ⟨hz, hI, ⟨_, _, hO⟩, f, g⟩, young, q⟩
theorem pi_zipMK {X : Cx} {K : PySem.W.Frag} {e e2 : Expr} {ta : TA} {p pos tpos : Pos} {elts : List Expr} {kk : Nat} (hg : Gl X "zip") (hm : X.mg "zip" = none) (ha : PA X [e, e2] ta)
    (hs : starEach [e, e2] X.env = (false, eval e X.env) :: starEach [e2] X.env := by rfl) (hpl : (backTo pos (starEach [e2] X.env)).any (·.1) = false := by rfl) (hK : X.K = K := by rfl) :
    PI X (.Tuple elts kk tpos) (.Call (.Name "zip" p) [e, e2] [] pos) (iZipM K ta) := hK ▸ pi_zipM hg hm ha hs hpl
theorem walk_zipM {K : PySem.W.Frag} {a b : Addr} {xs ys : List V} {n : Nat} (l1 : xs.length = n) (l2 : ys.length = n) : Walk (ItzM K a b) n (fun H => SqT K H a xs ∧ SqL K H b ys) (YPair (fun i => xs[i]?) (fun i => ys[i]?)) where
  goes := fun i _ hi ⟨sx, sy⟩ => ⟨xs, ys, xs[i]'(by omega), ys[i]'(by omega), sx, sy, List.getElem?_eq_getElem _, List.getElem?_eq_getElem _⟩
  stops := fun _ ⟨sx, sy⟩ => ⟨xs, ys, sx, sy, Nat.le_of_eq l1.symm, Nat.le_of_eq l2.symm, .inl l1.symm⟩
  yields := fun _ _ _ _ _ ⟨sx, sy⟩ ⟨T, x, y, e, new, eH, fx, fy⟩ => ⟨T, x, y, e, new, eH, fx xs sx, fy ys sy⟩
theorem rd_same {H H' : Hp} {c : Addr} {u : HO} (s : Same H H') (h : Rd H c u) : Rd H' c u := h.imp (s _ _) fun ⟨o, e⟩ => ⟨o, s _ _ e⟩
/-- a sequence that is there, of whichever kind -/
def SqO (H : Hp) (a : Addr) (xs : List V) : Prop := H a = some (.lst xs) ∨ Rd H a (.tup xs)
theorem SqO.same {H H' : Hp} {a : Addr} {xs : List V} (h : SqO H a xs) (s : Same H H') : SqO H' a xs := h.imp (s _ _) (rd_same s)
/-! ### tuples that are made new -/
def rTupN (K : PySem.W.Frag) : List V → Hp → VK → Prop := fun xs H Q => ∃ p ys, xs = [.ref p] ∧ SqL K H p ys ∧ ∀ l o, H l = none → o.dict = none → Q (.ref l) (upd H l (.frz o (.tup ys)))
section
variable {X : Cx}
theorem tup_new : CallR X (.type "tuple") (rTupN X.K) := by
  intro pn st sg HH args avs QQ inv rel ⟨c, ys, ea, hseq, hQ⟩
  subst ea
  obtain ⟨_, rfl, ra⟩ := vals1 rel
  cases ra
  obtain ⟨us, ru, pl, small⟩ := inv.list hseq
  refine call_tuple_list pl.isList ?_ (by have := ru.length; simp only [List.size_toArray]; omega)
  intro h1 kept
  have J := inv.kept (t' := st.toks) kept
  have ob : ObjOk X.prog X.w (upd HH h1.objs.size (.frz { cls := .type "tuple", data := .seq us.toArray } (.tup ys))) (h1.push { cls := .type "tuple", data := .seq us.toArray }) h1.objs.size (.frz { cls := .type "tuple", data := .seq us.toArray } (.tup ys)) :=
    ⟨Heap.get?_push_size _ rfl, small, us, ru, IsTup.new _ _⟩
  exact ⟨.ref h1.objs.size, _, J.laid (t' := st.toks) (fun c o ec => Heap.get?_push_of_some _ ec) (Nat.le_refl _) ob, rfl, hQ _ _ (J.hok.fresh (Nat.le_refl _)) rfl⟩
theorem tup_newK {K : PySem.W.Frag} (hK : X.K = K := by rfl) : CallR X (.type "tuple") (rTupN K) := hK ▸ tup_new
/-- o.m(..), o a tuple that was made new -/
def tBN (r : V → List V → Hp → VK → Prop) (to : TE) (t : TA) : TE := fun σ H Q => to σ H fun x H1 => (∃ c o xs, x = .ref c ∧ H1 c = some (.frz o (.tup xs)) ∧ o.dict = none) ∧ t σ H1 fun vs H2 => r x vs H2 Q
variable {o e : Expr} {es : List Expr} {to : TE} {t : TA} {name : Str} {apos cpos : Pos} {id : String} {r : V → List V → Hp → VK → Prop}
theorem pe_bmN (pa : PlainAttrs "tuple") (slot : Slot "tuple" name id) (hty : typeOf (.builtin id) = pure (.type "method_descriptor")) (hm : MtR X id r) (ho : PE X o to) (ha : PA X (e :: es) t)
    (hbase : attributeBase o name X.env (eval o X.env) = eval o X.env := by rfl) (hfew : ((backTo cpos (starEach (e :: es) X.env)).all (fun x => !x.1) && (backToKw cpos (keywordEach [] X.env)).all (fun x => x.1.isSome) && decide ((e :: es).length + ([] : List Keyword).length + (if ([] : List Keyword).isEmpty then 0 else 1) < 30)) = true := by rfl)
    (hline : (apos.endLine == cpos.line) = true := by rfl)
    (hs : starEach (e :: es) X.env = (false, eval e X.env) :: starEach es X.env := by rfl)
    (hplain : (backTo cpos (starEach es X.env)).any (·.1) = false := by rfl) : PE X (.Call (.Attribute o name apos) (e :: es) [] cpos) (tBN r to t) := by
  constructor
  intro pn st sg HH QQ inv h
  refine wpAny_Call_method_late hbase hfew hline rfl (thn (ho.run pn st sg HH _ inv h) ?_)
  rintro v s1 ⟨x, H1, J, rv, ⟨c, ob, xs, rfl, eo, ed⟩, q⟩
  cases rv
  obtain ⟨here, _, us, _, o2, ho2, hc2, _⟩ := (show ObjOk X.prog X.w H1 s1.heap c (.frz ob (.tup xs)) from J.hok c _ eo)
  refine ⟨"tuple", id, pa, slot, hty, ⟨o2, ho2, hc2⟩, (fun a ea => ?_), ?_⟩
  · cases ea
    exact ⟨ob, here, ed⟩
  have run := ha.run cpos pn s1 sg H1 _ J q
  rw [hs] at run ⊢
  refine Calls.callWith_builtin ?_ (Calls.evalArgs_plain ?_)
  · exact (Bool.false_or _).trans hplain
  · exact thn run fun us2 s2 ⟨ws, H2, J2, rel, q2⟩ => hm pn s2 sg H2 (.ref c) ws _ us2 QQ J2 rfl rel q2
end
end WU

set_option maxRecDepth 100000
set_option maxHeartbeats 8000000
namespace WU
open PySem PySem.Spec PyProof.Rows L2
/-! ### lists that are built turn by turn -/
theorem paired_mono {α β : Type} {F G : α → β → Prop} (f : ∀ a b, F a b → G a b) : ∀ {l : List α} {m : List β}, Paired F l m → Paired G l m
  | _, _, .nil => .nil
  | _, _, .cons h t => .cons (f _ _ h) (paired_mono f t)
theorem paired_len {α β : Type} {F : α → β → Prop} : ∀ {l : List α} {m : List β}, Paired F l m → l.length = m.length
  | _, _, .nil => rfl
  | _, _, .cons _ t => congrArg Nat.succ (paired_len t)
theorem paired_at {α β : Type} {F : α → β → Prop} : ∀ {l : List α} {m : List β} {i : Nat} {x : α}, Paired F l m → l[i]? = some x → ∃ y, m[i]? = some y ∧ F x y
  | _, _, _, _, .nil, e => by cases e
  | _, _, 0, _, .cons h _, e => by
    cases e
    exact ⟨_, rfl, h⟩
  | _, _, i + 1, _, .cons _ t, e => paired_at (i := i) t e
theorem paired_of {α β : Type} {F : α → β → Prop} : ∀ {l : List α} {m : List β} {i : Nat} {y : β}, Paired F l m → m[i]? = some y → ∃ x, l[i]? = some x ∧ F x y
  | _, _, _, _, .nil, e => by cases e
  | _, _, 0, _, .cons h _, e => by
    cases e
    exact ⟨_, rfl, h⟩
  | _, _, i + 1, _, .cons _ t, e => paired_of (i := i) t e
theorem paired_app {α β : Type} {F : α → β → Prop} : ∀ {l l' : List α} {m m' : List β}, Paired F l m → Paired F l' m' → Paired F (l ++ l') (m ++ m')
  | _, _, _, _, .nil, t => t
  | _, _, _, _, .cons h s, t => .cons h (paired_app s t)
theorem paired_take {α β : Type} {F : α → β → Prop} : ∀ {l : List α} {m : List β} (k : Nat), Paired F l m → Paired F (l.take k) (m.take k)
  | _, _, _, .nil => by rw [List.take_nil, List.take_nil]; exact .nil
  | _, _, 0, _ => .nil
  | _, _, k + 1, .cons h t => .cons h (paired_take k t)
theorem paired_drop {α β : Type} {F : α → β → Prop} : ∀ {l : List α} {m : List β} (k : Nat), Paired F l m → Paired F (l.drop k) (m.drop k)
  | _, _, _, .nil => by rw [List.drop_nil, List.drop_nil]; exact .nil
  | _, _, 0, h => h
  | _, _, k + 1, .cons _ t => paired_drop k t
/-- the relation stays where all but one other object stays -/
def Stab {α : Type} (F : Hp → V → α → Prop) : Prop := ∀ (D : Addr) (H H' : Hp) (y : V) (z : α), (∀ b o, b ≠ D → H b = some o → H' b = some o) → y ≠ .ref D → F H y z → F H' y z
theorem Stab.same {α : Type} {F : Hp → V → α → Prop} (st : Stab F) {H H' : Hp} {y : V} {z : α} (s : Same H H') {p : Addr} (n : y ≠ .ref p) (f : F H y z) : F H' y z := st p H H' y z (fun b o _ e => s b o e) n f
structure Bld {α : Type} (F : Hp → V → α → Prop) (H1 : Hp) (D : Addr) (zs : List α) (H : Hp) : Prop where
  same : Same H1 H
  ex : ∃ ys, H D = some (.lst ys) ∧ Paired (fun y z => F H y z ∧ y ≠ .ref D) ys zs
section
variable {α : Type} {F : Hp → V → α → Prop} {H1 H H' : Hp} {D : Addr} {zs : List α}
theorem Bld.start (hD : H1 D = none) : Bld F H1 D [] (upd H1 D (.lst [])) := ⟨same_new hD, [], upd_same, .nil⟩
theorem Bld.skip (b : Bld F H1 D zs H) (st : Stab F) (s : Same H H') : Bld F H1 D zs H' := by
  obtain ⟨s1, ys, e, p⟩ := b
  exact ⟨s1.trans s, ys, s _ _ e, paired_mono (fun y z q => ⟨st.same s q.2 q.1, q.2⟩) p⟩
theorem Bld.put {y : V} {z : α} (b : Bld F H1 D zs H) (st : Stab F) (hD : H1 D = none) (s : Same H H') (f : F H' y z) (ny : y ≠ .ref D) (hl : zs.length < sizeLine) :
    ∃ acc, H' D = some (.lst acc) ∧ acc.length < sizeLine ∧ Bld F H1 D (zs ++ [z]) (upd H' D (.lst (acc ++ [y]))) := by
  obtain ⟨s1, ys, e, p⟩ := b.skip st s
  refine ⟨ys, e, by rw [paired_len p]; exact hl, fun b o h => ?_, ys ++ [y], upd_same, ?_⟩
  · rw [upd_ne (ne_of_none h hD)]
    exact s1 _ _ h
  · have k : ∀ b o, b ≠ D → H' b = some o → upd H' D (.lst (ys ++ [y])) b = some o := fun b o n h => by rw [upd_ne n]; exact h
    exact paired_app (paired_mono (fun y z q => ⟨st D _ _ _ _ k q.2 q.1, q.2⟩) p) (.cons ⟨st D _ _ _ _ k ny f, ny⟩ .nil)
theorem Bld.fin (b : Bld F H1 D zs H) : Same H1 H ∧ ∃ ys, H D = some (.lst ys) ∧ Paired (F H) ys zs := by
  obtain ⟨s1, ys, e, p⟩ := b
  exact ⟨s1, ys, e, paired_mono (fun _ _ q => q.1) p⟩
end
/-- numbers as they are -/
def FI : Hp → V → Int → Prop := fun _ y z => y = .int z
theorem stab_FI : Stab FI := fun _ _ _ _ _ _ _ f => f
def FB : Hp → V → Bool → Prop := fun _ y z => y = .bl z
theorem stab_FB : Stab FB := fun _ _ _ _ _ _ _ f => f
theorem fi_map {H : Hp} : ∀ {ys : List V} {zs : List Int}, Paired (FI H) ys zs → ys = zs.map V.int
  | _, _, .nil => rfl
  | _, _, .cons h t => by
    rw [List.map_cons, fi_map t]
    congr 1
theorem fb_map {H : Hp} : ∀ {ys : List V} {zs : List Bool}, Paired (FB H) ys zs → ys = zs.map V.bl
  | _, _, .nil => rfl
  | _, _, .cons h t => by
    rw [List.map_cons, fb_map t]
    congr 1
/-- a row: a tuple of ints that is there -/
def FT : Hp → V → List Int → Prop := fun H y z => ∃ c, y = .ref c ∧ Rd H c (.tup (z.map V.int))
theorem sqT {K : PySem.W.Frag} {H : Hp} {c : Addr} {xs : List V} (h : Rd H c (.tup xs)) : SqT K H c xs := .inl h
theorem stab_FT : Stab FT := fun D H H' y z k n ⟨c, e, h⟩ => ⟨c, e, h.imp (k _ _ (fun q => n (by rw [e, q]))) fun ⟨o, h⟩ => ⟨o, k _ _ (fun q => n (by rw [e, q])) h⟩⟩
theorem FT.same {H H' : Hp} {y : V} {z : List Int} (h : FT H y z) (s : Same H H') : FT H' y z := by
  obtain ⟨c, e, h⟩ := h
  exact ⟨c, e, rd_same s h⟩
theorem rd_ne {H : Hp} {c D : Addr} {u : HO} (h : Rd H c u) (n : H D = none) : c ≠ D := by
  intro q
  subst q
  rcases h with h | ⟨o, h⟩ <;> rw [h] at n <;> cases n
theorem rd_neL {H : Hp} {c D : Addr} {xs ys : List V} (h : Rd H c (.tup ys)) (n : H D = some (.lst xs)) : c ≠ D := by
  intro q
  subst q
  rcases h with h | ⟨o, h⟩ <;> rw [h] at n <;> cases n
theorem FT.ne {H : Hp} {y : V} {z : List Int} {D : Addr} (h : FT H y z) (n : H D = none) : y ≠ .ref D := by
  obtain ⟨c, rfl, h⟩ := h
  exact fun q => rd_ne h n (V.ref.inj q)
theorem FT.neL {H : Hp} {y : V} {z : List Int} {D : Addr} {xs : List V} (h : FT H y z) (n : H D = some (.lst xs)) : y ≠ .ref D := by
  obtain ⟨c, rfl, h⟩ := h
  exact fun q => rd_neL h n (V.ref.inj q)
theorem FT.new {H : Hp} {p : Addr} {z : List Int} : FT (upd H p (.tup (z.map V.int))) (.ref p) z := ⟨p, rfl, .inl upd_same⟩
/-- a row that was made new: a tuple without a dict -/
def FN : Hp → V → List Int → Prop := fun H y z => ∃ c o, y = .ref c ∧ H c = some (.frz o (.tup (z.map V.int))) ∧ o.dict = none
theorem FN.ft {H : Hp} {y : V} {z : List Int} (h : FN H y z) : FT H y z := by
  obtain ⟨c, o, e, h, _⟩ := h
  exact ⟨c, e, .inr ⟨o, h⟩⟩
theorem stab_FN : Stab FN := fun D H H' y z k n ⟨c, o, e, h, d⟩ => ⟨c, o, e, k _ _ (fun q => n (by rw [e, q])) h, d⟩
theorem FN.same {H H' : Hp} {y : V} {z : List Int} (h : FN H y z) (s : Same H H') : FN H' y z := by
  obtain ⟨c, o, e, h, d⟩ := h
  exact ⟨c, o, e, s _ _ h, d⟩
theorem FN.new {H : Hp} {p : Addr} {o : Obj} {z : List Int} (d : o.dict = none) : FN (upd H p (.frz o (.tup (z.map V.int)))) (.ref p) z := ⟨p, o, rfl, upd_same, d⟩
/-- what is told of rows: as tuples, or as tuples that were made new -/
structure Good (F : Hp → V → List Int → Prop) : Prop where
  stab : Stab F
  same : ∀ {H H' y z}, F H y z → Same H H' → F H' y z
  ofN : ∀ {H y z}, FN H y z → F H y z
  toT : ∀ {H y z}, F H y z → FT H y z
theorem good_T : Good FT := ⟨stab_FT, FT.same, FN.ft, id⟩
theorem good_N : Good FN := ⟨stab_FN, FN.same, id, FN.ft⟩
/-- a tuple of rows -/
def MT (H : Hp) (v : V) (rows : List (List Int)) : Prop := ∃ a ts, v = .ref a ∧ H a = some (.tup ts) ∧ Paired (FT H) ts rows
theorem MT.same {H H' : Hp} {v : V} {rows : List (List Int)} (h : MT H v rows) (s : Same H H') : MT H' v rows := by
  obtain ⟨a, ts, e, h, p⟩ := h
  exact ⟨a, ts, e, s _ _ h, paired_mono (fun _ _ q => q.same s) p⟩
/-- a row as a plain tuple -/
def FQ : Hp → V → List Int → Prop := fun H y z => ∃ c, y = .ref c ∧ H c = some (.tup (z.map V.int))
theorem stab_FQ : Stab FQ := fun D H H' y z k n ⟨c, e, h⟩ => ⟨c, e, k _ _ (fun q => n (by rw [e, q])) h⟩
theorem FQ.same {H H' : Hp} {y : V} {z : List Int} (h : FQ H y z) (s : Same H H') : FQ H' y z := by
  obtain ⟨c, e, h⟩ := h
  exact ⟨c, e, s _ _ h⟩
theorem FQ.ft {H : Hp} {y : V} {z : List Int} (h : FQ H y z) : FT H y z := by
  obtain ⟨c, e, h⟩ := h
  exact ⟨c, e, .inl h⟩
theorem FQ.ne {H : Hp} {y : V} {z : List Int} {D : Addr} (h : FQ H y z) (n : H D = none) : y ≠ .ref D := h.ft.ne n
theorem FQ.neL {H : Hp} {y : V} {z : List Int} {D : Addr} {xs : List V} (h : FQ H y z) (n : H D = some (.lst xs)) : y ≠ .ref D := h.ft.neL n
theorem FQ.new {H : Hp} {p : Addr} {z : List Int} : FQ (upd H p (.tup (z.map V.int))) (.ref p) z := ⟨p, rfl, upd_same⟩
def MQ (H : Hp) (v : V) (rows : List (List Int)) : Prop := ∃ a ts, v = .ref a ∧ H a = some (.tup ts) ∧ Paired (FQ H) ts rows
theorem MQ.same {H H' : Hp} {v : V} {rows : List (List Int)} (h : MQ H v rows) (s : Same H H') : MQ H' v rows := by
  obtain ⟨a, ts, e, h, p⟩ := h
  exact ⟨a, ts, e, s _ _ h, paired_mono (fun _ _ q => q.same s) p⟩
theorem MQ.mt {H : Hp} {v : V} {rows : List (List Int)} (h : MQ H v rows) : MT H v rows := by
  obtain ⟨a, ts, e, h, p⟩ := h
  exact ⟨a, ts, e, h, paired_mono (fun _ _ q => q.ft) p⟩
/-- a tuple of rows that were made new -/
def MN (H : Hp) (v : V) (rows : List (List Int)) : Prop := ∃ a ts, v = .ref a ∧ H a = some (.tup ts) ∧ Paired (FN H) ts rows
theorem MN.same {H H' : Hp} {v : V} {rows : List (List Int)} (h : MN H v rows) (s : Same H H') : MN H' v rows := by
  obtain ⟨a, ts, e, h, p⟩ := h
  exact ⟨a, ts, e, s _ _ h, paired_mono (fun _ _ q => q.same s) p⟩
theorem MN.mt {H : Hp} {v : V} {rows : List (List Int)} (h : MN H v rows) : MT H v rows := by
  obtain ⟨a, ts, e, h, p⟩ := h
  exact ⟨a, ts, e, h, paired_mono (fun _ _ q => q.ft) p⟩
/-! ### as data -/
def rowP (r : List Int) : PyData := .tuple (r.map PyData.int)
def MD (rows : List (List Int)) : PyData := .tuple (rows.map rowP)
theorem FT.dp {K : PySem.W.Frag} {H : Hp} {y : V} {z : List Int} (h : FT H y z) : Dp K H y (rowP z) := by
  obtain ⟨c, rfl, h⟩ := h
  exact .tup (sqT h) (dps_ints z)
theorem fts_dp {K : PySem.W.Frag} {H : Hp} : ∀ {ys : List V} {zs : List (List Int)}, Paired (FT H) ys zs → DpAll K H ys (zs.map rowP)
  | _, _, .nil => .nil
  | _, _, .cons h t => .cons h.dp (fts_dp t)
theorem MT.dp {K : PySem.W.Frag} {H : Hp} {v : V} {rows : List (List Int)} (h : MT H v rows) : Dp K H v (MD rows) := by
  obtain ⟨a, ts, rfl, h, p⟩ := h
  exact .tup (SqT.of h) (fts_dp p)
def rowD (p n : Int) : PyData → Bool
  | .tuple ds => letsD p n (.tuple ds)
  | _ => false
def matD (p n : Int) : PyData → Bool
  | .tuple ds => ds.all (rowD p n)
  | _ => false
def membs : PyData → List PyData
  | .tuple ds => ds
  | .list ds => ds
  | _ => []
def widD : PyData → Int
  | .tuple (.tuple ds :: _) => ds.length
  | _ => 0
def smallM (d : PyData) : Prop := smallD d ∧ ∀ r ∈ membs d, smallD r
theorem row_lets {p : Int} {n : Nat} {r : List Int} : rowD p n (rowP r) = true ↔ Ltr p n r := by
  show (decide (((r.map PyData.int).length : Int) = (n : Int)) && (r.map PyData.int).all (belD p)) = true ↔ _
  rw [Bool.and_eq_true, List.length_map, List.all_map, List.all_eq_true]
  constructor
  · rintro ⟨h1, h2⟩
    refine ⟨by have := of_decide_eq_true h1; omega, fun i hi => ?_⟩
    have := h2 i hi
    have e : (decide (0 ≤ i) && decide (i < p)) = true := this
    obtain ⟨a, b⟩ := and2 e
    exact ⟨of_decide_eq_true a, of_decide_eq_true b⟩
  · rintro ⟨h1, h2⟩
    refine ⟨decide_eq_true (by omega), fun i hi => ?_⟩
    obtain ⟨a, b⟩ := h2 i hi
    show (decide (0 ≤ i) && decide (i < p)) = true
    rw [decide_eq_true a, decide_eq_true b]
    rfl
theorem mat_rows {p : Int} {n : Nat} {rows : List (List Int)} (h : ∀ r ∈ rows, Ltr p n r) : matD p n (MD rows) = true := by
  show (rows.map rowP).all (rowD p n) = true
  rw [List.all_map, List.all_eq_true]
  exact fun r hr => row_lets.mpr (h r hr)
theorem wid_rows {p : Int} {n : Nat} {rows : List (List Int)} (h : ∀ r ∈ rows, Ltr p n r) : matD p (widD (MD rows)) (MD rows) = true := by
  cases rows with
  | nil => rfl
  | cons r t =>
    have : widD (MD (r :: t)) = (n : Int) := by
      show (((r.map PyData.int).length : Nat) : Int) = _
      rw [List.length_map, (h r (List.mem_cons_self)).1]
    rw [this]
    exact mat_rows h
theorem small_rows {p : Int} {n : Nat} {rows : List (List Int)} (h : ∀ r ∈ rows, Ltr p n r) (hn : n ≤ 200) (hm : rows.length ≤ 200) : smallM (MD rows) := by
  refine ⟨by show (rows.map rowP).length ≤ 200; rw [List.length_map]; exact hm, fun r hr => ?_⟩
  obtain ⟨t, ht, rfl⟩ := List.mem_map.mp (show r ∈ rows.map rowP from hr)
  show (t.map PyData.int).length ≤ 200
  rw [List.length_map, (h t ht).1]
  exact hn
end WU

set_option maxRecDepth 100000
set_option maxHeartbeats 8000000
namespace WU
open PySem PySem.Spec PyProof.Rows L2
structure Blt4 (mg : Str → Option Value) : Prop extends Blt3 mg where
  any : mg "any" = none
  zip : mg "zip" = none
  max : mg "max" = none
  min : mg "min" = none
section
variable {P : Program} {w : World} {K : PySem.W.Frag} {mg : Str → Option Value} {base : Heap} {S : Addr}
def isTup : PyData → Bool
  | .tuple _ => true
  | _ => false
theorem kit_tup {d : PyData} (nd : ∀ kvs, d ≠ .dict kvs) : PySem.W.kitOne K (.type (tyName d)) (.type "tuple") = some (isTup d) := by
  cases d with
  | none => exact kit_ty (show kitB "NoneType" "tuple" = some false by decide +kernel)
  | bool b => exact kit_ty (show kitB "bool" "tuple" = some false by decide +kernel)
  | int i => exact kit_ty (show kitB "int" "tuple" = some false by decide +kernel)
  | str x => exact kit_ty (show kitB "str" "tuple" = some false by decide +kernel)
  | list xs => exact kit_ty (show kitB "list" "tuple" = some false by decide +kernel)
  | tuple xs => exact kit_ty (show kitB "tuple" "tuple" = some true by decide +kernel)
  | dict kvs => exact absurd rfl (nd kvs)
def spRow (K : PySem.W.Frag) : Sp := fun vs H Q _ => ∃ (p n : Int) (v : V) (d : PyData), vs = [v, .int p, .int n] ∧ Dp K H v d ∧ smallD d ∧ ∀ H', Same H H' → Q (.bl (rowD p n d)) H'
theorem scRow : FnScope ["value", "p", "columns"] ["value", "p", "columns"] (defScope s_is_row) := ⟨rfl, rfl, rfl, by decide +kernel, rfl, by decide +kernel, by decide +kernel⟩
theorem ok_row {f f1 : Addr} {fd fd1 : FuncData} (F : FnS K "_is_row" s_is_row f fd) (B : Blt4 mg) (CL : Cal P w K mg base 4 "are_letters" f1 fd1 ["p", "count", "value"] (spLets K)) : FnOk P w K mg base (L2.CX P w) 5 f fd ["value", "p", "columns"] (spRow K) := by
  refine F.ok scRow (fun vs H Q E h => ?_) (fun cdv A outer s H vs Q E hr h => ?_)
  · obtain ⟨p, n, v, d, rfl, _⟩ := h
    rfl
  · obtain ⟨p, n, v, d, rfl, hd, hz, k⟩ := h
    refine ⟨_, (pss_one (ps_ret (pe_and (pe_callB call_isi (by rfl) B.isi (by decide +kernel) (pa_cons (pv 0) (pa_cons (pe_bltn (v := .ty "tuple") (by rfl) B.tuple (by decide +kernel) rfl) pa_nil))) (pe_one (pe_cal CL hr (pa_cons (pv 1) (pa_cons (pv 2) (pa_cons (pv 0) pa_nil))) passU))))), ?_⟩
    refine ⟨_, rfl, _, _, _, _, _, rfl, .ty "tuple", dp_ty hd, kit_tup (dp_nodict hd), _, rfl, ?_⟩
    cases hi : isTup d with
    | false =>
      refine iteF ?_
      have := k H (Same.refl H)
      cases d <;> first | exact this | cases hi
    | true =>
      refine iteT ⟨_, rfl, _, rfl, _, rfl, p, n, v, d, rfl, hd, hz, fun H' s1 => ?_⟩
      have := k H' s1
      cases d <;> first | exact this | cases hi
def spMat (K : PySem.W.Frag) : Sp := fun vs H Q _ => ∃ (p n : Int) (v : V) (d : PyData), vs = [v, .int p, .int n] ∧ Dp K H v d ∧ smallM d ∧ ∀ H', Same H H' → Q (.bl (matD p n d)) H'
theorem scMat : FnScope ["value", "p", "columns", "row"] ["value", "p", "columns"] (defScope s_is_matrix) := ⟨rfl, rfl, rfl, by decide +kernel, rfl, by decide +kernel, by decide +kernel⟩
theorem ok_mat {f f1 : Addr} {fd fd1 : FuncData} (F : FnS K "is_matrix" s_is_matrix f fd) (B : Blt4 mg) (CR : Cal P w K mg base 5 "_is_row" f1 fd1 ["value", "p", "columns"] (spRow K)) : FnOk P w K mg base (L2.CX P w) 6 f fd ["value", "p", "columns"] (spMat K) := by
  refine F.ok scMat (fun vs H Q E h => ?_) (fun cdv A outer s H vs Q E hr h => ?_)
  · obtain ⟨p, n, v, d, rfl, _⟩ := h
    rfl
  · obtain ⟨p, n, v, d, rfl, hd, hz, k⟩ := h
    have nd := scMat.nd
    refine ⟨_, (pss_one (ps_ret (pe_and (pe_callB call_isi (by rfl) B.isi (by decide +kernel) (pa_cons (pv 0) (pa_cons (pe_bltn (v := .ty "tuple") (by rfl) B.tuple (by decide +kernel) rfl) pa_nil))) (pe_one (pe_callB (cr_all rfl) (by rfl) B.all (by decide +kernel) (pa_cons (pe_lc (own := [("row", 3)]) (g := gName 3) (by rfl) nd (pi_tup (pv 0)) (blkOk_by (own := [("row", 3)]) (N := ["value", "p", "columns", "row"]) (sc := defScope s_is_matrix) (by decide +kernel)) (fun _ _ _ _ _ => (pg_name (i := 3) nd rfl (Or.inl rfl))) (fun _ _ _ _ _ => pts_nil) (fun _ _ _ _ _ => (pe_cal CR hr (pa_cons (pv 3) (pa_cons (pv 1) (pa_cons (pv 2) pa_nil))) passU))) pa_nil)))))), ?_⟩
    refine ⟨_, rfl, _, _, _, _, _, rfl, .ty "tuple", dp_ty hd, kit_tup (dp_nodict hd), _, rfl, ?_⟩
    cases hi : isTup d with
    | false =>
      refine iteF ?_
      have := k H (Same.refl H)
      cases d <;> first | exact this | cases hi
    | true =>
      refine iteT ?_
      cases hd with
      | tup hs ha =>
        rename_i a xs ds
        refine ⟨_, rfl, a, rfl, ⟨_, hs⟩, fun D hD => lc_tup (K := K) (a := a) (xs := xs) (fun i H' => Bld FB H D ((ds.take i).map (rowD p n)) H') (Bld.start hD) (fun i H' _ b => sqT_same hs b.same) ?_ ?_⟩
        · rintro i x H' hx b
          obtain ⟨e, he, hy⟩ := dps_at ha hx
          have hl : i < ds.length := (List.getElem?_eq_some_iff.mp he).1
          have hz1 : ds.length ≤ 200 := hz.1
          refine ⟨rfl, _, rfl, _, rfl, _, rfl, p, n, x, e, rfl, dp_same b.same hy, hz.2 e (List.mem_of_getElem? he), fun H2 s2 => ?_⟩
          have r := b.put (y := .bl (rowD p n e)) (z := rowD p n e) stab_FB hD s2 rfl (by intro z; cases z) (by rw [List.length_map, List.length_take]; exact small1000 (by omega))
          rw [List.take_succ, he, List.map_append]
          exact r
        · intro H' b
          obtain ⟨s1, ys, eD, py⟩ := b.fin
          rw [dps_len ha, List.take_length] at py
          have ey := fb_map py
          subst ey
          refine ⟨D, ds.map (rowD p n), rfl, SqL.of eD, ?_⟩
          have ea : (ds.map (rowD p n)).all id = ds.all (rowD p n) := by rw [List.all_map]; rfl
          rw [ea]
          exact k H' s1
      | _ => cases hi
def spWid (K : PySem.W.Frag) : Sp := fun vs H Q _ => ∃ (v : V) (d : PyData), vs = [v] ∧ Dp K H v d ∧ Q (.int (widD d)) H
theorem scWid : FnScope ["rows"] ["rows"] (defScope s_width_of_rows) := ⟨rfl, rfl, rfl, by decide +kernel, rfl, by decide +kernel, by decide +kernel⟩
theorem ok_wid {f : Addr} {fd : FuncData} (F : FnS K "width_of_rows" s_width_of_rows f fd) (B : Blt4 mg) : FnOk P w K mg base (L2.CX P w) 1 f fd ["rows"] (spWid K) := by
  refine F.ok scWid (fun vs H Q E h => ?_) (fun cdv A outer s H vs Q E hr h => ?_)
  · obtain ⟨v, d, rfl, _⟩ := h
    rfl
  · obtain ⟨v, d, rfl, hd, k⟩ := h
    refine ⟨_, (pss_cons (ps_if (PW.pt (pw_and (pt_val (pe_callB call_isi (by rfl) B.isi (by decide +kernel) (pa_cons (pv 0) (pa_cons (pe_bltn (v := .ty "tuple") (by rfl) B.tuple (by decide +kernel) rfl) pa_nil)))) (pw_and (pt_cmpR op_gt (pe_callB call_len_seq (by rfl) B.len (by decide +kernel) (pa_cons (pv 0) pa_nil)) pe_int (nomark _)) (pw_and1 (pt_val (pe_callB call_isi (by rfl) B.isi (by decide +kernel) (pa_cons (pe_ix ix_tup (pv 0) pe_int (fun _ _ => rfl)) (pa_cons (pe_bltn (v := .ty "tuple") (by rfl) B.tuple (by decide +kernel) rfl) pa_nil)))))))) (pss_one (ps_ret (pe_callB call_len_seq (by rfl) B.len (by decide +kernel) (pa_cons (pe_ix ix_tup (pv 0) pe_int (fun _ _ => rfl)) pa_nil)))) pss_nil)
      (pss_one (ps_ret pe_int))), ?_⟩
    refine ⟨_, rfl, _, _, _, _, _, rfl, .ty "tuple", dp_ty hd, kit_tup (dp_nodict hd), _, rfl, ?_⟩
    cases hd with
    | tup hs ha =>
      rename_i a xs ds
      refine iteT ⟨_, rfl, a, xs, rfl, .inr hs, _, _, rfl, rfl, _, rfl, ?_⟩
      cases ha with
      | nil => exact iteFb (decide_eq_false (by decide)) (iteF k)
      | cons h1 h2 =>
        rename_i x xs e ds
        refine iteTb (decide_eq_true (by show ((0 : Int) < ((x :: xs).length : Nat)); rw [List.length_cons]; omega)) ?_
        refine ⟨_, rfl, a, _, _, x, rfl, rfl, hs, atI_nat (j := 0) rfl, _, _, _, _, _, rfl, .ty "tuple", dp_ty h1, kit_tup (dp_nodict h1), _, rfl, ?_⟩
        cases h1 with
        | tup hs1 ha1 =>
          rename_i c ys es
          refine iteT ⟨_, rfl, a, _, _, _, rfl, rfl, hs, atI_nat (j := 0) rfl, c, ys, rfl, .inr hs1, ?_⟩
          rw [dps_len ha1]
          exact k
        | _ => exact iteF k
    | _ => exact iteF k
end
end WU

set_option maxRecDepth 100000
set_option maxHeartbeats 8000000
namespace WU
open PySem PySem.Spec PyProof.Rows L2
section
variable {P : Program} {w : World} {K : PySem.W.Frag} {mg : Str → Option Value} {base : Heap} {S : Addr}
theorem errs_same {C : Addr} {f : Str} {v : V} {H H' : Hp} {E : XK} (h : Errs C f v H E) (s : Same H H') : Errs C f v H' E := fun d H2 s2 n hd => h d H2 (s.trans s2) (s.free n) hd
/-- check_matrix(p, rows) -/
def spChk (K : PySem.W.Frag) : Sp := fun vs H Q E => ∃ (v u : V), vs = [v, u] ∧ Ty3 K H v ∧ (isFld v = false → Errs (He.ga K "InvalidNumber") "value" v H E) ∧
  ∀ p, v = .int p → isFld v = true → ∃ d, Dp K H u d ∧ smallM d ∧ (matD p (widD d) d = false → Errs (He.ga K "InvalidMatrix") "value" u H E) ∧ (matD p (widD d) d = true → ∀ H', Same H H' → Q .non H')
theorem scChk : FnScope ["p", "rows"] ["p", "rows"] (defScope s_check_matrix) := ⟨rfl, rfl, rfl, by decide +kernel, rfl, by decide +kernel, by decide +kernel⟩
theorem ok_chk {f f1 f2 f3 : Addr} {fd fd1 fd2 fd3 fdI : FuncData} (F : FnS K "check_matrix" s_check_matrix f fd) (CF : Cal P w K mg base 3 "check_field" f1 fd1 ["p"] (spCheck K)) (CM : Cal P w K mg base 6 "is_matrix" f2 fd2 ["value", "p", "columns"] (spMat K))
    (CW : Cal P w K mg base 1 "width_of_rows" f3 fd3 ["rows"] (spWid K)) (T : Exc1 K mg "InvalidMatrix" "value")
    (FI : FnOk P w K mg base (L2.CX P w) 1 (He.ma K (He.ga K "InvalidMatrix") "__init__") fdI ["self", "value"] (spInit1 K (He.ga K "InvalidMatrix") "value")) (bI : Binds K fdI ["self", "value"] []) :
    FnOk P w K mg base (L2.CX P w) 7 f fd ["p", "rows"] (spChk K) := by
  refine F.ok scChk (fun vs H Q E h => ?_) (fun cdv A outer s H vs Q E hr h => ?_)
  · obtain ⟨v, u, rfl, _⟩ := h
    rfl
  · obtain ⟨v, u, rfl, hv, kF, kk⟩ := h
    refine ⟨_, (pss_cons (ps_expr (pe_cal (E := E) CF (hr.mono (by decide)) (pa_cons (pv 0) pa_nil) (passes_call (takes_of rfl rfl rfl rfl) (fun _ _ _ _ h => h))))
      (pss_one (ps_if (pt_not (pt_val (pe_cal CM (hr.mono (by decide)) (pa_cons (pv 1) (pa_cons (pv 0) (pa_cons (pe_cal CW (hr.mono (by decide)) (pa_cons (pv 1) pa_nil) passU) pa_nil))) passU))) (pss_one (ps_raise1 rfl (takes_of rfl rfl rfl rfl) T FI bI (hr.mono (by decide)) (pa_cons (pv 1) pa_nil))) pss_nil))), ?_⟩
    refine ⟨_, rfl, v, rfl, hv, fun e => ?_, kF⟩
    cases v with
    | int p =>
      obtain ⟨d, hd, hz, kN, kY⟩ := kk p rfl e
      refine ⟨_, rfl, _, rfl, _, rfl, u, d, rfl, hd, p, widD d, u, d, rfl, hd, hz, fun H1 s1 => ⟨_, rfl, ?_⟩⟩
      cases em : matD p (widD d) d with
      | true => exact iteF (kY em H1 s1)
      | false => exact iteT ⟨_, rfl, u, rfl, errs_same (kN em) s1⟩
    | _ => cases e
/-- _less(p, row, factor, lead) -/
def spLess : Sp := fun vs H Q _ => ∃ (p f : Int) (n : Nat) (v u : V) (r l : List Int), vs = [.int p, v, .int f, u] ∧ FT H v r ∧ FT H u l ∧ p ∈ primes ∧ 0 ≤ f ∧ f < p ∧ r.length = n ∧ l.length = n ∧ n ≤ 200 ∧ (∀ x ∈ l, 0 ≤ x ∧ x < p) ∧
  ∀ y H', Same H H' → FN H' y (less p r f l) → Q y H'
theorem scLess : FnScope ["p", "row", "factor", "lead", "a", "b"] ["p", "row", "factor", "lead"] (defScope s_less) := ⟨rfl, rfl, rfl, by decide +kernel, rfl, by decide +kernel, by decide +kernel⟩
theorem walk_zipT {a b : Addr} {xs ys : List V} {n : Nat} (hn : n = min xs.length ys.length) : Walk (RZ.ItzT K a b) n (fun H => SqT K H a xs ∧ SqT K H b ys) (YPair (fun i => xs[i]?) (fun i => ys[i]?)) where
  goes := fun i _ hi ⟨sx, sy⟩ => ⟨xs, ys, xs[i]'(by omega), ys[i]'(by omega), sx, sy, List.getElem?_eq_getElem _, List.getElem?_eq_getElem _⟩
  stops := fun _ ⟨sx, sy⟩ => ⟨xs, ys, sx, sy, by omega⟩
  yields := fun _ _ _ _ _ ⟨sx, sy⟩ ⟨T, x, y, e, new, eH, fx, fy⟩ => ⟨T, x, y, e, new, eH, fx xs sx, fy ys sy⟩
theorem take_map_at (n : Nat) {r : List Int} {i : Nat} (hi : i < r.length) : (r.map V.int)[i]? = some (.int (at0 r i)) := by
  rw [List.getElem?_map, at0_some hi]
  rfl
theorem take_at0 {r : List Int} {i : Nat} (hi : i < r.length) : r.take (i + 1) = r.take i ++ [at0 r i] := by
  rw [List.take_succ, at0_some hi]
  rfl
theorem ok_less {f : Addr} {fd : FuncData} (F : FnS K "_less" s_less f fd) (B : Blt4 mg) : FnOk P w K mg base (L2.CX P w) 1 f fd ["p", "row", "factor", "lead"] spLess := by
  refine F.ok scLess (fun vs H Q E h => ?_) (fun cdv A outer s H vs Q E hr h => ?_)
  · obtain ⟨p, f, n, v, u, r, l, rfl, _⟩ := h
    rfl
  · obtain ⟨p, f, n, v, u, r, l, rfl, ⟨c, rfl, hc⟩, ⟨e, rfl, he⟩, hp, f0, f1, hr1, hl1, hn, hl2, k⟩ := h
    have nd := scLess.nd
    have hb := fld_le hp
    refine ⟨_, (pss_one (ps_ret (pe_callTy (tup_newK (K := K)) (by rfl) B.tuple (by decide +kernel) (pa_cons (pe_lc (own := [("a", 4), ("b", 5)]) (g := gTup K 2 (gCons (gName 4) (gCons (gName 5) gNil))) (by rfl) nd (RZ.pi_zipA (by rfl) B.zip (pa_cons (pv 1) (pa_cons (pv 3) pa_nil))) (blkOk_by (own := [("a", 4), ("b", 5)]) (N := ["p", "row", "factor", "lead", "a", "b"]) (sc := defScope s_less) (by decide +kernel)) (fun _ _ _ _ _ => (pg_tup rfl (pgs_cons (pg_name (i := 4) nd rfl (Or.inl rfl)) (pgs_cons (pg_name (i := 5) nd rfl (Or.inl rfl)) pgs_nil)))) (fun _ _ _ _ _ => pts_nil) (fun _ _ _ _ _ => (pe_op op_modN (pe_op op_sub (pv 4) (pe_op op_mul (pv 2) (pv 5))) (pv 0)))) pa_nil)))), ?_⟩
    refine ⟨_, rfl, _, rfl, c, e, _, _, rfl, .inr ⟨sqT hc, sqT he, fun D hD => lc_it (walk_zipT (xs := r.map V.int) (ys := l.map V.int) (n := n) (by rw [List.length_map, List.length_map]; omega)) (fun i H' => Bld FI H D ((less p r f l).take i) H')
      (Bld.start hD) (fun i H' _ b => ⟨sqT (rd_same b.same hc), sqT (rd_same b.same he)⟩) ?_ ?_⟩⟩
    · rintro i x H1 H2 hi b ⟨T, x1, x2, rfl, hT, rfl, g1, g2⟩
      cases (take_map_at n (r := r) (i := i) (by omega)).symm.trans g1
      cases (take_map_at n (r := l) (i := i) (by omega)).symm.trans g2
      have bl := hl2 (at0 l i) (by rw [at0_lt (by omega)]; exact List.getElem_mem _)
      refine ⟨T, _, rfl, SqT.of upd_same, rfl, _, _, rfl, _, _, rfl, rfl, rfl, ?_⟩
      refine ⟨_, rfl, _, rfl, _, rfl, _, _, rfl, rfl, .inl ⟨by omega, by omega⟩, _, _, rfl, rfl, _, rfl, _, p, rfl, rfl, by omega, ?_⟩
      have le : i < (less p r f l).length := by rw [less_len hr1 hl1]; exact hi
      rw [take_at0 le]
      exact b.put (y := .int ((at0 r i - f * at0 l i).fmod p)) (z := at0 (less p r f l) i) stab_FI hD (same_new hT) (by rw [less_at hr1 hl1 hi]; rfl) (by intro z; cases z) (by rw [List.length_take]; exact small1000 (by omega))
    · intro H1 b
      obtain ⟨s1, ys, eD, py⟩ := b.fin
      rw [List.take_of_length_le (by rw [less_len hr1 hl1]; exact Nat.le_refl _)] at py
      rw [fi_map py] at eD
      exact ⟨D, _, rfl, SqL.of eD, fun q o hq ho => k _ _ (s1.trans (same_new hq)) (FN.new ho)⟩
end
end WU

set_option maxRecDepth 100000
set_option maxHeartbeats 8000000
namespace WU
open PySem PySem.Spec PyProof.Rows L2
section
variable {P : Program} {w : World} {K : PySem.W.Frag} {mg : Str → Option Value} {base : Heap} {S : Addr}
/-- _led_by_one(p, row, column) -/
def spLed : Sp := fun vs H Q _ => ∃ (p : Int) (n j : Nat) (v : V) (r : List Int), vs = [.int p, v, .int j] ∧ FT H v r ∧ p ∈ primes ∧ Ltr p n r ∧ n ≤ 200 ∧ j < n ∧ hot j r = true ∧ ∀ y H', Same H H' → FN H' y (led p r j) → Q y H'
theorem scLed : FnScope ["p", "row", "column", "factor", "letter"] ["p", "row", "column"] (defScope s_led_by_one) := ⟨rfl, rfl, rfl, by decide +kernel, rfl, by decide +kernel, by decide +kernel⟩
theorem isBel_in {p a : Int} (h0 : 0 ≤ a) (h1 : a < p) : isBel p (.int a) = true := by
  show (decide (0 ≤ a) && decide (a < p)) = true
  rw [decide_eq_true h0, decide_eq_true h1]
  rfl
theorem ok_led {f f1 : Addr} {fd fd1 : FuncData} (F : FnS K "_led_by_one" s_led_by_one f fd) (B : Blt4 mg) (CI : Cal P w K mg base 4 "inverse_of" f1 fd1 ["p", "a"] (spInv K)) : FnOk P w K mg base (L2.CX P w) 5 f fd ["p", "row", "column"] spLed := by
  refine F.ok scLed (fun vs H Q E h => ?_) (fun cdv A outer s H vs Q E hr h => ?_)
  · obtain ⟨p, n, j, v, r, rfl, _⟩ := h
    rfl
  · obtain ⟨p, n, j, v, r, rfl, ⟨c, rfl, hc⟩, hp, hL, hn, hj, hh, k⟩ := h
    have nd := scLed.nd
    have hb := fld_le hp
    refine ⟨_, (pss_cons (ps_set (i := 3) nd rfl (Or.inr rfl) (pe_cal CI (hr.mono (by decide)) (pa_cons (pv 0) (pa_cons (pe_ix (ix_tupK (K := K)) (pv 1) (pv 2) (fun _ _ => rfl)) pa_nil)) passU))
      (pss_one (ps_ret (pe_callTy (tup_newK (K := K)) (by rfl) B.tuple (by decide +kernel) (pa_cons (pe_lc (own := [("letter", 4)]) (g := gName 4) (by rfl) nd (pi_tup (pv 1)) (blkOk_by (own := [("letter", 4)]) (N := ["p", "row", "column", "factor", "letter"]) (sc := defScope s_led_by_one) (by decide +kernel)) (fun _ _ _ _ _ => (pg_name (i := 4) nd rfl (Or.inl rfl))) (fun _ _ _ _ _ => pts_nil) (fun _ _ _ _ _ => (pe_op op_modN (pe_op op_mul (pv 3) (pv 4)) (pv 0)))) pa_nil))))), ?_⟩
    have hjl : j < r.length := by rw [hL.1]; exact hj
    have bj := hL.bd hj
    have z := hot_ne hh
    refine ⟨_, rfl, _, rfl, _, rfl, c, _, _, _, rfl, rfl, sqT hc, atI_nat (take_map_at n hjl), .int p, .int (at0 r j), rfl, ty3_int p, ty3_int _, (fun e => by rw [mem_fld hp] at e; cases e), ?_⟩
    intro p' ep _
    cases ep
    refine ⟨(fun e => by rw [isBel_in bj.1 bj.2] at e; cases e), (fun e => absurd (V.int.inj e) z), fun a ea a0 a1 H1 s1 => ?_⟩
    cases ea
    refine ⟨_, rfl, c, rfl, ⟨_, sqT (rd_same s1 hc)⟩, fun D hD => lc_tup (K := K) (a := c) (xs := r.map V.int) (fun i H' => Bld FI H1 D ((led p r j).take i) H') (Bld.start hD) (fun i H' _ b => sqT (rd_same b.same (rd_same s1 hc))) ?_ ?_⟩
    · intro i x H2 hx b
      have hi : i < r.length := by
        have := (List.getElem?_eq_some_iff.mp hx).1
        rw [List.length_map] at this
        exact this
      cases (take_map_at n hi).symm.trans hx
      have bi := hL.bd (k := i) (by rw [← hL.1]; exact hi)
      refine ⟨rfl, _, rfl, _, rfl, _, _, rfl, rfl, .inr ⟨by omega, by omega⟩, _, rfl, _, p, rfl, rfl, by omega, ?_⟩
      have le : i < (led p r j).length := by rw [led_len hL.1, ← hL.1]; exact hi
      rw [take_at0 le]
      exact b.put (y := .int ((inv p (at0 r j) * at0 r i).fmod p)) (z := at0 (led p r j) i) stab_FI hD (Same.refl _) (by rw [led_at hL.1 (by rw [← hL.1]; exact hi)]; rfl) (by intro z; cases z) (by rw [List.length_take]; exact small1000 (by rw [led_len hL.1] at le ⊢; omega))
    · intro H2 b
      obtain ⟨s2, ys, eD, py⟩ := b.fin
      rw [List.length_map, List.take_of_length_le (by rw [led_len hL.1, hL.1]; exact Nat.le_refl _)] at py
      rw [fi_map py] at eD
      exact ⟨D, _, rfl, SqL.of eD, fun q o hq ho => k _ _ (s1.trans (s2.trans (same_new hq))) (FN.new ho)⟩
theorem iteND {c : Prop} [Decidable c] {A B : Prop} (h1 : ¬ c → A) (h2 : c → B) : if (!decide c) = true then A else B := by
  by_cases h : c
  · rw [decide_eq_true h]
    exact iteF (h2 h)
  · rw [decide_eq_false h]
    exact iteT (h1 h)
/-- a list of rows -/
def LX (F : Hp → V → List Int → Prop) (H : Hp) (v : V) (rows : List (List Int)) : Prop := ∃ a ts, v = .ref a ∧ H a = some (.lst ts) ∧ Paired (F H) ts rows
abbrev LT := LX FT
abbrev LN := LX FN
theorem LX.same {F : Hp → V → List Int → Prop} (g : Good F) {H H' : Hp} {v : V} {rows : List (List Int)} (h : LX F H v rows) (s : Same H H') : LX F H' v rows := by
  obtain ⟨a, ts, e, h, p⟩ := h
  exact ⟨a, ts, e, s _ _ h, paired_mono (fun _ _ q => g.same q s) p⟩
/-- _cleared(p, rows, lead, column) -/
def spClr : Sp := fun vs H Q _ => ∃ (F : Hp → V → List Int → Prop) (p : Int) (n j : Nat) (v u : V) (rows : List (List Int)) (l : List Int), vs = [.int p, v, u, .int j] ∧ Good F ∧ LX F H v rows ∧ FT H u l ∧ p ∈ primes ∧ (∀ r ∈ rows, Ltr p n r) ∧ Ltr p n l ∧ n ≤ 200 ∧ rows.length ≤ 200 ∧ j < n ∧
  ∀ y H', Same H H' → LX F H' y (rows.map (clr p l j)) → Q y H'
theorem scClr : FnScope ["p", "rows", "lead", "column", "row"] ["p", "rows", "lead", "column"] (defScope s_cleared) := ⟨rfl, rfl, rfl, by decide +kernel, rfl, by decide +kernel, by decide +kernel⟩
theorem ok_clr {f f1 : Addr} {fd fd1 : FuncData} (F : FnS K "_cleared" s_cleared f fd) (CL : Cal P w K mg base 1 "_less" f1 fd1 ["p", "row", "factor", "lead"] spLess) : FnOk P w K mg base (L2.CX P w) 2 f fd ["p", "rows", "lead", "column"] spClr := by
  refine F.ok scClr (fun vs H Q E h => ?_) (fun cdv A outer s H vs Q E hr h => ?_)
  · obtain ⟨G, p, n, j, v, u, rows, l, rfl, _⟩ := h
    rfl
  · obtain ⟨G, p, n, j, v, u, rows, l, rfl, g, ⟨a, ts, rfl, ha, hts⟩, hu, hp, hR, hl, hn, hm, hj, k⟩ := h
    have nd := scClr.nd
    have hb := fld_le hp
    refine ⟨_, (pss_one (ps_ret (pe_lc (own := [("row", 4)]) (g := gName 4) (by rfl) nd (pi_list (pv 1)) (blkOk_by (own := [("row", 4)]) (N := ["p", "rows", "lead", "column", "row"]) (sc := defScope s_cleared) (by decide +kernel)) (fun _ _ _ _ _ => (pg_name (i := 4) nd rfl (Or.inl rfl))) (fun _ _ _ _ _ => pts_nil) (fun _ _ _ _ _ => (pe_ifExp (pt_cmpR op_ne (pe_ix (ix_tupK (K := K)) (pv 4) (pv 3) (fun _ _ => rfl)) pe_int (nomark _)) (pe_cal CL (hr.mono (by decide)) (pa_cons (pv 0) (pa_cons (pv 4) (pa_cons (pe_ix (ix_tupK (K := K)) (pv 4) (pv 3) (fun _ _ => rfl)) (pa_cons (pv 2) pa_nil)))) passU) (pv 4)))))), ?_⟩
    refine ⟨_, rfl, a, rfl, ⟨_, SqL.of ha⟩, fun D hD => lc_list (K := K) (a := a) (xs := ts) (fun i H' => Bld G H D ((rows.take i).map (clr p l j)) H') (Bld.start hD) (fun i H' _ b => SqL.of (b.same _ _ ha)) ?_ ?_⟩
    · intro i x H1 hx b
      obtain ⟨r, hr0, hxr⟩ := paired_at hts hx
      have hx0 := g.same hxr b.same
      have hx1 := g.toT hx0
      obtain ⟨c, rfl, hc⟩ := id hx1
      have hrL := hR r (List.mem_of_getElem? hr0)
      have hjl : j < r.length := by rw [hrL.1]; exact hj
      have et : (rows.take (i + 1)).map (clr p l j) = (rows.take i).map (clr p l j) ++ [clr p l j r] := by
        rw [List.take_succ, hr0, List.map_append]
        rfl
      have hlen : ((rows.take i).map (clr p l j)).length < sizeLine := by
        rw [List.length_map, List.length_take]
        exact small1000 (by omega)
      have bj := hrL.bd hj
      rw [et]
      refine ⟨rfl, _, rfl, _, rfl, c, _, _, _, rfl, rfl, sqT hc, atI_nat (take_map_at n hjl), rfl, _, rfl, ?_⟩
      refine iteND (fun hz => ?_) (fun hz => ?_)
      · have hz' : at0 r j ≠ 0 := fun z => hz (congrArg V.int z)
        refine ⟨_, rfl, _, rfl, _, rfl, _, rfl, c, _, _, _, rfl, rfl, sqT hc, atI_nat (take_map_at n hjl), _, rfl, p, at0 r j, n, .ref c, u, r, l, rfl, hx1, hu.same b.same, hp, bj.1, bj.2, hrL.1, hl.1, hn, hl.2, fun y H2 s2 hy => ?_⟩
        have e : clr p l j r = less p r (at0 r j) l := by unfold clr; rw [if_pos hz']
        rw [e]
        exact b.put g.stab hD s2 (g.ofN hy) (hy.ft.neL (s2 _ _ b.ex.choose_spec.1)) hlen
      · have hz' : at0 r j = 0 := V.int.inj hz
        have e : clr p l j r = r := by unfold clr; rw [if_neg (by simpa using hz')]
        rw [e]
        exact ⟨_, rfl, b.put g.stab hD (Same.refl _) hx0 (hx1.neL b.ex.choose_spec.1) hlen⟩
    · intro H1 b
      obtain ⟨s1, ys, eD, py⟩ := b.fin
      rw [paired_len hts, List.take_length] at py
      exact k _ _ s1 ⟨D, ys, rfl, eD, py⟩
end
end WU

set_option maxRecDepth 100000
set_option maxHeartbeats 8000000
namespace WU
open PySem PySem.Spec PyProof.Rows L2
theorem take_filter {q : List Int → Bool} {rows : List (List Int)} {i : Nat} {r : List Int} (h : rows[i]? = some r) : (rows.take (i + 1)).filter q = (rows.take i).filter q ++ (if q r = true then [r] else []) := by
  rw [List.take_succ, h, List.filter_append]
  congr 1
  show List.filter q [r] = _
  rw [List.filter_cons]
  split <;> rfl
theorem filter_le {q : List Int → Bool} {rows : List (List Int)} {i : Nat} (h : rows.length ≤ 200) : ((rows.take i).filter q).length < sizeLine :=
  small1000 (Nat.le_trans (List.length_filter_le _ _) (by rw [List.length_take]; omega))
/-- lists built by a test, item by item -/
theorem bld_if {H1 H H' : Hp} {D : Addr} {q : List Int → Bool} {rows : List (List Int)} {i : Nat} {r : List Int} {y : V} (b : Bld FT H1 D ((rows.take i).filter q) H) (h : rows[i]? = some r) (hD : H1 D = none) (s : Same H H') (f : FT H' y r) (ny : y ≠ .ref D) (hl : rows.length ≤ 200) (e : q r = true) :
    ∃ acc, H' D = some (.lst acc) ∧ acc.length < sizeLine ∧ Bld FT H1 D ((rows.take (i + 1)).filter q) (upd H' D (.lst (acc ++ [y]))) := by
  rw [take_filter h, if_pos e]
  exact b.put stab_FT hD s f ny (filter_le hl)
theorem bld_not {H1 H H' : Hp} {D : Addr} {q : List Int → Bool} {rows : List (List Int)} {i : Nat} {r : List Int} (b : Bld FT H1 D ((rows.take i).filter q) H) (h : rows[i]? = some r) (s : Same H H') (e : q r = false) : Bld FT H1 D ((rows.take (i + 1)).filter q) H' := by
  rw [take_filter h, if_neg (by rw [e]; decide), List.append_nil]
  exact b.skip stab_FT s
section
variable {P : Program} {w : World} {K : PySem.W.Frag} {mg : Str → Option Value} {base : Heap} {S : Addr}
/-- rows in a list or a tuple -/
def SR (H : Hp) (v : V) (rows : List (List Int)) : Prop := ∃ a ts, v = .ref a ∧ SqO H a ts ∧ Paired (FT H) ts rows
theorem SR.same {H H' : Hp} {v : V} {rows : List (List Int)} (h : SR H v rows) (s : Same H H') : SR H' v rows := by
  obtain ⟨a, ts, e, h, p⟩ := h
  exact ⟨a, ts, e, h.same s, paired_mono (fun _ _ q => q.same s) p⟩
theorem MT.sr {H : Hp} {v : V} {rows : List (List Int)} (h : MT H v rows) : SR H v rows := by
  obtain ⟨a, ts, e, h, p⟩ := h
  exact ⟨a, ts, e, .inr (.inl h), p⟩
theorem LT.sr {H : Hp} {v : V} {rows : List (List Int)} (h : LT H v rows) : SR H v rows := by
  obtain ⟨a, ts, e, h, p⟩ := h
  exact ⟨a, ts, e, .inl h, p⟩
/-- _reduced(p, rows) -/
def spRed : Sp := fun vs H Q _ => ∃ (p : Int) (n : Nat) (v : V) (rows : List (List Int)), vs = [.int p, v] ∧ SR H v rows ∧ p ∈ primes ∧ (∀ r ∈ rows, Ltr p n r) ∧ n ≤ 200 ∧ rows.length ≤ 200 ∧ ∀ y H', Same H H' → MN H' y (red p rows) → Q y H'
theorem scRed : FnScope ["p", "rows", "left", "done", "column", "found", "lead", "row"] ["p", "rows"] (defScope s_reduced) := ⟨rfl, rfl, rfl, by decide +kernel, rfl, by decide +kernel, by decide +kernel⟩
theorem stp_len {p : Int} {j : Nat} {s : List (List Int) × List (List Int)} : (stp p j s).1.length + (stp p j s).2.length = s.1.length + s.2.length := by
  unfold stp
  split
  · rfl
  · rename_i k e
    obtain ⟨a, r, b, ea, hk, _, _⟩ := find_hot e
    rw [List.length_map, List.length_append, List.length_map, ea, ← hk, erase_mid, List.length_append, List.length_append]
    simp
    omega
theorem run_len {p : Int} {rows : List (List Int)} : ∀ j, (run p rows j).1.length + (run p rows j).2.length = rows.length
  | 0 => rfl
  | j + 1 => by
    show (stp p j (run p rows j)).1.length + (stp p j (run p rows j)).2.length = _
    rw [stp_len, run_len j]
theorem ok_red {f f1 f2 : Addr} {fd fd1 fd2 : FuncData} (F : FnS K "_reduced" s_reduced f fd) (B : Blt4 mg) (CL : Cal P w K mg base 5 "_led_by_one" f1 fd1 ["p", "row", "column"] spLed) (CC : Cal P w K mg base 2 "_cleared" f2 fd2 ["p", "rows", "lead", "column"] spClr) :
    FnOk P w K mg base (L2.CX P w) 6 f fd ["p", "rows"] spRed := by
  refine F.ok scRed (fun vs H Q E h => ?_) (fun cdv A outer s H vs Q E hr h => ?_)
  · obtain ⟨p, n, v, rows, rfl, _⟩ := h
    rfl
  · obtain ⟨p, n, v, rows, rfl, ⟨a, ts, rfl, ha, hts⟩, hp, hR, hn, hm, k⟩ := h
    have nd := scRed.nd
    have hb := fld_le hp
    refine ⟨_, (pss_cons (ps_setLc (i := 2) (own := [("row", 7)]) (g := gName 7) (by rfl) nd rfl rfl (sw_true rfl rfl rfl (by decide +kernel)) (pi_seqK (K := K) (pv 1)) (blkOk_by (own := [("row", 7)]) (N := ["p", "rows", "left", "done", "column", "found", "lead", "row"]) (sc := defScope s_reduced) (by decide +kernel)) (fun _ _ _ _ _ => (pg_name (i := 7) nd rfl (Or.inl rfl))) (fun _ _ _ _ _ => pts_one (pt_val (pe_callB (cr_anyTK (K := K) rfl) (by rfl) B.any (by decide +kernel) (pa_cons (pv 7) pa_nil)))) (fun _ _ _ _ _ => (pv 7)))
      (pss_cons (ps_set (i := 3) nd rfl (Or.inl rfl) (pe_lst pa_nil))
      (pss_cons (ps_set (i := 4) nd rfl (Or.inr rfl) pe_int)
      (pss_cons (ps_while (passes_of rfl) (pt_cmpR op_gt (pe_callB (len_seqK (K := K)) (by rfl) B.len (by decide +kernel) (pa_cons (pv 2) pa_nil)) pe_int (nomark _)) (pss_cons (ps_setLc (i := 5) (own := [("row", 7)]) (g := gName 7) (by rfl) nd rfl rfl (sw_true rfl rfl rfl (by decide +kernel)) (pi_listK (K := K) (pv 2)) (blkOk_by (own := [("row", 7)]) (N := ["p", "rows", "left", "done", "column", "found", "lead", "row"]) (sc := defScope s_reduced) (by decide +kernel)) (fun _ _ _ _ _ => (pg_name (i := 7) nd rfl (Or.inl rfl))) (fun _ _ _ _ _ => pts_one (pt_cmpR op_ne (pe_ix (ix_tupK (K := K)) (pv 7) (pv 4) (fun _ _ => rfl)) pe_int (nomark _))) (fun _ _ _ _ _ => (pv 7)))
      (pss_cons (ps_if (pt_cmpR op_gt (pe_callB (len_seqK (K := K)) (by rfl) B.len (by decide +kernel) (pa_cons (pv 5) pa_nil)) pe_int (nomark _)) (pss_cons (ps_set (i := 6) nd rfl (Or.inl rfl) (pe_cal CL (hr.mono (by decide)) (pa_cons (pv 0) (pa_cons (pe_ix (ix_listK (K := K)) (pv 5) pe_int (fun _ _ => rfl)) (pa_cons (pv 4) pa_nil))) passU))
      (pss_cons (ps_setLc (i := 2) (own := [("row", 7)]) (g := gName 7) (by rfl) nd rfl rfl (sw_true rfl rfl rfl (by decide +kernel)) (pi_listK (K := K) (pe_cal CC (hr.mono (by decide)) (pa_cons (pv 0) (pa_cons (pv 2) (pa_cons (pv 6) (pa_cons (pv 4) pa_nil)))) passU)) (blkOk_by (own := [("row", 7)]) (N := ["p", "rows", "left", "done", "column", "found", "lead", "row"]) (sc := defScope s_reduced) (by decide +kernel)) (fun _ _ _ _ _ => (pg_name (i := 7) nd rfl (Or.inl rfl))) (fun _ _ _ _ _ => pts_one (pt_val (pe_callB (cr_anyTK (K := K) rfl) (by rfl) B.any (by decide +kernel) (pa_cons (pv 7) pa_nil)))) (fun _ _ _ _ _ => (pv 7)))
      (pss_one (ps_set (i := 3) nd rfl (Or.inl rfl) (pe_lst (StX.pa_star (pe_cal CC (hr.mono (by decide)) (pa_cons (pv 0) (pa_cons (pv 3) (pa_cons (pv 6) (pa_cons (pv 4) pa_nil)))) passU) (pa_cons (pv 6) pa_nil))))))) pss_nil)
      (pss_one (ps_aug (i := 4) nd rfl (Or.inr rfl) pe_int ip_add)))))
      (pss_one (ps_ret (pe_callTy (tup_ofK (K := K)) (by rfl) B.tuple (by decide +kernel) (pa_cons (pv 3) pa_nil)))))))), ?_⟩
    have wL : ∀ h : H a = some (.lst ts), Walk (Itl K a) ts.length (fun H' => Same H H') (YAt ts) := fun h => walk_list.mono (fun H' s => SqL.of (s _ _ h)) fun _ _ _ _ _ _ y => y
    have wT : ∀ h : Rd H a (.tup ts), Walk (Itt K a) ts.length (fun H' => Same H H') (YAt ts) := fun h => walk_tup.mono (fun H' s => sqT (rd_same s h)) fun _ _ _ _ _ _ y => y
    refine ⟨_, rfl, a, rfl, ha.imp (fun h => ⟨⟨_, SqL.of h⟩, fun D hD => lc_it (wL h) (fun i H' => Bld FT H D ((rows.take i).filter nz) H') (Bld.start hD) (fun i H' _ b => b.same) ?_ ?_⟩) (fun h => ⟨⟨_, sqT h⟩, fun D hD => lc_it (wT h) (fun i H' => Bld FT H D ((rows.take i).filter nz) H') (Bld.start hD) (fun i H' _ b => b.same) ?_ ?_⟩)⟩
    all_goals first
      | (rintro i x H1 _ hi b ⟨rfl, hx⟩
         obtain ⟨r, hr0, hxr⟩ := paired_at hts hx
         have hx1 := hxr.same b.same
         obtain ⟨c, rfl, hc⟩ := id hx1
         refine ⟨rfl, _, rfl, c, r, rfl, sqT hc, _, rfl, ?_⟩
         cases e : nz r with
         | true => exact iteTb e ⟨_, rfl, bld_if b hr0 hD (Same.refl _) hx1 (hx1.neL b.ex.choose_spec.1) hm e⟩
         | false => exact iteFb e (bld_not b hr0 (Same.refl _) e))
      | (intro H1 b
         obtain ⟨s1, ys, eD, py⟩ := b.fin
         rw [paired_len hts, List.take_length] at py
         refine ⟨(by show 0 ≤ sizeLine; decide), fun L hL => ?_⟩
         have s2 : Same H1 (upd H1 L (.lst [])) := same_new hL
         refine ⟨fun m σ H' => ∃ (j : Nat) (pv : List Nat) (x y : V) (f l rr : Option V), σ = [some (.int p), some (.ref a), some x, some y, some (.int j), f, l, rr] ∧ Same H H' ∧ LT H' x ((run p rows j).1.filter nz) ∧ LN H' y (run p rows j).2 ∧ Iv p n rows j (run p rows j) pv ∧ j ≤ n ∧ m = n - j,
           ⟨n - 0, 0, [], .ref D, .ref L, none, none, none, rfl, s1.trans s2, ⟨D, ys, rfl, s2 _ _ eD, paired_mono (fun _ _ q => q.same s2) py⟩, ⟨L, [], rfl, upd_same, .nil⟩, iv_zero hR, Nat.zero_le _, rfl⟩, ?_⟩
         rintro m σ H2 ⟨j, pv, x, y, fv, lv, rr, rfl, sH, ⟨X, xs, rfl, hX, hxs⟩, ⟨Y, yv, rfl, hY, hys⟩, I, hj, rfl⟩
         refine ⟨_, rfl, X, xs, rfl, .inl (SqL.of hX), _, _, rfl, rfl, _, rfl, ?_⟩
         have lx := paired_len hxs
         refine iteD (fun h0 => ?_) (fun h0 => ?_)
         · have hj1 : j < n := run_more I (fun z => by rw [z] at lx; rw [lx] at h0; exact absurd h0 (by decide))
           have hfl : ((run p rows j).1.filter nz).length ≤ 200 := Nat.le_trans (List.length_filter_le _ _) (by have := run_len (p := p) (rows := rows) j; omega)
           have hdl : (run p rows j).2.length ≤ 200 := by have := run_len (p := p) (rows := rows) j; omega
           obtain ⟨sm0, sm1⟩ := sim hp hj1 I
           obtain ⟨pv2, I2⟩ := iv_step hp hj1 I
           refine ⟨fun σ' H' => ∃ (pv : List Nat) (x y : V) (f l rr : Option V), σ' = [some (.int p), some (.ref a), some x, some y, some (.int (j + 1 : Nat)), f, l, rr] ∧ Same H H' ∧ LT H' x ((run p rows (j + 1)).1.filter nz) ∧ LN H' y (run p rows (j + 1)).2 ∧ Iv p n rows (j + 1) (run p rows (j + 1)) pv,
             fun σ' H' ⟨pv, x, y, f, l, rr, e, z1, z2, z3, z4⟩ => ⟨n - (j + 1), by omega, j + 1, pv, x, y, f, l, rr, e, z1, z2, z3, z4, by omega, rfl⟩, ?_⟩
           -- found
           refine ⟨_, rfl, X, rfl, ⟨_, SqL.of hX⟩, fun D2 hD2 => lc_list (K := K) (a := X) (xs := xs) (fun i H' => Bld FT H2 D2 ((((run p rows j).1.filter nz).take i).filter (hot j)) H') (Bld.start hD2) (fun i H' _ b => SqL.of (b.same _ _ hX)) ?_ ?_⟩
           · intro i x H3 hx b
             obtain ⟨r, hr0, hxr⟩ := paired_at hxs hx
             have hx1 := hxr.same b.same
             obtain ⟨c, rfl, hc⟩ := id hx1
             have hrL := I.left r (List.mem_filter.mp (List.mem_of_getElem? hr0)).1
             refine ⟨rfl, _, rfl, _, rfl, c, _, _, _, rfl, rfl, sqT hc, atI_nat (take_map_at n (r := r) (i := j) (by rw [hrL.1]; exact hj1)), rfl, _, rfl, ?_⟩
             refine iteND (fun hz => ?_) (fun hz => ?_)
             · have e : hot j r = true := decide_eq_true fun z => hz (congrArg V.int z)
               exact ⟨_, rfl, bld_if b hr0 hD2 (Same.refl _) hx1 (hx1.neL b.ex.choose_spec.1) hfl e⟩
             · have e : hot j r = false := decide_eq_false fun z => z (V.int.inj hz)
               exact bld_not b hr0 (Same.refl _) e
           · intro H3 b
             obtain ⟨s3, zs, eD2, pz⟩ := b.fin
             rw [lx, List.take_length] at pz
             have hX3 := s3 _ _ hX
             have hY3 := s3 _ _ hY
             have hxs3 := paired_mono (fun _ _ q => q.same s3) hxs
             have hys3 := paired_mono (fun _ _ q => q.same s3) hys
             refine ⟨_, rfl, D2, zs, rfl, .inl (SqL.of eD2), _, _, rfl, rfl, _, rfl, ?_⟩
             have lz := paired_len pz
             cases ef : ((run p rows j).1.filter nz).filter (hot j) with
             | nil =>
               rw [ef] at lz
               have es : run p rows (j + 1) = run p rows j := sm0 ef
               refine iteFb (decide_eq_false (by rw [lz]; decide)) ⟨_, rfl, _, _, rfl, rfl, ?_⟩
               refine ⟨pv2, .ref X, .ref Y, _, _, _, rfl, sH.trans s3, ?_, ?_, I2⟩
               · rw [es]
                 exact ⟨X, xs, rfl, hX3, hxs3⟩
               · rw [es]
                 exact ⟨Y, yv, rfl, hY3, hys3⟩
             | cons r t =>
               obtain ⟨hrL, hh, e1, e2⟩ := sm1 r t ef
               rw [ef] at lz pz
               cases pz with
               | cons hz1 hz2 =>
                 rename_i z0 zt
                 refine iteTb (decide_eq_true (by show (0 : Int) < ((z0 :: zt).length : Nat); rw [List.length_cons]; omega)) ?_
                 refine ⟨_, rfl, _, rfl, D2, _, _, z0, rfl, rfl, SqL.of eD2, atI_nat (j := 0) rfl, _, rfl, p, n, j, z0, r, rfl, hz1, hp, hrL, hn, hj1, hh, fun lead H4 s4 hl => ?_⟩
                 have hX4 := s4 _ _ hX3
                 have hY4 := s4 _ _ hY3
                 have hxs4 := paired_mono (fun _ _ q => q.same s4) hxs3
                 have hys4 := paired_mono (fun _ _ q => q.same s4) hys3
                 have hleadL : Ltr p n (led p r j) := led_ltr (prime_pos hp) hrL.1
                 refine ⟨_, rfl, _, rfl, _, rfl, _, rfl, FT, p, n, j, .ref X, lead, _, led p r j, rfl, good_T, ⟨X, xs, rfl, hX4, hxs4⟩, hl.ft, hp, (fun u hu => I.left u (List.mem_filter.mp hu).1), hleadL, hn, hfl, hj1, fun y5 H5 s5 hy5 => ?_⟩
                 obtain ⟨Y5, ws, rfl, hY5, hws⟩ := hy5
                 have hl5 := hl.same s5
                 have lw := paired_len hws
                 refine ⟨Y5, rfl, ⟨_, SqL.of hY5⟩, fun D5 hD5 => lc_list (K := K) (a := Y5) (xs := ws) (fun i H' => Bld FT H5 D5 (((((run p rows j).1.filter nz).map (clr p (led p r j) j)).take i).filter nz) H') (Bld.start hD5) (fun i H' _ b => SqL.of (b.same _ _ hY5)) ?_ ?_⟩
                 · intro i x H6 hx b
                   obtain ⟨u, hu0, hxu⟩ := paired_at hws hx
                   have hx1 := hxu.same b.same
                   obtain ⟨c, rfl, hc⟩ := id hx1
                   refine ⟨rfl, _, rfl, c, u, rfl, sqT hc, _, rfl, ?_⟩
                   cases e : nz u with
                   | true => exact iteTb e ⟨_, rfl, bld_if b hu0 hD5 (Same.refl _) hx1 (hx1.neL b.ex.choose_spec.1) (by rw [List.length_map]; exact hfl) e⟩
                   | false => exact iteFb e (bld_not b hu0 (Same.refl _) e)
                 · intro H6 b
                   obtain ⟨s6, vs6, eD5, pv6⟩ := b.fin
                   rw [lw, List.take_length, e1] at pv6
                   have s46 := s5.trans s6
                   refine ⟨_, rfl, _, rfl, _, rfl, _, rfl, FN, p, n, j, .ref Y, lead, _, led p r j, rfl, good_N, ⟨Y, yv, rfl, s46 _ _ hY4, paired_mono (fun _ _ q => q.same s46) hys4⟩, (hl.same s46).ft, hp, I.done, hleadL, hn, hdl, hj1, fun y7 H7 s7 hy7 => ?_⟩
                   obtain ⟨Y7, us, rfl, hY7, hus⟩ := hy7
                   refine ⟨Y7, us, rfl, .inr (SqL.of hY7), _, rfl, ?_⟩
                   have lu := paired_len hus
                   rw [List.length_map] at lu
                   refine ⟨(by rw [List.length_append, lu]; exact Nat.le_trans (Nat.add_le_add_right hdl _) (by show 201 ≤ sizeLine; decide)), fun Z hZ => ?_⟩
                   have s8 : Same H7 (upd H7 Z (.lst (us ++ [lead]))) := same_new hZ
                   refine ⟨_, rfl, _, _, rfl, rfl, ?_⟩
                   refine ⟨pv2, .ref D5, .ref Z, _, _, _, rfl, (((sH.trans s3).trans s4).trans s46).trans (s7.trans s8), ?_, ?_, I2⟩
                   · exact ⟨D5, vs6, rfl, (s7.trans s8) _ _ eD5, paired_mono (fun _ _ q => q.same (s7.trans s8)) pv6⟩
                   · refine ⟨Z, us ++ [lead], rfl, upd_same, ?_⟩
                     show Paired (FN _) _ (stp p j (run p rows j)).2
                     rw [← e2]
                     exact paired_app (paired_mono (fun _ _ q => q.same s8) hus) (.cons ((hl.same s46).same (s7.trans s8)) .nil)
         · refine ⟨_, rfl, Y, yv, rfl, .inl ⟨SqL.of hY, fun q hq => k (.ref q) _ (sH.trans (same_new hq)) ⟨q, yv, rfl, upd_same, ?_⟩⟩⟩
           have hnil : (run p rows j).1.filter nz = [] := by
             cases e : (run p rows j).1.filter nz with
             | nil => rfl
             | cons r t =>
               exfalso
               rw [e] at lx
               exact h0 (by rw [lx, List.length_cons]; omega)
           rw [red_run hR, run_end I hj hnil]
           exact paired_mono (fun _ _ z => z.same (same_new hq)) hys)
end
end WU

set_option maxRecDepth 100000
set_option maxHeartbeats 8000000
namespace WU
open PySem PySem.Spec PyProof.Rows L2
/-- a statement whose next state is told more loosely -/
def tWk (t : TS) : TS := fun D σ H => ∃ P : L2.St → Hp → Prop, t { D with nx := P } σ H ∧ ∀ σ1 H1, P σ1 H1 → D.nx σ1 H1
theorem ps_wk {X : Cx} {st : Stmt} {t : TS} (h : PS X st t) : PS X st (tWk t) := by
  refine ⟨fun pins s σ H D I ⟨P, q, k⟩ => thn (h.run pins s σ H { D with nx := P } I q) fun f s1 z => ?_⟩
  cases f with
  | next =>
    obtain ⟨σ', H', I', z⟩ := z
    exact ⟨σ', H', I', k _ _ z⟩
  | ret v => exact z
  | brk => exact z
  | cont => exact z
theorem FQ.keep {H H' : Hp} {a d : Addr} {y : V} {z : List Int} (h : FQ H y z) (hH : HandAt H a d) (k : Keep a H H') : FQ H' y z := by
  obtain ⟨c, e, h⟩ := h
  obtain ⟨ds, i0, z1, _⟩ := hH
  exact ⟨c, e, k _ _ (ne_of h z1 (by intro z; cases z)) h⟩
theorem FQ.but {H H' : Hp} {D : Addr} {xs : List V} {y : V} {z : List Int} (h : FQ H y z) (e : H D = some (.lst xs)) (k : ∀ b o, b ≠ D → H b = some o → H' b = some o) : FQ H' y z :=
  stab_FQ D H H' y z k (h.neL e) h
theorem lst_ne {H : Hp} {a d R : Addr} {ls : List Int} (hH : HandAt H a d) (h : H R = some (.lst (ls.map V.int))) : R ≠ a := by
  obtain ⟨ds, i0, z1, z2, _⟩ := hH
  intro q
  subst q
  rw [z1] at h
  have := HO.lst.inj (Option.some.inj h)
  cases ls with
  | nil => cases this
  | cons x t => cases (List.cons.inj this).1
theorem cut_to {xs : List V} {k : Nat} (hk : k ≤ xs.length) : cutV xs none (some (k : Int)) = xs.take k := by
  unfold cutV
  rw [HT.sIx_none, HT.sIx_nat, List.drop_zero, Nat.sub_zero, Nat.min_eq_left hk]
theorem cut_from {xs : List V} {k : Nat} (hk : k ≤ xs.length) : cutV xs (some (k : Int)) none = xs.drop k := by
  unfold cutV
  rw [HT.sIx_none, HT.sIx_nat, Nat.min_eq_left hk]
  exact List.take_of_length_le (by rw [List.length_drop]; omega)
theorem slA_is {K : PySem.W.Frag} {H : Hp} {a : Addr} {xs : List V} {lo hi : Option Int} {Q : VK} (h : H a = some (.tup xs)) (k : ∀ r H', Same H H' → H' r = some (.tup (cutV xs lo hi)) → Q (.ref r) H') : rSlA K (.ref a) lo hi H Q := by
  refine ⟨a, xs, rfl, SqT.of h, fun hw => ?_, fun _ r hr => k r _ (same_new hr) upd_same⟩
  have e : cutV xs lo hi = xs := by
    unfold cutV
    rw [hw.1, hw.2, List.drop_zero, Nat.sub_zero, List.take_length]
  exact k a H (Same.refl H) (by rw [e]; exact h)
theorem FT.keep {H H' : Hp} {a d : Addr} {y : V} {z : List Int} (h : FT H y z) (hH : HandAt H a d) (k : Keep a H H') : FT H' y z := by
  obtain ⟨c, e, h⟩ := h
  obtain ⟨ds, i0, z1, _⟩ := hH
  rcases h with h | ⟨o, h⟩
  · exact ⟨c, e, .inl (k _ _ (ne_of h z1 (by intro z; cases z)) h)⟩
  · exact ⟨c, e, .inr ⟨o, k _ _ (ne_of h z1 (by intro z; cases z)) h⟩⟩
def Lets (p : Int) (ls : List Int) : Prop := ∀ x ∈ ls, 0 ≤ x ∧ x < p
section
variable {P : Program} {w : World} {K : PySem.W.Frag} {mg : Str → Option Value} {base : Heap} {S : Addr}
def spLM : Sp := fun vs H Q _ => ∃ (a d : Addr) (p : Int) (m n : Nat), vs = [.ref a, .int p, .int m, .int n] ∧ HandAt H a d ∧ p ∈ primes ∧ m ≤ 100 ∧ n ≤ 100 ∧
  ∀ v rows H', MQ H' v rows → rows.length = m → (∀ r ∈ rows, Ltr p n r) → HandAt H' a d → Keep a H H' → Q v H'
theorem scLM : FnScope ["hand", "p", "rows", "columns", "kind", "found", "k", "row", "j"] ["hand", "p", "rows", "columns"] (defScope s_law_matrix) := ⟨rfl, rfl, rfl, by decide +kernel, rfl, by decide +kernel, by decide +kernel⟩
theorem rep_one {x : V} : ∀ n : Nat, (List.replicate n [x]).flatten = List.replicate n x
  | 0 => rfl
  | n + 1 => by
    rw [List.replicate_succ, List.flatten_cons, rep_one n, List.replicate_succ]
    rfl
theorem rep_int (n : Nat) : (List.replicate n [V.int 0]).flatten = (List.replicate n (0 : Int)).map V.int := by
  rw [rep_one, List.map_replicate]
theorem rep_lets {p : Int} (hp : 0 < p) (n : Nat) : Lets p (List.replicate n 0) := fun x hx => by
  rw [(List.mem_replicate.mp hx).2]
  omega
theorem take_lets {p : Int} {ls : List Int} {n : Nat} (h : Lets p ls) (hn : n ≤ ls.length) : Ltr p n (ls.take n) :=
  ⟨by rw [List.length_take]; omega, fun x hx => h x (List.mem_of_mem_take hx)⟩
/-- the rows that stand in the list L -/
def Rws (p : Int) (n : Nat) (L : Addr) (i : Nat) (H : Hp) : Prop := ∃ ts rs, H L = some (.lst ts) ∧ Paired (FQ H) ts rs ∧ rs.length = i ∧ ∀ r ∈ rs, Ltr p n r
theorem Rws.keep {p : Int} {n i : Nat} {L a d : Addr} {H H' : Hp} (h : Rws p n L i H) (ne : L ≠ a) (hH : HandAt H a d) (k : Keep a H H') : Rws p n L i H' := by
  obtain ⟨ts, rs, e, q, l, z⟩ := h
  exact ⟨ts, rs, k _ _ ne e, paired_mono (fun _ _ f => f.keep hH k) q, l, z⟩
theorem ok_LM {f fT : Addr} {fd fdT : FuncData} (F : FnS K "_law_matrix" s_law_matrix f fd) (B : Blt4 mg) (CT : Cal P w K mg base 1 "_law_take" fT fdT ["hand", "many"] spTake) : FnOk P w K mg base (L2.CX P w) 2 f fd ["hand", "p", "rows", "columns"] spLM := by
  refine F.ok scLM (fun vs H Q E h => ?_) (fun cdv A outer s H vs Q E hr h => ?_)
  · obtain ⟨a, d, p, m, n, rfl, _⟩ := h
    rfl
  · obtain ⟨a, d, p, m, n, rfl, hH, hp, hm, hn, k⟩ := h
    have nd := scLM.nd
    have hb := fld_le hp
    refine ⟨_, (pss_cons (ps_set (i := 4) nd rfl (Or.inr rfl) (pe_cal CT (hr.mono (by decide)) (pa_cons (pv 0) (pa_cons pe_int pa_nil)) passU))
      (pss_cons (ps_set (i := 5) nd rfl (Or.inr rfl) (pe_lst pa_nil))
      (pss_cons (ps_for (passes_of rfl) rfl (pi_range1 rfl B.range (pa_cons (pv 2) pa_nil)) (pg_name (i := 6) nd rfl (Or.inl rfl)) (pss_cons (ps_setLc (i := 7) (own := [("j", 8)]) (g := gName 8) (by rfl) nd rfl rfl (sw_true rfl rfl rfl (by decide +kernel)) (pi_range1 rfl B.range (pa_cons (pv 3) pa_nil)) (blkOk_by (own := [("j", 8)]) (N := ["hand", "p", "rows", "columns", "kind", "found", "k", "row", "j"]) (sc := defScope s_law_matrix) (by decide +kernel)) (fun _ _ _ _ _ => (pg_name (i := 8) nd rfl (Or.inl rfl))) (fun _ _ _ _ _ => pts_nil) (fun _ _ _ _ _ => (pe_ix (ix_listK (K := K)) (pe_lst (pa_cons (pe_cal CT (hr.mono (by decide)) (pa_cons (pv 0) (pa_cons (pv 1) pa_nil)) passU) (pa_cons (pe_cal CT (hr.mono (by decide)) (pa_cons (pv 0) (pa_cons pe_int pa_nil)) passU) pa_nil))) (pe_callTy call_int1 (by rfl) B.int (by decide +kernel) (pa_cons (pe_cmpR op_eq (pv 4) pe_int (nomark _)) pa_nil)) (fun _ _ => rfl))))
      (pss_cons (ps_wk (ps_if (PW.pt (pw_and (pt_cmpR op_eq (pv 4) pe_int (nomark _)) (pw_and1 (pt_cmpR op_gt (pv 6) pe_int (nomark _))))) (pss_one (ps_setLc (i := 7) (own := [("j", 8)]) (g := gName 8) (by rfl) nd rfl rfl (sw_true rfl rfl rfl (by decide +kernel)) (pi_range1 rfl B.range (pa_cons (pv 3) pa_nil)) (blkOk_by (own := [("j", 8)]) (N := ["hand", "p", "rows", "columns", "kind", "found", "k", "row", "j"]) (sc := defScope s_law_matrix) (by decide +kernel)) (fun _ _ _ _ _ => (pg_name (i := 8) nd rfl (Or.inl rfl))) (fun _ _ _ _ _ => pts_nil) (fun _ _ _ _ _ => (pe_op op_modN (pe_callTy call_int1 (by rfl) B.int (by decide +kernel) (pa_cons (pe_op op_add (pe_op op_mul (pe_ix (ix_tupK (K := K)) (pe_ix (ix_listK (K := K)) (pv 5) pe_int (fun _ _ => rfl)) (pv 8) (fun _ _ => rfl)) pe_int) (pe_op op_mul (pe_ix (ix_tupK (K := K)) (pe_ix (ix_listK (K := K)) (pv 5) pe_int (fun _ _ => rfl)) (pv 8) (fun _ _ => rfl)) (pe_op op_sub (pv 1) pe_int))) pa_nil)) (pv 1))))) pss_nil))
      (pss_cons (ps_wk (ps_if (PW.pt (pw_and (pt_cmpR op_eq (pv 4) pe_int (nomark _)) (pw_and1 (pt_cmpR op_eq (pe_cal CT (hr.mono (by decide)) (pa_cons (pv 0) (pa_cons pe_int pa_nil)) passU) pe_int (nomark _))))) (pss_one (ps_set (i := 7) nd rfl (Or.inl rfl) (pe_op op_rep (pe_lst (pa_cons pe_int pa_nil)) (pv 3)))) pss_nil))
      (pss_cons (ps_wk (ps_if (pt_cmpR op_eq (pv 4) pe_int (nomark _)) (pss_one (ps_set (i := 7) nd rfl (Or.inl rfl) (pe_op op_cat (pe_op op_rep (pe_lst (pa_cons pe_int pa_nil)) (pe_callB (call_min2 rfl) (by rfl) B.min (by decide +kernel) (pa_cons (pv 3) (pa_cons (pe_cal CT (hr.mono (by decide)) (pa_cons (pv 0) (pa_cons (pe_op op_add (pv 3) pe_int) pa_nil)) passU) pa_nil)))) (pv 7)))) pss_nil))
      (pss_one (ps_expr (pe_bm PySem.F.plainAttrs_list PySem.F.slot_list_append PySem.F.type_list_append mt_append (pv 5) (pa_cons (pe_callTy (tup_ofK (K := K)) (by rfl) B.tuple (by decide +kernel) (pa_cons (pe_slice (sl_listK (K := K)) (pv 7) po_none (po_some (pv 3))) pa_nil)) pa_nil)))))))))
      (pss_one (ps_ret (pe_callTy (tup_ofK (K := K)) (by rfl) B.tuple (by decide +kernel) (pa_cons (pv 5) pa_nil))))))), ?_⟩
    refine ⟨_, rfl, a, d, 5, rfl, by decide, hH, fun kind H1 c0 c1 hH1 k1 => ⟨(by show 0 ≤ sizeLine; decide), fun L hL => ?_⟩⟩
    have neL := (hH1.ne hL).1.symm
    refine ⟨_, rfl, (m : Int), rfl, by omega, by omega, for_range (lo := 0) (n := m) (fun i σ H' => ∃ (kv rv jv : Option V), σ = [some (.ref a), some (.int p), some (.int m), some (.int n), some (.int kind), some (.ref L), kv, rv, jv] ∧ HandAt H' a d ∧ Keep a H H' ∧ Rws p n L i H')
      ⟨none, none, none, rfl, hH1.new hL, k1.trans (Keep.new hL), [], [], upd_same, .nil, rfl, fun r hr => nomatch hr⟩ ?_ ?_⟩
    · rintro i σ H2 hi ⟨kv, rv, jv, rfl, hH2, k2, hR2⟩
      -- a row
      refine ⟨_, rfl, (n : Int), rfl, by omega, by omega, fun D hD => lc_range (lo := 0) (n := n) (fun j H' => HandAt H' a d ∧ Keep a H2 H' ∧ ∃ ls : List Int, H' D = some (.lst (ls.map V.int)) ∧ ls.length = j ∧ Lets p ls)
        ⟨hH2.new hD, Keep.new hD, [], upd_same, rfl, fun l hl => nomatch hl⟩ ?_ ?_⟩
      · rintro j H3 hj ⟨hH3, k3, ls, e3, l3, a3⟩
        refine ⟨rfl, _, rfl, _, rfl, a, d, p, rfl, by omega, hH3, fun r1 H4 x0 x1 hH4 k4 => ⟨_, rfl, a, d, 2, rfl, by decide, hH4, fun r2 H5 y0 y1 hH5 k5 => ⟨(by show 2 ≤ sizeLine; decide), fun Z hZ => ?_⟩⟩⟩
        have hH6 := hH5.new (o := .lst [.int r1, .int r2]) hZ
        have naD := (hH2.ne hD).1.symm
        have ndD := (hH2.ne hD).2.symm
        have kz : Keep a H3 (upd H5 Z (.lst [.int r1, .int r2])) := k4.trans (k5.trans (Keep.new hZ))
        have eZ : upd H5 Z (.lst [.int r1, .int r2]) Z = some (.lst [.int r1, .int r2]) := upd_same
        have e6 := kz _ _ naD e3
        generalize upd H5 Z (.lst [.int r1, .int r2]) = H6 at hH6 kz eZ e6 ⊢
        have fin : ∀ x : Int, 0 ≤ x → x < p → ∃ acc, H6 D = some (.lst acc) ∧ acc.length < sizeLine ∧ HandAt (upd H6 D (.lst (acc ++ [.int x]))) a d ∧ Keep a H2 (upd H6 D (.lst (acc ++ [.int x]))) ∧ ∃ ls : List Int, upd H6 D (.lst (acc ++ [.int x])) D = some (.lst (ls.map V.int)) ∧ ls.length = j + 1 ∧ Lets p ls := by
          intro x h0 h1
          refine ⟨_, e6, by rw [List.length_map]; exact small1000 (by omega), hH6.put naD.symm ndD.symm, fun b o hb e => ?_, ls ++ [x], by rw [upd_same, List.map_append]; rfl, by rw [List.length_append, l3]; rfl, fun l hl => ?_⟩
          · rw [upd_ne (ne_of_none e hD)]
            exact kz _ _ hb (k3 _ _ hb e)
          · rcases List.mem_append.mp hl with h | h
            · exact a3 l h
            · rw [List.mem_singleton.mp h]
              exact ⟨h0, h1⟩
        refine ⟨_, rfl, rfl, .inr ⟨_, rfl, ?_⟩⟩
        by_cases hk : kind = 0
        · rw [decide_eq_true (by rw [hk])]
          exact ⟨Z, _, _, .int r2, rfl, rfl, SqL.of eZ, rfl, fin r2 y0 (by omega)⟩
        · rw [decide_eq_false (fun z => hk (V.int.inj z))]
          exact ⟨Z, _, _, .int r1, rfl, rfl, SqL.of eZ, rfl, fin r1 x0 x1⟩
      · rintro H3 ⟨hH3, k3, ls, e3, l3, a3⟩
        -- what stands of the row behind each of the three ifs
        refine ⟨fun σ H' => ∃ (R : Addr) (ls : List Int) (jv : Option V), σ = [some (.ref a), some (.int p), some (.int m), some (.int n), some (.int kind), some (.ref L), some (.int (0 + (i : Int))), some (.ref R), jv] ∧ HandAt H' a d ∧ Keep a H H' ∧ Rws p n L i H' ∧ H' R = some (.lst (ls.map V.int)) ∧ n ≤ ls.length ∧ ls.length ≤ 200 ∧ Lets p ls, ?_, ?_⟩
        · have h3 := hR2.keep neL hH2 k3
          refine ⟨_, rfl, rfl, _, rfl, iteD (fun hk => ?_) (fun hk => ?_)⟩
          · refine ⟨_, rfl, _, _, rfl, rfl, _, rfl, iteD (fun h1 => ?_) (fun h1 => ?_)⟩
            · obtain ⟨ts, rs, eL, pr, lr, al⟩ := h3
              refine ⟨_, rfl, (n : Int), rfl, by omega, by omega, fun D2 hD2 => lc_range (lo := 0) (n := n) (fun j H' => HandAt H' a d ∧ Keep a H3 H' ∧ ∃ ls : List Int, H' D2 = some (.lst (ls.map V.int)) ∧ ls.length = j ∧ Lets p ls)
                ⟨hH3.new hD2, Keep.new hD2, [], upd_same, rfl, fun l hl => nomatch hl⟩ ?_ ?_⟩
              · rintro j H4 hj ⟨hH4, k4, us, e4, l4, a4⟩
                have eL4 := k4 _ _ neL eL
                have pr4 := paired_mono (fun _ _ f => f.keep hH3 k4) pr
                obtain ⟨r0, hr0⟩ : ∃ r0, rs[0]? = some r0 := ⟨_, List.getElem?_eq_getElem (by omega)⟩
                obtain ⟨r1, hr1⟩ : ∃ r1, rs[1]? = some r1 := ⟨_, List.getElem?_eq_getElem (by omega)⟩
                obtain ⟨t0, ht0, c0', rfl, ec0⟩ := paired_of pr4 hr0
                obtain ⟨t1, ht1, c1', rfl, ec1⟩ := paired_of pr4 hr1
                have L0 := al r0 (List.mem_of_getElem? hr0)
                have L1 := al r1 (List.mem_of_getElem? hr1)
                have b0 := L0.bd hj
                have b1 := L1.bd hj
                have naD := (hH3.ne hD2).1.symm
                have ndD := (hH3.ne hD2).2.symm
                have bq := fm_bd (at0 r0 j * 2 + at0 r1 j * (p - 1)) (show 0 < p by omega)
                refine ⟨rfl, _, rfl, L, _, _, _, rfl, rfl, SqL.of eL4, atI_nat (j := 0) ht0, _, rfl, c0', _, _, _, rfl, rfl, SqT.of ec0, (by rw [Int.zero_add]; exact atI_nat (take_map_at n (r := r0) (i := j) (by rw [L0.1]; exact hj))), _, _, rfl, rfl, .inr ⟨by decide, by decide⟩, ?_⟩
                refine ⟨_, rfl, L, _, _, _, rfl, rfl, SqL.of eL4, atI_nat (j := 1) ht1, _, rfl, c1', _, _, _, rfl, rfl, SqT.of ec1, (by rw [Int.zero_add]; exact atI_nat (take_map_at n (r := r1) (i := j) (by rw [L1.1]; exact hj))), _, rfl, _, _, rfl, rfl, _, _, rfl, rfl, .inr ⟨by omega, by omega⟩, _, _, rfl, rfl, .inl ⟨_, rfl, _, rfl, _, p, rfl, rfl, by omega, ?_⟩⟩
                refine ⟨_, e4, by rw [List.length_map]; exact small1000 (by omega), hH4.put naD.symm ndD.symm, fun b o hb e => ?_, us ++ [_], by rw [upd_same, List.map_append]; rfl, by rw [List.length_append, l4]; rfl, fun l hl => ?_⟩
                · rw [upd_ne (ne_of_none e hD2)]
                  exact k4 _ _ hb e
                · rcases List.mem_append.mp hl with h | h
                  · exact a4 l h
                  · rw [List.mem_singleton.mp h]
                    exact bq
              · rintro H4 ⟨hH4, k4, us, e4, l4, a4⟩
                exact ⟨D2, us, _, rfl, hH4, k2.trans (k3.trans k4), Rws.keep ⟨ts, rs, eL, pr, lr, al⟩ neL hH3 k4, e4, by omega, by omega, a4⟩
            · exact ⟨D, ls, _, rfl, hH3, k2.trans k3, h3, e3, by omega, by omega, a3⟩
          · exact ⟨D, ls, _, rfl, hH3, k2.trans k3, h3, e3, by omega, by omega, a3⟩
        · rintro σ H4 ⟨R, us, jv, rfl, hH4, k4, h4, e4, n4, m4, a4⟩
          refine ⟨fun σ H' => ∃ (R : Addr) (ls : List Int) (jv : Option V), σ = [some (.ref a), some (.int p), some (.int m), some (.int n), some (.int kind), some (.ref L), some (.int (0 + (i : Int))), some (.ref R), jv] ∧ HandAt H' a d ∧ Keep a H H' ∧ Rws p n L i H' ∧ H' R = some (.lst (ls.map V.int)) ∧ n ≤ ls.length ∧ ls.length ≤ 200 ∧ Lets p ls, ?_, ?_⟩
          · have neR := lst_ne hH4 e4
            refine ⟨_, rfl, rfl, _, rfl, iteD (fun hk => ?_) (fun hk => ?_)⟩
            · refine ⟨_, rfl, a, d, 2, rfl, by decide, hH4, fun r5 H5 x0 x1 hH5 k5 => ⟨rfl, _, rfl, iteD (fun h1 => ?_) (fun h1 => ?_)⟩⟩
              · refine ⟨(by show 1 ≤ sizeLine; decide), fun Z hZ => ⟨_, rfl, Z, (n : Int), _, rfl, rfl, upd_same, by omega, by omega, ?_, fun q hq => ?_⟩⟩
                · show 1 * (n : Int).toNat ≤ sizeLine
                  exact Nat.le_of_lt (small1000 (by omega))
                · rw [Int.toNat_natCast, rep_int]
                  have kz : Keep a H5 (upd H5 Z (.lst [.int 0])) := Keep.new hZ
                  have h6 := hH5.new (o := .lst [.int 0]) hZ
                  generalize upd H5 Z (.lst [.int 0]) = H6 at kz h6 hq ⊢
                  have kq : Keep a H6 (upd H6 q (.lst ((List.replicate n (0 : Int)).map V.int))) := Keep.new hq
                  refine ⟨q, List.replicate n 0, _, rfl, h6.new hq, k4.trans (k5.trans (kz.trans kq)), ((h4.keep neL hH4 k5).keep neL hH5 kz).keep neL h6 kq, upd_same, ?_, ?_, rep_lets (by omega) n⟩
                  · rw [List.length_replicate]
                    exact Nat.le_refl n
                  · rw [List.length_replicate]
                    omega
              · exact ⟨R, us, _, rfl, hH5, k4.trans k5, h4.keep neL hH4 k5, k5 _ _ neR e4, n4, m4, a4⟩
            · exact ⟨R, us, _, rfl, hH4, k4, h4, e4, n4, m4, a4⟩
          · rintro σ H5 ⟨R5, us5, jv5, rfl, hH5, k5, h5, e5, n5, m5, a5⟩
            refine ⟨fun σ H' => ∃ (R : Addr) (ls : List Int) (jv : Option V), σ = [some (.ref a), some (.int p), some (.int m), some (.int n), some (.int kind), some (.ref L), some (.int (0 + (i : Int))), some (.ref R), jv] ∧ HandAt H' a d ∧ Keep a H H' ∧ Rws p n L i H' ∧ H' R = some (.lst (ls.map V.int)) ∧ n ≤ ls.length ∧ ls.length ≤ 400 ∧ Lets p ls, ?_, ?_⟩
            · have neR := lst_ne hH5 e5
              refine ⟨_, rfl, rfl, _, rfl, iteD (fun hk => ?_) (fun hk => ?_)⟩
              · refine ⟨(by show 1 ≤ sizeLine; decide), fun Z hZ => ?_⟩
                have kz : Keep a H5 (upd H5 Z (.lst [.int 0])) := Keep.new hZ
                have h6 := hH5.new (o := .lst [.int 0]) hZ
                have eZ : upd H5 Z (.lst [.int 0]) Z = some (.lst [.int 0]) := upd_same
                have neZ : Z ≠ a := (hH5.ne hZ).1.symm
                generalize upd H5 Z (.lst [.int 0]) = H6 at kz h6 eZ ⊢
                refine ⟨_, rfl, _, rfl, _, rfl, _, _, rfl, rfl, a, d, (n : Int) + 1, rfl, by omega, h6, fun r5 H7 x0 x1 hH7 k7 => ⟨(n : Int), r5, rfl, ?_⟩⟩
                obtain ⟨mm, hmm, hle⟩ : ∃ mm : Nat, (if r5 < (n : Int) then r5 else (n : Int)) = (mm : Int) ∧ mm ≤ n := by
                  split
                  · exact ⟨r5.toNat, by omega, by omega⟩
                  · exact ⟨n, rfl, Nat.le_refl n⟩
                rw [hmm]
                refine ⟨Z, (mm : Int), _, rfl, rfl, k7 _ _ neZ eZ, by omega, by omega, ?_, fun q hq => ?_⟩
                · show 1 * (mm : Int).toNat ≤ sizeLine
                  exact Nat.le_of_lt (small1000 (by omega))
                · rw [Int.toNat_natCast, rep_int]
                  have h57 := kz.trans k7
                  have e7 := h57 _ _ neR e5
                  have h7 := (h5.keep neL hH5 kz).keep neL h6 k7
                  have kq : Keep a H7 (upd H7 q (.lst ((List.replicate mm (0 : Int)).map V.int))) := Keep.new hq
                  have h8 := hH7.new (o := .lst ((List.replicate mm (0 : Int)).map V.int)) hq
                  have e8 := same_new (o := .lst ((List.replicate mm (0 : Int)).map V.int)) hq _ _ e7
                  have eq : upd H7 q (.lst ((List.replicate mm (0 : Int)).map V.int)) q = some (.lst ((List.replicate mm (0 : Int)).map V.int)) := upd_same
                  have r8 := h7.keep neL hH7 kq
                  generalize upd H7 q (.lst ((List.replicate mm (0 : Int)).map V.int)) = H8 at kq h8 e8 eq r8 ⊢
                  refine ⟨_, rfl, q, R5, _, _, rfl, rfl, eq, e8, ?_, fun z hz => ?_⟩
                  · rw [List.length_map, List.length_replicate, List.length_map]
                    exact Nat.le_of_lt (small1000 (by omega))
                  · rw [← List.map_append]
                    refine ⟨z, _, _, rfl, h8.new hz, k5.trans (h57.trans (kq.trans (Keep.new hz))), r8.keep neL h8 (Keep.new hz), upd_same, ?_, ?_, fun l hl => ?_⟩
                    · rw [List.length_append]
                      omega
                    · rw [List.length_append, List.length_replicate]
                      omega
                    · rcases List.mem_append.mp hl with h | h
                      · exact rep_lets (by omega) mm l h
                      · exact a5 l h
              · exact ⟨R5, us5, _, rfl, hH5, k5, h5, e5, n5, by omega, a5⟩
            · rintro σ H6 ⟨R6, us6, jv6, rfl, hH6, k6, h6, e6, n6, m6, a6⟩
              obtain ⟨ts, rs, eL, pr, lr, al⟩ := h6
              refine ⟨_, rfl, .inl ⟨rfl, _, SqL.of eL⟩, ?_⟩
              refine ⟨_, rfl, _, rfl, (n : Int), rfl, R6, _, rfl, SqL.of e6, fun q hq => ?_⟩
              rw [cut_to (by rw [List.length_map]; exact n6), ← List.map_take]
              have s7 : Same H6 (upd H6 q (.lst ((us6.take n).map V.int))) := same_new hq
              have eq : upd H6 q (.lst ((us6.take n).map V.int)) q = some (.lst ((us6.take n).map V.int)) := upd_same
              have h7 := hH6.new (o := .lst ((us6.take n).map V.int)) hq
              generalize upd H6 q (.lst ((us6.take n).map V.int)) = H7 at s7 eq h7 ⊢
              refine ⟨q, _, rfl, .inl ⟨SqL.of eq, fun z hz => ?_⟩⟩
              have s8 : Same H7 (upd H7 z (.tup ((us6.take n).map V.int))) := same_new hz
              have f8 : FQ (upd H7 z (.tup ((us6.take n).map V.int))) (.ref z) (us6.take n) := FQ.new
              have h8 := h7.new (o := .tup ((us6.take n).map V.int)) hz
              generalize upd H7 z (.tup ((us6.take n).map V.int)) = H8 at s8 f8 h8 ⊢
              have s68 := s7.trans s8
              have eL8 := s68 _ _ eL
              have ndL := (hH1.ne hL).2.symm
              have kb : ∀ b o, b ≠ L → H8 b = some o → upd H8 L (.lst (ts ++ [.ref z])) b = some o := fun b o n h => by rw [upd_ne n]; exact h
              refine ⟨L, ts, _, rfl, rfl, eL8, by rw [paired_len pr]; exact small1000 (by omega), _, _, _, rfl, h8.put neL.symm ndL.symm, fun b o hb e => ?_, ts ++ [.ref z], rs ++ [us6.take n], upd_same, ?_, by rw [List.length_append, lr]; rfl, fun r hr => ?_⟩
              · rw [upd_ne (ne_of_none (k1 _ _ hb e) hL)]
                exact s68 _ _ (k6 _ _ hb e)
              · exact paired_app (paired_mono (fun _ _ f => (f.same s68).but eL8 kb) pr) (.cons (f8.but eL8 kb) .nil)
              · rcases List.mem_append.mp hr with h | h
                · exact al r h
                · rw [List.mem_singleton.mp h]
                  exact take_lets a6 n6
    · rintro σ H2 ⟨kv, rv, jv, rfl, hH2, k2, ts, rs, eL, pr, lr, al⟩
      refine ⟨_, rfl, L, ts, rfl, .inl ⟨SqL.of eL, fun q hq => ?_⟩⟩
      refine k (.ref q) rs _ ⟨q, ts, rfl, upd_same, paired_mono (fun _ _ f => f.same (same_new hq)) pr⟩ lr al (hH2.new hq) (k2.trans (Keep.new hq))
end
end WU

set_option maxRecDepth 100000
set_option maxHeartbeats 8000000
namespace WU
open PySem PySem.Spec PyProof.Rows L2
def retLc : Stmt → Scope
  | .Return (some (.Call _ (.ListComp _ _ sc _ :: _) _ _)) _ => sc
  | st => defScope st
theorem map_take_succ {α β : Type} {f : α → β} {l : List α} {i : Nat} {x : α} (h : l[i]? = some x) : (l.take (i + 1)).map f = (l.take i).map f ++ [f x] := by
  rw [List.take_succ, h, List.map_append]
  rfl
theorem map_range_succ {β : Type} {f : Nat → β} {i : Nat} : (List.range (i + 1)).map f = (List.range i).map f ++ [f i] := by
  rw [List.range_succ, List.map_append]
  rfl
theorem ref_new {H : Hp} {D q : Addr} {o : HO} (e : H D = some o) (hq : H q = none) : V.ref q ≠ V.ref D := fun z => by
  cases z
  rw [e] at hq
  cases hq
/-- ints that are places -/
def nV (ks : List Nat) : List V := ks.map fun (k : Nat) => V.int (k : Int)
theorem nV_at {ks : List Nat} {j : Nat} {y : V} (h : (nV ks)[j]? = some y) : ∃ k, ks[j]? = some k ∧ y = .int (k : Int) := by
  unfold nV at h
  rw [List.getElem?_map] at h
  obtain ⟨k, hk, rfl⟩ := Option.map_eq_some_iff.mp h
  exact ⟨k, hk, rfl⟩
theorem nV_len {ks : List Nat} : (nV ks).length = ks.length := List.length_map _
section
variable {P : Program} {w : World} {K : PySem.W.Frag} {mg : Str → Option Value} {base : Heap} {S : Addr}
/-- columns_at(rows, places) -/
def spCA : Sp := fun vs H Q _ => ∃ (v : V) (u : Addr) (rows : List (List Int)) (n : Nat) (ks : List Nat), vs = [v, .ref u] ∧ MT H v rows ∧ H u = some (.lst (nV ks)) ∧ (∀ r ∈ rows, r.length = n) ∧ (∀ k ∈ ks, k < n) ∧ rows.length ≤ 200 ∧ ks.length ≤ 200 ∧
  ∀ y H', Same H H' → MT H' y (rows.map fun r => ks.map (at0 r)) → Q y H'
theorem scCA : FnScope ["rows", "places", "row", "place"] ["rows", "places"] (defScope s_columns_at) := ⟨rfl, rfl, rfl, by decide +kernel, rfl, by decide +kernel, by decide +kernel⟩
theorem ok_CA {f : Addr} {fd : FuncData} (F : FnS K "columns_at" s_columns_at f fd) (B : Blt4 mg) : FnOk P w K mg base (L2.CX P w) 1 f fd ["rows", "places"] spCA := by
  refine F.ok scCA (fun vs H Q E h => ?_) (fun cdv A outer s H vs Q E hr h => ?_)
  · obtain ⟨v, u, rows, n, ks, rfl, _⟩ := h
    rfl
  · obtain ⟨v, u, rows, n, ks, rfl, ⟨a, ts, rfl, ha, hts⟩, hu, hR, hk, hm, hl, k⟩ := h
    have nd := scCA.nd
    refine ⟨_, (pss_one (ps_ret (pe_callTy (tup_ofK (K := K)) (by rfl) B.tuple (by decide +kernel) (pa_cons (pe_lc (own := [("row", 2)]) (g := gName 2) (by rfl) nd (pi_tupK (K := K) (pv 0)) (blkOk_by (own := [("row", 2)]) (N := ["rows", "places", "row", "place"]) (sc := defScope s_columns_at) (by decide +kernel)) (fun _ _ _ _ _ => (pg_name (i := 2) nd rfl (Or.inr rfl))) (fun _ _ _ _ _ => pts_nil) (fun _ _ _ _ _ => (pe_callTy (tup_ofK (K := K)) (by rfl) B.tuple (by decide +kernel) (pa_cons (pe_lc (own := [("place", 3)]) (g := gName 3) (by rfl) nd (pi_listK (K := K) (pv 1)) (blkOk_by (own := [("place", 3)]) (N := ["rows", "places", "row", "place"]) (sc := relS (retLc ((defBody s_columns_at).getD 0 (.Pass ⟨0, 0, 0, 0⟩))) (defScope s_columns_at)) (by decide +kernel)) (fun _ _ _ _ _ => (pg_name (i := 3) nd rfl (Or.inl rfl))) (fun _ _ _ _ _ => pts_nil) (fun _ _ _ _ _ => (pe_ix (ix_tupK (K := K)) (pv 2) (pv 3) (fun _ _ => rfl)))) pa_nil)))) pa_nil)))), ?_⟩
    refine ⟨_, rfl, a, rfl, ⟨_, SqT.of ha⟩, fun D hD => lc_tup (K := K) (a := a) (xs := ts) (fun i H' => Bld FT H D ((rows.take i).map fun r => ks.map (at0 r)) H') (Bld.start hD) (fun i H' _ b => SqT.of (b.same _ _ ha)) ?_ ?_⟩
    · intro i x H1 hx b
      obtain ⟨r, hr0, hxr⟩ := paired_at hts hx
      obtain ⟨c, rfl, hc⟩ := hxr.same b.same
      have hrl := hR r (List.mem_of_getElem? hr0)
      have hu1 := b.same _ _ hu
      refine ⟨rfl, _, rfl, u, rfl, ⟨_, SqL.of hu1⟩, fun D2 hD2 => lc_list (K := K) (a := u) (xs := nV ks) (fun j H' => Bld FI H1 D2 ((ks.take j).map (at0 r)) H') (Bld.start hD2) (fun j H' _ b => SqL.of (b.same _ _ hu1)) ?_ ?_⟩
      · intro j y H2 hy b2
        obtain ⟨q, hq, rfl⟩ := nV_at hy
        have hqn := hk q (List.mem_of_getElem? hq)
        refine ⟨rfl, _, rfl, _, rfl, c, _, _, _, rfl, rfl, sqT (rd_same b2.same hc), atI_nat (take_map_at n (r := r) (i := q) (by rw [hrl]; exact hqn)), ?_⟩
        rw [map_take_succ hq]
        exact b2.put (y := .int (at0 r q)) (z := at0 r q) stab_FI hD2 (Same.refl _) rfl (by intro z; cases z) (by rw [List.length_map, List.length_take]; exact small1000 (by omega))
      · intro H2 b2
        obtain ⟨s2, ys, eD, py⟩ := b2.fin
        rw [nV_len, List.take_length] at py
        rw [fi_map py] at eD
        refine ⟨D2, _, rfl, .inl ⟨SqL.of eD, fun q hq => ?_⟩⟩
        rw [map_take_succ hr0]
        exact b.put stab_FT hD (s2.trans (same_new hq)) FT.new (ref_new (s2 _ _ b.ex.choose_spec.1) hq) (by rw [List.length_map, List.length_take]; exact small1000 (by omega))
    · intro H1 b
      obtain ⟨s1, ys, eD, py⟩ := b.fin
      rw [paired_len hts, List.take_length] at py
      exact ⟨D, _, rfl, .inl ⟨SqL.of eD, fun q hq => k _ _ (s1.trans (same_new hq)) ⟨q, ys, rfl, upd_same, paired_mono (fun _ _ z => z.same (same_new hq)) py⟩⟩⟩
/-- turned_rows(rows, columns) -/
def spTR : Sp := fun vs H Q _ => ∃ (v : V) (rows : List (List Int)) (n : Nat), vs = [v, .int n] ∧ MT H v rows ∧ (∀ r ∈ rows, r.length = n) ∧ rows.length ≤ 200 ∧ n ≤ 200 ∧
  ∀ y H', Same H H' → MT H' y ((List.range n).map (colm rows)) → Q y H'
theorem scTR : FnScope ["rows", "columns", "place", "row"] ["rows", "columns"] (defScope s_turned_rows) := ⟨rfl, rfl, rfl, by decide +kernel, rfl, by decide +kernel, by decide +kernel⟩
theorem ok_TR {f : Addr} {fd : FuncData} (F : FnS K "turned_rows" s_turned_rows f fd) (B : Blt4 mg) : FnOk P w K mg base (L2.CX P w) 1 f fd ["rows", "columns"] spTR := by
  refine F.ok scTR (fun vs H Q E h => ?_) (fun cdv A outer s H vs Q E hr h => ?_)
  · obtain ⟨v, rows, n, rfl, _⟩ := h
    rfl
  · obtain ⟨v, rows, n, rfl, ⟨a, ts, rfl, ha, hts⟩, hR, hm, hn, k⟩ := h
    have nd := scTR.nd
    refine ⟨_, (pss_one (ps_ret (pe_callTy (tup_ofK (K := K)) (by rfl) B.tuple (by decide +kernel) (pa_cons (pe_lc (own := [("place", 2)]) (g := gName 2) (by rfl) nd (pi_range1 rfl B.range (pa_cons (pv 1) pa_nil)) (blkOk_by (own := [("place", 2)]) (N := ["rows", "columns", "place", "row"]) (sc := defScope s_turned_rows) (by decide +kernel)) (fun _ _ _ _ _ => (pg_name (i := 2) nd rfl (Or.inr rfl))) (fun _ _ _ _ _ => pts_nil) (fun _ _ _ _ _ => (pe_callTy (tup_ofK (K := K)) (by rfl) B.tuple (by decide +kernel) (pa_cons (pe_lc (own := [("row", 3)]) (g := gName 3) (by rfl) nd (pi_tupK (K := K) (pv 0)) (blkOk_by (own := [("row", 3)]) (N := ["rows", "columns", "place", "row"]) (sc := relS (retLc ((defBody s_turned_rows).getD 0 (.Pass ⟨0, 0, 0, 0⟩))) (defScope s_turned_rows)) (by decide +kernel)) (fun _ _ _ _ _ => (pg_name (i := 3) nd rfl (Or.inl rfl))) (fun _ _ _ _ _ => pts_nil) (fun _ _ _ _ _ => (pe_ix (ix_tupK (K := K)) (pv 3) (pv 2) (fun _ _ => rfl)))) pa_nil)))) pa_nil)))), ?_⟩
    refine ⟨_, rfl, (n : Int), rfl, by omega, by omega, fun D hD => lc_range (lo := 0) (n := n) (fun i H' => Bld FT H D ((List.range i).map (colm rows)) H') (Bld.start hD) ?_ ?_⟩
    · intro i H1 hi b
      have ha1 := b.same _ _ ha
      refine ⟨rfl, _, rfl, a, rfl, ⟨_, SqT.of ha1⟩, fun D2 hD2 => lc_tup (K := K) (a := a) (xs := ts) (fun j H' => Bld FI H1 D2 ((rows.take j).map fun r => at0 r i) H') (Bld.start hD2) (fun j H' _ b => SqT.of (b.same _ _ ha1)) ?_ ?_⟩
      · intro j x H2 hx b2
        obtain ⟨r, hr0, hxr⟩ := paired_at hts hx
        obtain ⟨c, rfl, hc⟩ := (hxr.same b.same).same b2.same
        have hrl := hR r (List.mem_of_getElem? hr0)
        refine ⟨rfl, _, rfl, _, rfl, c, _, _, _, rfl, rfl, sqT hc, (by rw [Int.zero_add]; exact atI_nat (take_map_at n (r := r) (i := i) (by rw [hrl]; exact hi))), ?_⟩
        rw [map_take_succ hr0]
        exact b2.put (y := .int (at0 r i)) (z := at0 r i) stab_FI hD2 (Same.refl _) rfl (by intro z; cases z) (by rw [List.length_map, List.length_take]; exact small1000 (by omega))
      · intro H2 b2
        obtain ⟨s2, ys, eD, py⟩ := b2.fin
        rw [paired_len hts, List.take_length] at py
        rw [fi_map py] at eD
        refine ⟨D2, _, rfl, .inl ⟨SqL.of eD, fun q hq => ?_⟩⟩
        rw [map_range_succ]
        exact b.put (z := colm rows i) stab_FT hD (s2.trans (same_new hq)) FT.new (ref_new (s2 _ _ b.ex.choose_spec.1) hq) (by rw [List.length_map, List.length_range]; exact small1000 (by omega))
    · intro H1 b
      obtain ⟨s1, ys, eD, py⟩ := b.fin
      exact ⟨D, _, rfl, .inl ⟨SqL.of eD, fun q hq => k _ _ (s1.trans (same_new hq)) ⟨q, ys, rfl, upd_same, paired_mono (fun _ _ z => z.same (same_new hq)) py⟩⟩⟩
/-- leads_of(reduced) -/
def nI (ks : List Nat) : List Int := ks.map fun (k : Nat) => (k : Int)
def spLO : Sp := fun vs H Q _ => ∃ (v : V) (p : Int) (L : List (List Int)) (n : Nat) (qs : List Nat), vs = [v] ∧ MN H v L ∧ Rr p n L qs ∧ L.length ≤ 400 ∧ ∀ y H', Same H H' → FT H' y (nI qs) → Q y H'
theorem scLO : FnScope ["reduced", "row"] ["reduced"] (defScope s_leads_of) := ⟨rfl, rfl, rfl, by decide +kernel, rfl, by decide +kernel, by decide +kernel⟩
theorem ok_LO {f : Addr} {fd : FuncData} (F : FnS K "leads_of" s_leads_of f fd) (B : Blt4 mg) : FnOk P w K mg base (L2.CX P w) 1 f fd ["reduced"] spLO := by
  refine F.ok scLO (fun vs H Q E h => ?_) (fun cdv A outer s H vs Q E hr h => ?_)
  · obtain ⟨v, p, L, n, qs, rfl, _⟩ := h
    rfl
  · obtain ⟨v, p, L, n, qs, rfl, ⟨a, ts, rfl, ha, hts⟩, R, hm, k⟩ := h
    have nd := scLO.nd
    refine ⟨_, (pss_one (ps_ret (pe_callTy (tup_ofK (K := K)) (by rfl) B.tuple (by decide +kernel) (pa_cons (pe_lc (own := [("row", 1)]) (g := gName 1) (by rfl) nd (pi_tupK (K := K) (pv 0)) (blkOk_by (own := [("row", 1)]) (N := ["reduced", "row"]) (sc := defScope s_leads_of) (by decide +kernel)) (fun _ _ _ _ _ => (pg_name (i := 1) nd rfl (Or.inl rfl))) (fun _ _ _ _ _ => pts_nil) (fun _ _ _ _ _ => (pe_bmN PySem.F.plainAttrs_tuple PySem.F.slot_tuple_index PySem.F.type_tuple_index (mt_tupIxK (K := K)) (pv 1) (pa_cons pe_int pa_nil)))) pa_nil)))), ?_⟩
    refine ⟨_, rfl, a, rfl, ⟨_, SqT.of ha⟩, fun D hD => lc_tup (K := K) (a := a) (xs := ts) (fun i H' => Bld FI H D (nI (qs.take i)) H') (Bld.start hD) (fun i H' _ b => SqT.of (b.same _ _ ha)) ?_ ?_⟩
    · intro i x H1 hx b
      obtain ⟨r, hr0, hxr⟩ := paired_at hts hx
      obtain ⟨c, ob, rfl, hc, hod⟩ := hxr.same b.same
      have hil := (List.getElem?_eq_some_iff.mp hr0).1
      obtain ⟨d, hd⟩ : ∃ d, qs[i]? = some d := ⟨_, List.getElem?_eq_getElem (by rw [R.piv.len]; exact hil)⟩
      have hdn := R.piv.plt d (List.mem_of_getElem? hd)
      have hrl := (R.piv.ltr r (List.mem_of_getElem? hr0)).1
      have h1 : at0 r d = 1 := by rw [R.piv.one i i r d hr0 hd, if_pos rfl]
      refine ⟨rfl, _, rfl, ⟨c, ob, _, rfl, hc, hod⟩, c, r, 1, d, rfl, rfl, sqT (.inr ⟨ob, hc⟩), (by rw [at0_some (by omega), h1]), fun m hmd e => ?_, ?_⟩
      · have e2 := R.ah.ahead i r d hr0 hd m hmd
        rw [at0_some (by omega), e2] at e
        cases e
      · unfold nI
        rw [map_take_succ hd]
        exact b.put (y := .int (d : Nat)) (z := (d : Int)) stab_FI hD (Same.refl _) rfl (by intro z; cases z) (by unfold nI; rw [List.length_map, List.length_take]; exact small1000 (by rw [R.piv.len]; omega))
    · intro H1 b
      obtain ⟨s1, ys, eD, py⟩ := b.fin
      rw [paired_len hts, ← R.piv.len, List.take_length] at py
      rw [fi_map py] at eD
      exact ⟨D, _, rfl, .inl ⟨SqL.of eD, fun q hq => k _ _ (s1.trans (same_new hq)) FT.new⟩⟩
end
end WU

set_option maxRecDepth 100000
set_option maxHeartbeats 8000000
namespace WU
open PySem PySem.Spec PyProof.Rows L2
structure Blt5 (mg : Str → Option Value) : Prop extends Blt4 mg where
  sum : mg "sum" = none
theorem sum_dotn {r ls : List Int} : ∀ n, ((List.range n).map fun k => at0 r k * at0 ls k).sum = dotn n r ls
  | 0 => rfl
  | n + 1 => by
    rw [map_range_succ, List.sum_append, sum_dotn n]
    show dotn n r ls + (at0 r n * at0 ls n + 0) = _
    rw [Int.add_zero]
    rfl
section
variable {P : Program} {w : World} {K : PySem.W.Frag} {mg : Str → Option Value} {base : Heap} {S : Addr}
/-- _products(p, rows, letters) -/
def spPr : Sp := fun vs H Q _ => ∃ (p : Int) (n : Nat) (v : V) (u : Addr) (rows : List (List Int)) (ls : List Int), vs = [.int p, v, .ref u] ∧ MT H v rows ∧ SqO H u (ls.map V.int) ∧ p ∈ primes ∧ (∀ r ∈ rows, Ltr p n r) ∧ ls.length = n ∧ n ≤ 200 ∧ rows.length ≤ 200 ∧
  ∀ y H', Same H H' → FT H' y (rows.map fun r => (dotn n r ls).fmod p) → Q y H'
theorem scPr : FnScope ["p", "rows", "letters", "row", "a", "b"] ["p", "rows", "letters"] (defScope s_u_products) := ⟨rfl, rfl, rfl, by decide +kernel, rfl, by decide +kernel, by decide +kernel⟩
theorem ok_Pr {f : Addr} {fd : FuncData} (F : FnS K "_products" s_u_products f fd) (B : Blt5 mg) : FnOk P w K mg base (L2.CX P w) 1 f fd ["p", "rows", "letters"] spPr := by
  refine F.ok scPr (fun vs H Q E h => ?_) (fun cdv A outer s H vs Q E hr h => ?_)
  · obtain ⟨p, n, v, u, rows, ls, rfl, _⟩ := h
    rfl
  · obtain ⟨p, n, v, u, rows, ls, rfl, ⟨a, ts, rfl, ha, hts⟩, hu, hp, hR, hl, hn, hm, k⟩ := h
    have nd := scPr.nd
    have hb := fld_le hp
    refine ⟨_, (pss_one (ps_ret (pe_callTy (tup_ofK (K := K)) (by rfl) B.tuple (by decide +kernel) (pa_cons (pe_lc (own := [("row", 3)]) (g := gName 3) (by rfl) nd (pi_tupK (K := K) (pv 1)) (blkOk_by (own := [("row", 3)]) (N := ["p", "rows", "letters", "row", "a", "b"]) (sc := defScope s_u_products) (by decide +kernel)) (fun _ _ _ _ _ => (pg_name (i := 3) nd rfl (Or.inl rfl))) (fun _ _ _ _ _ => pts_nil) (fun _ _ _ _ _ => (pe_op op_modN (pe_callB (cr_sumK (K := K) rfl) (by rfl) B.sum (by decide +kernel) (pa_cons (pe_lc (own := [("a", 4), ("b", 5)]) (g := gTup K 2 (gCons (gName 4) (gCons (gName 5) gNil))) (by rfl) nd (pi_zipMK (K := K) (by rfl) B.zip (pa_cons (pv 3) (pa_cons (pv 2) pa_nil))) (blkOk_by (own := [("a", 4), ("b", 5)]) (N := ["p", "rows", "letters", "row", "a", "b"]) (sc := relS (retLc ((defBody s_u_products).getD 0 (.Pass ⟨0, 0, 0, 0⟩))) (defScope s_u_products)) (by decide +kernel)) (fun _ _ _ _ _ => (pg_tupK (K := K) <| pg_tup rfl (pgs_cons (pg_name (i := 4) nd rfl (Or.inl rfl)) (pgs_cons (pg_name (i := 5) nd rfl (Or.inl rfl)) pgs_nil)))) (fun _ _ _ _ _ => pts_nil) (fun _ _ _ _ _ => (pe_op op_mul (pv 4) (pv 5)))) pa_nil)) (pv 0)))) pa_nil)))), ?_⟩
    refine ⟨_, rfl, a, rfl, ⟨_, SqT.of ha⟩, fun D hD => lc_tup (K := K) (a := a) (xs := ts) (fun i H' => Bld FI H D ((rows.take i).map fun r => (dotn n r ls).fmod p) H') (Bld.start hD) (fun i H' _ b => SqT.of (b.same _ _ ha)) ?_ ?_⟩
    · intro i x H1 hx b
      obtain ⟨r, hr0, hxr⟩ := paired_at hts hx
      obtain ⟨c, rfl, hc⟩ := hxr.same b.same
      have hrL := hR r (List.mem_of_getElem? hr0)
      have lr : (r.map V.int).length = n := by rw [List.length_map, hrL.1]
      have ll : (ls.map V.int).length = n := by rw [List.length_map, hl]
      refine ⟨rfl, _, rfl, _, rfl, c, u, r.map V.int, ls.map V.int, rfl, ?_⟩
      rcases hu.same b.same with hu1 | hu1
      · refine .inl ⟨sqT hc, SqL.of hu1, fun D2 hD2 => lc_it (walk_zipM lr ll) (fun j H' => Bld FI H1 D2 ((List.range j).map fun k => at0 r k * at0 ls k) H') (Bld.start hD2) (fun j H' _ b2 => ⟨sqT (rd_same b2.same hc), SqL.of (b2.same _ _ hu1)⟩) ?_ ?_⟩
        · rintro j x H2 H3 hj b2 ⟨T, x1, x2, rfl, hT, rfl, g1, g2⟩
          cases (take_map_at n (r := r) (i := j) (by rw [hrL.1]; exact hj)).symm.trans g1
          cases (take_map_at n (r := ls) (i := j) (by rw [hl]; exact hj)).symm.trans g2
          have bj := hrL.bd hj
          refine ⟨T, _, rfl, SqT.of upd_same, rfl, _, _, rfl, _, _, rfl, rfl, rfl, ?_⟩
          refine ⟨_, rfl, _, rfl, _, _, rfl, rfl, .inl ⟨by omega, by omega⟩, ?_⟩
          rw [map_range_succ]
          exact b2.put (y := .int (at0 r j * at0 ls j)) (z := at0 r j * at0 ls j) stab_FI hD2 (same_new hT) rfl (by intro z; cases z) (by rw [List.length_map, List.length_range]; exact small1000 (by omega))
        · intro H2 b2
          obtain ⟨s2, ys, eD, py⟩ := b2.fin
          rw [fi_map py] at eD
          refine ⟨D2, _, rfl, SqL.of eD, _, rfl, _, p, rfl, rfl, by omega, ?_⟩
          rw [sum_dotn, map_take_succ hr0]
          exact b.put (y := .int ((dotn n r ls).fmod p)) (z := (dotn n r ls).fmod p) stab_FI hD s2 rfl (by intro z; cases z) (by rw [List.length_map, List.length_take]; exact small1000 (by omega))
      · refine .inr ⟨sqT hc, sqT hu1, fun D2 hD2 => lc_it (walk_zipT (n := n) (by rw [lr, ll]; exact (Nat.min_self n).symm)) (fun j H' => Bld FI H1 D2 ((List.range j).map fun k => at0 r k * at0 ls k) H') (Bld.start hD2) (fun j H' _ b2 => ⟨sqT (rd_same b2.same hc), sqT (rd_same b2.same hu1)⟩) ?_ ?_⟩
        · rintro j x H2 H3 hj b2 ⟨T, x1, x2, rfl, hT, rfl, g1, g2⟩
          cases (take_map_at n (r := r) (i := j) (by rw [hrL.1]; exact hj)).symm.trans g1
          cases (take_map_at n (r := ls) (i := j) (by rw [hl]; exact hj)).symm.trans g2
          have bj := hrL.bd hj
          refine ⟨T, _, rfl, SqT.of upd_same, rfl, _, _, rfl, _, _, rfl, rfl, rfl, ?_⟩
          refine ⟨_, rfl, _, rfl, _, _, rfl, rfl, .inl ⟨by omega, by omega⟩, ?_⟩
          rw [map_range_succ]
          exact b2.put (y := .int (at0 r j * at0 ls j)) (z := at0 r j * at0 ls j) stab_FI hD2 (same_new hT) rfl (by intro z; cases z) (by rw [List.length_map, List.length_range]; exact small1000 (by omega))
        · intro H2 b2
          obtain ⟨s2, ys, eD, py⟩ := b2.fin
          rw [fi_map py] at eD
          refine ⟨D2, _, rfl, SqL.of eD, _, rfl, _, p, rfl, rfl, by omega, ?_⟩
          rw [sum_dotn, map_take_succ hr0]
          exact b.put (y := .int ((dotn n r ls).fmod p)) (z := (dotn n r ls).fmod p) stab_FI hD s2 rfl (by intro z; cases z) (by rw [List.length_map, List.length_take]; exact small1000 (by omega))
    · intro H1 b
      obtain ⟨s1, ys, eD, py⟩ := b.fin
      rw [paired_len hts, List.take_length] at py
      rw [fi_map py] at eD
      exact ⟨D, _, rfl, .inl ⟨SqL.of eD, fun q hq => k _ _ (s1.trans (same_new hq)) FT.new⟩⟩
/-- _zero_row(p, leading, leads, columns, free) -/
def spZR : Sp := fun vs H Q _ => ∃ (p : Int) (n f : Nat) (v l : V) (L : List (List Int)) (pvs : List Nat), vs = [.int p, v, l, .int n, .int f] ∧ MT H v L ∧ FT H l (nI pvs) ∧ p ∈ primes ∧ Rr p n L pvs ∧ f ∈ free n pvs ∧ n ≤ 200 ∧ L.length ≤ 400 ∧
  ∀ y z H', Same H H' → ZR p n L pvs f z → FT H' y z → Q y H'
theorem scZR : FnScope ["p", "leading", "leads", "columns", "free", "row", "lead", "other"] ["p", "leading", "leads", "columns", "free"] (defScope s_zero_row) := ⟨rfl, rfl, rfl, by decide +kernel, rfl, by decide +kernel, by decide +kernel⟩
theorem nI_at {ks : List Nat} {j : Nat} {y : V} (h : ((nI ks).map V.int)[j]? = some y) : ∃ k, ks[j]? = some k ∧ y = .int (k : Int) := by
  unfold nI at h
  rw [List.map_map, List.getElem?_map] at h
  obtain ⟨k, hk, rfl⟩ := Option.map_eq_some_iff.mp h
  exact ⟨k, hk, rfl⟩
theorem nI_len {ks : List Nat} : (nI ks).length = ks.length := List.length_map _
theorem ok_ZR {f : Addr} {fd : FuncData} (F : FnS K "_zero_row" s_zero_row f fd) (B : Blt4 mg) : FnOk P w K mg base (L2.CX P w) 1 f fd ["p", "leading", "leads", "columns", "free"] spZR := by
  refine F.ok scZR (fun vs H Q E h => ?_) (fun cdv A outer s H vs Q E hr h => ?_)
  · obtain ⟨p, n, f, v, l, L, pvs, rfl, _⟩ := h
    rfl
  · obtain ⟨p, n, f, v, l, L, pvs, rfl, ⟨a, ts, rfl, ha, hts⟩, ⟨c, rfl, hc⟩, hp, R, hf, hn, hm, k⟩ := h
    have nd := scZR.nd
    have hb := fld_le hp
    obtain ⟨f1, f2⟩ := free_mem.mp hf
    refine ⟨_, (pss_cons (ps_set (i := 5) nd rfl (Or.inl rfl) (pe_op op_rep (pe_lst (pa_cons pe_int pa_nil)) (pv 3)))
      (pss_cons (ps_asg pe_int (pg_sub (pv 5) (pv 4) set_list))
      (pss_cons (ps_for (passes_of rfl) rfl (RZ.pi_zipA (by rfl) B.zip (pa_cons (pv 2) (pa_cons (pv 1) pa_nil))) (pg_tup rfl (pgs_cons (pg_name (i := 6) nd rfl (Or.inl rfl)) (pgs_cons (pg_name (i := 7) nd rfl (Or.inl rfl)) pgs_nil))) (pss_one (ps_asg (pe_op op_modN (pe_un un_neg (pe_ix (ix_tupK (K := K)) (pv 7) (pv 4) (fun _ _ => rfl))) (pv 0)) (pg_sub (pv 5) (pv 6) set_list))))
      (pss_one (ps_ret (pe_callTy (tup_ofK (K := K)) (by rfl) B.tuple (by decide +kernel) (pa_cons (pv 5) pa_nil))))))), ?_⟩
    refine ⟨(by show 1 ≤ sizeLine; decide), fun Z hZ => ⟨_, rfl, Z, (n : Int), _, rfl, rfl, upd_same, by omega, by omega, ?_, fun q hq => ?_⟩⟩
    · show 1 * (n : Int).toNat ≤ sizeLine
      exact Nat.le_of_lt (small1000 (by omega))
    · rw [Int.toNat_natCast, rep_int]
      have sz : Same H (upd H Z (.lst [.int 0])) := same_new hZ
      generalize upd H Z (.lst [.int 0]) = H1 at sz hq ⊢
      have sq : Same H1 (upd H1 q (.lst ((List.replicate n (0 : Int)).map V.int))) := same_new hq
      have nq : ∀ b o, H b = some o → b ≠ q := fun b o e => ne_of_none (sz _ _ e) hq
      have eq : upd H1 q (.lst ((List.replicate n (0 : Int)).map V.int)) q = some (.lst ((List.replicate n (0 : Int)).map V.int)) := upd_same
      have s2 := sz.trans sq
      generalize upd H1 q (.lst ((List.replicate n (0 : Int)).map V.int)) = H2 at s2 eq ⊢
      refine ⟨_, rfl, _, rfl, q, _, (f : Int), f, rfl, rfl, eq, (by rw [List.length_map, List.length_replicate]; exact ixN_at f1), ?_⟩
      have e0 : ((List.replicate n (0 : Int)).map V.int).set f (V.int 1) = (unt n f).map V.int := by
        rw [← List.map_set]
        rfl
      rw [e0]
      have put : ∀ (H3 : Hp) (o : HO), Same H H3 → Same H (upd H3 q o) := fun H3 o s3 b ob e => by
        rw [upd_ne (nq b ob e)]
        exact s3 _ _ e
      have lc : ((nI pvs).map V.int).length = L.length := by rw [List.length_map, nI_len, R.piv.len]
      have lt := paired_len hts
      refine ⟨_, rfl, _, rfl, c, a, _, _, rfl, .inr ⟨sqT (rd_same (put H2 _ s2) hc), SqT.of (put H2 _ s2 _ _ ha), for_it (walk_zipT (n := L.length) (by rw [lc, lt]; exact (Nat.min_self _).symm)) (fun t σ H' => ∃ (x : List Int) (ld ot : Option V), σ = [some (.int p), some (.ref a), some (.ref c), some (.int n), some (.int f), some (.ref q), ld, ot] ∧ Same H H' ∧ H' q = some (.lst (x.map V.int)) ∧ SetP (unt n f) pvs (zval p L f) t x)
        ⟨unt n f, none, none, rfl, put H2 _ s2, upd_same, setP_zero⟩ (fun t σ H' _ ⟨x, ld, ot, _, s3, _⟩ => ⟨sqT (rd_same s3 hc), SqT.of (s3 _ _ ha)⟩) ?_ ?_⟩⟩
      · rintro t y σ H3 H4 ht ⟨x, ld, ot, rfl, s3, eR, hx⟩ ⟨T, x1, x2, rfl, hT, rfl, g1, g2⟩
        obtain ⟨d, hd, rfl⟩ := nI_at g1
        obtain ⟨r, hr0, hxr⟩ := paired_at hts g2
        obtain ⟨e, rfl, he⟩ := (hxr.same s3).same (same_new (o := .tup [.int (d : Int), x2]) hT)
        have hrl := (R.piv.ltr r (List.mem_of_getElem? hr0)).1
        have hdn := R.piv.plt d (List.mem_of_getElem? hd)
        have gd : L.getD t [] = r := by rw [List.getD_eq_getElem?_getD, hr0]; rfl
        have hxl : x.length = n := by rw [hx.len, unt_len]
        have s4 : Same H3 (upd H3 T (.tup [.int (d : Int), .ref e])) := same_new hT
        have eR4 := s4 _ _ eR
        refine ⟨T, _, rfl, SqT.of upd_same, rfl, _, _, rfl, _, _, rfl, rfl, ?_⟩
        refine ⟨_, rfl, _, rfl, e, _, _, _, rfl, rfl, sqT he, atI_nat (take_map_at n (r := r) (i := f) (by rw [hrl]; exact f1)), _, rfl, _, rfl, _, p, rfl, rfl, by omega, ?_⟩
        refine ⟨_, rfl, _, rfl, q, _, (d : Int), d, rfl, rfl, eR4, (by rw [List.length_map, hxl]; exact ixN_at hdn), ?_⟩
        refine ⟨x.set d (zval p L f t), _, _, rfl, put _ _ (s3.trans s4), ?_, setP_step R.ah.inc hx hd (by rw [unt_len]; exact hdn)⟩
        rw [upd_same, List.map_set]
        unfold zval
        rw [gd]
      · rintro σ H3 ⟨x, ld, ot, rfl, s3, eR, hx⟩
        exact ⟨_, rfl, q, _, rfl, .inl ⟨SqL.of eR, fun z hz => k _ x _ (s3.trans (same_new hz)) hx FT.new⟩⟩
end
end WU

set_option maxRecDepth 100000
set_option maxHeartbeats 8000000
namespace WU
open PySem PySem.Spec PyProof.Rows L2
theorem nI_succ {q : Nat → Bool} {i : Nat} : nI ((List.range (i + 1)).filter q) = nI ((List.range i).filter q) ++ (if q i = true then [(i : Int)] else []) := by
  unfold nI
  rw [List.range_succ, List.filter_append, List.map_append, List.filter_cons]
  split <;> rfl
theorem nI_le {q : Nat → Bool} {i : Nat} : (nI ((List.range i).filter q)).length ≤ i := by
  rw [nI_len]
  exact Nat.le_trans (List.length_filter_le _ _) (by simp)
theorem mem_nI {k : Nat} {ks : List Nat} : ((k : Int) ∈ nI ks) ↔ k ∈ ks := by
  unfold nI
  rw [List.mem_map]
  constructor
  · rintro ⟨a, ha, e⟩
    have : a = k := by omega
    exact this ▸ ha
  · exact fun h => ⟨k, h, rfl⟩
theorem inV_ints {z : Int} : ∀ {zs : List Int}, inV (.int z) (zs.map V.int) = decide (z ∈ zs)
  | [] => rfl
  | y :: zs => by
    have ih := inV_ints (z := z) (zs := zs)
    unfold inV at ih ⊢
    rw [List.map_cons, List.any_cons, ih]
    have e : eqV (V.int y) (V.int z) = decide (y = z) := by
      show (y == z) = _
      by_cases h : y = z
      · rw [decide_eq_true h]; exact beq_iff_eq.mpr h
      · rw [decide_eq_false h]; exact beq_eq_false_iff_ne.mpr h
    rw [e]
    by_cases h : y = z
    · subst h
      have m : decide (y ∈ y :: zs) = true := decide_eq_true List.mem_cons_self
      rw [m, decide_eq_true (rfl : y = y)]
      rfl
    · rw [decide_eq_false h, Bool.false_or]
      by_cases h2 : z ∈ zs
      · rw [decide_eq_true h2, decide_eq_true (List.mem_cons_of_mem _ h2)]
      · rw [decide_eq_false h2, decide_eq_false (fun z2 => (List.mem_cons.mp z2).elim (fun q => h q.symm) h2)]
theorem widD_wid (rows : List (List Int)) : widD (MD rows) = (wid rows : Nat) := by
  cases rows with
  | nil => rfl
  | cons r t =>
    show (((r.map PyData.int).length : Nat) : Int) = (r.length : Nat)
    rw [List.length_map]
theorem wid_of {p : Int} {n : Nat} {rows : List (List Int)} (h : ∀ r ∈ rows, Ltr p n r) : wid rows ≤ n ∧ ∀ r ∈ rows, r.length = wid rows := by
  cases rows with
  | nil => exact ⟨Nat.zero_le _, fun r hr => nomatch hr⟩
  | cons r t => exact ⟨Nat.le_of_eq (h r List.mem_cons_self).1, fun u hu => (h u hu).1.trans (h r List.mem_cons_self).1.symm⟩
theorem red_le {p : Int} {n : Nat} {rows : List (List Int)} (h : ∀ r ∈ rows, Ltr p n r) : (red p rows).length ≤ rows.length := by
  rw [red_run h]
  have := run_len (p := p) (rows := rows) n
  omega
section
variable {P : Program} {w : World} {K : PySem.W.Frag} {mg : Str → Option Value} {base : Heap} {S : Addr}
/-- the checks of the field and of the matrix -/
def ChkP (K : PySem.W.Frag) (H : Hp) (v u : V) (E : XK) (good : Int → Prop) : Prop := Ty3 K H v ∧ (isFld v = false → Errs (He.ga K "InvalidNumber") "value" v H E) ∧
  ∀ p, v = .int p → isFld v = true → (∃ d, Dp K H u d ∧ smallM d ∧ matD p (widD d) d = false ∧ Errs (He.ga K "InvalidMatrix") "value" u H E) ∨ good p
/-- zero_rows(p, rows, columns) -/
def spZs (K : PySem.W.Frag) : Sp := fun vs H Q E => ∃ (v u : V) (c : V), vs = [v, u, c] ∧ ChkP K H v u E fun p => ∃ (n : Nat) (rows : List (List Int)), c = .int n ∧ MT H u rows ∧ (∀ r ∈ rows, Ltr p n r) ∧ n ≤ 200 ∧ rows.length ≤ 200 ∧
  ∀ y H' Z qs, Same H H' → Rr p n (red p rows) qs → Z.length = (free n qs).length → (∀ (i f : Nat) (z : List Int), (free n qs)[i]? = some f → Z[i]? = some z → ZR p n (red p rows) qs f z) → MT H' y (red p Z) → Q y H'
theorem scZs : FnScope ["p", "rows", "columns", "leading", "leads", "free", "place"] ["p", "rows", "columns"] (defScope s_zero_rows) := ⟨rfl, rfl, rfl, by decide +kernel, rfl, by decide +kernel, by decide +kernel⟩
theorem ok_Zs {f f1 f2 f3 f4 : Addr} {fd fd1 fd2 fd3 fd4 : FuncData} (F : FnS K "zero_rows" s_zero_rows f fd) (B : Blt5 mg) (CM : Cal P w K mg base 7 "check_matrix" f1 fd1 ["p", "rows"] (spChk K)) (CR : Cal P w K mg base 6 "_reduced" f2 fd2 ["p", "rows"] spRed)
    (CL : Cal P w K mg base 1 "leads_of" f3 fd3 ["reduced"] spLO) (CZ : Cal P w K mg base 1 "_zero_row" f4 fd4 ["p", "leading", "leads", "columns", "free"] spZR) : FnOk P w K mg base (L2.CX P w) 8 f fd ["p", "rows", "columns"] (spZs K) := by
  refine F.ok scZs (fun vs H Q E h => ?_) (fun cdv A outer s H vs Q E hr h => ?_)
  · obtain ⟨v, u, c, rfl, _⟩ := h
    rfl
  · obtain ⟨v, u, c, rfl, hv, kF, kk⟩ := h
    have nd := scZs.nd
    refine ⟨_, (pss_cons (ps_expr (pe_cal (E := E) CM (hr.mono (by decide)) (pa_cons (pv 0) (pa_cons (pv 1) pa_nil)) (passes_call (takes_of rfl rfl rfl rfl) (fun _ _ _ _ h => h))))
      (pss_cons (ps_set (i := 3) nd rfl (Or.inr rfl) (pe_cal CR (hr.mono (by decide)) (pa_cons (pv 0) (pa_cons (pv 1) pa_nil)) passU))
      (pss_cons (ps_set (i := 4) nd rfl (Or.inr rfl) (pe_cal CL (hr.mono (by decide)) (pa_cons (pv 3) pa_nil) passU))
      (pss_cons (ps_setLc (i := 5) (own := [("place", 6)]) (g := gName 6) (by rfl) nd rfl rfl (sw_true rfl rfl rfl (by decide +kernel)) (pi_range1 rfl B.range (pa_cons (pv 2) pa_nil)) (blkOk_by (own := [("place", 6)]) (N := ["p", "rows", "columns", "leading", "leads", "free", "place"]) (sc := defScope s_zero_rows) (by decide +kernel)) (fun _ _ _ _ _ => (pg_name (i := 6) nd rfl (Or.inl rfl))) (fun _ _ _ _ _ => pts_one (pt_cmpR (op_notInK (K := K)) (pv 6) (pv 4) rfl)) (fun _ _ _ _ _ => (pv 6)))
      (pss_one (ps_ret (pe_cal CR (hr.mono (by decide)) (pa_cons (pv 0) (pa_cons (pe_lc (own := [("place", 6)]) (g := gName 6) (by rfl) nd (pi_listK (K := K) (pv 5)) (blkOk_by (own := [("place", 6)]) (N := ["p", "rows", "columns", "leading", "leads", "free", "place"]) (sc := defScope s_zero_rows) (by decide +kernel)) (fun _ _ _ _ _ => (pg_name (i := 6) nd rfl (Or.inl rfl))) (fun _ _ _ _ _ => pts_nil) (fun _ _ _ _ _ => (pe_cal CZ (hr.mono (by decide)) (pa_cons (pv 0) (pa_cons (pv 3) (pa_cons (pv 4) (pa_cons (pv 2) (pa_cons (pv 6) pa_nil))))) passU))) pa_nil)) passU))))))), ?_⟩
    refine ⟨_, rfl, _, rfl, v, u, rfl, hv, kF, fun p ep e => ?_⟩
    subst ep
    rcases kk p rfl e with ⟨d, hd, hz, em, kE⟩ | k
    · exact ⟨d, hd, hz, fun _ => kE, fun e2 => by rw [em] at e2; cases e2⟩
    obtain ⟨n, rows, rfl, hM, hR, hn, hm, k⟩ := k
    refine ⟨MD rows, hM.dp, small_rows hR hn hm, fun e2 => (by rw [wid_rows hR] at e2; cases e2), fun _ H1 s1 => ?_⟩
    have hp := fld_mem e
    refine ⟨_, rfl, _, rfl, p, n, u, rows, rfl, (hM.same s1).sr, hp, hR, hn, hm, fun y H2 s2 hy => ?_⟩
    obtain ⟨qs, R, _, _⟩ := red_rr hp hR
    have hle := red_le hR
    refine ⟨_, rfl, y, p, red p rows, n, qs, rfl, hy, R, by omega, fun yl H3 s3 hl => ?_⟩
    obtain ⟨c, rfl, hc⟩ := id hl
    refine ⟨_, rfl, (n : Int), rfl, by omega, by omega, fun D hD => lc_range (lo := 0) (n := n) (fun i H' => Bld FI H3 D (nI ((List.range i).filter fun k => decide (k ∉ qs))) H') (Bld.start hD) ?_ ?_⟩
    · intro i H4 hi b
      rw [Int.zero_add]
      refine ⟨rfl, _, rfl, _, rfl, c, _, rfl, .inr (sqT (rd_same b.same hc)), rfl, flat_ints _, _, rfl, ?_⟩
      rw [inV_ints, nI_succ]
      show if (!decide ((i : Int) ∈ nI qs)) = true then _ else _
      by_cases h : i ∈ qs
      · rw [decide_eq_true (mem_nI.mpr h), decide_eq_false (fun z : i ∉ qs => z h)]
        refine iteF ?_
        rw [if_neg (by decide), List.append_nil]
        exact b
      · rw [decide_eq_false (fun z => h (mem_nI.mp z)), decide_eq_true h]
        refine iteT ⟨_, rfl, ?_⟩
        rw [if_pos rfl]
        exact b.put (y := .int (i : Nat)) (z := (i : Int)) stab_FI hD (Same.refl _) rfl (by intro z; cases z) (small1000 (Nat.le_trans nI_le (by omega)))
    · intro H4 b
      obtain ⟨s4, ys, eD, py⟩ := b.fin
      rw [fi_map py] at eD
      have hy4 := (hy.same (s3.trans s4)).mt
      have hl4 := hl.same s4
      refine ⟨_, rfl, _, rfl, D, rfl, ⟨_, SqL.of eD⟩, fun D2 hD2 => lc_list (K := K) (a := D) (xs := (nI (free n qs)).map V.int) (fun i H' => ∃ Zs, Bld FT H4 D2 Zs H' ∧ Zs.length = i ∧ ∀ (j f : Nat) (z : List Int), (free n qs)[j]? = some f → Zs[j]? = some z → ZR p n (red p rows) qs f z)
        ⟨[], Bld.start hD2, rfl, fun j f z _ h => nomatch h⟩ (fun i H' _ ⟨Zs, b, _⟩ => SqL.of (b.same _ _ eD)) ?_ ?_⟩
      · rintro i x H5 hx ⟨Zs, b, lZ, hZ⟩
        obtain ⟨f, hf, rfl⟩ := nI_at hx
        have hfm := List.mem_of_getElem? hf
        refine ⟨rfl, _, rfl, _, rfl, _, rfl, _, rfl, _, rfl, p, n, f, y, _, red p rows, qs, rfl, hy4.same b.same, hl4.same b.same, hp, R, hfm, hn, by omega, fun y6 z H6 s6 hz hy6 => ?_⟩
        have hi := (List.getElem?_eq_some_iff.mp hf).1
        have hfr := free_len (pv := qs) R.ah.inc R.piv.plt
        obtain ⟨acc, g1, g2, g3⟩ := b.put stab_FT hD2 s6 hy6 (hy6.neL (s6 _ _ b.ex.choose_spec.1)) (small1000 (by omega))
        refine ⟨acc, g1, g2, Zs ++ [z], g3, by rw [List.length_append, lZ]; rfl, fun j f' z' hf' hz' => ?_⟩
        by_cases hj : j < Zs.length
        · rw [List.getElem?_append_left hj] at hz'
          exact hZ j f' z' hf' hz'
        · have hj2 := (List.getElem?_eq_some_iff.mp hz').1
          rw [List.length_append] at hj2
          have ej : j = Zs.length := by
            have : j < Zs.length + 1 := hj2
            omega
          rw [ej, List.getElem?_append_right (Nat.le_refl _), Nat.sub_self] at hz'
          cases hz'
          rw [ej, lZ, hf] at hf'
          cases hf'
          exact hz
      · rintro H5 ⟨Zs, b, lZ, hZ⟩
        obtain ⟨s5, ts, eD2, pz⟩ := b.fin
        rw [List.length_map, nI_len] at lZ
        have hfr := free_len (pv := qs) R.ah.inc R.piv.plt
        have hLz : ∀ z ∈ Zs, Ltr p n z := fun z hz => by
          obtain ⟨i, hi⟩ := List.getElem?_of_mem hz
          have hil := (List.getElem?_eq_some_iff.mp hi).1
          have hf : (free n qs)[i]? = some (free n qs)[i] := List.getElem?_eq_getElem (by omega)
          exact zr_ltr hp R (List.mem_of_getElem? hf) (hZ i _ z hf hi)
        refine ⟨p, n, .ref D2, Zs, rfl, ⟨D2, ts, rfl, .inl eD2, pz⟩, hp, hLz, hn, by omega, fun y6 H6 s6 hy6 => ?_⟩
        exact k y6 H6 Zs qs ((((s1.trans s2).trans s3).trans s4).trans (s5.trans s6)) R lZ hZ hy6.mt
/-- without_columns(p, rows, places) -/
def spWC (K : PySem.W.Frag) : Sp := fun vs H Q E => ∃ (v u : V) (c : V), vs = [v, u, c] ∧ ChkP K H v u E fun p => ∃ (n : Nat) (rows : List (List Int)) (a : Addr) (ps : List Int), c = .ref a ∧ SqO H a (ps.map V.int) ∧ MT H u rows ∧ (∀ r ∈ rows, Ltr p n r) ∧ n ≤ 200 ∧ rows.length ≤ 200 ∧
  ∀ y H', Same H H' → MT H' y (rows.map fun r => ((List.range (wid rows)).filter fun (k : Nat) => decide ((k : Int) ∉ ps)).map (at0 r)) → Q y H'
theorem scWC : FnScope ["p", "rows", "places", "kept", "place"] ["p", "rows", "places"] (defScope s_without_columns) := ⟨rfl, rfl, rfl, by decide +kernel, rfl, by decide +kernel, by decide +kernel⟩
theorem ok_WC {f f1 f2 f3 : Addr} {fd fd1 fd2 fd3 : FuncData} (F : FnS K "without_columns" s_without_columns f fd) (B : Blt5 mg) (CM : Cal P w K mg base 7 "check_matrix" f1 fd1 ["p", "rows"] (spChk K)) (CW : Cal P w K mg base 1 "width_of_rows" f2 fd2 ["rows"] (spWid K))
    (CC : Cal P w K mg base 1 "columns_at" f3 fd3 ["rows", "places"] spCA) : FnOk P w K mg base (L2.CX P w) 8 f fd ["p", "rows", "places"] (spWC K) := by
  refine F.ok scWC (fun vs H Q E h => ?_) (fun cdv A outer s H vs Q E hr h => ?_)
  · obtain ⟨v, u, c, rfl, _⟩ := h
    rfl
  · obtain ⟨v, u, c, rfl, hv, kF, kk⟩ := h
    have nd := scWC.nd
    refine ⟨_, (pss_cons (ps_expr (pe_cal (E := E) CM (hr.mono (by decide)) (pa_cons (pv 0) (pa_cons (pv 1) pa_nil)) (passes_call (takes_of rfl rfl rfl rfl) (fun _ _ _ _ h => h))))
      (pss_cons (ps_setLc (i := 3) (own := [("place", 4)]) (g := gName 4) (by rfl) nd rfl rfl (sw_true rfl rfl rfl (by decide +kernel)) (pi_range1 rfl B.range (pa_cons (pe_cal CW (hr.mono (by decide)) (pa_cons (pv 1) pa_nil) passU) pa_nil)) (blkOk_by (own := [("place", 4)]) (N := ["p", "rows", "places", "kept", "place"]) (sc := defScope s_without_columns) (by decide +kernel)) (fun _ _ _ _ _ => (pg_name (i := 4) nd rfl (Or.inl rfl))) (fun _ _ _ _ _ => pts_one (pt_cmpR (op_notInK (K := K)) (pv 4) (pv 2) rfl)) (fun _ _ _ _ _ => (pv 4)))
      (pss_one (ps_ret (pe_cal CC (hr.mono (by decide)) (pa_cons (pv 1) (pa_cons (pv 3) pa_nil)) passU))))), ?_⟩
    refine ⟨_, rfl, _, rfl, v, u, rfl, hv, kF, fun p ep e => ?_⟩
    subst ep
    rcases kk p rfl e with ⟨d, hd, hz, em, kE⟩ | k
    · exact ⟨d, hd, hz, fun _ => kE, fun e2 => by rw [em] at e2; cases e2⟩
    obtain ⟨n, rows, a, ps, rfl, hq, hM, hR, hn, hm, k⟩ := k
    refine ⟨MD rows, hM.dp, small_rows hR hn hm, fun e2 => (by rw [wid_rows hR] at e2; cases e2), fun _ H1 s1 => ?_⟩
    obtain ⟨wl, wr⟩ := wid_of hR
    refine ⟨_, rfl, u, MD rows, rfl, (hM.same s1).dp, ?_⟩
    rw [widD_wid]
    refine ⟨(wid rows : Int), rfl, by omega, by omega, fun D hD => lc_range (lo := 0) (n := wid rows) (fun i H' => Bld FI H1 D (nI ((List.range i).filter fun (k : Nat) => decide ((k : Int) ∉ ps))) H') (Bld.start hD) ?_ ?_⟩
    · intro i H4 hi b
      rw [Int.zero_add]
      refine ⟨rfl, _, rfl, _, rfl, a, _, rfl, (hq.same (s1.trans b.same)).imp SqL.of sqT, rfl, flat_ints _, _, rfl, ?_⟩
      rw [inV_ints, nI_succ]
      show if (!decide ((i : Int) ∈ ps)) = true then _ else _
      by_cases h : (i : Int) ∈ ps
      · rw [decide_eq_true h, decide_eq_false (fun z : (i : Int) ∉ ps => z h)]
        refine iteF ?_
        rw [if_neg (by decide), List.append_nil]
        exact b
      · rw [decide_eq_false h, decide_eq_true h]
        refine iteT ⟨_, rfl, ?_⟩
        rw [if_pos rfl]
        exact b.put (y := .int (i : Nat)) (z := (i : Int)) stab_FI hD (Same.refl _) rfl (by intro z; cases z) (small1000 (Nat.le_trans nI_le (by omega)))
    · intro H4 b
      obtain ⟨s4, ys, eD, py⟩ := b.fin
      rw [fi_map py] at eD
      have eD2 : H4 D = some (.lst (nV ((List.range (wid rows)).filter fun (k : Nat) => decide ((k : Int) ∉ ps)))) := by
        rw [eD]
        unfold nV nI
        rw [List.map_map]
        rfl
      refine ⟨_, rfl, _, rfl, u, D, rows, wid rows, _, rfl, hM.same (s1.trans s4), eD2, wr, fun k hk => List.mem_range.mp (List.mem_filter.mp hk).1, hm, ?_, fun y H5 s5 hy => k y H5 ((s1.trans s4).trans s5) hy⟩
      have := nI_le (q := fun (k : Nat) => decide ((k : Int) ∉ ps)) (i := wid rows)
      rw [nI_len] at this
      omega
/-- products(p, rows, letters) -/
def spPs (K : PySem.W.Frag) : Sp := fun vs H Q E => ∃ (v u : V) (c : V), vs = [v, u, c] ∧ ChkP K H v u E fun p => ∃ (n : Nat) (rows : List (List Int)) (a : Addr) (ls : List Int), c = .ref a ∧ SqO H a (ls.map V.int) ∧ ls.length = n ∧ MT H u rows ∧ (∀ r ∈ rows, Ltr p n r) ∧ n ≤ 200 ∧ rows.length ≤ 200 ∧
  ∀ y H', Same H H' → FT H' y (rows.map fun r => (dotn n r ls).fmod p) → Q y H'
theorem scPs : FnScope ["p", "rows", "letters"] ["p", "rows", "letters"] (defScope s_products) := ⟨rfl, rfl, rfl, by decide +kernel, rfl, by decide +kernel, by decide +kernel⟩
theorem ok_Ps {f f1 f2 : Addr} {fd fd1 fd2 : FuncData} (F : FnS K "products" s_products f fd) (CM : Cal P w K mg base 7 "check_matrix" f1 fd1 ["p", "rows"] (spChk K)) (CP : Cal P w K mg base 1 "_products" f2 fd2 ["p", "rows", "letters"] spPr) :
    FnOk P w K mg base (L2.CX P w) 8 f fd ["p", "rows", "letters"] (spPs K) := by
  refine F.ok scPs (fun vs H Q E h => ?_) (fun cdv A outer s H vs Q E hr h => ?_)
  · obtain ⟨v, u, c, rfl, _⟩ := h
    rfl
  · obtain ⟨v, u, c, rfl, hv, kF, kk⟩ := h
    refine ⟨_, (pss_cons (ps_expr (pe_cal (E := E) CM (hr.mono (by decide)) (pa_cons (pv 0) (pa_cons (pv 1) pa_nil)) (passes_call (takes_of rfl rfl rfl rfl) (fun _ _ _ _ h => h))))
      (pss_one (ps_ret (pe_cal CP (hr.mono (by decide)) (pa_cons (pv 0) (pa_cons (pv 1) (pa_cons (pv 2) pa_nil))) passU)))), ?_⟩
    refine ⟨_, rfl, _, rfl, v, u, rfl, hv, kF, fun p ep e => ?_⟩
    subst ep
    rcases kk p rfl e with ⟨d, hd, hz, em, kE⟩ | k
    · exact ⟨d, hd, hz, fun _ => kE, fun e2 => by rw [em] at e2; cases e2⟩
    obtain ⟨n, rows, a, ls, rfl, hq, hl, hM, hR, hn, hm, k⟩ := k
    refine ⟨MD rows, hM.dp, small_rows hR hn hm, fun e2 => (by rw [wid_rows hR] at e2; cases e2), fun _ H1 s1 => ?_⟩
    exact ⟨_, rfl, _, rfl, _, rfl, p, n, u, a, rows, ls, rfl, hM.same s1, hq.same s1, fld_mem e, hR, hl, hn, hm, fun y H2 s2 hy => k y H2 (s1.trans s2) hy⟩
/-- matrix_product(p, rows, others) -/
def spMP (K : PySem.W.Frag) : Sp := fun vs H Q E => ∃ (v u : V) (c : V), vs = [v, u, c] ∧ ChkP K H v u E fun p => ∃ (n m : Nat) (rows others : List (List Int)), MT H c others ∧ others ≠ [] ∧ others.length = n ∧ (∀ r ∈ others, Ltr p m r) ∧ m ≤ 200 ∧ MT H u rows ∧ (∀ r ∈ rows, Ltr p n r) ∧ n ≤ 200 ∧ rows.length ≤ 200 ∧
  ∀ y H', Same H H' → MT H' y (rows.map fun r => ((List.range m).map (colm others)).map fun c => (dotn n c r).fmod p) → Q y H'
theorem scMP : FnScope ["p", "rows", "others", "columns", "row"] ["p", "rows", "others"] (defScope s_matrix_product) := ⟨rfl, rfl, rfl, by decide +kernel, rfl, by decide +kernel, by decide +kernel⟩
theorem ok_MP {f f1 f2 f3 f4 : Addr} {fd fd1 fd2 fd3 fd4 : FuncData} (F : FnS K "matrix_product" s_matrix_product f fd) (B : Blt5 mg) (CM : Cal P w K mg base 7 "check_matrix" f1 fd1 ["p", "rows"] (spChk K)) (CW : Cal P w K mg base 1 "width_of_rows" f2 fd2 ["rows"] (spWid K))
    (CT : Cal P w K mg base 1 "turned_rows" f3 fd3 ["rows", "columns"] spTR) (CP : Cal P w K mg base 1 "_products" f4 fd4 ["p", "rows", "letters"] spPr) : FnOk P w K mg base (L2.CX P w) 8 f fd ["p", "rows", "others"] (spMP K) := by
  refine F.ok scMP (fun vs H Q E h => ?_) (fun cdv A outer s H vs Q E hr h => ?_)
  · obtain ⟨v, u, c, rfl, _⟩ := h
    rfl
  · obtain ⟨v, u, c, rfl, hv, kF, kk⟩ := h
    have nd := scMP.nd
    refine ⟨_, (pss_cons (ps_expr (pe_cal (E := E) CM (hr.mono (by decide)) (pa_cons (pv 0) (pa_cons (pv 1) pa_nil)) (passes_call (takes_of rfl rfl rfl rfl) (fun _ _ _ _ h => h))))
      (pss_cons (ps_set (i := 3) nd rfl (Or.inr rfl) (pe_cal CT (hr.mono (by decide)) (pa_cons (pv 2) (pa_cons (pe_cal CW (hr.mono (by decide)) (pa_cons (pv 2) pa_nil) passU) pa_nil)) passU))
      (pss_one (ps_ret (pe_callTy (tup_ofK (K := K)) (by rfl) B.tuple (by decide +kernel) (pa_cons (pe_lc (own := [("row", 4)]) (g := gName 4) (by rfl) nd (pi_tupK (K := K) (pv 1)) (blkOk_by (own := [("row", 4)]) (N := ["p", "rows", "others", "columns", "row"]) (sc := defScope s_matrix_product) (by decide +kernel)) (fun _ _ _ _ _ => (pg_name (i := 4) nd rfl (Or.inl rfl))) (fun _ _ _ _ _ => pts_nil) (fun _ _ _ _ _ => (pe_cal CP (hr.mono (by decide)) (pa_cons (pv 0) (pa_cons (pv 3) (pa_cons (pv 4) pa_nil))) passU))) pa_nil)))))), ?_⟩
    refine ⟨_, rfl, _, rfl, v, u, rfl, hv, kF, fun p ep e => ?_⟩
    subst ep
    rcases kk p rfl e with ⟨d, hd, hz, em, kE⟩ | k
    · exact ⟨d, hd, hz, fun _ => kE, fun e2 => by rw [em] at e2; cases e2⟩
    obtain ⟨n, m, rows, others, hO, hne, hol, hOL, hmm, hM, hR, hn, hm, k⟩ := k
    refine ⟨MD rows, hM.dp, small_rows hR hn hm, fun e2 => (by rw [wid_rows hR] at e2; cases e2), fun _ H1 s1 => ?_⟩
    have hp := fld_mem e
    have ew : wid others = m := by
      cases others with
      | nil => exact absurd rfl hne
      | cons r t => exact (hOL r List.mem_cons_self).1
    refine ⟨_, rfl, _, rfl, c, MD others, rfl, (hO.same s1).dp, ?_⟩
    rw [widD_wid, ew]
    refine ⟨c, others, m, rfl, hO.same s1, fun r hr => (hOL r hr).1, by omega, hmm, fun yc H2 s2 hyc => ?_⟩
    obtain ⟨a, ts, rfl, ha, hts⟩ := hM.same (s1.trans s2)
    have hC : ∀ r ∈ (List.range m).map (colm others), Ltr p n r := fun r hr => by
      obtain ⟨j, hj, rfl⟩ := List.mem_map.mp hr
      refine ⟨by rw [colm_len, hol], fun x hx => ?_⟩
      unfold colm at hx
      obtain ⟨t, ht, rfl⟩ := List.mem_map.mp hx
      exact (hOL t ht).bd (List.mem_range.mp hj)
    refine ⟨_, rfl, a, rfl, ⟨_, SqT.of ha⟩, fun D hD => lc_tup (K := K) (a := a) (xs := ts) (fun i H' => Bld FT H2 D ((rows.take i).map fun r => ((List.range m).map (colm others)).map fun c => (dotn n c r).fmod p) H') (Bld.start hD) (fun i H' _ b => SqT.of (b.same _ _ ha)) ?_ ?_⟩
    · intro i x H3 hx b
      obtain ⟨r, hr0, hxr⟩ := paired_at hts hx
      obtain ⟨c, rfl, hc⟩ := hxr.same b.same
      have hrL := hR r (List.mem_of_getElem? hr0)
      refine ⟨rfl, _, rfl, _, rfl, _, rfl, p, n, yc, c, _, r, rfl, hyc.same b.same, .inr hc, hp, hC, hrL.1, hn, by rw [List.length_map, List.length_range]; exact hmm, fun y4 H4 s4 hy4 => ?_⟩
      rw [map_take_succ hr0]
      exact b.put stab_FT hD s4 hy4 (hy4.neL (s4 _ _ b.ex.choose_spec.1)) (by rw [List.length_map, List.length_take]; exact small1000 (by omega))
    · intro H3 b
      obtain ⟨s3, ys, eD, py⟩ := b.fin
      rw [paired_len hts, List.take_length] at py
      exact ⟨D, _, rfl, .inl ⟨SqL.of eD, fun q hq => k _ _ ((s1.trans s2).trans (s3.trans (same_new hq))) ⟨q, ys, rfl, upd_same, paired_mono (fun _ _ z => z.same (same_new hq)) py⟩⟩⟩
end
end WU

set_option maxRecDepth 100000
set_option maxHeartbeats 8000000
namespace WU
open PySem PySem.Spec PyProof.Rows L2
/-! ### `==` of matrices -/
theorem dec_and_cons {α : Type} [DecidableEq α] {x y : α} {xs ys : List α} : (decide (x = y) && decide (xs = ys)) = decide (x :: xs = y :: ys) := by
  by_cases h : x = y
  · by_cases h2 : xs = ys
    · rw [decide_eq_true h, decide_eq_true h2, decide_eq_true (by rw [h, h2])]
      rfl
    · rw [decide_eq_false h2, decide_eq_false (fun z => h2 (List.cons.inj z).2), Bool.and_false]
  · rw [decide_eq_false h, decide_eq_false (fun z => h (List.cons.inj z).1), Bool.false_and]
theorem eqv_ints : ∀ r s : List Int, PyData.eqvAll (r.map PyData.int) (s.map PyData.int) = decide (r = s)
  | [], [] => by simp only [List.map_nil, PyData.eqvAll]; decide
  | [], y :: s => by simp only [List.map_nil, List.map_cons, PyData.eqvAll]; exact (decide_eq_false (fun h => nomatch h)).symm
  | x :: r, [] => by simp only [List.map_nil, List.map_cons, PyData.eqvAll]; exact (decide_eq_false (fun h => nomatch h)).symm
  | x :: r, y :: s => by
    simp only [List.map_cons, PyData.eqvAll, PyData.eqv]
    rw [eqv_ints r s, ← dec_and_cons]
    rfl
theorem eqv_rows : ∀ r s : List (List Int), PyData.eqvAll (r.map rowP) (s.map rowP) = decide (r = s)
  | [], [] => by simp only [List.map_nil, PyData.eqvAll]; decide
  | [], y :: s => by simp only [List.map_nil, List.map_cons, PyData.eqvAll]; exact (decide_eq_false (fun h => nomatch h)).symm
  | x :: r, [] => by simp only [List.map_nil, List.map_cons, PyData.eqvAll]; exact (decide_eq_false (fun h => nomatch h)).symm
  | x :: r, y :: s => by
    simp only [List.map_cons, PyData.eqvAll, PyData.eqv]
    rw [eqv_rows r s, ← dec_and_cons]
    congr 1
    unfold rowP
    simp only [PyData.eqv]
    exact eqv_ints x y
theorem eqv_MD (r s : List (List Int)) : PyData.eqv (MD r) (MD s) = decide (r = s) := by
  unfold MD
  simp only [PyData.eqv]
  exact eqv_rows r s
theorem can_ints : ∀ r : List Int, PyData.canLayAll0 (r.map PyData.int) = true ∧ PyData.depthAll (r.map PyData.int) = 0
  | [] => ⟨rfl, rfl⟩
  | x :: r => by
    obtain ⟨a, b⟩ := can_ints r
    constructor
    · simp only [List.map_cons, PyData.canLayAll0, PyData.canLay0, a, Bool.and_self]
    · simp only [List.map_cons, PyData.depthAll, PyData.depth, b]
      rfl
theorem can_rows : ∀ r : List (List Int), PyData.canLayAll0 (r.map rowP) = true ∧ PyData.depthAll (r.map rowP) ≤ 1
  | [] => ⟨rfl, Nat.zero_le _⟩
  | x :: r => by
    obtain ⟨a, b⟩ := can_rows r
    obtain ⟨c, d⟩ := can_ints x
    constructor
    · simp only [List.map_cons, PyData.canLayAll0, rowP, PyData.canLay0, a, c, Bool.and_self]
    · simp only [List.map_cons, PyData.depthAll, rowP, PyData.depth, d]
      exact Nat.max_le.mpr ⟨Nat.le_refl _, b⟩
theorem shaped_MD (r : List (List Int)) : SeqAt.shaped (MD r) = true := by
  obtain ⟨a, b⟩ := can_rows r
  unfold SeqAt.shaped MD
  simp only [PyData.canLay0, PyData.depth, a, Bool.true_and]
  exact decide_eq_true (by omega)
theorem atI_last {α : Type} {xs : List α} {j : Nat} {v : α} (hl : xs.length = j + 1) (h : xs[j]? = some v) : atI xs (-1) = some v := by
  have e : ixN xs.length (-1) = some j := by
    unfold ixN
    rw [if_neg (by decide), if_pos (by omega), hl]
    congr 1
    omega
  unfold atI
  rw [e]
  exact h
section
variable {P : Program} {w : World} {K : PySem.W.Frag} {mg : Str → Option Value} {base : Heap} {S : Addr}
theorem pa_starK {X : Cx} {K : PySem.W.Frag} {e : Expr} {es : List Expr} {te : TE} {t : TA} {p : Pos} (he : PE X e te) (hr : PA X es t) (hs : starEach (.Starred e p :: es) X.env = (true, eval e X.env) :: starEach es X.env := by rfl) (hK : X.K = K := by rfl) :
    PA X (.Starred e p :: es) (StX.tStar K te t) := hK ▸ StX.pa_star he hr hs
/-- in_span(p, rows, row) -/
def spIS (K : PySem.W.Frag) : Sp := fun vs H Q E => ∃ (v u : V) (c : V), vs = [v, u, c] ∧ ChkP K H v u E fun p => ∃ (n : Nat) (rows : List (List Int)) (r : List Int), FT H c r ∧ Ltr p n r ∧ MT H u rows ∧ (∀ r ∈ rows, Ltr p n r) ∧ n ≤ 200 ∧ rows.length ≤ 190 ∧
  ∀ H', Same H H' → Q (.bl (decide (red p (rows ++ [r]) = red p rows))) H'
theorem scIS : FnScope ["p", "rows", "row"] ["p", "rows", "row"] (defScope s_in_span) := ⟨rfl, rfl, rfl, by decide +kernel, rfl, by decide +kernel, by decide +kernel⟩
theorem ok_IS {f f1 f2 : Addr} {fd fd1 fd2 : FuncData} (F : FnS K "in_span" s_in_span f fd) (B : Blt5 mg) (CM : Cal P w K mg base 7 "check_matrix" f1 fd1 ["p", "rows"] (spChk K)) (CR : Cal P w K mg base 6 "_reduced" f2 fd2 ["p", "rows"] spRed) :
    FnOk P w K mg base (L2.CX P w) 8 f fd ["p", "rows", "row"] (spIS K) := by
  refine F.ok scIS (fun vs H Q E h => ?_) (fun cdv A outer s H vs Q E hr h => ?_)
  · obtain ⟨v, u, c, rfl, _⟩ := h
    rfl
  · obtain ⟨v, u, c, rfl, hv, kF, kk⟩ := h
    have hu := hr.units
    refine ⟨_, (pss_cons (ps_expr (pe_cal (E := E) CM (hr.mono (by decide)) (pa_cons (pv 0) (pa_cons (pv 1) pa_nil)) (passes_call (takes_of rfl rfl rfl rfl) (fun _ _ _ _ h => h))))
      (pss_one (ps_ret (pe_cmpR (op_eqD hu) (pe_cal CR (hr.mono (by decide)) (pa_cons (pv 0) (pa_cons (pe_lst (StX.pa_star (pv 1) (pa_cons (pe_callTy (tup_ofK (K := K)) (by rfl) B.tuple (by decide +kernel) (pa_cons (pv 2) pa_nil)) pa_nil))) pa_nil)) passU) (pe_cal CR (hr.mono (by decide)) (pa_cons (pv 0) (pa_cons (pv 1) pa_nil)) passU) (nomark _))))), ?_⟩
    refine ⟨_, rfl, _, rfl, v, u, rfl, hv, kF, fun p ep e => ?_⟩
    subst ep
    rcases kk p rfl e with ⟨d, hd, hz, em, kE⟩ | k
    · exact ⟨d, hd, hz, fun _ => kE, fun e2 => by rw [em] at e2; cases e2⟩
    obtain ⟨n, rows, r, hc, hrL, hM, hR, hn, hm9, k⟩ := k
    have hm : rows.length ≤ 200 := by omega
    refine ⟨MD rows, hM.dp, small_rows hR hn hm, fun e2 => (by rw [wid_rows hR] at e2; cases e2), fun _ H1 s1 => ?_⟩
    have hp := fld_mem e
    obtain ⟨a, ts, rfl, ha, hts⟩ := hM.same s1
    obtain ⟨d, rfl, hd⟩ := hc.same s1
    have lt := paired_len hts
    refine ⟨_, rfl, _, rfl, a, ts, rfl, .inl (SqT.of ha), _, rfl, d, _, rfl, .inr ⟨sqT hd, ?_⟩⟩
    refine ⟨(by rw [List.length_append, lt]; exact Nat.le_of_lt (small1000 (by show rows.length + 1 ≤ 1000; omega))), fun Z hZ => ?_⟩
    have s2 : Same H1 (upd H1 Z (.lst (ts ++ [.ref d]))) := same_new hZ
    have s12 := s1.trans s2
    refine ⟨p, n, .ref Z, rows ++ [r], rfl, ⟨Z, ts ++ [.ref d], rfl, .inl upd_same, paired_app (paired_mono (fun _ _ q => q.same s2) hts) (.cons ⟨d, rfl, rd_same s2 hd⟩ .nil)⟩, hp, fun t ht => ?_, hn, (by rw [List.length_append]; show rows.length + 1 ≤ 200; omega), fun y H3 s3 hy => ?_⟩
    · rcases List.mem_append.mp ht with z | z
      · exact hR t z
      · rw [List.mem_singleton.mp z]
        exact hrL
    · refine ⟨_, rfl, _, rfl, p, n, .ref a, rows, rfl, (hM.same (s12.trans s3)).sr, hp, hR, hn, hm, fun y2 H4 s4 hy2 => ?_⟩
      refine ⟨MD (red p (rows ++ [r])), MD (red p rows), (hy.mt.same s4).dp, hy2.mt.dp, shaped_MD _, shaped_MD _, ?_⟩
      rw [eqv_MD]
      exact k H4 ((s12.trans s3).trans s4)
/-- sum_to(p, rows, row) -/
def spST (K : PySem.W.Frag) : Sp := fun vs H Q E => ∃ (v u : V) (c : V), vs = [v, u, c] ∧ ChkP K H v u E fun p => ∃ (n : Nat) (rows : List (List Int)) (b : List Int), FT H c b ∧ Ltr p n b ∧ MT H u rows ∧ (∀ r ∈ rows, Ltr p n r) ∧ n ≤ 190 ∧ rows.length ≤ 190 ∧
  (∀ qs, Rr p (rows.length + 1) (red p (eqs rows b n)) qs → rows.length ∈ qs → Errs (He.ga K "Undefined") "what" (.str "sum") H E) ∧
  ∀ y x H' qs, Same H H' → Rr p (rows.length + 1) (red p (eqs rows b n)) qs → rows.length ∉ qs → SetP (zer rows.length) qs (fun l => at0 ((red p (eqs rows b n)).getD l []) rows.length) (red p (eqs rows b n)).length x → FT H' y x → Q y H'
theorem scST : FnScope ["p", "rows", "row", "equations", "solved", "leads", "letters", "lead", "equation", "column", "letter"] ["p", "rows", "row"] (defScope s_sum_to) := ⟨rfl, rfl, rfl, by decide +kernel, rfl, by decide +kernel, by decide +kernel⟩
theorem ok_ST {f f1 f2 f3 f4 : Addr} {fd fd1 fd2 fd3 fd4 fdU : FuncData} (F : FnS K "sum_to" s_sum_to f fd) (B : Blt5 mg) (CM : Cal P w K mg base 7 "check_matrix" f1 fd1 ["p", "rows"] (spChk K)) (CR : Cal P w K mg base 6 "_reduced" f2 fd2 ["p", "rows"] spRed)
    (CL : Cal P w K mg base 1 "leads_of" f3 fd3 ["reduced"] spLO) (CT : Cal P w K mg base 1 "turned_rows" f4 fd4 ["rows", "columns"] spTR) (TU : Exc1 K mg "Undefined" "what")
    (FU : FnOk P w K mg base (L2.CX P w) 1 (He.ma K (He.ga K "Undefined") "__init__") fdU ["self", "what"] (spInit1 K (He.ga K "Undefined") "what")) (bU : Binds K fdU ["self", "what"] []) :
    FnOk P w K mg base (L2.CX P w) 8 f fd ["p", "rows", "row"] (spST K) := by
  refine F.ok scST (fun vs H Q E h => ?_) (fun cdv A outer s H vs Q E hr h => ?_)
  · obtain ⟨v, u, c, rfl, _⟩ := h
    rfl
  · obtain ⟨v, u, c, rfl, hv, kF, kk⟩ := h
    have nd := scST.nd
    refine ⟨_, (pss_cons (ps_expr (pe_cal (E := E) CM (hr.mono (by decide)) (pa_cons (pv 0) (pa_cons (pv 1) pa_nil)) (passes_call (takes_of rfl rfl rfl rfl) (fun _ _ _ _ h => h))))
      (pss_cons (ps_setLc (i := 3) (own := [("column", 9), ("letter", 10)]) (g := gTup K 2 (gCons (gName 9) (gCons (gName 10) gNil))) (by rfl) nd rfl rfl (sw_true rfl rfl rfl (by decide +kernel)) (RZ.pi_zipA (by rfl) B.zip (pa_cons (pe_cal CT (hr.mono (by decide)) (pa_cons (pv 1) (pa_cons (pe_callB (len_seqK (K := K)) (by rfl) B.len (by decide +kernel) (pa_cons (pv 2) pa_nil)) pa_nil)) passU) (pa_cons (pv 2) pa_nil))) (blkOk_by (own := [("column", 9), ("letter", 10)]) (N := ["p", "rows", "row", "equations", "solved", "leads", "letters", "lead", "equation", "column", "letter"]) (sc := defScope s_sum_to) (by decide +kernel)) (fun _ _ _ _ _ => (pg_tup rfl (pgs_cons (pg_name (i := 9) nd rfl (Or.inl rfl)) (pgs_cons (pg_name (i := 10) nd rfl (Or.inl rfl)) pgs_nil)))) (fun _ _ _ _ _ => pts_nil) (fun _ _ _ _ _ => (pe_tup (pa_starK (K := K) (pv 9) (pa_cons (pv 10) pa_nil)))))
      (pss_cons (ps_set (i := 4) nd rfl (Or.inl rfl) (pe_cal CR (hr.mono (by decide)) (pa_cons (pv 0) (pa_cons (pv 3) pa_nil)) passU))
      (pss_cons (ps_set (i := 5) nd rfl (Or.inl rfl) (pe_cal CL (hr.mono (by decide)) (pa_cons (pv 4) pa_nil) passU))
      (pss_cons (ps_if (pt_cmpR (op_inK (K := K)) (pe_callB (len_seqK (K := K)) (by rfl) B.len (by decide +kernel) (pa_cons (pv 1) pa_nil)) (pv 5) rfl) (pss_one (ps_raise1 rfl (takes_of rfl rfl rfl rfl) TU FU bU (hr.mono (by decide)) (pa_cons pe_str pa_nil))) pss_nil)
      (pss_cons (ps_set (i := 6) nd rfl (Or.inl rfl) (pe_op op_rep (pe_lst (pa_cons pe_int pa_nil)) (pe_callB (len_seqK (K := K)) (by rfl) B.len (by decide +kernel) (pa_cons (pv 1) pa_nil))))
      (pss_cons (ps_for (passes_of rfl) rfl (RZ.pi_zipA (by rfl) B.zip (pa_cons (pv 5) (pa_cons (pv 4) pa_nil))) (pg_tup rfl (pgs_cons (pg_name (i := 7) nd rfl (Or.inl rfl)) (pgs_cons (pg_name (i := 8) nd rfl (Or.inl rfl)) pgs_nil))) (pss_one (ps_asg (pe_ix (ix_tupK (K := K)) (pv 8) (pe_un un_neg pe_int) (fun _ _ => rfl)) (pg_sub (pv 6) (pv 7) set_list))))
      (pss_one (ps_ret (pe_callTy (tup_ofK (K := K)) (by rfl) B.tuple (by decide +kernel) (pa_cons (pv 6) pa_nil))))))))))), ?_⟩
    refine ⟨_, rfl, _, rfl, v, u, rfl, hv, kF, fun p ep e => ?_⟩
    subst ep
    rcases kk p rfl e with ⟨d, hd, hz, em, kE⟩ | k
    · exact ⟨d, hd, hz, fun _ => kE, fun e2 => by rw [em] at e2; cases e2⟩
    obtain ⟨n, rows, b, hc, hbL, hM, hR, hn9, hm9, kU, k⟩ := k
    have hn : n ≤ 200 := by omega
    have hm : rows.length ≤ 200 := by omega
    refine ⟨MD rows, hM.dp, small_rows hR hn hm, fun e2 => (by rw [wid_rows hR] at e2; cases e2), fun _ H1 s1 => ?_⟩
    have hp := fld_mem e
    have p0 := prime_pos hp
    obtain ⟨a, ts, rfl, ha, hts⟩ := hM
    have hM : MT H (.ref a) rows := ⟨a, ts, rfl, ha, hts⟩
    obtain ⟨d, rfl, hd⟩ := id hc
    have lt := paired_len hts
    refine ⟨_, rfl, _, rfl, d, _, rfl, .inr (sqT (rd_same s1 hd)), ?_⟩
    rw [List.length_map, hbL.1]
    refine ⟨.ref a, rows, n, rfl, hM.same s1, fun r hr => (hR r hr).1, hm, hn, fun yt H2 s2 hyt => ?_⟩
    obtain ⟨c, us, rfl, hcT, hus⟩ := hyt
    have hd2 := rd_same (s1.trans s2) hd
    have lu := paired_len hus
    rw [List.length_map, List.length_range] at lu
    have lb : (b.map V.int).length = n := by rw [List.length_map, hbL.1]
    refine ⟨_, rfl, c, d, us, b.map V.int, rfl, .inr ⟨SqT.of hcT, sqT hd2, fun D hD => lc_it (walk_zipT (n := n) (by rw [lu, lb]; exact (Nat.min_self n).symm)) (fun j H' => Bld FT H2 D ((List.range j).map (eqn rows b)) H') (Bld.start hD) (fun j H' _ z => ⟨SqT.of (z.same _ _ hcT), sqT (rd_same z.same hd2)⟩) ?_ ?_⟩⟩
    · rintro j x H3 H4 hj z ⟨T, x1, x2, rfl, hT, rfl, g1, g2⟩
      cases (take_map_at n (r := b) (i := j) (by rw [hbL.1]; exact hj)).symm.trans g2
      obtain ⟨q, hq, hx1⟩ := paired_at hus g1
      rw [List.getElem?_map, List.getElem?_range hj] at hq
      cases hq
      have s4 : Same H3 (upd H3 T (.tup [x1, .int (at0 b j)])) := same_new hT
      obtain ⟨g, rfl, hg⟩ := (hx1.same z.same).same s4
      refine ⟨T, _, rfl, SqT.of upd_same, rfl, _, _, rfl, _, _, rfl, rfl, rfl, ?_⟩
      refine ⟨_, rfl, g, _, rfl, .inl (sqT hg), _, rfl, ?_⟩
      have ee : (colm rows j).map V.int ++ [V.int (at0 b j)] = (eqn rows b j).map V.int := by
        unfold eqn
        rw [List.map_append]
        rfl
      refine ⟨(by rw [ee, List.length_map, eqn_len]; exact Nat.le_of_lt (small1000 (by omega))), fun Z hZ => ?_⟩
      rw [ee, map_range_succ]
      exact z.put stab_FT hD (s4.trans (same_new hZ)) FT.new (ref_new (s4 _ _ z.ex.choose_spec.1) hZ) (by rw [List.length_map, List.length_range]; exact small1000 (by omega))
    · intro H3 z
      obtain ⟨s3, es, eD, pe⟩ := z.fin
      have s13 := (s1.trans s2).trans s3
      have hE := eqs_ltr (n := n) hR hbL
      have lE : (eqs rows b n).length = n := by
        unfold eqs
        rw [List.length_map, List.length_range]
      refine ⟨_, rfl, _, rfl, p, rows.length + 1, .ref D, eqs rows b n, rfl, ⟨D, es, rfl, .inl eD, pe⟩, hp, hE, by omega, by omega, fun y H4 s4 hy => ?_⟩
      obtain ⟨qs, R, _, _⟩ := red_rr hp hE
      have hle := red_le hE
      refine ⟨_, rfl, y, p, _, rows.length + 1, qs, rfl, hy, R, by omega, fun yl H5 s5 hl => ?_⟩
      obtain ⟨c2, rfl, hc2⟩ := hl
      have s15 := (s13.trans s4).trans s5
      refine ⟨_, rfl, a, ts, rfl, .inr (SqT.of (s15 _ _ ha)), _, rfl, c2, _, rfl, .inr (sqT hc2), rfl, flat_ints _, _, rfl, ?_⟩
      rw [inV_ints, lt]
      show if decide ((rows.length : Int) ∈ nI qs) = true then _ else _
      by_cases hin : rows.length ∈ qs
      · rw [decide_eq_true (mem_nI.mpr hin)]
        exact iteT ⟨.str "sum", rfl, errs_same (kU qs R hin) s15⟩
      · rw [decide_eq_false (fun z => hin (mem_nI.mp z))]
        refine iteF ⟨(by show 1 ≤ sizeLine; decide), fun Z hZ => ?_⟩
        have sz : Same H5 (upd H5 Z (.lst [.int 0])) := same_new hZ
        refine ⟨_, rfl, a, ts, rfl, .inr (SqT.of (sz _ _ (s15 _ _ ha))), ?_⟩
        rw [lt]
        refine ⟨Z, ((rows.length : Nat) : Int), _, rfl, rfl, upd_same, by omega, by omega, ?_, fun q hq => ?_⟩
        · show 1 * ((rows.length : Nat) : Int).toNat ≤ sizeLine
          exact Nat.le_of_lt (small1000 (by omega))
        · rw [Int.toNat_natCast, rep_int]
          generalize upd H5 Z (.lst [.int 0]) = H6 at sz hq ⊢
          have nq : ∀ b o, H5 b = some o → b ≠ q := fun b o e => ne_of_none (sz _ _ e) hq
          have eq : upd H6 q (.lst ((List.replicate rows.length (0 : Int)).map V.int)) q = some (.lst ((zer rows.length).map V.int)) := upd_same
          have s7 : Same H5 (upd H6 q (.lst ((List.replicate rows.length (0 : Int)).map V.int))) := sz.trans (same_new hq)
          generalize upd H6 q (.lst ((List.replicate rows.length (0 : Int)).map V.int)) = H7 at eq s7 ⊢
          have put : ∀ (H3 : Hp) (o : HO), Same H5 H3 → Same H5 (upd H3 q o) := fun H3 o s3 b ob e => by
            rw [upd_ne (nq b ob e)]
            exact s3 _ _ e
          obtain ⟨f, fs, rfl, hf, hfs⟩ := hy.same s5
          have lf := paired_len hfs
          have lc : ((nI qs).map V.int).length = (red p (eqs rows b n)).length := by rw [List.length_map, nI_len, R.piv.len]
          refine ⟨_, rfl, _, rfl, c2, f, _, _, rfl, .inr ⟨sqT (rd_same s7 hc2), SqT.of (s7 _ _ hf), for_it (walk_zipT (n := (red p (eqs rows b n)).length) (by rw [lc, lf]; exact (Nat.min_self _).symm)) (fun t σ H' => ∃ (x : List Int) (ld ot : Option V), σ = [some (.int p), some (.ref a), some (.ref d), some (.ref D), some (.ref f), some (.ref c2), some (.ref q), ld, ot, none, none] ∧ Same H5 H' ∧ H' q = some (.lst (x.map V.int)) ∧ SetP (zer rows.length) qs (fun l => at0 ((red p (eqs rows b n)).getD l []) rows.length) t x)
            ⟨zer rows.length, none, none, rfl, s7, eq, setP_zero⟩ (fun t σ H' _ ⟨x, ld, ot, _, s3, _⟩ => ⟨sqT (rd_same s3 hc2), SqT.of (s3 _ _ hf)⟩) ?_ ?_⟩⟩
          · rintro t y σ H8 H9 ht ⟨x, ld, ot, rfl, s8, eR, hx⟩ ⟨T, x1, x2, rfl, hT, rfl, g1, g2⟩
            obtain ⟨j, hj, rfl⟩ := nI_at g1
            obtain ⟨r, hr0, hxr⟩ := paired_at hfs g2
            have s9 : Same H8 (upd H8 T (.tup [.int (j : Int), x2])) := same_new hT
            obtain ⟨g, rfl, hg⟩ := ((hxr.ft.same s8).same s9)
            have hrl := (R.piv.ltr r (List.mem_of_getElem? hr0)).1
            have hjn := R.piv.plt j (List.mem_of_getElem? hj)
            have hjm : j < rows.length := by
              have : j ≠ rows.length := fun z => hin (z ▸ List.mem_of_getElem? hj)
              omega
            have gd : (red p (eqs rows b n)).getD t [] = r := by rw [List.getD_eq_getElem?_getD, hr0]; rfl
            have hxl : x.length = rows.length := by rw [hx.len, zer_len]
            have eR9 := s9 _ _ eR
            refine ⟨T, _, rfl, SqT.of upd_same, rfl, _, _, rfl, _, _, rfl, rfl, ?_⟩
            refine ⟨_, rfl, _, rfl, g, _, _, _, rfl, rfl, sqT hg, atI_last (j := rows.length) (by rw [List.length_map, hrl]) (take_map_at n (r := r) (i := rows.length) (by rw [hrl]; exact Nat.lt_succ_self _)), ?_⟩
            refine ⟨_, rfl, _, rfl, q, _, (j : Int), j, rfl, rfl, eR9, (by rw [List.length_map, hxl]; exact ixN_at hjm), ?_⟩
            have st := setP_step R.ah.inc hx hj (by rw [zer_len]; exact hjm)
            simp only [gd] at st
            refine ⟨x.set j (at0 r rows.length), _, _, rfl, put _ _ (s8.trans s9), ?_, st⟩
            rw [upd_same, List.map_set]
          · rintro σ H8 ⟨x, ld, ot, rfl, s8, eR, hx⟩
            exact ⟨_, rfl, q, _, rfl, .inl ⟨SqL.of eR, fun z hz => k _ x _ qs (s15.trans (s8.trans (same_new hz))) R hin hx FT.new⟩⟩
end
end WU

set_option maxRecDepth 100000
set_option maxHeartbeats 8000000
namespace WU
open PySem PySem.Spec PyProof.Rows L2
theorem catA_is {K : PySem.W.Frag} {H : Hp} {a b : Addr} {xs ys : List V} {Q : VK} (ha : H a = some (.tup xs)) (hb : H b = some (.tup ys)) (hz : xs.length + ys.length ≤ sizeLine) (k : ∀ r H', Same H H' → H' r = some (.tup (xs ++ ys)) → Q (.ref r) H') : rCatA K (.ref a) (.ref b) H Q := by
  refine ⟨a, b, xs, ys, rfl, rfl, SqT.of ha, SqT.of hb, hz, fun e => ?_, fun _ e => ?_, fun _ _ p hp => k p _ (same_new hp) upd_same⟩
  · subst e
    exact k b H (Same.refl H) hb
  · subst e
    exact k a H (Same.refl H) (by rw [List.append_nil]; exact ha)
/-- data that stands whatever the hand does -/
def DpK (K : PySem.W.Frag) (a : Addr) (H : Hp) (v : V) (d : PyData) : Prop := ∀ H', Keep a H H' → Dp K H' v d
section
variable {K : PySem.W.Frag} {a d : Addr} {H H' : Hp}
theorem DpK.dp {v : V} {e : PyData} (h : DpK K a H v e) : Dp K H v e := h H Keep.refl
theorem DpK.keep {v : V} {e : PyData} (h : DpK K a H v e) (k : Keep a H H') : DpK K a H' v e := fun H2 k2 => h H2 (k.trans k2)
theorem dpk_flat {v : V} {e : PyData} (h : ∀ H', Dp K H' v e) : DpK K a H v e := fun H' _ => h H'
theorem dpk_all : ∀ {ts : List V} {ds : List PyData}, Paired (DpK K a H) ts ds → Keep a H H' → DpAll K H' ts ds
  | _, _, .nil, _ => .nil
  | _, _, .cons h t, k => .cons (h _ k) (dpk_all t k)
theorem dpk_tup {q : Addr} {ts : List V} {ds : List PyData} (hq : H q = some (.tup ts)) (ne : q ≠ a) (h : Paired (DpK K a H) ts ds) : DpK K a H (.ref q) (.tuple ds) := fun H' k => .tup (SqT.of (k _ _ ne hq)) (dpk_all h k)
theorem dpk_lst {q : Addr} {ts : List V} {ds : List PyData} (hq : H q = some (.lst ts)) (ne : q ≠ a) (h : Paired (DpK K a H) ts ds) : DpK K a H (.ref q) (.list ds) := fun H' k => .lst (SqL.of (k _ _ ne hq)) (dpk_all h k)
theorem tup_ne (hH : HandAt H a d) {q : Addr} {ts : List V} (h : H q = some (.tup ts)) : q ≠ a := by
  obtain ⟨ds, i0, z1, _⟩ := hH
  exact ne_of h z1 (by intro z; cases z)
theorem dpk_ints : ∀ ns : List Int, Paired (DpK K a H) (ns.map V.int) (ns.map PyData.int)
  | [] => .nil
  | n :: ns => .cons (dpk_flat fun _ => .int n) (dpk_ints ns)
theorem FQ.dpk (hH : HandAt H a d) {y : V} {z : List Int} (h : FQ H y z) : DpK K a H y (rowP z) := by
  obtain ⟨c, rfl, h⟩ := h
  exact dpk_tup h (tup_ne hH h) (dpk_ints z)
theorem fts_dpk (hH : HandAt H a d) : ∀ {ys : List V} {zs : List (List Int)}, Paired (FQ H) ys zs → Paired (DpK K a H) ys (zs.map rowP)
  | _, _, .nil => .nil
  | _, _, .cons h t => .cons (h.dpk hH) (fts_dpk hH t)
theorem MQ.dpk (hH : HandAt H a d) {v : V} {rows : List (List Int)} (h : MQ H v rows) : DpK K a H v (MD rows) := by
  obtain ⟨c, ts, rfl, h, p⟩ := h
  exact dpk_tup h (tup_ne hH h) (fts_dpk hH p)
theorem MQ.keep (hH : HandAt H a d) {v : V} {rows : List (List Int)} (h : MQ H v rows) (k : Keep a H H') : MQ H' v rows := by
  obtain ⟨c, ts, rfl, h, p⟩ := h
  exact ⟨c, ts, rfl, k _ _ (tup_ne hH h) h, paired_mono (fun _ _ f => f.keep hH k) p⟩
end
/-- what makes a row no row -/
def BadR (p : Int) (n m : Nat) (e : PyData) : Prop := (∀ w, rowD p w e = false) ∨ (2 ≤ m ∧ ∃ t : List Int, e = rowP t ∧ t.length ≠ n)
theorem bad_mat {p : Int} {n : Nat} {rows : List (List Int)} {k : Nat} {e : PyData} (hk : k < rows.length) (hR : ∀ r ∈ rows, Ltr p n r) (h : BadR p n rows.length e) :
    matD p (widD (.tuple ((rows.map rowP).take k ++ [e] ++ (rows.map rowP).drop (k + 1)))) (.tuple ((rows.map rowP).take k ++ [e] ++ (rows.map rowP).drop (k + 1))) = false := by
  rw [Bool.eq_false_iff]
  intro z
  have za := List.all_eq_true.mp (show ((rows.map rowP).take k ++ [e] ++ (rows.map rowP).drop (k + 1)).all (rowD p _) = true from z)
  rcases h with h | ⟨h2, t, rfl, ht⟩
  · have := za e (List.mem_append.mpr (.inl (List.mem_append.mpr (.inr (List.mem_singleton.mpr rfl)))))
    rw [h] at this
    cases this
  · -- the width is the first row's
    have zt := za (rowP t) (List.mem_append.mpr (.inl (List.mem_append.mpr (.inr (List.mem_singleton.mpr rfl)))))
    have len : ∀ {w : Int} {u : List Int}, rowD p w (rowP u) = true → (u.length : Int) = w := fun {w u} h => by
      have h' : (decide (((u.map PyData.int).length : Int) = w) && (u.map PyData.int).all (belD p)) = true := h
      have := of_decide_eq_true (and2 h').1
      rw [List.length_map] at this
      exact this
    have e1 := len zt
    have : ∃ u : List Int, u.length = n ∧ rowP u ∈ (rows.map rowP).take k ++ [rowP t] ++ (rows.map rowP).drop (k + 1) := by
      cases k with
      | zero =>
        refine ⟨rows[1]'(by omega), (hR _ (List.getElem_mem _)).1, List.mem_append.mpr (.inr ?_)⟩
        have : (rows.map rowP)[1]? = some (rowP (rows[1]'(by omega))) := by rw [List.getElem?_map, List.getElem?_eq_getElem (by omega)] <;> rfl
        have h3 : ((rows.map rowP).drop (0 + 1))[0]? = some (rowP (rows[1]'(by omega))) := by rw [List.getElem?_drop]; exact this
        exact List.mem_of_getElem? h3
      | succ k =>
        refine ⟨rows[0]'(by omega), (hR _ (List.getElem_mem _)).1, List.mem_append.mpr (.inl (List.mem_append.mpr (.inl ?_)))⟩
        have : (rows.map rowP)[0]? = some (rowP (rows[0]'(by omega))) := by rw [List.getElem?_map, List.getElem?_eq_getElem (by omega)] <;> rfl
        have h3 : ((rows.map rowP).take (k + 1))[0]? = some (rowP (rows[0]'(by omega))) := by rw [List.getElem?_take, if_pos (by omega)]; exact this
        exact List.mem_of_getElem? h3
    obtain ⟨u, hu, hm⟩ := this
    have e2 := len (za _ hm)
    exact ht (by omega)
theorem bel_not {p : Int} {e : PyData} (h : belD p e = false) {xs ys : List PyData} (w : Int) : rowD p w (.tuple (xs ++ [e] ++ ys)) = false := by
  show (decide (((xs ++ [e] ++ ys).length : Int) = w) && (xs ++ [e] ++ ys).all (belD p)) = false
  rw [List.all_append, List.all_append, List.all_cons, h]
  simp
theorem bel_p {p : Int} : belD p (.int p) = false := by
  show (decide (0 ≤ p) && decide (p < p)) = false
  rw [decide_eq_false (show ¬ p < p by omega), Bool.and_false]
theorem bel_m {p : Int} : belD p (.int (-1)) = false := rfl
/-- a new object is there, and the hand as it was -/
structure New (a d : Addr) (H : Hp) (p : Addr) (o : HO) (H' : Hp) : Prop where
  same : Same H H'
  at_ : H' p = some o
  hand : HandAt H' a d
  ne : p ≠ a
theorem mk_new {a d : Addr} {H : Hp} {p : Addr} {o : HO} (hH : HandAt H a d) (hp : H p = none) : New a d H p o (upd H p o) := ⟨same_new hp, upd_same, hH.new hp, (hH.ne hp).1.symm⟩
section
variable {P : Program} {w : World} {K : PySem.W.Frag} {mg : Str → Option Value} {base : Heap} {S : Addr}
def spBad (K : PySem.W.Frag) : Sp := fun vs H Q _ => ∃ (a d : Addr) (v : V) (p : Int) (n : Nat) (rows : List (List Int)), vs = [.ref a, v, .int p] ∧ HandAt H a d ∧ MQ H v rows ∧ p ∈ primes ∧ (∀ r ∈ rows, Ltr p n r) ∧ n ≤ 100 ∧ rows.length ≤ 100 ∧
  ∀ u e H', DpK K a H' u e → smallM e → matD p (widD e) e = false → HandAt H' a d → Keep a H H' → Q u H'
theorem scBad : FnScope ["hand", "rows", "p", "at", "kind", "row", "bad", "j"] ["hand", "rows", "p"] (defScope s_law_bad_matrix) := ⟨rfl, rfl, rfl, by decide +kernel, rfl, by decide +kernel, by decide +kernel⟩
theorem ok_Bad {f fT : Addr} {fd fdT : FuncData} (F : FnS K "_law_bad_matrix" s_law_bad_matrix f fd) (B : Blt4 mg) (CT : Cal P w K mg base 1 "_law_take" fT fdT ["hand", "many"] spTake) : FnOk P w K mg base (L2.CX P w) 2 f fd ["hand", "rows", "p"] (spBad K) := by
  refine F.ok scBad (fun vs H Q E h => ?_) (fun cdv A outer s H vs Q E hr h => ?_)
  · obtain ⟨a, d, v, p, n, rows, rfl, _⟩ := h
    rfl
  · obtain ⟨a, d, v, p, n, rows, rfl, hH, hM, hp, hR, hn, hm, k⟩ := h
    have nd := scBad.nd
    have hb := fld_le hp
    obtain ⟨c, ts, rfl, hc, hts⟩ := id hM
    have lt := paired_len hts
    refine ⟨_, (pss_cons (ps_set (i := 3) nd rfl (Or.inl rfl) (pe_cal CT (hr.mono (by decide)) (pa_cons (pv 0) (pa_cons (pe_callB (call_max2 rfl) (by rfl) B.max (by decide +kernel) (pa_cons pe_int (pa_cons (pe_callB (len_seqK (K := K)) (by rfl) B.len (by decide +kernel) (pa_cons (pv 1) pa_nil)) pa_nil))) pa_nil)) passU))
      (pss_cons (ps_set (i := 4) nd rfl (Or.inl rfl) (pe_cal CT (hr.mono (by decide)) (pa_cons (pv 0) (pa_cons pe_int pa_nil)) passU))
      (pss_cons (ps_if (PW.pt (pw_or (pt_cmpR op_eq (pv 4) pe_int (nomark _)) (pw_or1 (pt_cmpR op_eq (pe_callB (len_seqK (K := K)) (by rfl) B.len (by decide +kernel) (pa_cons (pv 1) pa_nil)) pe_int (nomark _))))) (pss_one (ps_ret (pe_ix (ix_listK (K := K)) (pe_lst (pa_cons (pe_callTy (list_ofK (K := K)) (by rfl) B.lst (by decide +kernel) (pa_cons (pv 1) pa_nil)) (pa_cons pe_non (pa_cons pe_int (pa_cons pe_str (pa_cons (pe_lst (pa_cons (pe_tup pa_nil) pa_nil)) (pa_cons (pe_tup (pa_cons pe_int pa_nil)) (pa_cons (pe_tup (pa_cons (pe_tup pa_nil) (pa_cons (pe_tup (pa_cons pe_int pa_nil)) pa_nil))) (pa_cons (pe_tup (pa_cons pe_bl pa_nil)) pa_nil))))))))) (pe_cal CT (hr.mono (by decide)) (pa_cons (pv 0) (pa_cons pe_int pa_nil)) passU) (fun _ _ => rfl)))) pss_nil)
      (pss_cons (ps_set (i := 5) nd rfl (Or.inl rfl) (pe_ix (ix_tupK (K := K)) (pv 1) (pv 3) (fun _ _ => rfl)))
      (pss_cons (ps_wk (ps_if (pt_cmpR op_eq (pv 4) pe_int (nomark _)) (pss_one (ps_set (i := 6) nd rfl (Or.inl rfl) (pe_callTy (list_ofK (K := K)) (by rfl) B.lst (by decide +kernel) (pa_cons (pv 5) pa_nil)))) (pss_one (ps_if (pt_cmpR op_eq (pe_callB (len_seqK (K := K)) (by rfl) B.len (by decide +kernel) (pa_cons (pv 5) pa_nil)) pe_int (nomark _)) (pss_one (ps_set (i := 6) nd rfl (Or.inl rfl) (pe_tup (pa_cons (pv 2) pa_nil)))) (pss_one (ps_if (pt_cmpR op_lt (pv 4) pe_int (nomark _)) (pss_cons (ps_set (i := 6) nd rfl (Or.inl rfl) (pe_ix (ix_listK (K := K)) (pe_lst (pa_cons (pe_op (op_catAK (K := K)) (pv 5) (pe_tup (pa_cons pe_int pa_nil))) (pa_cons (pe_slice (sl_tupAK (K := K)) (pv 5) (po_some pe_int) po_none) pa_nil))) (pe_op op_sub (pv 4) pe_int) (fun _ _ => rfl)))
      (pss_one (ps_if (pt_cmpR op_eq (pe_callB (len_seqK (K := K)) (by rfl) B.len (by decide +kernel) (pa_cons (pv 1) pa_nil)) pe_int (nomark _)) (pss_one (ps_set (i := 6) nd rfl (Or.inl rfl) (pe_tup (pa_cons (pv 2) pa_nil)))) pss_nil))) (pss_cons (ps_set (i := 7) nd rfl (Or.inl rfl) (pe_cal CT (hr.mono (by decide)) (pa_cons (pv 0) (pa_cons (pe_callB (len_seqK (K := K)) (by rfl) B.len (by decide +kernel) (pa_cons (pv 5) pa_nil)) pa_nil)) passU))
      (pss_one (ps_set (i := 6) nd rfl (Or.inl rfl) (pe_op (op_catAK (K := K)) (pe_op (op_catAK (K := K)) (pe_slice (sl_tupAK (K := K)) (pv 5) po_none (po_some (pv 7))) (pe_tup (pa_cons (pe_ix (ix_listK (K := K)) (pe_lst (pa_cons (pv 2) (pa_cons (pe_un un_neg pe_int) (pa_cons pe_bl (pa_cons pe_str (pa_cons pe_non pa_nil)))))) (pe_op op_sub (pv 4) pe_int) (fun _ _ => rfl)) pa_nil))) (pe_slice (sl_tupAK (K := K)) (pv 5) (po_some (pe_op op_add (pv 7) pe_int)) po_none)))))))))))
      (pss_one (ps_ret (pe_op (op_catAK (K := K)) (pe_op (op_catAK (K := K)) (pe_slice (sl_tupAK (K := K)) (pv 1) po_none (po_some (pv 3))) (pe_tup (pa_cons (pv 6) pa_nil))) (pe_slice (sl_tupAK (K := K)) (pv 1) (po_some (pe_op op_add (pv 3) pe_int)) po_none))))))))), ?_⟩
    refine ⟨_, rfl, _, rfl, c, ts, rfl, .inr (SqT.of hc), 1, _, rfl, ?_⟩
    obtain ⟨mm, hmm, hm1, hm2⟩ : ∃ mm : Nat, (if ((ts.length : Nat) : Int) > 1 then ((ts.length : Nat) : Int) else 1) = (mm : Int) ∧ 0 < mm ∧ (0 < ts.length → mm = ts.length) := by
      split
      · exact ⟨ts.length, rfl, by omega, fun _ => rfl⟩
      · exact ⟨1, rfl, by decide, fun _ => by omega⟩
    refine ⟨a, d, _, rfl, (by rw [hmm]; omega), hH, fun at' H1 a0 a1 hH1 k1 => ?_⟩
    rw [hmm] at a1
    refine ⟨_, rfl, a, d, 9, rfl, by decide, hH1, fun kind H2 b0 b1 hH2 k2 => ?_⟩
    have k12 := k1.trans k2
    have hM2 := hM.keep hH k12
    have hc2 := k12 _ _ (tup_ne hH hc) hc
    have hts2 := paired_mono (fun _ _ f => f.keep hH k12) hts
    refine ⟨_, rfl, rfl, _, rfl, iteD (fun hk0 => ?_) (fun hk0 => ⟨_, rfl, c, ts, rfl, .inr (SqT.of hc2), rfl, _, rfl, iteD (fun hl0 => ?_) (fun hl0 => ?_)⟩)⟩
    · refine ⟨_, rfl, c, ts, rfl, .inr (SqT.of hc2), fun l1 hl1 => ⟨(by show 0 ≤ sizeLine; decide), ?_⟩⟩
      have N1 := mk_new (o := .lst ts) hH2 hl1
      generalize upd H2 l1 (.lst ts) = G1 at N1 ⊢
      refine fun t1 ht1 => ⟨(by show 1 ≤ sizeLine; decide), ?_⟩
      have N2 := mk_new (o := .tup []) N1.hand ht1
      generalize upd G1 t1 (.tup []) = G2 at N2 ⊢
      refine fun l2 hl2 => ⟨(by show 1 ≤ sizeLine; decide), ?_⟩
      have N3 := mk_new (o := .lst [.ref t1]) N2.hand hl2
      generalize upd G2 l2 (.lst [.ref t1]) = G3 at N3 ⊢
      refine fun t2 ht2 => ⟨(by show 0 ≤ sizeLine; decide), ?_⟩
      have N4 := mk_new (o := .tup [.int 1]) N3.hand ht2
      generalize upd G3 t2 (.tup [.int 1]) = G4 at N4 ⊢
      refine fun t3 ht3 => ⟨(by show 1 ≤ sizeLine; decide), ?_⟩
      have N5 := mk_new (o := .tup []) N4.hand ht3
      generalize upd G4 t3 (.tup []) = G5 at N5 ⊢
      refine fun t4 ht4 => ⟨(by show 2 ≤ sizeLine; decide), ?_⟩
      have N6 := mk_new (o := .tup [.int 0]) N5.hand ht4
      generalize upd G5 t4 (.tup [.int 0]) = G6 at N6 ⊢
      refine fun t5 ht5 => ⟨(by show 1 ≤ sizeLine; decide), ?_⟩
      have N7 := mk_new (o := .tup [.ref t3, .ref t4]) N6.hand ht5
      generalize upd G6 t5 (.tup [.ref t3, .ref t4]) = G7 at N7 ⊢
      refine fun t6 ht6 => ⟨(by show 8 ≤ sizeLine; decide), ?_⟩
      have N8 := mk_new (o := .tup [.bl true]) N7.hand ht6
      generalize upd G7 t6 (.tup [.bl true]) = G8 at N8 ⊢
      refine fun Z hZ => ?_
      have N9 := mk_new (o := .lst [.ref l1, .non, .int 5, .str "a", .ref l2, .ref t2, .ref t5, .ref t6]) N8.hand hZ
      generalize upd G8 Z (.lst [.ref l1, .non, .int 5, .str "a", .ref l2, .ref t2, .ref t5, .ref t6]) = G9 at N9 ⊢
      refine ⟨_, rfl, a, d, 8, rfl, by decide, N9.hand, fun r H' r0 r1 hH' kr => ?_⟩
      have s78 := N8.same.trans N9.same
      have s68 := N7.same.trans s78
      have s58 := N6.same.trans s68
      have s48 := N5.same.trans s58
      have s38 := N4.same.trans s48
      have s28 := N3.same.trans s38
      have s18 := N2.same.trans s28
      have kF : ∀ {G : Hp}, Same G G9 → Keep a G H' := fun s => (Keep.of s).trans kr
      have eZ : H' Z = some (.lst [.ref l1, .non, .int 5, .str "a", .ref l2, .ref t2, .ref t5, .ref t6]) := kr _ _ N9.ne N9.at_
      have q1 : DpK K a H' (.ref l1) (.list (rows.map rowP)) := dpk_lst (kF s18 _ _ N1.ne N1.at_) N1.ne (fts_dpk hH' (paired_mono (fun _ _ f => f.keep hH2 ((Keep.of N1.same).trans (kF s18))) hts2))
      have qt1 : DpK K a H' (.ref t1) (.tuple []) := dpk_tup (kF s28 _ _ N2.ne N2.at_) N2.ne .nil
      have q2 : DpK K a H' (.ref l2) (.list [.tuple []]) := dpk_lst (kF s38 _ _ N3.ne N3.at_) N3.ne (.cons qt1 .nil)
      have q3 : DpK K a H' (.ref t2) (.tuple [.int 1]) := dpk_tup (kF s48 _ _ N4.ne N4.at_) N4.ne (.cons (dpk_flat fun _ => .int 1) .nil)
      have qt3 : DpK K a H' (.ref t3) (.tuple []) := dpk_tup (kF s58 _ _ N5.ne N5.at_) N5.ne .nil
      have qt4 : DpK K a H' (.ref t4) (.tuple [.int 0]) := dpk_tup (kF s68 _ _ N6.ne N6.at_) N6.ne (.cons (dpk_flat fun _ => .int 0) .nil)
      have q5 : DpK K a H' (.ref t5) (.tuple [.tuple [], .tuple [.int 0]]) := dpk_tup (kF s78 _ _ N7.ne N7.at_) N7.ne (.cons qt3 (.cons qt4 .nil))
      have q6 : DpK K a H' (.ref t6) (.tuple [.bool true]) := dpk_tup (kF N9.same _ _ N8.ne N8.at_) N8.ne (.cons (dpk_flat fun _ => .bl true) .nil)
      have kH : Keep a H H' := k12.trans ((Keep.of N1.same).trans (kF s18))
      have all : ∀ u ∈ ([.ref l1, .non, .int 5, .str "a", .ref l2, .ref t2, .ref t5, .ref t6] : List V), Q u H' := by
        intro u hu
        simp only [List.mem_cons, List.not_mem_nil, or_false] at hu
        rcases hu with rfl | rfl | rfl | rfl | rfl | rfl | rfl | rfl
        · refine k _ _ H' q1 ⟨?_, fun e he => ?_⟩ rfl hH' kH
          · show (rows.map rowP).length ≤ 200
            rw [List.length_map]
            omega
          · obtain ⟨t, ht, rfl⟩ := List.mem_map.mp (show e ∈ rows.map rowP from he)
            show (t.map PyData.int).length ≤ 200
            rw [List.length_map, (hR t ht).1]
            omega
        · exact k _ .none H' (dpk_flat fun _ => .non) ⟨trivial, fun e he => nomatch he⟩ rfl hH' kH
        · exact k _ (.int 5) H' (dpk_flat fun _ => .int 5) ⟨trivial, fun e he => nomatch he⟩ rfl hH' kH
        · exact k _ (.str "a") H' (dpk_flat fun _ => .str "a") ⟨trivial, fun e he => nomatch he⟩ rfl hH' kH
        · exact k _ _ H' q2 ⟨(by show 1 ≤ 200; decide), fun e he => (by rw [List.mem_singleton.mp (show e ∈ [PyData.tuple []] from he)]; show 0 ≤ 200; decide)⟩ rfl hH' kH
        · exact k _ _ H' q3 ⟨(by show 1 ≤ 200; decide), fun e he => (by rw [List.mem_singleton.mp (show e ∈ [PyData.int 1] from he)]; trivial)⟩ rfl hH' kH
        · refine k _ _ H' q5 ⟨(by show 2 ≤ 200; decide), fun e he => ?_⟩ ?_ hH' kH
          · rcases List.mem_cons.mp (show e ∈ [PyData.tuple [], .tuple [.int 0]] from he) with e1 | e1
            · rw [e1]
              show 0 ≤ 200
              decide
            · rw [List.mem_singleton.mp e1]
              show 1 ≤ 200
              decide
          · rfl
        · exact k _ _ H' q6 ⟨(by show 1 ≤ 200; decide), fun e he => (by rw [List.mem_singleton.mp (show e ∈ [PyData.bool true] from he)]; trivial)⟩ rfl hH' kH
      obtain ⟨m8, rfl⟩ : ∃ m8 : Nat, r = (m8 : Int) := ⟨r.toNat, by omega⟩
      have hm8 : m8 < 8 := by omega
      obtain ⟨u, hu⟩ : ∃ u, ([.ref l1, .non, .int 5, .str "a", .ref l2, .ref t2, .ref t5, .ref t6] : List V)[m8]? = some u := ⟨_, List.getElem?_eq_getElem (show m8 < 8 from hm8)⟩
      exact ⟨Z, _, _, u, rfl, rfl, SqL.of eZ, atI_nat hu, all u (List.mem_of_getElem? hu)⟩
    · refine ⟨_, rfl, c, ts, rfl, .inr (SqT.of hc2), fun l1 hl1 => ⟨(by show 0 ≤ sizeLine; decide), ?_⟩⟩
      have N1 := mk_new (o := .lst ts) hH2 hl1
      generalize upd H2 l1 (.lst ts) = G1 at N1 ⊢
      refine fun t1 ht1 => ⟨(by show 1 ≤ sizeLine; decide), ?_⟩
      have N2 := mk_new (o := .tup []) N1.hand ht1
      generalize upd G1 t1 (.tup []) = G2 at N2 ⊢
      refine fun l2 hl2 => ⟨(by show 1 ≤ sizeLine; decide), ?_⟩
      have N3 := mk_new (o := .lst [.ref t1]) N2.hand hl2
      generalize upd G2 l2 (.lst [.ref t1]) = G3 at N3 ⊢
      refine fun t2 ht2 => ⟨(by show 0 ≤ sizeLine; decide), ?_⟩
      have N4 := mk_new (o := .tup [.int 1]) N3.hand ht2
      generalize upd G3 t2 (.tup [.int 1]) = G4 at N4 ⊢
      refine fun t3 ht3 => ⟨(by show 1 ≤ sizeLine; decide), ?_⟩
      have N5 := mk_new (o := .tup []) N4.hand ht3
      generalize upd G4 t3 (.tup []) = G5 at N5 ⊢
      refine fun t4 ht4 => ⟨(by show 2 ≤ sizeLine; decide), ?_⟩
      have N6 := mk_new (o := .tup [.int 0]) N5.hand ht4
      generalize upd G5 t4 (.tup [.int 0]) = G6 at N6 ⊢
      refine fun t5 ht5 => ⟨(by show 1 ≤ sizeLine; decide), ?_⟩
      have N7 := mk_new (o := .tup [.ref t3, .ref t4]) N6.hand ht5
      generalize upd G6 t5 (.tup [.ref t3, .ref t4]) = G7 at N7 ⊢
      refine fun t6 ht6 => ⟨(by show 8 ≤ sizeLine; decide), ?_⟩
      have N8 := mk_new (o := .tup [.bl true]) N7.hand ht6
      generalize upd G7 t6 (.tup [.bl true]) = G8 at N8 ⊢
      refine fun Z hZ => ?_
      have N9 := mk_new (o := .lst [.ref l1, .non, .int 5, .str "a", .ref l2, .ref t2, .ref t5, .ref t6]) N8.hand hZ
      generalize upd G8 Z (.lst [.ref l1, .non, .int 5, .str "a", .ref l2, .ref t2, .ref t5, .ref t6]) = G9 at N9 ⊢
      refine ⟨_, rfl, a, d, 8, rfl, by decide, N9.hand, fun r H' r0 r1 hH' kr => ?_⟩
      have s78 := N8.same.trans N9.same
      have s68 := N7.same.trans s78
      have s58 := N6.same.trans s68
      have s48 := N5.same.trans s58
      have s38 := N4.same.trans s48
      have s28 := N3.same.trans s38
      have s18 := N2.same.trans s28
      have kF : ∀ {G : Hp}, Same G G9 → Keep a G H' := fun s => (Keep.of s).trans kr
      have eZ : H' Z = some (.lst [.ref l1, .non, .int 5, .str "a", .ref l2, .ref t2, .ref t5, .ref t6]) := kr _ _ N9.ne N9.at_
      have q1 : DpK K a H' (.ref l1) (.list (rows.map rowP)) := dpk_lst (kF s18 _ _ N1.ne N1.at_) N1.ne (fts_dpk hH' (paired_mono (fun _ _ f => f.keep hH2 ((Keep.of N1.same).trans (kF s18))) hts2))
      have qt1 : DpK K a H' (.ref t1) (.tuple []) := dpk_tup (kF s28 _ _ N2.ne N2.at_) N2.ne .nil
      have q2 : DpK K a H' (.ref l2) (.list [.tuple []]) := dpk_lst (kF s38 _ _ N3.ne N3.at_) N3.ne (.cons qt1 .nil)
      have q3 : DpK K a H' (.ref t2) (.tuple [.int 1]) := dpk_tup (kF s48 _ _ N4.ne N4.at_) N4.ne (.cons (dpk_flat fun _ => .int 1) .nil)
      have qt3 : DpK K a H' (.ref t3) (.tuple []) := dpk_tup (kF s58 _ _ N5.ne N5.at_) N5.ne .nil
      have qt4 : DpK K a H' (.ref t4) (.tuple [.int 0]) := dpk_tup (kF s68 _ _ N6.ne N6.at_) N6.ne (.cons (dpk_flat fun _ => .int 0) .nil)
      have q5 : DpK K a H' (.ref t5) (.tuple [.tuple [], .tuple [.int 0]]) := dpk_tup (kF s78 _ _ N7.ne N7.at_) N7.ne (.cons qt3 (.cons qt4 .nil))
      have q6 : DpK K a H' (.ref t6) (.tuple [.bool true]) := dpk_tup (kF N9.same _ _ N8.ne N8.at_) N8.ne (.cons (dpk_flat fun _ => .bl true) .nil)
      have kH : Keep a H H' := k12.trans ((Keep.of N1.same).trans (kF s18))
      have all : ∀ u ∈ ([.ref l1, .non, .int 5, .str "a", .ref l2, .ref t2, .ref t5, .ref t6] : List V), Q u H' := by
        intro u hu
        simp only [List.mem_cons, List.not_mem_nil, or_false] at hu
        rcases hu with rfl | rfl | rfl | rfl | rfl | rfl | rfl | rfl
        · refine k _ _ H' q1 ⟨?_, fun e he => ?_⟩ rfl hH' kH
          · show (rows.map rowP).length ≤ 200
            rw [List.length_map]
            omega
          · obtain ⟨t, ht, rfl⟩ := List.mem_map.mp (show e ∈ rows.map rowP from he)
            show (t.map PyData.int).length ≤ 200
            rw [List.length_map, (hR t ht).1]
            omega
        · exact k _ .none H' (dpk_flat fun _ => .non) ⟨trivial, fun e he => nomatch he⟩ rfl hH' kH
        · exact k _ (.int 5) H' (dpk_flat fun _ => .int 5) ⟨trivial, fun e he => nomatch he⟩ rfl hH' kH
        · exact k _ (.str "a") H' (dpk_flat fun _ => .str "a") ⟨trivial, fun e he => nomatch he⟩ rfl hH' kH
        · exact k _ _ H' q2 ⟨(by show 1 ≤ 200; decide), fun e he => (by rw [List.mem_singleton.mp (show e ∈ [PyData.tuple []] from he)]; show 0 ≤ 200; decide)⟩ rfl hH' kH
        · exact k _ _ H' q3 ⟨(by show 1 ≤ 200; decide), fun e he => (by rw [List.mem_singleton.mp (show e ∈ [PyData.int 1] from he)]; trivial)⟩ rfl hH' kH
        · refine k _ _ H' q5 ⟨(by show 2 ≤ 200; decide), fun e he => ?_⟩ ?_ hH' kH
          · rcases List.mem_cons.mp (show e ∈ [PyData.tuple [], .tuple [.int 0]] from he) with e1 | e1
            · rw [e1]
              show 0 ≤ 200
              decide
            · rw [List.mem_singleton.mp e1]
              show 1 ≤ 200
              decide
          · rfl
        · exact k _ _ H' q6 ⟨(by show 1 ≤ 200; decide), fun e he => (by rw [List.mem_singleton.mp (show e ∈ [PyData.bool true] from he)]; trivial)⟩ rfl hH' kH
      obtain ⟨m8, rfl⟩ : ∃ m8 : Nat, r = (m8 : Int) := ⟨r.toNat, by omega⟩
      have hm8 : m8 < 8 := by omega
      obtain ⟨u, hu⟩ : ∃ u, ([.ref l1, .non, .int 5, .str "a", .ref l2, .ref t2, .ref t5, .ref t6] : List V)[m8]? = some u := ⟨_, List.getElem?_eq_getElem (show m8 < 8 from hm8)⟩
      exact ⟨Z, _, _, u, rfl, rfl, SqL.of eZ, atI_nat hu, all u (List.mem_of_getElem? hu)⟩
    · have hlen : 0 < rows.length := by
        have : ts.length ≠ 0 := fun z => hl0 (by rw [z]; rfl)
        omega
      obtain ⟨q, rfl⟩ : ∃ q : Nat, at' = (q : Int) := ⟨at'.toNat, by omega⟩
      have hq : q < rows.length := by
        rw [hm2 (by omega)] at a1
        omega
      obtain ⟨row, hrow⟩ : ∃ row, rows[q]? = some row := ⟨_, List.getElem?_eq_getElem hq⟩
      obtain ⟨x0, hx0, rc, rfl, hrc⟩ := paired_of hts2 hrow
      have hrL := hR row (List.mem_of_getElem? hrow)
      have nrc := tup_ne hH2 hrc
      refine ⟨_, rfl, _, rfl, c, ts, (q : Int), _, rfl, rfl, SqT.of hc2, atI_nat hx0, ?_⟩
      refine ⟨fun σ H' => ∃ (u : V) (e : PyData) (jv : Option V), σ = [some (.ref a), some (.ref c), some (.int p), some (.int q), some (.int kind), some (.ref rc), some u, jv] ∧ HandAt H' a d ∧ Keep a H2 H' ∧ DpK K a H' u e ∧ BadR p n rows.length e ∧ smallD e, ?_, ?_⟩
      · have pone : ∀ H5 : Hp, HandAt H5 a d → ∀ t, H5 t = none → DpK K a (upd H5 t (.tup [.int p])) (.ref t) (.tuple [.int p]) := fun H5 h5 t ht => dpk_tup upd_same (h5.ne ht).1.symm (.cons (dpk_flat fun _ => .int p) .nil)
        have badp : BadR p n rows.length (.tuple [.int p]) := .inl fun w => bel_not (xs := []) (ys := []) bel_p w
        refine ⟨_, rfl, rfl, _, rfl, iteD (fun h1 => ?_) (fun h1 => ?_)⟩
        · refine ⟨_, rfl, rc, _, rfl, .inr (SqT.of hrc), fun l hl => ?_⟩
          refine ⟨.ref l, .list (row.map PyData.int), none, rfl, hH2.new hl, Keep.new hl, dpk_lst upd_same (hH2.ne hl).1.symm (dpk_ints row), .inl fun w => rfl, ?_⟩
          show (row.map PyData.int).length ≤ 200
          rw [List.length_map, hrL.1]
          omega
        · refine ⟨_, rfl, rc, _, rfl, .inr (SqT.of hrc), rfl, _, rfl, iteD (fun h2 => ?_) (fun h2 => ?_)⟩
          · refine ⟨_, rfl, (by show 1 ≤ sizeLine; decide), fun t ht => ?_⟩
            exact ⟨.ref t, _, none, rfl, hH2.new ht, Keep.new ht, pone H2 hH2 t ht, badp, (by show 1 ≤ 200; decide)⟩
          · have hn0 : 0 < n := by
              have : ¬ ((row.map V.int).length : Int) = 0 := fun z => h2 (congrArg V.int z)
              rw [List.length_map, hrL.1] at this
              omega
            refine ⟨_, rfl, _, _, rfl, rfl, _, rfl, iteD (fun h3 => ?_) (fun h3 => ?_)⟩
            · refine ⟨_, rfl, (by show 1 ≤ sizeLine; decide), fun t ht => ?_⟩
              have N1 := mk_new (o := .tup [.int 0]) hH2 ht
              generalize upd H2 t (.tup [.int 0]) = G1 at N1 ⊢
              refine catA_is (N1.same _ _ hrc) N1.at_ ?_ fun r1 G2 s2 e1 => ?_
              · rw [List.length_map, hrL.1]
                exact Nat.le_of_lt (small1000 (by show n + 1 ≤ 1000; omega))
              · refine ⟨_, rfl, 1, rfl, ?_⟩
                dsimp only [tNoPart]
                refine slA_is (s2 _ _ (N1.same _ _ hrc)) fun r2 G3 s3 e2 => ⟨(by show 2 ≤ sizeLine; decide), fun Z hZ => ?_⟩
                rw [show ((1 : Int)) = ((1 : Nat) : Int) from rfl, cut_from (by rw [List.length_map, hrL.1]; omega), ← List.map_drop] at e2
                have h3' := (N1.hand.same s2).same s3
                have N4 := mk_new (o := .lst [.ref r1, .ref r2]) h3' hZ
                generalize upd G3 Z (.lst [.ref r1, .ref r2]) = G4 at N4 ⊢
                have e14 := N4.same _ _ (s3 _ _ e1)
                have e24 := N4.same _ _ e2
                have kk : Keep a H2 G4 := Keep.of (N1.same.trans (s2.trans (s3.trans N4.same)))
                have two : ∀ (G5 : Hp) (u : V) (tt : List Int), Same G4 G5 → DpK K a G5 u (rowP tt) → tt.length ≠ n → tt.length ≤ 200 → ∃ P : L2.St → Hp → Prop, True := fun _ _ _ _ _ _ _ => ⟨fun _ _ => True, trivial⟩
                refine ⟨_, rfl, _, _, rfl, rfl, ?_⟩
                have hk : kind = 2 ∨ kind = 3 := by
                  have : ¬ kind = 0 := fun z => hk0 (congrArg V.int z)
                  have : ¬ kind = 1 := fun z => h1 (congrArg V.int z)
                  omega
                have ones : (rows.length = 1 ∨ 2 ≤ rows.length) := by omega
                have fin : ∀ (rx : Addr) (tt : List Int), G4 rx = some (.tup (tt.map V.int)) → tt.length ≠ n → tt.length ≤ 200 → DpK K a G4 (.ref rx) (rowP tt) ∧ (2 ≤ rows.length → BadR p n rows.length (rowP tt)) ∧ smallD (rowP tt) := fun rx tt e0 l0 l1 =>
                  ⟨dpk_tup e0 (tup_ne N4.hand e0) (dpk_ints tt), fun h => .inr ⟨h, tt, rfl, l0⟩, (by show (tt.map PyData.int).length ≤ 200; rw [List.length_map]; exact l1)⟩
                have o1 := fin r1 (row ++ [0]) (by rw [List.map_append]; exact e14) (by rw [List.length_append, hrL.1]; show n + 1 ≠ n; omega) (by rw [List.length_append, hrL.1]; show n + 1 ≤ 200; omega)
                have o2 := fin r2 (row.drop 1) e24 (by rw [List.length_drop, hrL.1]; omega) (by rw [List.length_drop, hrL.1]; omega)
                have last : ∀ rx e0, DpK K a G4 (.ref rx) e0 ∧ (2 ≤ rows.length → BadR p n rows.length e0) ∧ smallD e0 → (∀ hone : rows.length ≠ 1, ∃ (u : V) (e : PyData) (jv : Option V), [some (V.ref a), some (.ref c), some (.int p), some (.int q), some (.int kind), some (.ref rc), some (.ref rx), none] = [some (.ref a), some (.ref c), some (.int p), some (.int q), some (.int kind), some (.ref rc), some u, jv] ∧ HandAt G4 a d ∧ Keep a H2 G4 ∧ DpK K a G4 u e ∧ BadR p n rows.length e ∧ smallD e) :=
                  fun rx e0 o hone => ⟨.ref rx, e0, none, rfl, N4.hand, kk, o.1, o.2.1 (by omega), o.2.2⟩
                have hc4 : G4 c = some (.tup ts) := kk _ _ (tup_ne hH2 hc2) hc2
                rcases hk with rfl | rfl
                · refine ⟨Z, _, _, .ref r1, rfl, rfl, SqL.of N4.at_, rfl, ?_⟩
                  refine ⟨_, rfl, c, ts, rfl, .inr (SqT.of hc4), rfl, _, rfl, iteD (fun h4 => ?_) (fun h4 => ?_)⟩
                  · refine ⟨_, rfl, (by show 1 ≤ sizeLine; decide), fun t2 ht2 => ?_⟩
                    exact ⟨.ref t2, _, none, rfl, N4.hand.new ht2, kk.trans (Keep.new ht2), pone G4 N4.hand t2 ht2, badp, (by show 1 ≤ 200; decide)⟩
                  · exact last r1 _ o1 (fun z => h4 (by rw [lt, z]; rfl))
                · refine ⟨Z, _, _, .ref r2, rfl, rfl, SqL.of N4.at_, rfl, ?_⟩
                  refine ⟨_, rfl, c, ts, rfl, .inr (SqT.of hc4), rfl, _, rfl, iteD (fun h4 => ?_) (fun h4 => ?_)⟩
                  · refine ⟨_, rfl, (by show 1 ≤ sizeLine; decide), fun t2 ht2 => ?_⟩
                    exact ⟨.ref t2, _, none, rfl, N4.hand.new ht2, kk.trans (Keep.new ht2), pone G4 N4.hand t2 ht2, badp, (by show 1 ≤ 200; decide)⟩
                  · exact last r2 _ o2 (fun z => h4 (by rw [lt, z]; rfl))
            · refine ⟨_, rfl, _, rfl, rc, _, rfl, .inr (SqT.of hrc), a, d, _, rfl, (by rw [List.length_map, hrL.1]; omega), hH2, fun j H3 j0 j1 hH3 k3 => ?_⟩
              obtain ⟨jj, rfl⟩ : ∃ jj : Nat, j = (jj : Int) := ⟨j.toNat, by omega⟩
              have hjj : jj < n := by
                rw [List.length_map, hrL.1] at j1
                omega
              have hrc3 := k3 _ _ nrc hrc
              refine ⟨_, rfl, _, rfl, (jj : Int), rfl, ?_⟩
              refine slA_is hrc3 fun r1 G1 s1 e1 => ?_
              rw [cut_to (by rw [List.length_map, hrL.1]; omega), ← List.map_take] at e1
              have g1 := hH3.same s1
              refine ⟨_, rfl, _, rfl, (by show 5 ≤ sizeLine; decide), fun Z hZ => ?_⟩
              have N2 := mk_new (o := .lst [.int p, .int (-1), .bl true, .str "0", .non]) g1 hZ
              generalize upd G1 Z (.lst [.int p, .int (-1), .bl true, .str "0", .non]) = G2 at N2 ⊢
              refine ⟨_, rfl, _, _, rfl, rfl, ?_⟩
              have hk48 : ¬ kind = 0 ∧ ¬ kind = 1 ∧ 4 ≤ kind := ⟨fun z => hk0 (congrArg V.int z), fun z => h1 (congrArg V.int z), by omega⟩
              obtain ⟨kk4, hkk4, hkk5⟩ : ∃ kk4 : Nat, kind - 4 = (kk4 : Int) ∧ kk4 < 5 := ⟨(kind - 4).toNat, by omega, by omega⟩
              have items : ∀ x ∈ ([.int p, .int (-1), .bl true, .str "0", .non] : List V), ∃ e, (∀ H', Dp K H' x e) ∧ belD p e = false := by
                intro x hx
                simp only [List.mem_cons, List.not_mem_nil, or_false] at hx
                rcases hx with rfl | rfl | rfl | rfl | rfl
                · exact ⟨.int p, fun _ => .int p, bel_p⟩
                · exact ⟨.int (-1), fun _ => .int (-1), rfl⟩
                · exact ⟨.bool true, fun _ => .bl true, rfl⟩
                · exact ⟨.str "0", fun _ => .str "0", rfl⟩
                · exact ⟨.none, fun _ => .non, rfl⟩
              obtain ⟨x, hx⟩ : ∃ x, ([.int p, .int (-1), .bl true, .str "0", .non] : List V)[kk4]? = some x := ⟨_, List.getElem?_eq_getElem (show kk4 < 5 from hkk5)⟩
              obtain ⟨e, he, hbe⟩ := items x (List.mem_of_getElem? hx)
              refine ⟨Z, _, _, x, rfl, rfl, SqL.of N2.at_, (by rw [hkk4]; exact atI_nat hx), (by show 1 ≤ sizeLine; decide), fun T hT => ?_⟩
              have N3 := mk_new (o := .tup [x]) N2.hand hT
              generalize upd G2 T (.tup [x]) = G3 at N3 ⊢
              have s13 := N2.same.trans N3.same
              refine catA_is (s13 _ _ e1) N3.at_ ?_ fun r2 G4 s4 e4 => ?_
              · rw [List.length_map, List.length_take]
                exact Nat.le_of_lt (small1000 (by show min jj row.length + 1 ≤ 1000; omega))
              · have hrc4 := (s1.trans (s13.trans s4)) _ _ hrc3
                refine ⟨_, rfl, _, rfl, (jj : Int), 1, rfl, rfl, _, rfl, ?_⟩
                dsimp only [tNoPart]
                refine slA_is hrc4 fun r3 G5 s5 e5 => ?_
                rw [show ((jj : Int) + 1) = ((jj + 1 : Nat) : Int) from rfl, cut_from (by rw [List.length_map, hrL.1]; omega), ← List.map_drop] at e5
                refine catA_is (s5 _ _ e4) e5 ?_ fun r6 G6 s6 e6 => ?_
                · rw [List.length_append, List.length_map, List.length_map, List.length_take, List.length_drop]
                  exact Nat.le_of_lt (small1000 (by have := hrL.1; show min jj row.length + 1 + (row.length - (jj + 1)) ≤ 1000; omega))
                · have g6 := ((N3.hand.same s4).same s5).same s6
                  refine ⟨.ref r6, .tuple ((row.take jj).map PyData.int ++ [e] ++ (row.drop (jj + 1)).map PyData.int), _, rfl, g6, k3.trans (Keep.of (s1.trans (s13.trans (s4.trans (s5.trans s6))))), dpk_tup e6 (tup_ne g6 e6) (paired_app (paired_app (dpk_ints _) (.cons (dpk_flat he) .nil)) (dpk_ints _)), .inl fun w => bel_not hbe w, ?_⟩
                  show (_ ++ _ ++ _ : List PyData).length ≤ 200
                  rw [List.length_append, List.length_append, List.length_map, List.length_map, List.length_take, List.length_drop]
                  have := hrL.1
                  show min jj row.length + 1 + (row.length - (jj + 1)) ≤ 200
                  omega
      · rintro σ H3 ⟨u, e, jv, rfl, hH3, k3, du, hbad, hsm⟩
        have hc3 := k3 _ _ (tup_ne hH2 hc2) hc2
        refine ⟨_, rfl, _, rfl, (q : Int), rfl, ?_⟩
        refine slA_is hc3 fun r1 G1 s1 e1 => ?_
        rw [cut_to (by omega)] at e1
        refine ⟨_, rfl, (by show 1 ≤ sizeLine; decide), fun T hT => ?_⟩
        have N2 := mk_new (o := .tup [u]) (hH3.same s1) hT
        generalize upd G1 T (.tup [u]) = G2 at N2 ⊢
        refine catA_is (N2.same _ _ e1) N2.at_ ?_ fun r3 G3 s3 e3 => ?_
        · rw [List.length_take]
          exact Nat.le_of_lt (small1000 (by show min q ts.length + 1 ≤ 1000; omega))
        · have hc4 := (s1.trans (N2.same.trans s3)) _ _ hc3
          refine ⟨_, rfl, _, rfl, (q : Int), 1, rfl, rfl, _, rfl, ?_⟩
          dsimp only [tNoPart]
          refine slA_is hc4 fun r4 G4 s4 e4 => ?_
          rw [show ((q : Int) + 1) = ((q + 1 : Nat) : Int) from rfl, cut_from (by omega)] at e4
          refine catA_is (s4 _ _ e3) e4 ?_ fun r5 G5 s5 e5 => ?_
          · rw [List.length_append, List.length_take, List.length_drop]
            exact Nat.le_of_lt (small1000 (by show min q ts.length + 1 + (ts.length - (q + 1)) ≤ 1000; omega))
          · have sA := s1.trans (N2.same.trans (s3.trans (s4.trans s5)))
            have g5 := hH3.same sA
            have kA : Keep a H3 G5 := Keep.of sA
            have fA := fts_dpk (K := K) g5 (paired_mono (fun _ _ f => (f.keep hH2 k3).same sA) hts2)
            refine k (.ref r5) (.tuple ((rows.map rowP).take q ++ [e] ++ (rows.map rowP).drop (q + 1))) G5 (dpk_tup e5 (tup_ne g5 e5) (paired_app (paired_app (paired_take q fA) (.cons (du.keep kA) .nil)) (paired_drop (q + 1) fA))) ⟨?_, fun e' he' => ?_⟩ (bad_mat hq hR hbad) g5 (k12.trans (k3.trans kA))
            · show (_ ++ _ ++ _ : List PyData).length ≤ 200
              rw [List.length_append, List.length_append, List.length_take, List.length_drop, List.length_map]
              show min q rows.length + 1 + (rows.length - (q + 1)) ≤ 200
              omega
            · have rr : ∀ e'' ∈ rows.map rowP, smallD e'' := fun e'' h => by
                obtain ⟨t, ht, rfl⟩ := List.mem_map.mp h
                show (t.map PyData.int).length ≤ 200
                rw [List.length_map, (hR t ht).1]
                omega
              rcases List.mem_append.mp (show e' ∈ (rows.map rowP).take q ++ [e] ++ (rows.map rowP).drop (q + 1) from he') with h | h
              · rcases List.mem_append.mp h with h | h
                · exact rr e' (List.mem_of_mem_take h)
                · rw [List.mem_singleton.mp h]
                  exact hsm
              · exact rr e' (List.mem_of_mem_drop h)
end
end WU

set_option maxRecDepth 100000
set_option maxHeartbeats 8000000
namespace WU
open PySem PySem.Spec PyProof.Rows L2
def forB : Stmt → Nat → Stmt
  | .For _ _ b _ _, i => b.getD i (.Pass ⟨0, 0, 0, 0⟩)
  | s, _ => s
def lcS : Stmt → Scope
  | .Assign _ (.ListComp _ _ sc _) _ => sc
  | st => defScope st
/-- a row: a list of ints that is there -/
def FL : Hp → V → List Int → Prop := fun H y z => ∃ c, y = .ref c ∧ H c = some (.lst (z.map V.int))
theorem stab_FL : Stab FL := fun D H H' y z k n ⟨c, e, h⟩ => ⟨c, e, k _ _ (fun q => n (by rw [e, q])) h⟩
theorem FL.same {H H' : Hp} {y : V} {z : List Int} (h : FL H y z) (s : Same H H') : FL H' y z := by
  obtain ⟨c, e, h⟩ := h
  exact ⟨c, e, s _ _ h⟩
/-- a list of rows is none of its rows -/
theorem FL.ne {H : Hp} {y : V} {z : List Int} {D : Addr} {ts : List V} {zs : List (List Int)} (h : FL H y z) (hz : z ≠ []) (e : H D = some (.lst ts)) (q : Paired (FL H) ts zs) : y ≠ .ref D := by
  obtain ⟨c, rfl, h⟩ := h
  intro w
  cases w
  rw [h] at e
  have e1 := HO.lst.inj (Option.some.inj e)
  cases q with
  | nil => exact hz (List.map_eq_nil_iff.mp e1)
  | cons g _ =>
    obtain ⟨c2, rfl, _⟩ := g
    cases z with
    | nil => exact hz rfl
    | cons x t => cases (List.cons.inj e1).1
theorem FL.new {H : Hp} {p : Addr} {z : List Int} : FL (upd H p (.lst (z.map V.int))) (.ref p) z := ⟨p, rfl, upd_same⟩
theorem FL.fresh {H : Hp} {y : V} {z : List Int} {D : Addr} (h : FL H y z) (n : H D = none) : y ≠ .ref D := by
  obtain ⟨c, rfl, h⟩ := h
  intro q
  cases q
  rw [h] at n
  cases n
theorem paired_erase {α β : Type} {F : α → β → Prop} : ∀ {l : List α} {m : List β} (k : Nat), Paired F l m → Paired F (l.eraseIdx k) (m.eraseIdx k)
  | _, _, _, .nil => by rw [List.eraseIdx_nil, List.eraseIdx_nil]; exact .nil
  | _, _, 0, .cons _ t => t
  | _, _, k + 1, .cons h t => .cons h (paired_erase k t)
theorem paired_mem {α β : Type} {F G : α → β → Prop} : ∀ {l : List α} {m : List β}, Paired F l m → (∀ a b, b ∈ m → F a b → G a b) → Paired G l m
  | _, _, .nil, _ => .nil
  | _, _, .cons h t, f => .cons (f _ _ (List.mem_cons_self) h) (paired_mem t fun a b hb => f a b (List.mem_cons_of_mem _ hb))
/-- the places of the rows that are not 0 at j -/
def plc (j : Nat) (l : List (List Int)) (m : Nat) : List Int := ((List.range m).filter fun k => hot j (l.getD k [])).map fun (k : Nat) => (k : Int)
theorem plc_succ (j : Nat) (l : List (List Int)) (m : Nat) : plc j l (m + 1) = plc j l m ++ (if hot j (l.getD m []) = true then [(m : Int)] else []) := by
  unfold plc
  rw [List.range_succ, List.filter_append, List.map_append, List.filter_cons]
  split <;> rfl
theorem plc_le (j : Nat) (l : List (List Int)) (m : Nat) : (plc j l m).length ≤ m := by
  unfold plc
  rw [List.length_map]
  exact Nat.le_trans (List.length_filter_le _ _) (by simp)
theorem plc_none {j : Nat} {l : List (List Int)} (h : l.findIdx? (hot j) = none) : plc j l l.length = [] := by
  unfold plc
  rw [List.map_eq_nil_iff, List.filter_eq_nil_iff]
  intro k hk
  have hk2 := List.mem_range.mp hk
  rw [List.getD_eq_getElem?_getD, List.getElem?_eq_getElem hk2]
  have := (List.findIdx?_eq_none_iff.mp h) _ (List.getElem_mem hk2)
  show ¬ hot j l[k] = true
  rw [this]
  decide
theorem plc_some {j k : Nat} {l : List (List Int)} (h : l.findIdx? (hot j) = some k) : k < l.length ∧ hot j (l.getD k []) = true ∧ ∃ t, plc j l l.length = (k : Int) :: t := by
  rw [List.findIdx?_eq_some_iff_getElem] at h
  obtain ⟨hk, h1, h2⟩ := h
  have gd : ∀ i (hi : i < l.length), l.getD i [] = l[i] := fun i hi => by rw [List.getD_eq_getElem?_getD, List.getElem?_eq_getElem hi]; rfl
  refine ⟨hk, by rw [gd k hk]; exact h1, ?_⟩
  have step : ∀ m, m ≤ k → plc j l m = [] := by
    intro m
    induction m with
    | zero => intro _; rfl
    | succ m ih =>
      intro hm
      rw [plc_succ, ih (by omega), gd m (by omega), if_neg (h2 m (by omega))]
      rfl
  have more : ∀ m, ∃ t, plc j l (k + 1 + m) = (k : Int) :: t := by
    intro m
    induction m with
    | zero =>
      refine ⟨[], ?_⟩
      show plc j l (k + 1) = _
      rw [plc_succ, step k (Nat.le_refl k), gd k hk, if_pos h1]
      rfl
    | succ m ih =>
      obtain ⟨t, e⟩ := ih
      rw [show k + 1 + (m + 1) = (k + 1 + m) + 1 from rfl, plc_succ, e]
      exact ⟨_, rfl⟩
  obtain ⟨t, e⟩ := more (l.length - (k + 1))
  rw [show k + 1 + (l.length - (k + 1)) = l.length by omega] at e
  exact ⟨t, e⟩
section
variable {P : Program} {w : World} {K : PySem.W.Frag} {mg : Str → Option Value} {base : Heap} {S : Addr}
def spLRd : Sp := fun vs H Q _ => ∃ (p : Int) (n : Nat) (v : V) (rows : List (List Int)), vs = [v, .int p] ∧ MT H v rows ∧ p ∈ primes ∧ (∀ r ∈ rows, Ltr p n r) ∧ n ≤ 200 ∧ rows.length ≤ 200 ∧ ∀ y H', Same H H' → MT H' y (red p rows) → Q y H'
theorem scLRd : FnScope ["rows", "p", "left", "found", "columns", "j", "places", "head", "back", "row", "k", "part", "i"] ["rows", "p"] (defScope s_law_reduced) := ⟨rfl, rfl, rfl, by decide +kernel, rfl, by decide +kernel, by decide +kernel⟩
theorem ok_LRd {f f1 : Addr} {fd fd1 : FuncData} (F : FnS K "_law_reduced" s_law_reduced f fd) (B : Blt4 mg) (CI : Cal P w K mg base 1 "_law_inverse" f1 fd1 ["a", "p"] spLI) : FnOk P w K mg base (L2.CX P w) 2 f fd ["rows", "p"] spLRd := by
  refine F.ok scLRd (fun vs H Q E h => ?_) (fun cdv A outer s H vs Q E hr h => ?_)
  · obtain ⟨p, n, v, rows, rfl, _⟩ := h
    rfl
  · obtain ⟨p, n0, v, rows, rfl, ⟨a, ts, rfl, ha, hts⟩, hp, hR0, hn0, hm, k⟩ := h
    have nd := scLRd.nd
    have hb := fld_le hp
    obtain ⟨n, hn, hw, hR⟩ : ∃ n, n ≤ 200 ∧ wid rows = n ∧ ∀ r ∈ rows, Ltr p n r := by
      cases rows with
      | nil => exact ⟨0, by decide, rfl, fun r hr => nomatch hr⟩
      | cons r t => exact ⟨n0, hn0, (hR0 r (List.mem_cons_self)).1, hR0⟩
    refine ⟨_, (pss_cons (ps_set (i := 2) nd rfl (Or.inr rfl) (pe_lc (own := [("row", 9)]) (g := gName 9) (by rfl) nd (pi_tupK (K := K) (pv 0)) (blkOk_by (own := [("row", 9)]) (N := ["rows", "p", "left", "found", "columns", "j", "places", "head", "back", "row", "k", "part", "i"]) (sc := defScope s_law_reduced) (by decide +kernel)) (fun _ _ _ _ _ => (pg_name (i := 9) nd rfl (Or.inl rfl))) (fun _ _ _ _ _ => pts_nil) (fun _ _ _ _ _ => (pe_callTy (list_ofK (K := K)) (by rfl) B.lst (by decide +kernel) (pa_cons (pv 9) pa_nil)))))
      (pss_cons (ps_set (i := 3) nd rfl (Or.inl rfl) (pe_lst pa_nil))
      (pss_cons (ps_set (i := 4) nd rfl (Or.inr rfl) pe_int)
      (pss_cons (ps_wk (ps_if (pt_cmpR op_gt (pe_callB (len_seqK (K := K)) (by rfl) B.len (by decide +kernel) (pa_cons (pv 2) pa_nil)) pe_int (nomark _)) (pss_one (ps_set (i := 4) nd rfl (Or.inr rfl) (pe_callB (len_seqK (K := K)) (by rfl) B.len (by decide +kernel) (pa_cons (pe_ix (ix_listK (K := K)) (pv 2) pe_int (fun _ _ => rfl)) pa_nil)))) pss_nil))
      (pss_cons (ps_for (passes_of rfl) rfl (pi_range1 rfl B.range (pa_cons (pv 4) pa_nil)) (pg_name (i := 5) nd rfl (Or.inr rfl)) (pss_cons (ps_setLc (i := 6) (own := [("k", 10)]) (g := gName 10) (by rfl) nd rfl rfl (sw_true rfl rfl rfl (by decide +kernel)) (pi_range1 rfl B.range (pa_cons (pe_callB (len_seqK (K := K)) (by rfl) B.len (by decide +kernel) (pa_cons (pv 2) pa_nil)) pa_nil)) (blkOk_by (own := [("k", 10)]) (N := ["rows", "p", "left", "found", "columns", "j", "places", "head", "back", "row", "k", "part", "i"]) (sc := defScope s_law_reduced) (by decide +kernel)) (fun _ _ _ _ _ => (pg_name (i := 10) nd rfl (Or.inl rfl))) (fun _ _ _ _ _ => pts_one (pt_cmpR op_ne (pe_ix (ix_listK (K := K)) (pe_ix (ix_listK (K := K)) (pv 2) (pv 10) (fun _ _ => rfl)) (pv 5) (fun _ _ => rfl)) pe_int (nomark _))) (fun _ _ _ _ _ => (pv 10)))
      (pss_cons (ps_if (pt_cmpR op_eq (pe_callB (len_seqK (K := K)) (by rfl) B.len (by decide +kernel) (pa_cons (pv 6) pa_nil)) pe_int (nomark _)) (pss_one ps_continue) pss_nil)
      (pss_cons (ps_set (i := 7) nd rfl (Or.inr rfl) (pe_bm PySem.F.plainAttrs_list PySem.F.slot_list_pop PySem.F.type_list_pop mt_popAt (pv 2) (pa_cons (pe_ix (ix_listK (K := K)) (pv 6) pe_int (fun _ _ => rfl)) pa_nil)))
      (pss_cons (ps_set (i := 8) nd rfl (Or.inr rfl) (pe_cal CI (hr.mono (by decide)) (pa_cons (pe_ix (ix_listK (K := K)) (pv 7) (pv 5) (fun _ _ => rfl)) (pa_cons (pv 1) pa_nil)) passU))
      (pss_cons (ps_set (i := 7) nd rfl (Or.inr rfl) (pe_lc (own := [("part", 11)]) (g := gName 11) (by rfl) nd (pi_listK (K := K) (pv 7)) (blkOk_by (own := [("part", 11)]) (N := ["rows", "p", "left", "found", "columns", "j", "places", "head", "back", "row", "k", "part", "i"]) (sc := defScope s_law_reduced) (by decide +kernel)) (fun _ _ _ _ _ => (pg_name (i := 11) nd rfl (Or.inl rfl))) (fun _ _ _ _ _ => pts_nil) (fun _ _ _ _ _ => (pe_op op_modN (pe_callTy call_int1 (by rfl) B.int (by decide +kernel) (pa_cons (pe_op op_mul (pv 11) (pv 8)) pa_nil)) (pv 1)))))
      (pss_cons (ps_set (i := 2) nd rfl (Or.inr rfl) (pe_lc (own := [("row", 9)]) (g := gName 9) (by rfl) nd (pi_listK (K := K) (pv 2)) (blkOk_by (own := [("row", 9)]) (N := ["rows", "p", "left", "found", "columns", "j", "places", "head", "back", "row", "k", "part", "i"]) (sc := defScope s_law_reduced) (by decide +kernel)) (fun _ _ _ _ _ => (pg_name (i := 9) nd rfl (Or.inr rfl))) (fun _ _ _ _ _ => pts_nil) (fun _ _ _ _ _ => (pe_lc (own := [("i", 12)]) (g := gName 12) (by rfl) nd (pi_range1 rfl B.range (pa_cons (pv 4) pa_nil)) (blkOk_by (own := [("i", 12)]) (N := ["rows", "p", "left", "found", "columns", "j", "places", "head", "back", "row", "k", "part", "i"]) (sc := relS (lcS (forB ((defBody s_law_reduced).getD 4 (.Pass ⟨0, 0, 0, 0⟩)) 5)) (defScope s_law_reduced)) (by decide +kernel)) (fun _ _ _ _ _ => (pg_name (i := 12) nd rfl (Or.inl rfl))) (fun _ _ _ _ _ => pts_nil) (fun _ _ _ _ _ => (pe_op op_modN (pe_callTy call_int1 (by rfl) B.int (by decide +kernel) (pa_cons (pe_op op_sub (pe_ix (ix_listK (K := K)) (pv 9) (pv 12) (fun _ _ => rfl)) (pe_op op_mul (pe_ix (ix_listK (K := K)) (pv 9) (pv 5) (fun _ _ => rfl)) (pe_ix (ix_listK (K := K)) (pv 7) (pv 12) (fun _ _ => rfl)))) pa_nil)) (pv 1)))))))
      (pss_cons (ps_setLc (i := 3) (own := [("row", 9)]) (g := gName 9) (by rfl) nd rfl rfl (sw_true rfl rfl rfl (by decide +kernel)) (pi_listK (K := K) (pv 3)) (blkOk_by (own := [("row", 9)]) (N := ["rows", "p", "left", "found", "columns", "j", "places", "head", "back", "row", "k", "part", "i"]) (sc := defScope s_law_reduced) (by decide +kernel)) (fun _ _ _ _ _ => (pg_name (i := 9) nd rfl (Or.inr rfl))) (fun _ _ _ _ _ => pts_nil) (fun _ _ _ _ _ => (pe_lc (own := [("i", 12)]) (g := gName 12) (by rfl) nd (pi_range1 rfl B.range (pa_cons (pv 4) pa_nil)) (blkOk_by (own := [("i", 12)]) (N := ["rows", "p", "left", "found", "columns", "j", "places", "head", "back", "row", "k", "part", "i"]) (sc := relS (lcS (forB ((defBody s_law_reduced).getD 4 (.Pass ⟨0, 0, 0, 0⟩)) 6)) (defScope s_law_reduced)) (by decide +kernel)) (fun _ _ _ _ _ => (pg_name (i := 12) nd rfl (Or.inl rfl))) (fun _ _ _ _ _ => pts_nil) (fun _ _ _ _ _ => (pe_op op_modN (pe_callTy call_int1 (by rfl) B.int (by decide +kernel) (pa_cons (pe_op op_sub (pe_ix (ix_listK (K := K)) (pv 9) (pv 12) (fun _ _ => rfl)) (pe_op op_mul (pe_ix (ix_listK (K := K)) (pv 9) (pv 5) (fun _ _ => rfl)) (pe_ix (ix_listK (K := K)) (pv 7) (pv 12) (fun _ _ => rfl)))) pa_nil)) (pv 1))))))
      (pss_one (ps_expr (pe_bm PySem.F.plainAttrs_list PySem.F.slot_list_append PySem.F.type_list_append mt_append (pv 3) (pa_cons (pv 7) pa_nil))))))))))))
      (pss_one (ps_ret (pe_callTy (tup_ofK (K := K)) (by rfl) B.tuple (by decide +kernel) (pa_cons (pe_lc (own := [("row", 9)]) (g := gName 9) (by rfl) nd (pi_listK (K := K) (pv 3)) (blkOk_by (own := [("row", 9)]) (N := ["rows", "p", "left", "found", "columns", "j", "places", "head", "back", "row", "k", "part", "i"]) (sc := defScope s_law_reduced) (by decide +kernel)) (fun _ _ _ _ _ => (pg_name (i := 9) nd rfl (Or.inl rfl))) (fun _ _ _ _ _ => pts_nil) (fun _ _ _ _ _ => (pe_callTy (tup_ofK (K := K)) (by rfl) B.tuple (by decide +kernel) (pa_cons (pv 9) pa_nil)))) pa_nil))))))))), ?_⟩
    refine ⟨_, rfl, a, rfl, ⟨_, SqT.of ha⟩, fun D hD => lc_tup (K := K) (a := a) (xs := ts) (fun i H' => Bld FL H D (rows.take i) H') (Bld.start hD) (fun i H' _ b => SqT.of (b.same _ _ ha)) ?_ ?_⟩
    · intro i x H1 hx b
      obtain ⟨r, hr0, hxr⟩ := paired_at hts hx
      obtain ⟨c, rfl, hc⟩ := hxr.same b.same
      refine ⟨rfl, _, rfl, c, _, rfl, .inr (sqT hc), fun l hl => ?_⟩
      rw [List.take_succ, hr0]
      exact b.put stab_FL hD (same_new hl) FL.new (fun z => by cases z; rw [b.ex.choose_spec.1] at hl; cases hl) (by rw [List.length_take]; exact small1000 (by omega))
    · intro H1 b
      obtain ⟨s1, xs, eD, pxs⟩ := b.fin
      rw [paired_len hts, List.take_length] at pxs
      refine ⟨(by show 0 ≤ sizeLine; decide), fun L hL => ?_⟩
      have sL : Same H1 (upd H1 L (.lst [])) := same_new hL
      have eL : upd H1 L (.lst []) L = some (.lst []) := upd_same
      have neDL : D ≠ L := ne_of_none eD hL
      generalize upd H1 L (.lst []) = H2 at sL eL ⊢
      have eD2 := sL _ _ eD
      have pxs2 := paired_mono (fun _ _ q => q.same sL) pxs
      have lx := paired_len pxs2
      refine ⟨fun σ H' => σ = [some (.ref a), some (.int p), some (.ref D), some (.ref L), some (.int n), none, none, none, none, none, none, none, none] ∧ H' = H2, ?_, ?_⟩
      · refine ⟨_, rfl, D, xs, rfl, .inl (SqL.of eD2), _, _, rfl, rfl, _, rfl, iteD (fun h => ?_) (fun h => ?_)⟩
        · have h0 : 0 < rows.length := by omega
          obtain ⟨x0, hx0, c, rfl, hc⟩ := paired_of pxs2 (show rows[0]? = some rows[0] from List.getElem?_eq_getElem h0)
          refine ⟨_, rfl, D, _, _, _, rfl, rfl, SqL.of eD2, atI_nat (j := 0) hx0, c, _, rfl, .inl (SqL.of hc), ?_⟩
          rw [List.length_map, (hR _ (List.getElem_mem h0)).1]
          exact ⟨rfl, rfl⟩
        · have : rows = [] := by
            cases rows with
            | nil => rfl
            | cons r t =>
              exfalso
              rw [List.length_cons] at lx
              omega
          subst this
          refine ⟨?_, rfl⟩
          rw [← hw]
          rfl
      · rintro σ H' ⟨rfl, rfl⟩
        refine ⟨_, rfl, (n : Int), rfl, by omega, by omega, for_range (lo := 0) (n := n) (fun j σ H' => ∃ (X Y : Addr) (xs ys : List V) (v5 v6 v7 v8 v9 v10 v11 v12 : Option V), σ = [some (.ref a), some (.int p), some (.ref X), some (.ref Y), some (.int n), v5, v6, v7, v8, v9, v10, v11, v12] ∧ Same H H' ∧
          H' X = some (.lst xs) ∧ Paired (FL H') xs (run p rows j).1 ∧ H' Y = some (.lst ys) ∧ Paired (FL H') ys (run p rows j).2 ∧ X ≠ Y ∧ (H X = none ∧ H Y = none))
          ⟨D, L, xs, [], none, none, none, none, none, none, none, none, rfl, s1.trans sL, eD2, pxs2, eL, .nil, neDL, hD, s1.free hL⟩ ?_ ?_⟩
        · rintro j σ H3 hj ⟨X, Y, xs, ys, v5, v6, v7, v8, v9, v10, v11, v12, rfl, s3, hX, px, hY, py, ne, hXn, hYn⟩
          have lx3 := paired_len px
          have ly3 := paired_len py
          have rl := run_len (p := p) (rows := rows) j
          obtain ⟨pv, I⟩ := iv_run hp hR j (by omega)
          refine ⟨_, rfl, X, xs, rfl, .inl (SqL.of hX), (xs.length : Int), rfl, by omega, by omega, fun D3 hD3 => lc_range (lo := 0) (n := xs.length) (fun i H' => Bld FI H3 D3 (plc j (run p rows j).1 i) H') (Bld.start hD3) ?_ ?_⟩
          · intro i G1 hi b
            have hi2 : i < (run p rows j).1.length := by omega
            obtain ⟨x, hx, c, rfl, hc⟩ := paired_of px (show (run p rows j).1[i]? = some ((run p rows j).1[i]) from List.getElem?_eq_getElem hi2)
            have hL := I.left _ (List.getElem_mem hi2)
            have gd : (run p rows j).1.getD i [] = (run p rows j).1[i] := by rw [List.getD_eq_getElem?_getD, List.getElem?_eq_getElem hi2]; rfl
            refine ⟨rfl, _, rfl, _, rfl, X, _, _, _, rfl, rfl, SqL.of (b.same _ _ hX), (by rw [Int.zero_add]; exact atI_nat hx), _, rfl, c, _, _, _, rfl, rfl, SqL.of (b.same _ _ hc), (by rw [Int.zero_add]; exact atI_nat (take_map_at n (by rw [hL.1]; exact hj))), rfl, _, rfl, ?_⟩
            have lp := plc_le j (run p rows j).1 i
            rw [plc_succ, gd]
            refine iteND (fun hz => ?_) (fun hz => ?_)
            · have e : hot j (run p rows j).1[i] = true := decide_eq_true fun z => hz (congrArg V.int z)
              rw [if_pos e]
              exact ⟨_, rfl, b.put stab_FI hD3 (Same.refl _) (by show V.int (0 + (i : Int)) = V.int (i : Int); rw [Int.zero_add]) (by intro z; cases z) (small1000 (by omega))⟩
            · have e : hot j (run p rows j).1[i] = false := decide_eq_false fun z => z (V.int.inj hz)
              rw [if_neg (by rw [e]; decide), List.append_nil]
              exact b
          · intro H4 b
            obtain ⟨s4, zs, eD3, pz⟩ := b.fin
            rw [lx3] at pz
            have ez := fi_map pz
            subst ez
            have hX4 := s4 _ _ hX
            have hY4 := s4 _ _ hY
            have px4 := paired_mono (fun _ _ q => q.same s4) px
            have py4 := paired_mono (fun _ _ q => q.same s4) py
            refine ⟨_, rfl, D3, _, rfl, .inl (SqL.of eD3), rfl, _, rfl, ?_⟩
            cases ef : (run p rows j).1.findIdx? (hot j) with
            | none =>
              have e0 := plc_none ef
              have es : run p rows (j + 1) = run p rows j := stp_none (List.findIdx?_eq_none_iff.mp ef)
              refine iteTb (decide_eq_true (by rw [e0]; rfl)) ?_
              exact ⟨X, Y, xs, ys, _, _, _, _, _, _, _, _, rfl, s3.trans s4, hX4, by rw [es]; exact px4, hY4, by rw [es]; exact py4, ne, hXn, hYn⟩
            | some k0 =>
              obtain ⟨hk0, hhot, pt, ept⟩ := plc_some ef
              generalize hrr : (run p rows j).1.getD k0 [] = r at hhot
              have hrk : (run p rows j).1[k0]? = some r := by
                rw [← hrr, List.getD_eq_getElem?_getD, List.getElem?_eq_getElem hk0]
                rfl
              have hrL : Ltr p n r := I.left r (List.mem_of_getElem? hrk)
              have hleadL : Ltr p n (led p r j) := led_ltr (by omega) hrL.1
              obtain ⟨x, hx, c, rfl, hc⟩ := paired_of px4 hrk
              refine iteFb (decide_eq_false (by rw [ept]; intro z; have := V.int.inj z; rw [List.length_map, List.length_cons] at this; omega)) ?_
              have hkx : k0 < xs.length := by omega
              refine ⟨_, rfl, .inl ⟨rfl, _, SqL.of hX4⟩, _, rfl, D3, _, _, _, rfl, rfl, SqL.of eD3, (by rw [ept]; exact atI_nat (j := 0) rfl), X, xs, (k0 : Int), k0, .ref c, rfl, rfl, hX4, by omega, by omega, (by rw [seqIndex_of (by omega) (by omega)]; rfl), hx, ?_⟩
              have nzr : ∀ u : List Int, Ltr p n u → u ≠ [] := fun u hu z => by
                have := hu.1
                rw [z] at this
                have : 0 = n := this
                omega
              have kb : ∀ b o, b ≠ X → H4 b = some o → upd H4 X (.lst (xs.eraseIdx k0)) b = some o := fun b o n h => by rw [upd_ne n]; exact h
              have flx : ∀ (y : V) (z : List Int), Ltr p n z → FL H4 y z → FL (upd H4 X (.lst (xs.eraseIdx k0))) y z := fun y z hz f => stab_FL X _ _ y z kb (f.ne (nzr z hz) hX4 px4) f
              have hX5 : upd H4 X (.lst (xs.eraseIdx k0)) X = some (.lst (xs.eraseIdx k0)) := upd_same
              have hY5 := kb _ _ (Ne.symm ne) hY4
              have px5 : Paired (FL (upd H4 X (.lst (xs.eraseIdx k0)))) (xs.eraseIdx k0) ((run p rows j).1.eraseIdx k0) := by
                have q := paired_erase k0 px4
                refine paired_mem q fun y z hz f => flx y z (I.left z (List.mem_of_mem_eraseIdx hz)) f
              have py5 : Paired (FL (upd H4 X (.lst (xs.eraseIdx k0)))) ys (run p rows j).2 := paired_mem py4 fun y z hz f => flx y z (I.done z hz) f
              have hc5 : upd H4 X (.lst (xs.eraseIdx k0)) c = some (.lst (r.map V.int)) := by
                obtain ⟨c2, e2, h2⟩ := flx (.ref c) r hrL ⟨c, rfl, hc⟩
                cases e2
                exact h2
              have s5 : Same H (upd H4 X (.lst (xs.eraseIdx k0))) := fun b o h => kb _ _ (ne_of_none h hXn) (s4 _ _ (s3 _ _ h))
              generalize upd H4 X (.lst (xs.eraseIdx k0)) = H5 at hX5 hY5 px5 py5 hc5 s5 ⊢
              have bj := hrL.bd hj
              have zj := hot_ne hhot
              refine ⟨_, rfl, _, rfl, c, _, _, _, rfl, rfl, SqL.of hc5, (by rw [Int.zero_add]; exact atI_nat (take_map_at n (by rw [hrL.1]; exact hj))), _, rfl, at0 r j, p, rfl, hp, by omega, bj.2, ?_⟩
              -- the head
              refine ⟨_, rfl, c, rfl, ⟨_, SqL.of hc5⟩, fun HD hHD => lc_list (K := K) (a := c) (xs := r.map V.int) (fun i H' => Bld FI H5 HD ((led p r j).take i) H') (Bld.start hHD) (fun i H' _ b => SqL.of (b.same _ _ hc5)) ?_ ?_⟩
              · intro i x G1 hx b
                have hi : i < r.length := by
                  have := (List.getElem?_eq_some_iff.mp hx).1
                  rw [List.length_map] at this
                  exact this
                cases (take_map_at n hi).symm.trans hx
                have bi := hrL.bd (k := i) (by rw [← hrL.1]; exact hi)
                refine ⟨rfl, _, rfl, _, rfl, _, _, rfl, rfl, .inl ⟨by omega, by omega⟩, .inl ⟨_, rfl, _, rfl, _, p, rfl, rfl, by omega, ?_⟩⟩
                have le : i < (led p r j).length := by rw [hleadL.1, ← hrL.1]; exact hi
                rw [take_at0 le]
                exact b.put (y := .int ((at0 r i * inv p (at0 r j)).fmod p)) (z := at0 (led p r j) i) stab_FI hHD (Same.refl _) (by rw [led_at hrL.1 (by rw [← hrL.1]; exact hi), Int.mul_comm]; rfl) (by intro z; cases z) (by have := hleadL.1; rw [List.length_take]; exact small1000 (by omega))
              · intro H6 b
                obtain ⟨s6, zs6, eHD, pz6⟩ := b.fin
                rw [List.length_map, List.take_of_length_le (by rw [hleadL.1, hrL.1]; exact Nat.le_refl _)] at pz6
                rw [fi_map pz6] at eHD
                have hX6 := s6 _ _ hX5
                have hY6 := s6 _ _ hY5
                have px6 := paired_mono (fun _ _ q => q.same s6) px5
                have py6 := paired_mono (fun _ _ q => q.same s6) py5
                have H6l : ∀ (i : Nat) (G : Hp), Same H6 G → G HD = some (.lst ((led p r j).map V.int)) := fun _ G s => s _ _ eHD
                have h6len : (xs.eraseIdx k0).length ≤ 200 := Nat.le_trans (List.length_eraseIdx_le _ _) (by omega)
                have lxe := paired_len px6
                refine ⟨_, rfl, X, rfl, ⟨_, SqL.of hX6⟩, fun D7 hD7 => lc_list (K := K) (a := X) (xs := (xs.eraseIdx k0)) (fun i H' => Bld FL H6 D7 ((((run p rows j).1.eraseIdx k0).map fun t => less p t (at0 t j) (led p r j)).take i) H') (Bld.start hD7) (fun i H' _ b => SqL.of (b.same _ _ hX6)) ?_ ?_⟩
                · intro i x G1 hx b
                  obtain ⟨u, hu0, hxu⟩ := paired_at px6 hx
                  obtain ⟨cu, rfl, hcu⟩ := hxu.same b.same
                  have huL : Ltr p n u := (fun u hu => I.left u (List.mem_of_mem_eraseIdx hu)) u (List.mem_of_getElem? hu0)
                  have hlead := H6l 0 _ b.same
                  have bj := huL.bd hj
                  have lul := less_len (p := p) (f := at0 u j) huL.1 hleadL.1
                  refine ⟨rfl, _, rfl, (n : Int), rfl, by omega, by omega, fun E2 hE2 => lc_range (lo := 0) (n := n) (fun i H' => Bld FI G1 E2 ((less p u (at0 u j) (led p r j)).take i) H') (Bld.start hE2) ?_ ?_⟩
                  · intro i2 G2 hi2 b2
                    have hcu2 := b2.same _ _ hcu
                    have hh2 := b2.same _ _ hlead
                    have eu : (u.map V.int)[i2]? = some (V.int (at0 u i2)) := take_map_at n (by rw [huL.1]; exact hi2)
                    have euj : (u.map V.int)[j]? = some (V.int (at0 u j)) := take_map_at n (by rw [huL.1]; exact hj)
                    have el : ((led p r j).map V.int)[i2]? = some (V.int (at0 (led p r j) i2)) := take_map_at n (by rw [hleadL.1]; exact hi2)
                    refine ⟨rfl, _, rfl, _, rfl, cu, _, _, _, rfl, rfl, SqL.of hcu2, (by rw [Int.zero_add]; exact atI_nat eu), _, rfl, _, rfl, cu, _, _, _, rfl, rfl, SqL.of hcu2, (by rw [Int.zero_add]; exact atI_nat euj), ?_⟩
                    refine ⟨_, rfl, _, rfl, HD, _, _, _, rfl, rfl, SqL.of hh2, (by rw [Int.zero_add]; exact atI_nat el), _, _, rfl, rfl, .inl ⟨by omega, by omega⟩, _, _, rfl, rfl, .inl ⟨_, rfl, _, rfl, _, p, rfl, rfl, by omega, ?_⟩⟩
                    rw [take_at0 (by rw [lul]; exact hi2)]
                    exact b2.put (y := .int ((at0 u i2 - at0 u j * at0 (led p r j) i2).fmod p)) (z := at0 (less p u (at0 u j) (led p r j)) i2) stab_FI hE2 (Same.refl _) (by rw [less_at huL.1 hleadL.1 hi2]; rfl) (by intro z; cases z) (by rw [List.length_take]; exact small1000 (by omega))
                  · intro G2 b2
                    obtain ⟨sb, zs2, e2, pz2⟩ := b2.fin
                    rw [List.take_of_length_le (by rw [lul]; exact Nat.le_refl _)] at pz2
                    rw [fi_map pz2] at e2
                    have et : (((run p rows j).1.eraseIdx k0).map fun t => less p t (at0 t j) (led p r j)).take (i + 1) = (((run p rows j).1.eraseIdx k0).map fun t => less p t (at0 t j) (led p r j)).take i ++ [less p u (at0 u j) (led p r j)] := by
                      rw [List.take_succ, List.getElem?_map, hu0]
                      rfl
                    rw [et]
                    exact b.put stab_FL hD7 sb ⟨E2, rfl, e2⟩ (fun z => by cases z; rw [b.ex.choose_spec.1] at hE2; cases hE2) (by rw [List.length_take, List.length_map]; exact small1000 (by omega))
                · intro H7 b7
                  obtain ⟨s7, ws, eX7, pw7⟩ := b7.fin
                  rw [lxe, List.take_of_length_le (by rw [List.length_map]; exact Nat.le_refl _)] at pw7
                  have hY7 := s7 _ _ hY6
                  have py7 := paired_mono (fun _ _ q => q.same s7) py6
                  have eHD7 := s7 _ _ eHD
                  have H7l : ∀ (i : Nat) (G : Hp), Same H7 G → G HD = some (.lst ((led p r j).map V.int)) := fun _ G s => s _ _ eHD7
                  refine ⟨_, rfl, Y, rfl, ⟨_, SqL.of hY7⟩, fun D8 hD8 => lc_list (K := K) (a := Y) (xs := ys) (fun i H' => Bld FL H7 D8 (((run p rows j).2.map fun t => less p t (at0 t j) (led p r j)).take i) H') (Bld.start hD8) (fun i H' _ b => SqL.of (b.same _ _ hY7)) ?_ ?_⟩
                  · intro i x G1 hx b
                    obtain ⟨u, hu0, hxu⟩ := paired_at py7 hx
                    obtain ⟨cu, rfl, hcu⟩ := hxu.same b.same
                    have huL : Ltr p n u := I.done u (List.mem_of_getElem? hu0)
                    have hlead := H7l 0 _ b.same
                    have bj := huL.bd hj
                    have lul := less_len (p := p) (f := at0 u j) huL.1 hleadL.1
                    refine ⟨rfl, _, rfl, (n : Int), rfl, by omega, by omega, fun E2 hE2 => lc_range (lo := 0) (n := n) (fun i H' => Bld FI G1 E2 ((less p u (at0 u j) (led p r j)).take i) H') (Bld.start hE2) ?_ ?_⟩
                    · intro i2 G2 hi2 b2
                      have hcu2 := b2.same _ _ hcu
                      have hh2 := b2.same _ _ hlead
                      have eu : (u.map V.int)[i2]? = some (V.int (at0 u i2)) := take_map_at n (by rw [huL.1]; exact hi2)
                      have euj : (u.map V.int)[j]? = some (V.int (at0 u j)) := take_map_at n (by rw [huL.1]; exact hj)
                      have el : ((led p r j).map V.int)[i2]? = some (V.int (at0 (led p r j) i2)) := take_map_at n (by rw [hleadL.1]; exact hi2)
                      refine ⟨rfl, _, rfl, _, rfl, cu, _, _, _, rfl, rfl, SqL.of hcu2, (by rw [Int.zero_add]; exact atI_nat eu), _, rfl, _, rfl, cu, _, _, _, rfl, rfl, SqL.of hcu2, (by rw [Int.zero_add]; exact atI_nat euj), ?_⟩
                      refine ⟨_, rfl, _, rfl, HD, _, _, _, rfl, rfl, SqL.of hh2, (by rw [Int.zero_add]; exact atI_nat el), _, _, rfl, rfl, .inl ⟨by omega, by omega⟩, _, _, rfl, rfl, .inl ⟨_, rfl, _, rfl, _, p, rfl, rfl, by omega, ?_⟩⟩
                      rw [take_at0 (by rw [lul]; exact hi2)]
                      exact b2.put (y := .int ((at0 u i2 - at0 u j * at0 (led p r j) i2).fmod p)) (z := at0 (less p u (at0 u j) (led p r j)) i2) stab_FI hE2 (Same.refl _) (by rw [less_at huL.1 hleadL.1 hi2]; rfl) (by intro z; cases z) (by rw [List.length_take]; exact small1000 (by omega))
                    · intro G2 b2
                      obtain ⟨sb, zs2, e2, pz2⟩ := b2.fin
                      rw [List.take_of_length_le (by rw [lul]; exact Nat.le_refl _)] at pz2
                      rw [fi_map pz2] at e2
                      have et : ((run p rows j).2.map fun t => less p t (at0 t j) (led p r j)).take (i + 1) = ((run p rows j).2.map fun t => less p t (at0 t j) (led p r j)).take i ++ [less p u (at0 u j) (led p r j)] := by
                        rw [List.take_succ, List.getElem?_map, hu0]
                        rfl
                      rw [et]
                      exact b.put stab_FL hD8 sb ⟨E2, rfl, e2⟩ (fun z => by cases z; rw [b.ex.choose_spec.1] at hE2; cases hE2) (by rw [List.length_take, List.length_map]; exact small1000 (by omega))
                  · intro H8 b8
                    obtain ⟨s8, us, eY8, pu8⟩ := b8.fin
                    rw [ly3, List.take_of_length_le (by rw [List.length_map]; exact Nat.le_refl _)] at pu8
                    have eX8 := s8 _ _ eX7
                    have pw8 := paired_mono (fun _ _ q => q.same s8) pw7
                    have eHD8 := s8 _ _ eHD7
                    have neXY : D7 ≠ D8 := fun z => by rw [z] at eX7; rw [eX7] at hD8; cases hD8
                    have lus := paired_len pu8
                    rw [List.length_map] at lus
                    refine ⟨_, rfl, .inl ⟨rfl, _, SqL.of eY8⟩, _, rfl, D8, us, _, rfl, rfl, eY8, (by rw [lus]; exact small1000 (by omega)), ?_⟩
                    have kb8 : ∀ b o, b ≠ D8 → H8 b = some o → upd H8 D8 (.lst (us ++ [.ref HD])) b = some o := fun b o n h => by rw [upd_ne n]; exact h
                    have fl8 : ∀ (y : V) (z : List Int), Ltr p n z → FL H8 y z → FL (upd H8 D8 (.lst (us ++ [.ref HD]))) y z := fun y z hz f => stab_FL D8 _ _ y z kb8 (f.ne (nzr z hz) eY8 pu8) f
                    have est : run p rows (j + 1) = ((((run p rows j).1.eraseIdx k0).map fun t => less p t (at0 t j) (led p r j)), ((run p rows j).2.map fun t => less p t (at0 t j) (led p r j)) ++ [led p r j]) := by
                      show stp p j (run p rows j) = _
                      unfold stp
                      rw [ef]
                      simp only
                      rw [hrr]
                    refine ⟨D7, D8, ws, us ++ [.ref HD], _, _, _, _, _, _, _, _, rfl, ?_, kb8 _ _ neXY eX8, ?_, upd_same, ?_, neXY, ?_, ?_⟩
                    · intro b o h
                      have e6 := s6 _ _ (s5 _ _ h)
                      exact kb8 _ _ (ne_of_none (s7 _ _ e6) hD8) (s8 _ _ (s7 _ _ e6))
                    · rw [est]
                      refine paired_mem pw8 fun y z hz f => fl8 y z ?_ f
                      obtain ⟨u, hu, rfl⟩ := List.mem_map.mp hz
                      exact less_ltr (by omega) (I.left u (List.mem_of_mem_eraseIdx hu)).1 hleadL.1
                    · rw [est]
                      refine paired_app (paired_mem pu8 fun y z hz f => fl8 y z ?_ f) (.cons (fl8 _ _ hleadL ⟨HD, rfl, eHD8⟩) .nil)
                      obtain ⟨u, hu, rfl⟩ := List.mem_map.mp hz
                      exact less_ltr (by omega) (I.done u hu).1 hleadL.1
                    · exact s5.free (s6.free hD7)
                    · exact s5.free (s6.free (s7.free hD8))
        · rintro σ H3 ⟨X, Y, xs, ys, v5, v6, v7, v8, v9, v10, v11, v12, rfl, s3, hX, px, hY, py, ne, _⟩
          have ly := paired_len py
          refine ⟨_, rfl, Y, rfl, ⟨_, SqL.of hY⟩, fun D4 hD4 => lc_list (K := K) (a := Y) (xs := ys) (fun i H' => Bld FT H3 D4 ((run p rows n).2.take i) H') (Bld.start hD4) (fun i H' _ b => SqL.of (b.same _ _ hY)) ?_ ?_⟩
          · intro i x H4 hx b
            obtain ⟨r, hr0, hxr⟩ := paired_at py hx
            obtain ⟨c, rfl, hc⟩ := hxr.same b.same
            refine ⟨rfl, _, rfl, c, _, rfl, .inl ⟨SqL.of hc, fun l hl => ?_⟩⟩
            rw [List.take_succ, hr0]
            have := run_len (p := p) (rows := rows) n
            exact b.put stab_FT hD4 (same_new hl) FT.new (fun z => by cases z; rw [b.ex.choose_spec.1] at hl; cases hl) (by rw [List.length_take]; exact small1000 (by omega))
          · intro H4 b
            obtain ⟨s4, zs, eD4, pz⟩ := b.fin
            rw [ly, List.take_length] at pz
            refine ⟨D4, zs, rfl, .inl ⟨SqL.of eD4, fun q hq => k (.ref q) _ ((s3.trans s4).trans (same_new hq)) ⟨q, zs, rfl, upd_same, ?_⟩⟩⟩
            rw [red_run hR]
            exact paired_mono (fun _ _ f => f.same (same_new hq)) pz
end
end WU

set_option maxRecDepth 100000
set_option maxHeartbeats 8000000
namespace WU
open PySem PySem.Spec PyProof.Rows L2
/-- u and v: the same number, or tuples alike (to the depth n) -/
def EqV : Nat → Hp → V → V → Prop
  | 0, _, u, v => ∃ i, u = .int i ∧ v = .int i
  | n + 1, H, u, v => (∃ i, u = .int i ∧ v = .int i) ∨ ∃ a b xs ys, u = .ref a ∧ v = .ref b ∧ Rd H a (.tup xs) ∧ Rd H b (.tup ys) ∧ Paired (EqV n H) xs ys ∧ ys.length ≤ 10000
section
variable {P : Program} {w : World} {K : PySem.W.Frag} {mg : Str → Option Value} {base : Heap}
theorem scSm : FnScope ["found", "due", "at"] ["found", "due"] (defScope s_law_same) := ⟨rfl, rfl, rfl, by decide +kernel, rfl, by decide +kernel, by decide +kernel⟩
def spSmP (R : Hp → V → V → Prop) : Sp := fun vs H Q _ => ∃ u v, vs = [u, v] ∧ R H u v ∧ Q (.bl true) H
def spSm (n : Nat) : Sp := spSmP (EqV n)
/-- one step: where parts are told by R, numbers and tuples of such parts are -/
theorem ok_Sm1 {R : Hp → V → V → Prop} {k : Nat} {f : Addr} {fd : FuncData} (F : FnS K "_law_same" s_law_same f fd) (B : Blt3 mg) (C0 : Cal P w K mg base k "_law_same" f fd ["found", "due"] (spSmP R)) :
    FnOk P w K mg base (L2.CX P w) (k + 1) f fd ["found", "due"] (spSmP fun H u v => (∃ i, u = .int i ∧ v = .int i) ∨ ∃ a b xs ys, u = .ref a ∧ v = .ref b ∧ Rd H a (.tup xs) ∧ Rd H b (.tup ys) ∧ Paired (R H) xs ys ∧ ys.length ≤ 10000) := by
  refine F.ok scSm (fun vs H Q E h => ?_) (fun cdv A outer s H vs Q E hr h => ?_)
  · obtain ⟨u, v, rfl, _⟩ := h
    rfl
  · obtain ⟨u, v, rfl, he, kk⟩ := h
    have nd := scSm.nd
    refine ⟨_, (pss_cons (ps_if (pt_val (pe_callB call_isi (by rfl) B.isi (by decide +kernel) (pa_cons (pv 1) (pa_cons (pe_bltn (v := .ty "tuple") (by rfl) B.tuple (by decide +kernel) rfl) pa_nil)))) (pss_cons (ps_if (PW.pt (pw_or (pt_not (pt_val (pe_callB call_isi (by rfl) B.isi (by decide +kernel) (pa_cons (pv 0) (pa_cons (pe_bltn (v := .ty "tuple") (by rfl) B.tuple (by decide +kernel) rfl) pa_nil))))) (pw_or1 (pt_cmpR op_ne (pe_callB call_len_seq (by rfl) B.len (by decide +kernel) (pa_cons (pv 0) pa_nil)) (pe_callB call_len_seq (by rfl) B.len (by decide +kernel) (pa_cons (pv 1) pa_nil)) (nomark _))))) (pss_one (ps_ret pe_bl)) pss_nil)
      (pss_cons (ps_for (passes_of rfl) rfl (pi_range1 rfl B.range (pa_cons (pe_callB call_len_seq (by rfl) B.len (by decide +kernel) (pa_cons (pv 1) pa_nil)) pa_nil)) (pg_name (i := 2) nd rfl (Or.inl rfl)) (pss_one (ps_if (pt_not (pt_val (pe_cal C0 hr (pa_cons (pe_ix ix_tup (pv 0) (pv 2) (fun _ _ => rfl)) (pa_cons (pe_ix ix_tup (pv 1) (pv 2) (fun _ _ => rfl)) pa_nil)) passU))) (pss_one (ps_ret pe_bl)) pss_nil)))
      (pss_one (ps_ret pe_bl)))) pss_nil)
      (pss_one (ps_ret (pe_and (pe_callB call_isi (by rfl) B.isi (by decide +kernel) (pa_cons (pv 0) (pa_cons (pe_bltn (v := .ty "int") (by rfl) B.int (by decide +kernel) rfl) pa_nil))) (pe_and (pe_not (pe_callB call_isi (by rfl) B.isi (by decide +kernel) (pa_cons (pv 0) (pa_cons (pe_bltn (v := .ty "bool") (by rfl) B.bool (by decide +kernel) rfl) pa_nil)))) (pe_one (pe_cmpR op_eq (pv 0) (pv 1) (nomark _)))))))), ?_⟩
    rcases he with ⟨i, rfl, rfl⟩ | ⟨a, b, xs, ys, rfl, rfl, ha, hb, hP, hl⟩
    · refine ⟨_, rfl, _, _, _, _, _, rfl, .ty "tuple", .base (.int i), kit_ty (show kitB "int" "tuple" = some false by decide +kernel), _, rfl, iteF ?_⟩
      refine ⟨_, rfl, _, _, _, _, _, rfl, .ty "int", .base (.int i), kit_ty (show kitB "int" "int" = some true by decide +kernel), _, rfl, iteT ?_⟩
      refine ⟨_, rfl, _, _, _, _, _, rfl, .ty "bool", .base (.int i), kit_ty (show kitB "int" "bool" = some false by decide +kernel), _, rfl, _, rfl, iteT ⟨_, rfl, _, rfl, rfl, ?_⟩⟩
      rw [decide_eq_true rfl]
      exact kk
    · have el := paired_len hP
      refine ⟨_, rfl, _, _, _, _, _, rfl, .ty "tuple", sqT_ty (sqT hb), kit_ty (show kitB "tuple" "tuple" = some true by decide +kernel), _, rfl, iteT ?_⟩
      refine ⟨_, rfl, _, _, _, _, _, rfl, .ty "tuple", sqT_ty (sqT ha), kit_ty (show kitB "tuple" "tuple" = some true by decide +kernel), _, rfl, iteF ?_⟩
      refine ⟨_, rfl, a, _, rfl, .inr (sqT ha), _, rfl, b, _, rfl, .inr (sqT hb), rfl, _, rfl, iteFb (by rw [decide_eq_true (congrArg (fun n : Nat => V.int n) el)]; rfl) ?_⟩
      refine ⟨_, rfl, b, _, rfl, .inr (sqT hb), (ys.length : Int), rfl, by omega, by omega, for_range (lo := 0) (n := ys.length) (fun i σ H' => ∃ x, σ = [some (.ref a), some (.ref b), x] ∧ H' = H) ⟨none, rfl, rfl⟩ ?_ ?_⟩
      · rintro i σ H' hi ⟨x, rfl, rfl⟩
        have hy : ys[i]? = some ys[i] := List.getElem?_eq_getElem hi
        obtain ⟨u, hx, r⟩ := paired_of hP hy
        rw [show ((0 : Int) + (i : Int)) = ((i : Nat) : Int) from Int.zero_add _]
        refine ⟨_, rfl, _, rfl, a, xs, (i : Int), u, rfl, rfl, sqT ha, atI_nat hx, _, rfl, _, rfl, b, ys, (i : Int), _, rfl, rfl, sqT hb, atI_nat hy, u, _, rfl, r, _, rfl, iteF ⟨_, rfl, rfl⟩⟩
      · rintro σ H' ⟨x, rfl, rfl⟩
        exact kk
/-- whole values, to the depth n -/
theorem ok_Sm {f : Addr} {fd : FuncData} (F : FnS K "_law_same" s_law_same f fd) (B : Blt3 mg) (g : mg "_law_same" = some (.ref f)) (hb : L2.Binds K fd ["found", "due"] []) : ∀ n, FnOk P w K mg base (L2.CX P w) (n + 1) f fd ["found", "due"] (spSm n)
  | 0 => by
    have e : FnOk P w K mg base (L2.CX P w) 0 f fd ["found", "due"] (spSmP fun _ _ _ => False) := ⟨fun vs H Q E ⟨_, _, _, z, _⟩ => z.elim, fun A outer s H args us vs Q E _ _ _ _ ⟨_, _, _, z, _⟩ => z.elim⟩
    exact (ok_Sm1 F B ⟨g, F.kp, hb, e⟩).imp fun vs H Q E ⟨u, v, e, h, q⟩ => ⟨u, v, e, .inl h, q⟩
  | n + 1 => ok_Sm1 F B ⟨g, F.kp, hb, ok_Sm F B g hb n⟩
end
end WU

set_option maxRecDepth 100000
set_option maxHeartbeats 8000000
namespace WU
open PySem PySem.Spec PyProof.Rows L2
section
variable {K : PySem.W.Frag} {H H' : Hp} {p n : Int}
/-! ### values that may be rows and matrices -/
def TyS (K : PySem.W.Frag) (H : Hp) (x : V) : Prop := ∀ H', Same H H' → Ty3 K H' x
def NTs (K : PySem.W.Frag) (H : Hp) (x : V) : Prop := ∀ H', Same H H' → ∃ t, TyX K H' x t ∧ PySem.W.kitOne K t (.type "tuple") = some false
def RowB (K : PySem.W.Frag) (p n : Int) (H : Hp) (x : V) (b : Bool) : Prop := (NTs K H x ∧ b = false) ∨ ∃ c xs, x = .ref c ∧ SqT K H c xs ∧ xs.length ≤ 200 ∧ (∀ y ∈ xs, TyS K H y) ∧ b = (decide ((xs.length : Int) = n) && xs.all (isBel p))
def MatB (K : PySem.W.Frag) (p n : Int) (H : Hp) (v : V) (b : Bool) : Prop := (NTs K H v ∧ b = false) ∨ ∃ c xs bs, v = .ref c ∧ SqT K H c xs ∧ xs.length ≤ 200 ∧ Paired (RowB K p n H) xs bs ∧ b = bs.all id
theorem TyS.same {x : V} (h : TyS K H x) (s : Same H H') : TyS K H' x := fun H2 s2 => h H2 (s.trans s2)
theorem NTs.same {x : V} (h : NTs K H x) (s : Same H H') : NTs K H' x := fun H2 s2 => h H2 (s.trans s2)
theorem RowB.same {x : V} {b : Bool} (h : RowB K p n H x b) (s : Same H H') : RowB K p n H' x b := by
  rcases h with ⟨h, e⟩ | ⟨c, xs, e, hs, hl, ht, eb⟩
  · exact .inl ⟨h.same s, e⟩
  · exact .inr ⟨c, xs, e, sqT_same hs s, hl, fun y hy => (ht y hy).same s, eb⟩
theorem MatB.same {x : V} {b : Bool} (h : MatB K p n H x b) (s : Same H H') : MatB K p n H' x b := by
  rcases h with ⟨h, e⟩ | ⟨c, xs, bs, e, hs, hl, ht, eb⟩
  · exact .inl ⟨h.same s, e⟩
  · exact .inr ⟨c, xs, bs, e, sqT_same hs s, hl, paired_mono (fun _ _ q => q.same s) ht, eb⟩
/-! ### data -/
theorem dp_ts {x : V} {d : PyData} (h : Dp K H x d) : TyS K H x := fun H' s => dp_ty3 (dp_same s h)
theorem dp_nt {x : V} {d : PyData} (h : Dp K H x d) (e : isTup d = false) : NTs K H x := fun H' s => ⟨_, dp_ty h |> fun _ => dp_ty (dp_same s h), by rw [kit_tup (dp_nodict h), e]⟩
theorem dps_ts : ∀ {xs : List V} {ds : List PyData}, DpAll K H xs ds → ∀ y ∈ xs, TyS K H y
  | _, _, .nil, _, hy => nomatch hy
  | _, _, .cons h t, y, hy => by
    rcases List.mem_cons.mp hy with rfl | hy
    · exact dp_ts h
    · exact dps_ts t y hy
theorem dps_bel : ∀ {xs : List V} {ds : List PyData}, DpAll K H xs ds → xs.all (isBel p) = ds.all (belD p)
  | _, _, .nil => rfl
  | _, _, .cons h t => by rw [List.all_cons, List.all_cons, dps_bel t, dp_bel h]
theorem dp_row {x : V} {d : PyData} (h : Dp K H x d) (hz : smallD d) : RowB K p n H x (rowD p n d) := by
  cases hi : isTup d with
  | false => exact .inl ⟨dp_nt h hi, by cases d <;> first | rfl | cases hi⟩
  | true =>
    cases h with
    | tup hs ha =>
      have el := dps_len ha
      exact .inr ⟨_, _, rfl, hs, by rw [el]; exact hz, dps_ts ha, by rw [el, dps_bel ha]; rfl⟩
    | _ => cases hi
theorem dps_row : ∀ {xs : List V} {ds : List PyData}, DpAll K H xs ds → (∀ d ∈ ds, smallD d) → Paired (RowB K p n H) xs (ds.map (rowD p n))
  | _, _, .nil, _ => .nil
  | _, _, .cons h t, hz => .cons (dp_row h (hz _ List.mem_cons_self)) (dps_row t fun d hd => hz d (List.mem_cons_of_mem _ hd))
theorem dp_mat {x : V} {d : PyData} (h : Dp K H x d) (hz : smallM d) : MatB K p n H x (matD p n d) := by
  cases hi : isTup d with
  | false => exact .inl ⟨dp_nt h hi, by cases d <;> first | rfl | cases hi⟩
  | true =>
    cases h with
    | tup hs ha =>
      have el := dps_len ha
      exact .inr ⟨_, _, _, rfl, hs, by rw [el]; exact hz.1, dps_row ha hz.2, by rw [List.all_map]; rfl⟩
    | _ => cases hi
end
section
variable {P : Program} {w : World} {K : PySem.W.Frag} {mg : Str → Option Value} {base : Heap} {S : Addr}
def spSeq2 (K : PySem.W.Frag) : Sp := fun vs H Q _ => ∃ c xs, vs = [.ref c] ∧ SqT K H c xs ∧ ∀ H', Same H H' → Q (.bl true) H'
theorem ok_seq2 {f : Addr} {fd : FuncData} (F : FnS K "is_sequence" sSeq f fd) (B : Blt3 mg) : FnOk P w K mg base (L2.CX P w) 1 f fd ["value"] (spSeq2 K) := by
  refine F.ok scSeq (fun vs H Q E h => ?_) (fun cdv A outer s H vs Q E hr h => ?_)
  · obtain ⟨c, xs, rfl, _⟩ := h
    rfl
  · obtain ⟨c, xs, rfl, hc, k⟩ := h
    refine ⟨_, (pss_one (ps_ret (pe_callB call_isiT (by rfl) B.isi (by decide +kernel) (pa_cons (pv 0) (pa_cons (pe_tup (pa_cons (pe_bltn (v := .ty "list") (by rfl) B.lst (by decide +kernel) rfl) (pa_cons (pe_bltn (v := .ty "tuple") (by rfl) B.tuple (by decide +kernel) rfl) pa_nil))) pa_nil))))), ?_⟩
    refine ⟨_, rfl, (by show 2 ≤ sizeLine; decide), fun t ht => ⟨.ref c, t, _, _, _, _, rfl, upd_same, .cons (.ty "list") (.cons (.ty "tuple") .nil), sqT_ty (sqT_same hc (same_new ht)), kit_seq (d := .tuple []) (fun _ h => nomatch h), k _ (same_new ht)⟩⟩
def spLets2 (K : PySem.W.Frag) : Sp := fun vs H Q _ => ∃ (p n : Int) (c : Addr) (xs : List V), vs = [.int p, .int n, .ref c] ∧ SqT K H c xs ∧ xs.length ≤ 200 ∧ (∀ y ∈ xs, TyS K H y) ∧ ∀ H', Same H H' → Q (.bl (decide ((xs.length : Int) = n) && xs.all (isBel p))) H'
theorem ok_lets2 {f f1 f2 : Addr} {fd fd1 fd2 : FuncData} (F : FnS K "are_letters" sLets f fd) (B : Blt3 mg) (CS : Cal P w K mg base 1 "is_sequence" f1 fd1 ["value"] (spSeq2 K)) (CB : Cal P w K mg base 3 "is_below" f2 fd2 ["value", "limit"] (spIsBel K)) :
    FnOk P w K mg base (L2.CX P w) 4 f fd ["p", "count", "value"] (spLets2 K) := by
  refine F.ok scLets (fun vs H Q E h => ?_) (fun cdv A outer s H vs Q E hr h => ?_)
  · obtain ⟨p, n, c, xs, rfl, _⟩ := h
    rfl
  · obtain ⟨p, n, c, xs, rfl, hs, hl, ht, k⟩ := h
    have nd := scLets.nd
    have hr1 := hr.mono (show 1 ≤ 3 by decide)
    refine ⟨_, (pss_one (ps_ret (pe_and (pe_cal CS hr1 (pa_cons (pv 2) pa_nil) passU) (pe_and (pe_cmpR op_eq (pe_callB call_len_seq (by rfl) B.len (by decide +kernel) (pa_cons (pv 2) pa_nil)) (pv 1) (nomark _)) (pe_one (pe_callB (cr_all rfl) (by rfl) B.all (by decide +kernel) (pa_cons (pe_lc (own := [("letter", 3)]) (g := gName 3) (by rfl) nd (pi_seq (pv 2)) (blkOk_by (own := [("letter", 3)]) (N := ["p", "count", "value", "letter"]) (sc := defScope sLets) (by decide +kernel)) (fun _ _ _ _ _ => pg_name (i := 3) nd rfl (Or.inl rfl)) (fun _ _ _ _ _ => pts_nil) (fun _ _ _ _ _ => (pe_cal CB hr (pa_cons (pv 3) (pa_cons (pv 0) pa_nil)) passU))) pa_nil))))))), ?_⟩
    refine ⟨_, rfl, c, xs, rfl, hs, fun H1 s1 => ⟨_, rfl, iteT ?_⟩⟩
    have hs1 := sqT_same hs s1
    refine ⟨_, rfl, c, xs, rfl, .inr hs1, _, rfl, rfl, _, rfl, iteD (fun hc => ?_) (fun hc => ?_)⟩
    · rw [decide_eq_true (V.int.inj hc), Bool.true_and] at k
      refine ⟨_, rfl, c, rfl, .inr ⟨⟨_, hs1⟩, fun D hD => lc_tup (K := K) (a := c) (xs := xs) (fun i H' => Bld FB H1 D ((xs.take i).map (isBel p)) H') (Bld.start hD) (fun i H' _ b => sqT_same hs1 b.same) ?_ ?_⟩⟩
      · intro i y H2 hy b
        refine ⟨rfl, _, rfl, _, rfl, y, p, rfl, ht y (List.mem_of_getElem? hy) H2 (s1.trans b.same), ?_⟩
        rw [map_take_succ hy]
        exact b.put (y := .bl (isBel p y)) (z := isBel p y) stab_FB hD (Same.refl _) rfl (by intro z; cases z) (by rw [List.length_map, List.length_take]; exact small1000 (by omega))
      · intro H2 b
        obtain ⟨s2, ys, eD, py⟩ := b.fin
        rw [List.take_length] at py
        rw [fb_map py] at eD
        refine ⟨D, _, rfl, SqL.of eD, ?_⟩
        have ea : (xs.map (isBel p)).all id = xs.all (isBel p) := by rw [List.all_map]; rfl
        rw [ea]
        exact k H2 (s1.trans s2)
    · rw [decide_eq_false (fun z => hc (congrArg V.int z)), Bool.false_and] at k
      exact k H1 s1
def spRow2 (K : PySem.W.Frag) : Sp := fun vs H Q _ => ∃ (p n : Int) (v : V) (b : Bool), vs = [v, .int p, .int n] ∧ RowB K p n H v b ∧ ∀ H', Same H H' → Q (.bl b) H'
theorem ok_row2 {f f1 : Addr} {fd fd1 : FuncData} (F : FnS K "_is_row" s_is_row f fd) (B : Blt4 mg) (CL : Cal P w K mg base 4 "are_letters" f1 fd1 ["p", "count", "value"] (spLets2 K)) : FnOk P w K mg base (L2.CX P w) 5 f fd ["value", "p", "columns"] (spRow2 K) := by
  refine F.ok scRow (fun vs H Q E h => ?_) (fun cdv A outer s H vs Q E hr h => ?_)
  · obtain ⟨p, n, v, b, rfl, _⟩ := h
    rfl
  · obtain ⟨p, n, v, b, rfl, hR, k⟩ := h
    refine ⟨_, (pss_one (ps_ret (pe_and (pe_callB call_isi (by rfl) B.isi (by decide +kernel) (pa_cons (pv 0) (pa_cons (pe_bltn (v := .ty "tuple") (by rfl) B.tuple (by decide +kernel) rfl) pa_nil))) (pe_one (pe_cal CL hr (pa_cons (pv 1) (pa_cons (pv 2) (pa_cons (pv 0) pa_nil))) passU))))), ?_⟩
    rcases hR with ⟨hn, rfl⟩ | ⟨c, xs, rfl, hs, hl, ht, rfl⟩
    · obtain ⟨t, h1, h2⟩ := hn H (Same.refl H)
      exact ⟨_, rfl, _, _, _, _, _, rfl, .ty "tuple", h1, h2, _, rfl, iteF (k H (Same.refl H))⟩
    · exact ⟨_, rfl, _, _, _, _, _, rfl, .ty "tuple", sqT_ty hs, kit_ty (show kitB "tuple" "tuple" = some true by decide +kernel), _, rfl, iteT ⟨_, rfl, _, rfl, _, rfl, p, n, c, xs, rfl, hs, hl, ht, k⟩⟩
def spMat2 (K : PySem.W.Frag) : Sp := fun vs H Q _ => ∃ (p n : Int) (v : V) (b : Bool), vs = [v, .int p, .int n] ∧ MatB K p n H v b ∧ ∀ H', Same H H' → Q (.bl b) H'
theorem ok_mat2 {f f1 : Addr} {fd fd1 : FuncData} (F : FnS K "is_matrix" s_is_matrix f fd) (B : Blt4 mg) (CR : Cal P w K mg base 5 "_is_row" f1 fd1 ["value", "p", "columns"] (spRow2 K)) : FnOk P w K mg base (L2.CX P w) 6 f fd ["value", "p", "columns"] (spMat2 K) := by
  refine F.ok scMat (fun vs H Q E h => ?_) (fun cdv A outer s H vs Q E hr h => ?_)
  · obtain ⟨p, n, v, b, rfl, _⟩ := h
    rfl
  · obtain ⟨p, n, v, b, rfl, hM, k⟩ := h
    have nd := scMat.nd
    refine ⟨_, (pss_one (ps_ret (pe_and (pe_callB call_isi (by rfl) B.isi (by decide +kernel) (pa_cons (pv 0) (pa_cons (pe_bltn (v := .ty "tuple") (by rfl) B.tuple (by decide +kernel) rfl) pa_nil))) (pe_one (pe_callB (cr_all rfl) (by rfl) B.all (by decide +kernel) (pa_cons (pe_lc (own := [("row", 3)]) (g := gName 3) (by rfl) nd (pi_tup (pv 0)) (blkOk_by (own := [("row", 3)]) (N := ["value", "p", "columns", "row"]) (sc := defScope s_is_matrix) (by decide +kernel)) (fun _ _ _ _ _ => (pg_name (i := 3) nd rfl (Or.inl rfl))) (fun _ _ _ _ _ => pts_nil) (fun _ _ _ _ _ => (pe_cal CR hr (pa_cons (pv 3) (pa_cons (pv 1) (pa_cons (pv 2) pa_nil))) passU))) pa_nil)))))), ?_⟩
    rcases hM with ⟨hn, rfl⟩ | ⟨c, xs, bs, rfl, hs, hl, ht, rfl⟩
    · obtain ⟨t, h1, h2⟩ := hn H (Same.refl H)
      exact ⟨_, rfl, _, _, _, _, _, rfl, .ty "tuple", h1, h2, _, rfl, iteF (k H (Same.refl H))⟩
    · refine ⟨_, rfl, _, _, _, _, _, rfl, .ty "tuple", sqT_ty hs, kit_ty (show kitB "tuple" "tuple" = some true by decide +kernel), _, rfl, iteT ?_⟩
      refine ⟨_, rfl, c, rfl, ⟨_, hs⟩, fun D hD => lc_tup (K := K) (a := c) (xs := xs) (fun i H' => Bld FB H D (bs.take i) H') (Bld.start hD) (fun i H' _ b => sqT_same hs b.same) ?_ ?_⟩
      · intro i x H' hx b
        obtain ⟨e, he, hR⟩ := paired_at ht hx
        have hlb := paired_len ht
        refine ⟨rfl, _, rfl, _, rfl, _, rfl, p, n, x, e, rfl, hR.same b.same, fun H2 s2 => ?_⟩
        have r := b.put (y := .bl e) (z := e) stab_FB hD s2 rfl (by intro z; cases z) (by rw [List.length_take]; exact small1000 (by omega))
        rw [List.take_succ, he]
        exact r
      · intro H' b
        obtain ⟨s1, ys, eD, py⟩ := b.fin
        rw [paired_len ht, List.take_length] at py
        rw [fb_map py] at eD
        exact ⟨D, bs, rfl, SqL.of eD, k H' s1⟩
/-- the same, of data -/
theorem mat_of {k : Nat} {f : Addr} {fd : FuncData} (h : FnOk P w K mg base (L2.CX P w) k f fd ["value", "p", "columns"] (spMat2 K)) : FnOk P w K mg base (L2.CX P w) k f fd ["value", "p", "columns"] (spMat K) :=
  h.imp fun vs H Q E ⟨p, n, v, d, e, hd, hz, k⟩ => ⟨p, n, v, _, e, dp_mat hd hz, k⟩
/-- _law_is_matrix(value, p, columns) -/
theorem scLIM : FnScope ["value", "p", "columns", "row", "part"] ["value", "p", "columns"] (defScope s_law_is_matrix) := ⟨rfl, rfl, rfl, by decide +kernel, rfl, by decide +kernel, by decide +kernel⟩
theorem all_false {bs : List Bool} {i : Nat} (h : bs[i]? = some false) : bs.all id = false := by
  rw [Bool.eq_false_iff]
  intro z
  have := List.all_eq_true.mp z false (List.mem_of_getElem? h)
  cases this
theorem allP_false {α : Type} {q : α → Bool} {l : List α} {i : Nat} {x : α} (h : l[i]? = some x) (e : q x = false) : l.all q = false := by
  rw [Bool.eq_false_iff]
  intro z
  have := List.all_eq_true.mp z x (List.mem_of_getElem? h)
  rw [e] at this
  cases this
theorem all_to {α : Type} {q : α → Bool} {l : List α} (h : ∀ (i : Nat) x, l[i]? = some x → q x = true) : l.all q = true :=
  List.all_eq_true.mpr fun x hx => by
    obtain ⟨i, hi⟩ := List.getElem?_of_mem hx
    exact h i x hi
theorem ok_LIM {f : Addr} {fd : FuncData} (F : FnS K "_law_is_matrix" s_law_is_matrix f fd) (B : Blt4 mg) : FnOk P w K mg base (L2.CX P w) 1 f fd ["value", "p", "columns"] (spMat2 K) := by
  refine F.ok scLIM (fun vs H Q E h => ?_) (fun cdv A outer s H vs Q E hr h => ?_)
  · obtain ⟨p, n, v, b, rfl, _⟩ := h
    rfl
  · obtain ⟨p, n, v, b, rfl, hM, k⟩ := h
    have nd := scLIM.nd
    refine ⟨_, (pss_cons (ps_if (pt_not (pt_val (pe_callB (isiK (K := K)) (by rfl) B.isi (by decide +kernel) (pa_cons (pv 0) (pa_cons (pe_bltn (v := .ty "tuple") (by rfl) B.tuple (by decide +kernel) rfl) pa_nil))))) (pss_one (ps_ret pe_bl)) pss_nil)
      (pss_cons (ps_for (passes_of rfl) rfl (pi_tupK (K := K) (pv 0)) (pg_name (i := 3) nd rfl (Or.inl rfl)) (pss_cons (ps_if (PW.pt (pw_or (pt_not (pt_val (pe_callB (isiK (K := K)) (by rfl) B.isi (by decide +kernel) (pa_cons (pv 3) (pa_cons (pe_bltn (v := .ty "tuple") (by rfl) B.tuple (by decide +kernel) rfl) pa_nil))))) (pw_or1 (PW.pt (pw_and (pt_cmpR op_notN (pv 2) pe_non (nomark _)) (pw_and1 (pt_cmpR op_ne (pe_callB (len_seqK (K := K)) (by rfl) B.len (by decide +kernel) (pa_cons (pv 3) pa_nil)) (pv 2) (nomark _)))))))) (pss_one (ps_ret pe_bl)) pss_nil)
      (pss_cons (ps_set (i := 2) nd rfl (Or.inl rfl) (pe_callB (len_seqK (K := K)) (by rfl) B.len (by decide +kernel) (pa_cons (pv 3) pa_nil)))
      (pss_one (ps_for (passes_of rfl) rfl (pi_tupK (K := K) (pv 3)) (pg_name (i := 4) nd rfl (Or.inl rfl)) (pss_one (ps_if (PW.pt (pw_or (pt_not (pt_val (pe_callB (isiK (K := K)) (by rfl) B.isi (by decide +kernel) (pa_cons (pv 4) (pa_cons (pe_bltn (v := .ty "int") (by rfl) B.int (by decide +kernel) rfl) pa_nil))))) (pw_or (pt_val (pe_callB (isiK (K := K)) (by rfl) B.isi (by decide +kernel) (pa_cons (pv 4) (pa_cons (pe_bltn (v := .ty "bool") (by rfl) B.bool (by decide +kernel) rfl) pa_nil)))) (pw_or (pt_cmpR op_lt (pv 4) pe_int (nomark _)) (pw_or1 (pt_cmpR op_ge (pv 4) (pv 1) (nomark _))))))) (pss_one (ps_ret pe_bl)) pss_nil)))))))
      (pss_one (ps_ret pe_bl)))), ?_⟩
    rcases hM with ⟨hn, rfl⟩ | ⟨c, xs, bs, rfl, hs, hl, ht, rfl⟩
    · obtain ⟨t, h1, h2⟩ := hn H (Same.refl H)
      exact ⟨_, rfl, _, _, _, _, _, rfl, .ty "tuple", h1, h2, _, rfl, iteT (k H (Same.refl H))⟩
    · refine ⟨_, rfl, _, _, _, _, _, rfl, .ty "tuple", sqT_ty hs, kit_ty (show kitB "tuple" "tuple" = some true by decide +kernel), _, rfl, iteF ?_⟩
      have hlb := paired_len ht
      refine ⟨_, rfl, c, rfl, ⟨_, hs⟩, for_it (walk_tup (xs := xs)) (fun i σ H' => ∃ rv pt, σ = [some (.ref c), some (.int p), some (.int n), rv, pt] ∧ H' = H ∧ ∀ j e, j < i → bs[j]? = some e → e = true) ⟨none, none, rfl, rfl, fun j e h => absurd h (by omega)⟩ (fun i σ H' _ ⟨rv, pt, _, e, _⟩ => e ▸ hs) ?_ ?_⟩
      · rintro i x σ H1 H2 hi ⟨rv, pt, rfl, rfl, hb⟩ ⟨rfl, hx⟩
        obtain ⟨e, he, hR⟩ := paired_at ht hx
        rcases hR with ⟨hn, rfl⟩ | ⟨d, ys, rfl, hd, hl2, hty, rfl⟩
        · obtain ⟨t, h1, h2⟩ := hn _ (Same.refl _)
          refine ⟨_, rfl, _, _, _, _, _, rfl, .ty "tuple", h1, h2, _, rfl, iteT ?_⟩
          have := k _ (Same.refl _)
          rw [all_false he] at this
          exact this
        · refine ⟨_, rfl, _, _, _, _, _, rfl, .ty "tuple", sqT_ty hd, kit_ty (show kitB "tuple" "tuple" = some true by decide +kernel), _, rfl, iteF ?_⟩
          refine ⟨_, rfl, rfl, _, rfl, iteT ⟨_, rfl, d, ys, rfl, .inr hd, _, rfl, rfl, _, rfl, iteND (fun hc => ?_) (fun hc => ?_)⟩⟩
          · have hne : ¬ (ys.length : Int) = n := fun z => hc (congrArg V.int z)
            rw [decide_eq_false hne, Bool.false_and] at he
            have := k _ (Same.refl _)
            rw [all_false he] at this
            exact this
          · have hne : (ys.length : Int) = n := V.int.inj hc
            rw [decide_eq_true hne, Bool.true_and] at he
            refine ⟨_, rfl, d, ys, rfl, .inr hd, ?_⟩
            rw [hne]
            refine ⟨_, rfl, d, rfl, ⟨_, hd⟩, for_it (walk_tup (xs := ys)) (fun i' σ H' => ∃ pt, σ = [some (.ref c), some (.int p), some (.int n), some (.ref d), pt] ∧ H' = H2 ∧ ∀ j y, j < i' → ys[j]? = some y → isBel p y = true) ⟨pt, rfl, rfl, fun j e h => absurd h (by omega)⟩ (fun i σ H' _ ⟨pt, _, e, _⟩ => e ▸ hd) ?_ ?_⟩
            · rintro l y σ H3 H4 hl3 ⟨pt, rfl, rfl, hbl⟩ ⟨rfl, hy⟩
              have bad : isBel p y = false → Q (.bl false) H4 := fun z => by
                rw [allP_false hy z] at he
                have := k _ (Same.refl _)
                rw [all_false he] at this
                exact this
              have good : isBel p y = true → ∃ pt', [some (V.ref c), some (.int p), some (.int n), some (.ref d), some y] = [some (V.ref c), some (.int p), some (.int n), some (.ref d), pt'] ∧ H4 = H4 ∧ ∀ j y', j < l + 1 → ys[j]? = some y' → isBel p y' = true := fun z => ⟨_, rfl, rfl, fun j y' hj hy' => by
                by_cases hjl : j < l
                · exact hbl j y' hjl hy'
                · have : j = l := by omega
                  subst this
                  rw [hy] at hy'
                  cases hy'
                  exact z⟩
              obtain ⟨t, h1, h2, h3⟩ := hty y (List.mem_of_getElem? hy) _ (Same.refl _)
              refine ⟨_, rfl, _, _, _, _, _, rfl, .ty "int", h1, h2, _, rfl, ?_⟩
              cases y with
              | int z =>
                refine iteF ⟨_, rfl, _, _, _, _, _, rfl, .ty "bool", h1, h3, _, rfl, iteF ?_⟩
                refine ⟨_, rfl, _, _, rfl, rfl, _, rfl, iteD (fun h0 => ?_) (fun h0 => ?_)⟩
                · refine bad ?_
                  show (decide (0 ≤ z) && decide (z < p)) = false
                  rw [decide_eq_false (by omega), Bool.false_and]
                · refine ⟨_, rfl, _, rfl, _, _, rfl, rfl, _, rfl, iteD (fun h5 => ?_) (fun h5 => ?_)⟩
                  · refine bad ?_
                    show (decide (0 ≤ z) && decide (z < p)) = false
                    rw [decide_eq_false (show ¬ z < p by omega), Bool.and_false]
                  · refine good ?_
                    show (decide (0 ≤ z) && decide (z < p)) = true
                    rw [decide_eq_true (by omega), decide_eq_true (by omega)]
                    rfl
              | bl z =>
                refine iteF ⟨_, rfl, _, _, _, _, _, rfl, .ty "bool", h1, h3, _, rfl, iteT (bad rfl)⟩
              | _ => exact iteT (bad rfl)
            · rintro σ H3 ⟨pt, rfl, rfl, hbl⟩
              refine ⟨_, _, rfl, rfl, fun j e hj hje => ?_⟩
              by_cases hji : j < i
              · exact hb j e hji hje
              · have : j = i := by omega
                subst this
                rw [he] at hje
                cases hje
                exact all_to fun l y hy => hbl l y (List.getElem?_eq_some_iff.mp hy).1 hy
      · rintro σ H1 ⟨rv, pt, rfl, rfl, hb⟩
        have := k _ (Same.refl _)
        rw [show bs.all id = true from all_to fun i e he => hb i e (by rw [hlb]; exact (List.getElem?_eq_some_iff.mp he).1) he] at this
        exact this
end
end WU

set_option maxRecDepth 100000
set_option maxHeartbeats 8000000
namespace WU
open PySem PySem.Spec PyProof.Rows L2
theorem ix_seqK {X : Cx} {K : PySem.W.Frag} (hK : X.K = K := by rfl) : IxR X (rIx K) := hK ▸ ix_seq
theorem ix_sqo {K : PySem.W.Frag} {H : Hp} {c : Addr} {xs : List V} {i : Int} {v : V} {Q : VK} (h : SqO H c xs) (e : atI xs i = some v) (q : Q v H) : rIx K (.ref c) (.int i) H Q := by
  rcases h with h | h
  · exact .inl ⟨c, xs, i, v, rfl, rfl, SqL.of h, e, q⟩
  · exact .inr (.inl ⟨c, xs, i, v, rfl, rfl, sqT h, e, q⟩)
section
variable {P : Program} {w : World} {K : PySem.W.Frag} {mg : Str → Option Value} {base : Heap} {S : Addr}
/-- _law_product(first, second, p) -/
def spLP : Sp := fun vs H Q _ => ∃ (p : Int) (n : Nat) (u v : V) (r l : List Int), vs = [u, v, .int p] ∧ FT H u r ∧ FT H v l ∧ p ∈ primes ∧ Ltr p n r ∧ l.length = n ∧ n ≤ 200 ∧ ∀ H', Same H H' → Q (.int ((dotn n r l).fmod p)) H'
theorem scLP : FnScope ["first", "second", "p", "k"] ["first", "second", "p"] (defScope s_law_product) := ⟨rfl, rfl, rfl, by decide +kernel, rfl, by decide +kernel, by decide +kernel⟩
theorem ok_LP {f : Addr} {fd : FuncData} (F : FnS K "_law_product" s_law_product f fd) (B : Blt5 mg) : FnOk P w K mg base (L2.CX P w) 1 f fd ["first", "second", "p"] spLP := by
  refine F.ok scLP (fun vs H Q E h => ?_) (fun cdv A outer s H vs Q E hr h => ?_)
  · obtain ⟨p, n, u, v, r, l, rfl, _⟩ := h
    rfl
  · obtain ⟨p, n, u, v, r, l, rfl, ⟨c, rfl, hc⟩, ⟨d, rfl, hd⟩, hp, hr1, hl, hn, k⟩ := h
    have nd := scLP.nd
    have hb := fld_le hp
    refine ⟨_, (pss_one (ps_ret (pe_op op_modN (pe_callTy call_int1 (by rfl) B.int (by decide +kernel) (pa_cons (pe_callB (cr_sumK (K := K) rfl) (by rfl) B.sum (by decide +kernel) (pa_cons (pe_lc (own := [("k", 3)]) (g := gName 3) (by rfl) nd (pi_range1 rfl B.range (pa_cons (pe_callB (len_seqK (K := K)) (by rfl) B.len (by decide +kernel) (pa_cons (pv 0) pa_nil)) pa_nil)) (blkOk_by (own := [("k", 3)]) (N := ["first", "second", "p", "k"]) (sc := defScope s_law_product) (by decide +kernel)) (fun _ _ _ _ _ => (pg_name (i := 3) nd rfl (Or.inl rfl))) (fun _ _ _ _ _ => pts_nil) (fun _ _ _ _ _ => (pe_callTy call_int1 (by rfl) B.int (by decide +kernel) (pa_cons (pe_op op_mul (pe_ix (ix_tupK (K := K)) (pv 0) (pv 3) (fun _ _ => rfl)) (pe_ix (ix_tupK (K := K)) (pv 1) (pv 3) (fun _ _ => rfl))) pa_nil)))) pa_nil)) pa_nil)) (pv 2)))), ?_⟩
    refine ⟨_, rfl, c, _, rfl, .inr (sqT hc), ?_⟩
    rw [List.length_map, hr1.1]
    refine ⟨(n : Int), rfl, by omega, by omega, fun D hD => lc_range (lo := 0) (n := n) (fun i H' => Bld FI H D ((List.range i).map fun k => at0 r k * at0 l k) H') (Bld.start hD) ?_ ?_⟩
    · intro i H1 hi b
      rw [Int.zero_add]
      have bi := hr1.bd hi
      refine ⟨rfl, _, rfl, _, rfl, c, _, _, _, rfl, rfl, sqT (rd_same b.same hc), atI_nat (take_map_at n (r := r) (i := i) (by rw [hr1.1]; exact hi)), ?_⟩
      refine ⟨_, rfl, _, rfl, d, _, _, _, rfl, rfl, sqT (rd_same b.same hd), atI_nat (take_map_at n (r := l) (i := i) (by rw [hl]; exact hi)), _, _, rfl, rfl, .inl ⟨by omega, by omega⟩, .inl ⟨_, rfl, ?_⟩⟩
      rw [map_range_succ]
      exact b.put (y := .int (at0 r i * at0 l i)) (z := at0 r i * at0 l i) stab_FI hD (Same.refl _) rfl (by intro z; cases z) (by rw [List.length_map, List.length_range]; exact small1000 (by omega))
    · intro H1 b
      obtain ⟨s1, ys, eD, py⟩ := b.fin
      rw [fi_map py] at eD
      refine ⟨D, _, rfl, SqL.of eD, .inl ⟨_, rfl, _, rfl, _, p, rfl, rfl, by omega, ?_⟩⟩
      rw [sum_dotn]
      exact k H1 s1
/-- _law_sum_of(rows, letters, p, columns) -/
def spLS : Sp := fun vs H Q _ => ∃ (p : Int) (n : Nat) (v : V) (u : Addr) (rows : List (List Int)) (ls : List Int), vs = [v, .ref u, .int p, .int n] ∧ MT H v rows ∧ SqO H u (ls.map V.int) ∧ p ∈ primes ∧ (∀ r ∈ rows, Ltr p n r) ∧ Lets p ls ∧ ls.length = rows.length ∧ n ≤ 200 ∧ rows.length ≤ 200 ∧
  ∀ y H', Same H H' → FQ H' y (lsum p n rows ls rows.length) → Q y H'
theorem scLS : FnScope ["rows", "letters", "p", "columns", "total", "k", "j"] ["rows", "letters", "p", "columns"] (defScope s_law_sum_of) := ⟨rfl, rfl, rfl, by decide +kernel, rfl, by decide +kernel, by decide +kernel⟩
theorem ok_LS {f : Addr} {fd : FuncData} (F : FnS K "_law_sum_of" s_law_sum_of f fd) (B : Blt5 mg) : FnOk P w K mg base (L2.CX P w) 1 f fd ["rows", "letters", "p", "columns"] spLS := by
  refine F.ok scLS (fun vs H Q E h => ?_) (fun cdv A outer s H vs Q E hr h => ?_)
  · obtain ⟨p, n, v, u, rows, ls, rfl, _⟩ := h
    rfl
  · obtain ⟨p, n, v, u, rows, ls, rfl, ⟨a, ts, rfl, ha, hts⟩, hu, hp, hR, hL, hl, hn, hm, k⟩ := h
    have nd := scLS.nd
    have hb := fld_le hp
    have p0 := prime_pos hp
    have lt := paired_len hts
    refine ⟨_, (pss_cons (ps_set (i := 4) nd rfl (Or.inr rfl) (pe_op op_rep (pe_lst (pa_cons pe_int pa_nil)) (pv 3)))
      (pss_cons (ps_for (passes_of rfl) rfl (pi_range1 rfl B.range (pa_cons (pe_callB (len_seqK (K := K)) (by rfl) B.len (by decide +kernel) (pa_cons (pv 0) pa_nil)) pa_nil)) (pg_name (i := 5) nd rfl (Or.inr rfl)) (pss_one (ps_set (i := 4) nd rfl (Or.inr rfl) (pe_lc (own := [("j", 6)]) (g := gName 6) (by rfl) nd (pi_range1 rfl B.range (pa_cons (pv 3) pa_nil)) (blkOk_by (own := [("j", 6)]) (N := ["rows", "letters", "p", "columns", "total", "k", "j"]) (sc := defScope s_law_sum_of) (by decide +kernel)) (fun _ _ _ _ _ => (pg_name (i := 6) nd rfl (Or.inl rfl))) (fun _ _ _ _ _ => pts_nil) (fun _ _ _ _ _ => (pe_op op_modN (pe_callTy call_int1 (by rfl) B.int (by decide +kernel) (pa_cons (pe_op op_add (pe_ix (ix_listK (K := K)) (pv 4) (pv 6) (fun _ _ => rfl)) (pe_op op_mul (pe_ix (ix_seqK (K := K)) (pv 1) (pv 5) (fun _ _ => rfl)) (pe_ix (ix_tupK (K := K)) (pe_ix (ix_tupK (K := K)) (pv 0) (pv 5) (fun _ _ => rfl)) (pv 6) (fun _ _ => rfl)))) pa_nil)) (pv 2)))))))
      (pss_one (ps_ret (pe_callTy (tup_ofK (K := K)) (by rfl) B.tuple (by decide +kernel) (pa_cons (pv 4) pa_nil)))))), ?_⟩
    refine ⟨(by show 1 ≤ sizeLine; decide), fun Z hZ => ⟨_, rfl, Z, (n : Int), _, rfl, rfl, upd_same, by omega, by omega, ?_, fun q hq => ?_⟩⟩
    · show 1 * (n : Int).toNat ≤ sizeLine
      exact Nat.le_of_lt (small1000 (by omega))
    · rw [Int.toNat_natCast, rep_int]
      have s1 : Same H (upd H Z (.lst [.int 0])) := same_new hZ
      generalize upd H Z (.lst [.int 0]) = H1 at s1 hq ⊢
      have s2 := s1.trans (same_new (o := .lst ((List.replicate n (0 : Int)).map V.int)) hq)
      have eq : upd H1 q (.lst ((List.replicate n (0 : Int)).map V.int)) q = some (.lst ((zer n).map V.int)) := upd_same
      generalize upd H1 q (.lst ((List.replicate n (0 : Int)).map V.int)) = H2 at s2 eq ⊢
      refine ⟨_, rfl, a, ts, rfl, .inr (SqT.of (s2 _ _ ha)), ?_⟩
      rw [lt]
      refine ⟨(rows.length : Int), rfl, by omega, by omega, for_range (lo := 0) (n := rows.length) (fun t σ H' => ∃ (T : Addr) (kv : Option V), σ = [some (.ref a), some (.ref u), some (.int p), some (.int n), some (.ref T), kv, none] ∧ Same H H' ∧ H' T = some (.lst ((lsum p n rows ls t).map V.int)))
        ⟨q, none, rfl, s2, eq⟩ ?_ ?_⟩
      · rintro t σ H3 ht ⟨T, kv, rfl, s3, eT⟩
        rw [Int.zero_add]
        have hr0 : rows[t]? = some (rows[t]'ht) := List.getElem?_eq_getElem ht
        have hrL := hR _ (List.getElem_mem ht)
        have gd : rows.getD t [] = rows[t]'ht := by rw [List.getD_eq_getElem?_getD, hr0]; rfl
        have hlt := lsum_ltr (x := ls) p0 hR t (by omega)
        have bl := hL (at0 ls t) (by rw [at0_lt (by omega)]; exact List.getElem_mem _)
        have el : lsum p n rows ls (t + 1) = addv p (lsum p n rows ls t) (at0 ls t) (rows[t]'ht) := by
          show addv p (lsum p n rows ls t) (at0 ls t) (rows.getD t []) = _
          rw [gd]
        have hal : (lsum p n rows ls (t + 1)).length = n := (lsum_ltr (x := ls) p0 hR (t + 1) (by omega)).1
        refine ⟨_, rfl, (n : Int), rfl, by omega, by omega, fun D hD => lc_range (lo := 0) (n := n) (fun j H' => Bld FI H3 D ((lsum p n rows ls (t + 1)).take j) H') (Bld.start hD) ?_ ?_⟩
        · intro j H4 hj b
          rw [Int.zero_add]
          have s4 := s3.trans b.same
          obtain ⟨x, hx, g, rfl, hg⟩ := paired_of hts hr0
          refine ⟨rfl, _, rfl, _, rfl, T, _, _, _, rfl, rfl, SqL.of (b.same _ _ eT), atI_nat (take_map_at n (r := lsum p n rows ls t) (i := j) (by rw [hlt.1]; exact hj)), ?_⟩
          refine ⟨_, rfl, _, rfl, ix_sqo (hu.same s4) (atI_nat (take_map_at n (r := ls) (i := t) (by omega))) ?_⟩
          refine ⟨_, rfl, _, rfl, a, ts, _, _, rfl, rfl, SqT.of (s4 _ _ ha), atI_nat hx, _, rfl, g, _, _, _, rfl, rfl, sqT (rd_same s4 hg), atI_nat (take_map_at n (r := rows[t]'ht) (i := j) (by rw [hrL.1]; exact hj)), ?_⟩
          refine ⟨_, _, rfl, rfl, .inl ⟨by omega, by omega⟩, _, _, rfl, rfl, .inl ⟨_, rfl, _, rfl, _, p, rfl, rfl, by omega, ?_⟩⟩
          rw [take_at0 (by rw [hal]; exact hj)]
          refine b.put (y := .int _) (z := at0 (lsum p n rows ls (t + 1)) j) stab_FI hD (Same.refl _) ?_ (by intro z; cases z) (by rw [List.length_take]; exact small1000 (by omega))
          show V.int _ = V.int _
          rw [el, addv_at hlt.1 hrL.1 hj]
        · intro H4 b
          obtain ⟨s4, ys, eD, py⟩ := b.fin
          rw [List.take_of_length_le (by rw [hal]; exact Nat.le_refl _)] at py
          rw [fi_map py] at eD
          exact ⟨D, _, rfl, s3.trans s4, eD⟩
      · rintro σ H3 ⟨T, kv, rfl, s3, eT⟩
        exact ⟨_, rfl, T, _, rfl, .inl ⟨SqL.of eT, fun z hz => k _ _ (s3.trans (same_new hz)) FQ.new⟩⟩
end
end WU

set_option maxRecDepth 100000
set_option maxHeartbeats 8000000
namespace WU
open PySem PySem.Spec PyProof.Rows L2
/-! ### a value is equal to itself -/
def DFR : Eqv := fun x y _ => x = y ∧ FR x
theorem mon_DFR : Mon DFR := fun _ _ _ _ _ h => h
theorem eqV_self {x : V} (h : flatV x = true) : eqV x x = true := by
  cases x with
  | non => rfl
  | bl b => show (b == b) = true; simp
  | int i => show (i == i) = true; simp
  | str z => show decide (z = z) = true; simp
  | _ => cases h
section
variable {X : Cx} {S : Addr}
theorem eqG_DFR : EqG X 0 DFR := by
  intro A pins s σ H x y u v sb I rx ry d
  obtain ⟨rfl, h | ⟨p, rfl⟩⟩ := d
  · exact eqG_flat A pins s σ H x x u v sb I rx ry ⟨h, h, eqV_self h⟩
  · cases rx
    cases ry
    exact SeqAt.EqAt.same (A := A) (s := s) (.ref p) X.prog X.w X.xe _ ⟨rfl, H, I, Ext.rfl'⟩
/-- one of the odd values -/
def Slf (S : Addr) (H : Hp) (x : V) : Prop := flatV x = true ∨ ∃ p, x = .ref p ∧ ((∃ t b, ShAt S H p t b) ∨ ∃ xs, (H p = some (.lst xs) ∨ H p = some (.tup xs)) ∧ ∀ z ∈ xs, FR z)
theorem OddV.slf {a : Addr} {H : Hp} {v : V} (h : OddV S a H v) : Slf S H v := by
  rcases h with h | ⟨p, rfl, _, h⟩
  · exact .inl h
  · exact .inr ⟨p, rfl, h⟩
theorem Slf.same {H H' : Hp} {v : V} (h : Slf S H v) (s : Same H H') : Slf S H' v := by
  rcases h with h | ⟨p, rfl, h⟩
  · exact .inl h
  · refine .inr ⟨p, rfl, ?_⟩
    rcases h with ⟨t, b, h⟩ | ⟨xs, h, hx⟩
    · exact .inl ⟨t, b, h.same s⟩
    · exact .inr ⟨xs, h.elim (fun h => .inl (s _ _ h)) fun h => .inr (s _ _ h), hx⟩
theorem fr_prs {xs : List V} {H : Hp} (h : ∀ z ∈ xs, FR z) : Prs DFR xs xs H := ⟨rfl, fun i x y h1 h2 => by
  rw [h1] at h2
  cases h2
  exact ⟨rfl, h x (List.mem_of_getElem? h1)⟩⟩
def rSelf (S : Addr) : R2 := fun x y H Q => x = y ∧ Slf S H x ∧ ∀ H', Ext H H' → Q (.bl true) H'
theorem op_self {f : Addr} {fd : FuncData} {ps : List Str} (F : FnOk X.prog X.w X.K X.mg X.base (L2.CX X.prog X.w) 1 f fd ps (spEq (ShR S)))
    (hs : PySem.W.findIn X.K (.ref S) "__eq__" = some (some (.ref f))) (hf : PySem.W.isFn X.K (.ref f) = true) (hb : Binds X.K fd ps []) (hr : Room 1 X.A) : OpR X (compareOp .Eq) (rSelf S) := by
  intro pins s σ H x y v u Q I rx ry hq
  obtain ⟨rfl, h, q⟩ := hq
  rcases h with h | ⟨p, rfl, h⟩
  · have sc : scal x x = true := by
      cases x <;> first | rfl | (cases h)
    refine op_eq pins s σ H x x v u Q I rx ry ⟨sc, ?_⟩
    rw [decide_eq_true rfl]
    exact q H Ext.rfl'
  · rcases h with ⟨t, b, h⟩ | ⟨xs, h | h, hx⟩
    · refine op_eqG (rcG_ins (C := S) (R := ShR S) (E := E0) F hs hf hb passU) hr pins s σ H _ _ v u Q I rx ry ⟨?_, q⟩
      obtain ⟨dx, e⟩ := h
      exact ⟨p, p, dx, dx, _, _, rfl, rfl, e, e, t, b, ⟨dx, e⟩, ⟨dx, e⟩⟩
    · exact op_eqG (rcG_list mon_DFR eqG_DFR) hr pins s σ H _ _ v u Q I rx ry ⟨⟨p, p, xs, xs, rfl, rfl, h, h, fr_prs hx⟩, q⟩
    · exact op_eqG (rcG_tup mon_DFR eqG_DFR) hr pins s σ H _ _ v u Q I rx ry ⟨⟨p, p, xs, xs, rfl, rfl, SqT.of h, SqT.of h, fr_prs hx⟩, q⟩
end

section
variable {X : Cx} {K : PySem.W.Frag}
/-- != of two lists of the same things -/
def rNeS (K : PySem.W.Frag) : R2 := fun x y H Q => ∃ a b xs, x = .ref a ∧ y = .ref b ∧ SqL K H a xs ∧ SqL K H b xs ∧ (∀ z ∈ xs, FR z) ∧ Q (.bl false) H
theorem op_neS (hu : X.A.units + 64 < cLine) (hK : X.K = K := by rfl) : OpR X (compareOp .NotEq) (rNeS K) := by
  subst hK
  intro pins s σ H x y v u Q I rx ry h
  obtain ⟨a, b, xs, rfl, rfl, ha, hb, hf, q⟩ := h
  cases rx
  cases ry
  obtain ⟨its, r1, p1, _⟩ := I.list ha
  obtain ⟨its2, r2, p2, _⟩ := I.list hb
  have e1 := r1.length
  have e2 := r2.length
  have hsz : its.toArray.size = its2.toArray.size := by rw [List.size_toArray, List.size_toArray, ← e1, ← e2]
  show wpAny (model X.prog X.w) X.A (richCompare .NotEq (.ref a) (.ref b)) (EP X pins σ Q) X.xe s
  refine SeqAt.RcNeAt.lists (e := fun _ => true) p1.isList p2.isList hsz (by omega) (fun j h1 h2 => ?_) X.prog X.w X.xe _ ⟨.bl _, H, I, ?_, q⟩
  · rw [List.size_toArray] at h1 h2
    have hx : xs[j]? = some (xs[j]'(by omega)) := List.getElem?_eq_getElem (by omega)
    have hfz := hf _ (List.getElem_mem (show j < xs.length by omega))
    obtain ⟨v1, hv1, rv1⟩ := paired_at r1 hx
    obtain ⟨v2, hv2, rv2⟩ := paired_at r2 hx
    have g1 : its.toArray[j] = v1 := by
      have : its[j]? = some v1 := hv1
      rw [List.getElem?_eq_getElem h1] at this
      simpa using this
    have g2 : its2.toArray[j] = v2 := by
      have : its2[j]? = some v2 := hv2
      rw [List.getElem?_eq_getElem h2] at this
      simpa using this
    rw [g1, g2]
    rcases hfz with hz | ⟨p, hz⟩
    · have := eqAt_V (A := X.A.in1) (s := s) rv1 rv2 hz hz
      rw [eqV_self hz] at this
      exact this
    · rw [hz] at rv1 rv2
      cases rv1
      cases rv2
      exact SeqAt.EqAt.same _
  · have : ((List.range its.toArray.size).all fun _ => true) = true := List.all_eq_true.mpr fun _ _ => rfl
    rw [this]
    rfl
end

section
variable {P : Program} {w : World} {K : PySem.W.Frag} {mg : Str → Option Value} {base : Heap} {S : Addr}
theorem Ty3.same {H H' : Hp} {v : V} (h : Ty3 K H v) (s : Same H H') : Ty3 K H' v := by
  obtain ⟨t, ht, h1, h2⟩ := h
  refine ⟨t, ?_, h1, h2⟩
  cases ht with
  | base b =>
    refine .base ?_
    cases b with
    | non => exact .non
    | bl x => exact .bl x
    | int i => exact .int i
    | str x => exact .str x
    | flt x => exact .flt x
    | lst e => exact .lst (s _ _ e)
    | frz e => exact .frz (s _ _ e)
    | tup e => exact .tup (s _ _ e)
    | dK e => exact .dK (s _ _ e)
    | dT e => exact .dT (s _ _ e)
    | ins e cl ha hn htk hm => exact .ins (s _ _ e) cl ha hn htk hm
  | byt b => exact .byt b
  | set e => exact .set (s _ _ e)
  | kList e c => exact .kList e c
  | kTuple e c => exact .kTuple e c
  | kDict e c => exact .kDict e c
  | fTuple e => exact .fTuple (s _ _ e)
  | fDict e => exact .fDict (s _ _ e)
theorem dp_fr {H : Hp} {v : V} {d : PyData} (h : Dp K H v d) : FR v := by
  cases h with
  | non => exact .inl rfl
  | bl b => exact .inl rfl
  | int i => exact .inl rfl
  | str x => exact .inl rfl
  | lst h _ => exact .inr ⟨_, rfl⟩
  | tup h _ => exact .inr ⟨_, rfl⟩
theorem ChkP.same {H H' : Hp} {v u : V} {E : XK} {g g' : Int → Prop} (h : ChkP K H v u E g) (s : Same H H') (k : ∀ p, g p → g' p) : ChkP K H' v u E g' := by
  obtain ⟨h1, h2, h3⟩ := h
  refine ⟨h1.same s, fun e => errs_same (h2 e) s, fun p ep e => ?_⟩
  rcases h3 p ep e with ⟨d, a, b, c, x⟩ | x
  · exact .inl ⟨d, dp_same s a, b, c, errs_same x s⟩
  · exact .inr (k p x)
/-- no sum gives the row: what is asked of sum_to -/
def NoSum (H : Hp) (u x : V) (p : Int) : Prop := ∃ (n : Nat) (rows : List (List Int)) (b : List Int), FT H x b ∧ Ltr p n b ∧ MT H u rows ∧ (∀ r ∈ rows, Ltr p n r) ∧ n ≤ 190 ∧ rows.length ≤ 190 ∧ ∀ qs, Rr p (rows.length + 1) (red p (eqs rows b n)) qs → rows.length ∈ qs
def spLC (K : PySem.W.Frag) : Sp := fun vs H Q E => ∃ (i : Int) (v u x : V) (n : Nat), vs = [.int i, v, u, x, .int n] ∧ 0 ≤ i ∧ i ≤ 5 ∧ n ≤ 1000 ∧ ChkP K H v u E fun p => i = 1 ∧ NoSum H u x p ∧ Errs (He.ga K "Undefined") "what" (.str "sum") H E
theorem scLC : FnScope ["which", "p", "rows", "row", "columns"] ["which", "p", "rows", "row", "columns"] (defScope s_law_call) := ⟨rfl, rfl, rfl, by decide +kernel, rfl, by decide +kernel, by decide +kernel⟩
theorem ok_LC {f f0 f1 f2 f3 f4 f5 : Addr} {fd fd0 fd1 fd2 fd3 fd4 fd5 : FuncData} (F : FnS K "_law_call" s_law_call f fd) (C0 : Cal P w K mg base 8 "in_span" f0 fd0 ["p", "rows", "row"] (spIS K)) (C1 : Cal P w K mg base 8 "sum_to" f1 fd1 ["p", "rows", "row"] (spST K)) (C2 : Cal P w K mg base 8 "zero_rows" f2 fd2 ["p", "rows", "columns"] (spZs K))
    (C3 : Cal P w K mg base 8 "products" f3 fd3 ["p", "rows", "letters"] (spPs K)) (C4 : Cal P w K mg base 8 "matrix_product" f4 fd4 ["p", "rows", "others"] (spMP K)) (C5 : Cal P w K mg base 8 "without_columns" f5 fd5 ["p", "rows", "places"] (spWC K)) :
    FnOk P w K mg base (L2.CX P w) 9 f fd ["which", "p", "rows", "row", "columns"] (spLC K) := by
  refine F.ok scLC (fun vs H Q E h => ?_) (fun cdv A outer s H vs Q E hr h => ?_)
  · obtain ⟨i, v, u, x, n, rfl, _⟩ := h
    rfl
  · obtain ⟨i, v, u, x, n, rfl, i0, i5, hn, hc⟩ := h
    refine ⟨_, (pss_cons (ps_if (pt_cmpR op_eq (pv 0) pe_int (nomark _)) (pss_one (ps_ret (pe_cal (E := E) C0 (hr.mono (by decide)) (pa_cons (pv 1) (pa_cons (pv 2) (pa_cons (pv 3) pa_nil))) (passes_call (takes_of rfl rfl rfl rfl) (fun _ _ _ _ h => h))))) pss_nil)
      (pss_cons (ps_if (pt_cmpR op_eq (pv 0) pe_int (nomark _)) (pss_one (ps_ret (pe_cal (E := E) C1 (hr.mono (by decide)) (pa_cons (pv 1) (pa_cons (pv 2) (pa_cons (pv 3) pa_nil))) (passes_call (takes_of rfl rfl rfl rfl) (fun _ _ _ _ h => h))))) pss_nil)
      (pss_cons (ps_if (pt_cmpR op_eq (pv 0) pe_int (nomark _)) (pss_one (ps_ret (pe_cal (E := E) C2 (hr.mono (by decide)) (pa_cons (pv 1) (pa_cons (pv 2) (pa_cons (pv 4) pa_nil))) (passes_call (takes_of rfl rfl rfl rfl) (fun _ _ _ _ h => h))))) pss_nil)
      (pss_cons (ps_if (pt_cmpR op_eq (pv 0) pe_int (nomark _)) (pss_one (ps_ret (pe_cal (E := E) C3 (hr.mono (by decide)) (pa_cons (pv 1) (pa_cons (pv 2) (pa_cons (pv 3) pa_nil))) (passes_call (takes_of rfl rfl rfl rfl) (fun _ _ _ _ h => h))))) pss_nil)
      (pss_cons (ps_if (pt_cmpR op_eq (pv 0) pe_int (nomark _)) (pss_one (ps_ret (pe_cal (E := E) C4 (hr.mono (by decide)) (pa_cons (pv 1) (pa_cons (pv 2) (pa_cons (pe_op (op_repAK (K := K)) (pe_tup (pa_cons (pv 3) pa_nil)) (pv 4)) pa_nil))) (passes_call (takes_of rfl rfl rfl rfl) (fun _ _ _ _ h => h))))) pss_nil)
      (pss_one (ps_ret (pe_cal (E := E) C5 (hr.mono (by decide)) (pa_cons (pv 1) (pa_cons (pv 2) (pa_cons (pe_tup pa_nil) pa_nil))) (passes_call (takes_of rfl rfl rfl rfl) (fun _ _ _ _ h => h)))))))))), ?_⟩
    refine ⟨_, rfl, rfl, _, rfl, iteD (fun h0 => ?_) (fun h0 => ?_)⟩
    · have e0 := V.int.inj h0
      exact ⟨_, rfl, _, rfl, _, rfl, v, u, x, rfl, hc.same (Same.refl H) fun p z => absurd z.1 (by omega)⟩
    refine ⟨_, rfl, rfl, _, rfl, iteD (fun h1 => ?_) (fun h1 => ?_)⟩
    · refine ⟨_, rfl, _, rfl, _, rfl, v, u, x, rfl, hc.same (Same.refl H) fun p ⟨_, ⟨m, rows, b, a1, a2, a3, a4, a5, a6, a7⟩, z⟩ => ?_⟩
      exact ⟨m, rows, b, a1, a2, a3, a4, a5, a6, fun _ _ _ => z, fun y x H' qs _ R hn => absurd (a7 qs R) hn⟩
    refine ⟨_, rfl, rfl, _, rfl, iteD (fun h2 => ?_) (fun h2 => ?_)⟩
    · have e2 := V.int.inj h2
      exact ⟨_, rfl, _, rfl, _, rfl, v, u, _, rfl, hc.same (Same.refl H) fun p z => absurd z.1 (by omega)⟩
    refine ⟨_, rfl, rfl, _, rfl, iteD (fun h3 => ?_) (fun h3 => ?_)⟩
    · have e3 := V.int.inj h3
      exact ⟨_, rfl, _, rfl, _, rfl, v, u, x, rfl, hc.same (Same.refl H) fun p z => absurd z.1 (by omega)⟩
    refine ⟨_, rfl, rfl, _, rfl, iteD (fun h4 => ?_) (fun h4 => ?_)⟩
    · have e4 := V.int.inj h4
      refine ⟨_, rfl, _, rfl, _, rfl, (by show 1 ≤ sizeLine; decide), fun t ht => ?_⟩
      refine ⟨_, rfl, t, n, [x], rfl, rfl, upd_same, (by intro z; cases z), hn, (by show 1 ≤ 1000; decide), fun q H' s _ => ?_⟩
      exact ⟨v, u, _, rfl, hc.same ((same_new ht).trans s) fun p z => absurd z.1 (by omega)⟩
    · have n1 : i ≠ 1 := fun z => h1 (congrArg V.int z)
      refine ⟨_, rfl, _, rfl, (by show 0 ≤ sizeLine; decide), fun t ht => ?_⟩
      exact ⟨v, u, _, rfl, hc.same (same_new ht) fun p z => absurd z.1 n1⟩
/-- the list that _law_told hands back -/
def Told (x : Str) (v : V) (H : Hp) (Q : VK) : Prop := ∀ q H', Same H H' → H' q = some (.lst [.str x, v]) → Q (.ref q) H'
def spTd (K : PySem.W.Frag) : Sp := fun vs H Q _ => ∃ (i : Int) (v u x : V) (n : Nat), vs = [.int i, v, u, x, .int n] ∧ 0 ≤ i ∧ i ≤ 5 ∧ n ≤ 1000 ∧ Ty3 K H v ∧ (isFld v = false → Told "number" v H Q) ∧
  ∀ p, v = .int p → isFld v = true → (∃ d, Dp K H u d ∧ smallM d ∧ matD p (widD d) d = false ∧ Told "matrix" u H Q) ∨ (i = 1 ∧ NoSum H u x p ∧ Told "undefined" (.str "sum") H Q)
theorem scTd : FnScope ["which", "p", "rows", "row", "columns", "e"] ["which", "p", "rows", "row", "columns"] (defScope s_law_told) := ⟨rfl, rfl, rfl, by decide +kernel, rfl, by decide +kernel, by decide +kernel⟩
theorem ok_Td {f f1 : Addr} {fd fd1 : FuncData} (F : FnS K "_law_told" s_law_told f fd) (CC : Cal P w K mg base 9 "_law_call" f1 fd1 ["which", "p", "rows", "row", "columns"] (spLC K)) (T : Exc1 K mg "InvalidNumber" "value") (TM : Exc1 K mg "InvalidMatrix" "value") (TU : Exc1 K mg "Undefined" "what")
    (XN : XfC K (He.ga K "InvalidNumber")) (XM : XfC K (He.ga K "InvalidMatrix")) (XU : XfC K (He.ga K "Undefined")) (eNN : PySem.W.exmOne K (.ref (He.ga K "InvalidNumber")) (.ref (He.ga K "InvalidNumber")) = some true)
    (eMN : PySem.W.exmOne K (.ref (He.ga K "InvalidMatrix")) (.ref (He.ga K "InvalidNumber")) = some false) (eMM : PySem.W.exmOne K (.ref (He.ga K "InvalidMatrix")) (.ref (He.ga K "InvalidMatrix")) = some true)
    (eUN : PySem.W.exmOne K (.ref (He.ga K "Undefined")) (.ref (He.ga K "InvalidNumber")) = some false) (eUM : PySem.W.exmOne K (.ref (He.ga K "Undefined")) (.ref (He.ga K "InvalidMatrix")) = some false) (eUU : PySem.W.exmOne K (.ref (He.ga K "Undefined")) (.ref (He.ga K "Undefined")) = some true) :
    FnOk P w K mg base (L2.CX P w) 10 f fd ["which", "p", "rows", "row", "columns"] (spTd K) := by
  refine F.ok scTd (fun vs H Q E h => ?_) (fun cdv A outer s H vs Q E hr h => ?_)
  · obtain ⟨i, v, u, x, n, rfl, _⟩ := h
    rfl
  · obtain ⟨i, v, u, x, n, rfl, i0, i5, hn, hv, kN, kk⟩ := h
    have nd := scTd.nd
    refine ⟨_, pss_cons (ps_try_cls rfl rfl nd takes0 (fun W pn xe tk _ => pss_one (ps_expr (pe_calS CC (hr.mono (by decide)) (pa_cons (pv 0) (pa_cons (pv 1) (pa_cons (pv 2) (pa_cons (pv 3) (pa_cons (pv 4) pa_nil))))) tk)))
      (.named (i := 5) rfl rfl ⟨rfl, by decide, .inl T.glob⟩ (fun a oe cls d pn hz hf => pss_one (ps_ret (pe_lst (pa_cons pe_str (pa_cons (pe_xf XN T.no hz hf (pv 5)) pa_nil)))))
      (.named (i := 5) rfl rfl ⟨rfl, by decide, .inl TM.glob⟩ (fun a oe cls d pn hz hf => pss_one (ps_ret (pe_lst (pa_cons pe_str (pa_cons (pe_xf XM TM.no hz hf (pv 5)) pa_nil)))))
      (.named (i := 5) rfl rfl ⟨rfl, by decide, .inl TU.glob⟩ (fun a oe cls d pn hz hf => pss_one (ps_ret (pe_lst (pa_cons pe_str (pa_cons (pe_xf XU TU.no hz hf (pv 5)) pa_nil))))) .nil))))
      (pss_one (ps_ret (pe_lst (pa_cons pe_str (pa_cons pe_int pa_nil))))), ?_⟩
    refine ⟨_, rfl, _, rfl, _, rfl, _, rfl, _, rfl, i, v, u, x, n, rfl, i0, i5, hn, hv, (fun e d H' s1 n1 hd => ?_), fun p ep e => ?_⟩
    · exact ⟨true, eNN, fun _ ax hax => ⟨_, rfl, rfl, rfl, d, _, v, rfl, hd, (by simp [List.lookup]), (by show 2 ≤ sizeLine; decide), fun q hq => kN e q _ (s1.trans (same_new hq)) upd_same⟩, fun q => nomatch q⟩
    · rcases kk p ep e with ⟨dd, h1, h2, h3, kM⟩ | ⟨e1, hS, kU⟩
      · refine .inl ⟨dd, h1, h2, h3, fun d H' s1 n1 hd => ?_⟩
        exact ⟨false, eMN, (fun q => nomatch q), fun _ => ⟨true, eMM, fun _ ax hax => ⟨_, rfl, rfl, rfl, d, _, u, rfl, hd, (by simp [List.lookup]), (by show 2 ≤ sizeLine; decide), fun q hq => kM q _ (s1.trans (same_new hq)) upd_same⟩, fun q => nomatch q⟩⟩
      · refine .inr ⟨e1, hS, fun d H' s1 n1 hd => ?_⟩
        exact ⟨false, eUN, (fun q => nomatch q), fun _ => ⟨false, eUM, (fun q => nomatch q), fun _ => ⟨true, eUU, fun _ ax hax => ⟨_, rfl, rfl, rfl, d, _, .str "sum", rfl, hd, (by simp [List.lookup]), (by show 2 ≤ sizeLine; decide), fun q hq => kU q _ (s1.trans (same_new hq)) upd_same⟩, fun q => nomatch q⟩⟩⟩
end
end WU

set_option maxRecDepth 100000
set_option maxHeartbeats 8000000
namespace WU
open PySem PySem.Spec PyProof.Rows L2
theorem eq_ints {n : Nat} {H : Hp} : ∀ b : List Int, Paired (EqV n H) (b.map V.int) (b.map V.int)
  | [] => .nil
  | i :: b => by
    refine .cons ?_ (eq_ints b)
    cases n with
    | zero => exact ⟨i, rfl, rfl⟩
    | succ n => exact .inl ⟨i, rfl, rfl⟩
theorem eq_row {n : Nat} {H : Hp} {u v : V} {b : List Int} (hu : FT H u b) (hv : FT H v b) (hl : b.length ≤ 10000) : EqV (n + 1) H u v := by
  obtain ⟨c, e, h⟩ := hu
  obtain ⟨d, f, g⟩ := hv
  exact .inr ⟨c, d, _, _, e, f, h, g, eq_ints b, by rw [List.length_map]; exact hl⟩
theorem eq_rows {n : Nat} {H : Hp} : ∀ {us vs : List V} {bs : List (List Int)}, Paired (FT H) us bs → Paired (FT H) vs bs → (∀ b ∈ bs, b.length ≤ 10000) → Paired (EqV (n + 1) H) us vs
  | _, _, _, .nil, .nil, _ => .nil
  | _, _, _, .cons h t, .cons h2 t2, hl => .cons (eq_row h h2 (hl _ (List.mem_cons_self ..))) (eq_rows t t2 fun b hb => hl b (List.mem_cons_of_mem _ hb))
theorem eq_mat {n : Nat} {H : Hp} {u v : V} {bs : List (List Int)} (hu : MT H u bs) (hv : MT H v bs) (hl : ∀ b ∈ bs, b.length ≤ 10000) (hm : bs.length ≤ 10000) : EqV (n + 2) H u v := by
  obtain ⟨c, xs, e, h, p⟩ := hu
  obtain ⟨d, ys, f, g, q⟩ := hv
  exact .inr ⟨c, d, _, _, e, f, .inl h, .inl g, eq_rows p q hl, by rw [paired_len q]; exact hm⟩
theorem shaped_row (r : List Int) : SeqAt.shaped (rowP r) = true := by
  obtain ⟨a, b⟩ := can_ints r
  unfold SeqAt.shaped rowP
  simp only [PyData.canLay0, PyData.depth, a, b, Bool.true_and]
  exact decide_eq_true (by omega)
theorem eqv_row (r s : List Int) : PyData.eqv (rowP r) (rowP s) = decide (r = s) := by
  unfold rowP
  simp only [PyData.eqv]
  exact eqv_ints r s
theorem chk_ok {K : PySem.W.Frag} {H : Hp} {p : Int} {u : V} {E : XK} {g : Int → Prop} (hp : p ∈ primes) (h : g p) : ChkP K H (.int p) u E g :=
  ⟨ty3_int p, (fun e => by rw [mem_fld hp] at e; cases e), fun p' ep _ => by cases ep; exact .inr h⟩
theorem mat_MT {K : PySem.W.Frag} {H : Hp} {v : V} {rows : List (List Int)} {p : Int} {n : Nat} (h : MT H v rows) (hR : ∀ r ∈ rows, Ltr p n r) (hn : n ≤ 200) (hm : rows.length ≤ 200) : MatB K p n H v true := by
  have := dp_mat (K := K) (p := p) (n := n) h.dp (small_rows hR hn hm)
  rw [mat_rows hR] at this
  exact this
theorem fm_cg {p a : Int} (hp : 0 < p) (h : Cg p a 0) : a.fmod p = 0 := by
  rw [h.fmod hp, fm_zero]
/-- a row times a matrix, either way -/
theorem mp_eq {p : Int} {m n : Nat} {others : List (List Int)} {r : List Int} (hp : 0 < p) (hO : ∀ t ∈ others, Ltr p m t) (hl : others.length = n) : (((List.range m).map (colm others)).map fun c => (dotn n c r).fmod p) = lsum p m others r others.length := by
  have l := lsum_ltr (x := r) hp hO others.length (Nat.le_refl _)
  refine row_ext (n := m) (by rw [List.length_map, List.length_map, List.length_range]) l.1 fun k hk => ?_
  have e : at0 (((List.range m).map (colm others)).map fun c => (dotn n c r).fmod p) k = (dotn n (colm others k) r).fmod p := by
    unfold at0
    rw [List.getD_eq_getElem?_getD, List.getElem?_map, List.getElem?_map, List.getElem?_range hk]
    rfl
  rw [e]
  refine Cg.eq ?_ (fm_bd _ hp) (l.bd hk)
  rw [dotn_comm, ← hl]
  exact (Cg.fm _).trans (lsum_at hp hO hk others.length (Nat.le_refl _)).2.symm
section
variable {P : Program} {w : World} {K : PySem.W.Frag} {mg : Str → Option Value} {base : Heap} {S : Addr}
/-- _law_span_right(p, rows, row, columns) -/
def spSR : Sp := fun vs H Q _ => ∃ (p : Int) (n : Nat) (v x : V) (rows : List (List Int)) (r : List Int), vs = [.int p, v, x, .int n] ∧ MT H v rows ∧ FT H x r ∧ p ∈ primes ∧ (∀ r ∈ rows, Ltr p n r) ∧ Ltr p n r ∧ n ≤ 100 ∧ rows.length ≤ 100 ∧ ∀ H', Same H H' → Q (.bl true) H'
theorem scSR : FnScope ["p", "rows", "row", "columns", "due", "found", "letters"] ["p", "rows", "row", "columns"] (defScope s_law_span_right) := ⟨rfl, rfl, rfl, by decide +kernel, rfl, by decide +kernel, by decide +kernel⟩
theorem ok_SR {f f1 f2 f3 f4 f5 f6 : Addr} {fd fd1 fd2 fd3 fd4 fd5 fd6 : FuncData} (F : FnS K "_law_span_right" s_law_span_right f fd) (B : Blt5 mg) (CI : Cal P w K mg base 8 "in_span" f1 fd1 ["p", "rows", "row"] (spIS K)) (CT : Cal P w K mg base 8 "sum_to" f2 fd2 ["p", "rows", "row"] (spST K))
    (CLR : Cal P w K mg base 2 "_law_reduced" f3 fd3 ["rows", "p"] spLRd) (CTd : Cal P w K mg base 10 "_law_told" f4 fd4 ["which", "p", "rows", "row", "columns"] (spTd K)) (CM : Cal P w K mg base 1 "_law_is_matrix" f5 fd5 ["value", "p", "columns"] (spMat2 K))
    (CS : Cal P w K mg base 1 "_law_sum_of" f6 fd6 ["rows", "letters", "p", "columns"] spLS) : FnOk P w K mg base (L2.CX P w) 11 f fd ["p", "rows", "row", "columns"] spSR := by
  refine F.ok scSR (fun vs H Q E h => ?_) (fun cdv A outer s H vs Q E hr h => ?_)
  · obtain ⟨p, n, v, x, rows, r, rfl, _⟩ := h
    rfl
  · obtain ⟨p, n, v, x, rows, r, rfl, hM, hx, hp, hR, hrL, hn, hm, k⟩ := h
    have nd := scSR.nd
    have hu := hr.units
    have p0 := prime_pos hp
    have hR2 : ∀ t ∈ rows ++ [r], Ltr p n t := fun t ht => by
      rcases List.mem_append.mp ht with z | z
      · exact hR t z
      · rw [List.mem_singleton.mp z]
        exact hrL
    obtain ⟨a, ts, rfl, ha, hts⟩ := id hM
    have lt := paired_len hts
    refine ⟨_, (pss_cons (ps_set (i := 4) nd rfl (Or.inl rfl) (pe_cmpR op_eq (pe_callB (len_seqK (K := K)) (by rfl) B.len (by decide +kernel) (pa_cons (pe_cal CLR (hr.mono (by decide)) (pa_cons (pe_op (op_catAK (K := K)) (pv 1) (pe_tup (pa_cons (pv 2) pa_nil))) (pa_cons (pv 0) pa_nil)) passU) pa_nil)) (pe_callB (len_seqK (K := K)) (by rfl) B.len (by decide +kernel) (pa_cons (pe_cal CLR (hr.mono (by decide)) (pa_cons (pv 1) (pa_cons (pv 0) pa_nil)) passU) pa_nil)) (nomark _)))
      (pss_cons (ps_set (i := 5) nd rfl (Or.inl rfl) (pe_cal CI (hr.mono (by decide)) (pa_cons (pv 0) (pa_cons (pv 1) (pa_cons (pv 2) pa_nil))) passU))
      (pss_cons (ps_if (PW.pt (pw_or (pt_not (pt_val (pe_callB (isiK (K := K)) (by rfl) B.isi (by decide +kernel) (pa_cons (pv 5) (pa_cons (pe_bltn (v := .ty "bool") (by rfl) B.bool (by decide +kernel) rfl) pa_nil))))) (pw_or1 (pt_cmpR op_ne (pv 5) (pv 4) (nomark _))))) (pss_one (ps_ret pe_bl)) pss_nil)
      (pss_cons (ps_if (pt_not (pt_val (pv 4))) (pss_one (ps_ret (pe_cmpR (op_eqD hu) (pe_cal CTd (hr.mono (by decide)) (pa_cons pe_int (pa_cons (pv 0) (pa_cons (pv 1) (pa_cons (pv 2) (pa_cons (pv 3) pa_nil))))) passU) (pe_lst (pa_cons pe_str (pa_cons pe_str pa_nil))) (nomark _)))) pss_nil)
      (pss_cons (ps_set (i := 6) nd rfl (Or.inl rfl) (pe_cal CT (hr.mono (by decide)) (pa_cons (pv 0) (pa_cons (pv 1) (pa_cons (pv 2) pa_nil))) passU))
      (pss_cons (ps_if (pt_not (pt_val (pe_cal CM (hr.mono (by decide)) (pa_cons (pe_tup (pa_cons (pv 6) pa_nil)) (pa_cons (pv 0) (pa_cons (pe_callB (len_seqK (K := K)) (by rfl) B.len (by decide +kernel) (pa_cons (pv 1) pa_nil)) pa_nil))) passU))) (pss_one (ps_ret pe_bl)) pss_nil)
      (pss_one (ps_ret (pe_cmpR (op_eqD hu) (pe_cal CS (hr.mono (by decide)) (pa_cons (pv 1) (pa_cons (pv 6) (pa_cons (pv 0) (pa_cons (pv 3) pa_nil)))) passU) (pv 2) (nomark _)))))))))), ?_⟩
    refine ⟨_, rfl, _, rfl, (by show 1 ≤ sizeLine; decide), fun t ht => ?_⟩
    have s1 : Same H (upd H t (.tup [x])) := same_new ht
    have et : upd H t (.tup [x]) t = some (.tup [x]) := upd_same
    generalize upd H t (.tup [x]) = H1 at s1 et ⊢
    refine catA_is (s1 _ _ ha) et (by rw [lt]; exact Nat.le_of_lt (small1000 (by show rows.length + 1 ≤ 1000; omega))) fun q H2 s2 eq => ?_
    have s12 := s1.trans s2
    have hM2 : MT H2 (.ref q) (rows ++ [r]) := ⟨q, _, rfl, eq, paired_app (paired_mono (fun _ _ z => z.same s12) hts) (.cons (hx.same s12) .nil)⟩
    refine ⟨_, rfl, p, n, .ref q, rows ++ [r], rfl, hM2, hp, hR2, by omega, (by rw [List.length_append]; show rows.length + 1 ≤ 200; omega), fun y1 H3 s3 hy1 => ?_⟩
    obtain ⟨b1, us1, rfl, hb1, hus1⟩ := hy1
    refine ⟨b1, us1, rfl, .inr (SqT.of hb1), ?_⟩
    have s13 := s12.trans s3
    refine ⟨_, rfl, _, rfl, p, n, .ref a, rows, rfl, hM.same s13, hp, hR, by omega, by omega, fun y2 H4 s4 hy2 => ?_⟩
    obtain ⟨b2, us2, rfl, hb2, hus2⟩ := hy2
    refine ⟨b2, us2, rfl, .inr (SqT.of hb2), rfl, ?_⟩
    have s14 := s13.trans s4
    have ed : decide (V.int ((us1.length : Nat) : Int) = V.int ((us2.length : Nat) : Int)) = decide (red p (rows ++ [r]) = red p rows) := by
      rw [paired_len hus1, paired_len hus2]
      by_cases h : red p (rows ++ [r]) = red p rows
      · rw [decide_eq_true h, h]
        exact decide_eq_true rfl
      · rw [decide_eq_false h]
        refine decide_eq_false fun z => h ?_
        have := V.int.inj z
        exact (red_more hp hR hrL).1 ((red_more hp hR hrL).2 (by omega))
    rw [ed]
    refine ⟨_, rfl, _, rfl, _, rfl, .int p, .ref a, x, rfl, chk_ok hp ⟨n, rows, r, hx.same s14, hrL, hM.same s14, hR, by omega, by omega, fun H5 s5 => ?_⟩⟩
    have s15 := s14.trans s5
    refine ⟨_, rfl, _, _, _, _, _, rfl, .ty "bool", .base (.bl _), kit_ty (show kitB "bool" "bool" = some true by decide +kernel), _, rfl, iteF ?_⟩
    refine ⟨_, rfl, _, rfl, rfl, _, rfl, iteND (fun z => absurd rfl z) (fun _ => ?_)⟩
    refine ⟨_, rfl, _, rfl, ?_⟩
    by_cases hd : red p (rows ++ [r]) = red p rows
    · have hS := (red_more hp hR hrL).2 (by rw [hd])
      rw [decide_eq_true hd]
      refine iteF ?_
      refine ⟨_, rfl, _, rfl, _, rfl, .int p, .ref a, x, rfl, chk_ok hp ⟨n, rows, r, hx.same s15, hrL, hM.same s15, hR, by omega, by omega, (fun qs R hin => absurd hin (cons_of hp hR hrL R hS)), fun y l H6 qs s6 R hin hl hy => ?_⟩⟩
      obtain ⟨sv, hlL⟩ := sol_slv hp hR hrL R hin hl
      have s16 := s15.trans s6
      refine ⟨_, rfl, (by show 1 ≤ sizeLine; decide), fun t2 ht2 => ⟨_, rfl, _, rfl, a, ts, rfl, .inr (SqT.of (same_new ht2 _ _ (s16 _ _ ha))), ?_⟩⟩
      rw [lt]
      have s7 : Same H6 (upd H6 t2 (.tup [y])) := same_new ht2
      have hM7 : MT (upd H6 t2 (.tup [y])) (.ref t2) [l] := ⟨t2, _, rfl, upd_same, .cons (hy.same s7) .nil⟩
      refine ⟨p, rows.length, .ref t2, true, rfl, mat_MT hM7 (fun z hz => by rw [List.mem_singleton.mp hz]; exact hlL) (by omega) (by show 1 ≤ 200; decide), fun H8 s8 => ⟨_, rfl, iteF ?_⟩⟩
      have s18 := s16.trans (s7.trans s8)
      obtain ⟨c, rfl, hc⟩ := hy.same (s7.trans s8)
      refine ⟨_, rfl, _, rfl, _, rfl, _, rfl, p, n, .ref a, c, rows, l, rfl, hM.same s18, .inr hc, hp, hR, hlL.2, hlL.1, by omega, by omega, fun y9 H9 s9 hy9 => ?_⟩
      rw [lsum_eq p0 hR hrL sv] at hy9
      refine ⟨_, rfl, rowP r, rowP r, hy9.ft.dp, (hx.same (s18.trans s9)).dp, shaped_row r, shaped_row r, ?_⟩
      rw [eqv_row, decide_eq_true rfl]
      exact k H9 (s18.trans s9)
    · have hS : ¬ Span p n rows r := fun z => hd ((red_more hp hR hrL).1 z)
      rw [decide_eq_false hd]
      refine iteT ?_
      refine ⟨_, rfl, _, rfl, _, rfl, _, rfl, 1, .int p, .ref a, x, n, rfl, by decide, by decide, by omega, ty3_int p, (fun e => by rw [mem_fld hp] at e; cases e), fun p' ep _ => ?_⟩
      cases ep
      refine .inr ⟨rfl, ⟨n, rows, r, hx.same s15, hrL, hM.same s15, hR, by omega, by omega, fun qs R => cons_not hp hR hrL R hS⟩, fun q2 H6 s6 e6 => ?_⟩
      refine ⟨(by show 2 ≤ sizeLine; decide), fun Z hZ => ?_⟩
      have s7 := same_new (o := .lst [.str "undefined", .str "sum"]) hZ
      refine ⟨.list [.str "undefined", .str "sum"], .list [.str "undefined", .str "sum"], .lst (SqL.of (s7 _ _ e6)) (.cons (.str _) (.cons (.str _) .nil)), .lst (SqL.of upd_same) (.cons (.str _) (.cons (.str _) .nil)), by decide +kernel, by decide +kernel, ?_⟩
      exact k _ (s15.trans (s6.trans s7))
/-- _law_zero_right(p, rows, columns) -/
def spZRt : Sp := fun vs H Q _ => ∃ (p : Int) (n : Nat) (v : V) (rows : List (List Int)), vs = [.int p, v, .int n] ∧ MT H v rows ∧ p ∈ primes ∧ (∀ r ∈ rows, Ltr p n r) ∧ n ≤ 100 ∧ rows.length ≤ 100 ∧ ∀ H', Same H H' → Q (.bl true) H'
theorem scZRt : FnScope ["p", "rows", "columns", "found", "row", "other"] ["p", "rows", "columns"] (defScope s_law_zero_right) := ⟨rfl, rfl, rfl, by decide +kernel, rfl, by decide +kernel, by decide +kernel⟩
theorem ok_ZRt {f f1 f2 f3 f4 f5 : Addr} {fd fd1 fd2 fd3 fd4 fd5 : FuncData} (F : FnS K "_law_zero_right" s_law_zero_right f fd) (B : Blt5 mg) (CZ : Cal P w K mg base 8 "zero_rows" f1 fd1 ["p", "rows", "columns"] (spZs K)) (CLR : Cal P w K mg base 2 "_law_reduced" f2 fd2 ["rows", "p"] spLRd)
    (CM : Cal P w K mg base 1 "_law_is_matrix" f3 fd3 ["value", "p", "columns"] (spMat2 K)) (CS : Cal P w K mg base 3 "_law_same" f4 fd4 ["found", "due"] (spSm 2)) (CP : Cal P w K mg base 1 "_law_product" f5 fd5 ["first", "second", "p"] spLP) :
    FnOk P w K mg base (L2.CX P w) 9 f fd ["p", "rows", "columns"] spZRt := by
  refine F.ok scZRt (fun vs H Q E h => ?_) (fun cdv A outer s H vs Q E hr h => ?_)
  · obtain ⟨p, n, v, rows, rfl, _⟩ := h
    rfl
  · obtain ⟨p, n, v, rows, rfl, hM, hp, hR, hn, hm, k⟩ := h
    have nd := scZRt.nd
    have p0 := prime_pos hp
    refine ⟨_, (pss_cons (ps_set (i := 3) nd rfl (Or.inl rfl) (pe_cal CZ (hr.mono (by decide)) (pa_cons (pv 0) (pa_cons (pv 1) (pa_cons (pv 2) pa_nil))) passU))
      (pss_cons (ps_if (PW.pt (pw_or (pt_not (pt_val (pe_cal CM (hr.mono (by decide)) (pa_cons (pv 3) (pa_cons (pv 0) (pa_cons (pv 2) pa_nil))) passU))) (pw_or1 (pt_not (pt_val (pe_cal CS (hr.mono (by decide)) (pa_cons (pv 3) (pa_cons (pe_cal CLR (hr.mono (by decide)) (pa_cons (pv 3) (pa_cons (pv 0) pa_nil)) passU) pa_nil)) passU)))))) (pss_one (ps_ret pe_bl)) pss_nil)
      (pss_cons (ps_for (passes_of rfl) rfl (pi_tupK (K := K) (pv 3)) (pg_name (i := 4) nd rfl (Or.inl rfl)) (pss_one (ps_for (passes_of rfl) rfl (pi_tupK (K := K) (pv 1)) (pg_name (i := 5) nd rfl (Or.inl rfl)) (pss_one (ps_if (pt_cmpR op_ne (pe_cal CP (hr.mono (by decide)) (pa_cons (pv 4) (pa_cons (pv 5) (pa_cons (pv 0) pa_nil))) passU) pe_int (nomark _)) (pss_one (ps_ret pe_bl)) pss_nil)))))
      (pss_one (ps_ret (pe_cmpR op_eq (pe_callB (len_seqK (K := K)) (by rfl) B.len (by decide +kernel) (pa_cons (pv 3) pa_nil)) (pe_op op_sub (pv 2) (pe_callB (len_seqK (K := K)) (by rfl) B.len (by decide +kernel) (pa_cons (pe_cal CLR (hr.mono (by decide)) (pa_cons (pv 1) (pa_cons (pv 0) pa_nil)) passU) pa_nil))) (nomark _))))))), ?_⟩
    refine ⟨_, rfl, _, rfl, _, rfl, .int p, v, .int n, rfl, chk_ok hp ⟨n, rows, rfl, hM, hR, by omega, by omega, fun y H1 Z qs s1 R lZ hZ hy => ?_⟩⟩
    obtain ⟨z1, z2, z3, z4, z5⟩ := zero_ok hp hR R lZ hZ
    have lr : (red p Z).length ≤ 200 := by omega
    refine ⟨_, rfl, _, rfl, _, rfl, p, n, y, true, rfl, mat_MT hy z2 (by omega) lr, fun H2 s2 => ⟨_, rfl, iteF ?_⟩⟩
    refine ⟨_, rfl, _, rfl, _, rfl, p, n, y, red p Z, rfl, hy.same s2, hp, z2, by omega, lr, fun y2 H3 s3 hy2 => ?_⟩
    rw [z3] at hy2
    refine ⟨y, y2, rfl, eq_mat (hy.same (s2.trans s3)) hy2 (fun b hb => by rw [(z2 b hb).1]; omega) (by omega), _, rfl, iteF ?_⟩
    have s13 := (s1.trans s2).trans s3
    obtain ⟨c, us, rfl, hc, hus⟩ := hy.same (s2.trans s3)
    obtain ⟨a, ts, rfl, ha, hts⟩ := hM.same s13
    refine ⟨_, rfl, c, rfl, ⟨_, SqT.of hc⟩, for_it (walk_tup (xs := us)) (fun i σ H' => ∃ rv ot, σ = [some (.int p), some (.ref a), some (.int n), some (.ref c), rv, ot] ∧ Same H3 H') ⟨none, none, rfl, Same.refl _⟩ (fun i σ H' _ ⟨rv, ot, _, s⟩ => SqT.of (s _ _ hc)) ?_ ?_⟩
    · rintro i x σ H4 H4' hi ⟨rv, ot, rfl, s4⟩ ⟨rfl, hx⟩
      obtain ⟨r, hr0, hxr⟩ := paired_at hus hx
      have hrm := List.mem_of_getElem? hr0
      refine ⟨_, rfl, a, rfl, ⟨_, SqT.of (s4 _ _ ha)⟩, for_it (walk_tup (xs := ts)) (fun j σ H' => ∃ ot, σ = [some (.int p), some (.ref a), some (.int n), some (.ref c), some x, ot] ∧ Same H3 H') ⟨ot, rfl, s4⟩ (fun j σ H' _ ⟨ot, _, s⟩ => SqT.of (s _ _ ha)) ?_ ?_⟩
      · rintro j w σ H5 H5' hj ⟨ot, rfl, s5⟩ ⟨rfl, hw⟩
        obtain ⟨u, hu0, hwu⟩ := paired_at hts hw
        have hum := List.mem_of_getElem? hu0
        refine ⟨_, rfl, _, rfl, _, rfl, p, n, x, w, r, u, rfl, hxr.same s5, hwu.same s5, hp, z2 r hrm, (hR u hum).1, by omega, fun H6 s6 => ?_⟩
        rw [fm_cg p0 (z4 r hrm u hum)]
        exact ⟨rfl, _, rfl, iteND (fun z => absurd rfl z) (fun _ => ⟨_, rfl, s5.trans s6⟩)⟩
      · rintro σ H5 ⟨ot, rfl, s5⟩
        exact ⟨_, _, rfl, s5⟩
    · rintro σ H4 ⟨rv, ot, rfl, s4⟩
      refine ⟨_, rfl, c, us, rfl, .inr (SqT.of (s4 _ _ hc)), _, rfl, _, rfl, _, rfl, p, n, .ref a, rows, rfl, MT.same ⟨a, ts, rfl, ha, hts⟩ s4, hp, hR, by omega, by omega, fun y5 H5 s5 hy5 => ?_⟩
      obtain ⟨d, es, rfl, hd, hes⟩ := hy5
      refine ⟨d, es, rfl, .inr (SqT.of hd), _, _, rfl, rfl, rfl, ?_⟩
      have e1 := paired_len hus
      have e2 := paired_len hes
      have : decide (V.int ((us.length : Nat) : Int) = V.int ((n : Int) - ((es.length : Nat) : Int))) = true := decide_eq_true (congrArg V.int (by omega))
      rw [this]
      exact k H5 (s13.trans (s4.trans s5))
/-- _law_products_right(p, rows, letters, others, columns, wide) -/
def spPRt : Sp := fun vs H Q _ => ∃ (p : Int) (n m : Nat) (v x o : V) (rows others : List (List Int)) (ls : List Int), vs = [.int p, v, x, o, .int n, .int m] ∧ MT H v rows ∧ FT H x ls ∧ MT H o others ∧ p ∈ primes ∧ (∀ r ∈ rows, Ltr p n r) ∧ ls.length = n ∧ others.length = n ∧ (∀ r ∈ others, Ltr p m r) ∧ n ≤ 100 ∧ m ≤ 100 ∧ rows.length ≤ 100 ∧
  ∀ H', Same H H' → Q (.bl true) H'
theorem scPRt : FnScope ["p", "rows", "letters", "others", "columns", "wide", "due", "row"] ["p", "rows", "letters", "others", "columns", "wide"] (defScope s_law_products_right) := ⟨rfl, rfl, rfl, by decide +kernel, rfl, by decide +kernel, by decide +kernel⟩
theorem ok_PRt {f f1 f2 f3 f4 f5 : Addr} {fd fd1 fd2 fd3 fd4 fd5 : FuncData} (F : FnS K "_law_products_right" s_law_products_right f fd) (B : Blt5 mg) (CP : Cal P w K mg base 8 "products" f1 fd1 ["p", "rows", "letters"] (spPs K)) (CL : Cal P w K mg base 1 "_law_product" f2 fd2 ["first", "second", "p"] spLP)
    (CS : Cal P w K mg base 3 "_law_same" f3 fd3 ["found", "due"] (spSm 2)) (CU : Cal P w K mg base 1 "_law_sum_of" f4 fd4 ["rows", "letters", "p", "columns"] spLS) (CM : Cal P w K mg base 8 "matrix_product" f5 fd5 ["p", "rows", "others"] (spMP K)) :
    FnOk P w K mg base (L2.CX P w) 9 f fd ["p", "rows", "letters", "others", "columns", "wide"] spPRt := by
  refine F.ok scPRt (fun vs H Q E h => ?_) (fun cdv A outer s H vs Q E hr h => ?_)
  · obtain ⟨p, n, m, v, x, o, rows, others, ls, rfl, _⟩ := h
    rfl
  · obtain ⟨p, n, m, v, x, o, rows, others, ls, rfl, hM, hx, hO, hp, hR, hl, hol, hOL, hn, hmm, hm, k⟩ := h
    have nd := scPRt.nd
    have p0 := prime_pos hp
    obtain ⟨a, ts, rfl, ha, hts⟩ := id hM
    obtain ⟨b, rfl, hb⟩ := id hx
    have lt := paired_len hts
    refine ⟨_, (pss_cons (ps_set (i := 6) nd rfl (Or.inl rfl) (pe_callTy (tup_ofK (K := K)) (by rfl) B.tuple (by decide +kernel) (pa_cons (pe_lc (own := [("row", 7)]) (g := gName 7) (by rfl) nd (pi_tupK (K := K) (pv 1)) (blkOk_by (own := [("row", 7)]) (N := ["p", "rows", "letters", "others", "columns", "wide", "due", "row"]) (sc := defScope s_law_products_right) (by decide +kernel)) (fun _ _ _ _ _ => (pg_name (i := 7) nd rfl (Or.inl rfl))) (fun _ _ _ _ _ => pts_nil) (fun _ _ _ _ _ => (pe_cal CL (hr.mono (by decide)) (pa_cons (pv 7) (pa_cons (pv 2) (pa_cons (pv 0) pa_nil))) passU))) pa_nil)))
      (pss_cons (ps_if (PW.pt (pw_or (pt_not (pt_val (pe_cal CS (hr.mono (by decide)) (pa_cons (pe_cal CP (hr.mono (by decide)) (pa_cons (pv 0) (pa_cons (pv 1) (pa_cons (pv 2) pa_nil))) passU) (pa_cons (pv 6) pa_nil)) passU))) (pw_or1 (pt_not (pt_val (pe_cal CS (hr.mono (by decide)) (pa_cons (pe_cal CP (hr.mono (by decide)) (pa_cons (pv 0) (pa_cons (pv 1) (pa_cons (pe_callTy (list_ofK (K := K)) (by rfl) B.lst (by decide +kernel) (pa_cons (pv 2) pa_nil)) pa_nil))) passU) (pa_cons (pv 6) pa_nil)) passU)))))) (pss_one (ps_ret pe_bl)) pss_nil)
      (pss_cons (ps_if (pt_cmpR op_eq (pe_callB (len_seqK (K := K)) (by rfl) B.len (by decide +kernel) (pa_cons (pv 3) pa_nil)) pe_int (nomark _)) (pss_one (ps_ret pe_bl)) pss_nil)
      (pss_cons (ps_set (i := 6) nd rfl (Or.inl rfl) (pe_callTy (tup_ofK (K := K)) (by rfl) B.tuple (by decide +kernel) (pa_cons (pe_lc (own := [("row", 7)]) (g := gName 7) (by rfl) nd (pi_tupK (K := K) (pv 1)) (blkOk_by (own := [("row", 7)]) (N := ["p", "rows", "letters", "others", "columns", "wide", "due", "row"]) (sc := defScope s_law_products_right) (by decide +kernel)) (fun _ _ _ _ _ => (pg_name (i := 7) nd rfl (Or.inl rfl))) (fun _ _ _ _ _ => pts_nil) (fun _ _ _ _ _ => (pe_cal CU (hr.mono (by decide)) (pa_cons (pv 3) (pa_cons (pv 7) (pa_cons (pv 0) (pa_cons (pv 5) pa_nil)))) passU))) pa_nil)))
      (pss_one (ps_ret (pe_cal CS (hr.mono (by decide)) (pa_cons (pe_cal CM (hr.mono (by decide)) (pa_cons (pv 0) (pa_cons (pv 1) (pa_cons (pv 3) pa_nil))) passU) (pa_cons (pv 6) pa_nil)) passU))))))), ?_⟩
    refine ⟨_, rfl, a, rfl, ⟨_, SqT.of ha⟩, fun D hD => lc_tup (K := K) (a := a) (xs := ts) (fun i H' => Bld FI H D ((rows.take i).map fun r => (dotn n r ls).fmod p) H') (Bld.start hD) (fun i H' _ b => SqT.of (b.same _ _ ha)) ?_ ?_⟩
    · intro i y H1 hy z
      obtain ⟨r, hr0, hyr⟩ := paired_at hts hy
      refine ⟨rfl, _, rfl, _, rfl, _, rfl, p, n, y, .ref b, r, ls, rfl, hyr.same z.same, hx.same z.same, hp, hR r (List.mem_of_getElem? hr0), hl, by omega, fun H2 s2 => ?_⟩
      rw [map_take_succ hr0]
      exact z.put (y := .int ((dotn n r ls).fmod p)) (z := (dotn n r ls).fmod p) stab_FI hD s2 rfl (by intro z; cases z) (by rw [List.length_map, List.length_take]; exact small1000 (by omega))
    · intro H1 z
      obtain ⟨s1, ys, eD, py⟩ := z.fin
      rw [lt, List.take_length] at py
      rw [fi_map py] at eD
      refine ⟨D, _, rfl, .inl ⟨SqL.of eD, fun q hq => ?_⟩⟩
      have s2 := s1.trans (same_new (o := .tup ((rows.map fun r => (dotn n r ls).fmod p).map V.int)) hq)
      have hq2 : FT (upd H1 q (.tup ((rows.map fun r => (dotn n r ls).fmod p).map V.int))) (.ref q) (rows.map fun r => (dotn n r ls).fmod p) := FT.new
      generalize upd H1 q (.tup ((rows.map fun r => (dotn n r ls).fmod p).map V.int)) = H2 at s2 hq2 ⊢
      have ld : (rows.map fun r => (dotn n r ls).fmod p).length ≤ 10000 := by rw [List.length_map]; omega
      refine ⟨_, rfl, _, rfl, _, rfl, .int p, .ref a, .ref b, rfl, chk_ok hp ⟨n, rows, b, ls, rfl, .inr (rd_same s2 hb), hl, hM.same s2, hR, by omega, by omega, fun y3 H3 s3 hy3 => ?_⟩⟩
      refine ⟨_, rfl, y3, .ref q, rfl, eq_row hy3 (hq2.same s3) ld, _, rfl, iteF ?_⟩
      have s23 := s2.trans s3
      refine ⟨_, rfl, _, rfl, _, rfl, b, _, rfl, .inr (sqT (rd_same s23 hb)), fun l hl2 => ?_⟩
      have s4 := same_new (o := .lst (ls.map V.int)) hl2
      refine ⟨.int p, .ref a, .ref l, rfl, chk_ok hp ⟨n, rows, l, ls, rfl, .inl upd_same, hl, hM.same (s23.trans s4), hR, by omega, by omega, fun y5 H5 s5 hy5 => ?_⟩⟩
      have s35 := s4.trans s5
      have s25 := s23.trans s35
      refine ⟨_, rfl, y5, .ref q, rfl, eq_row hy5 (hq2.same (s3.trans s35)) ld, _, rfl, iteF ?_⟩
      obtain ⟨g, os, rfl, hg, hos⟩ := id hO
      have lo := paired_len hos
      refine ⟨_, rfl, g, os, rfl, .inr (SqT.of (s25 _ _ hg)), rfl, _, rfl, iteD (fun _ => k _ s25) (fun hne => ?_)⟩
      have hne2 : others ≠ [] := fun z => hne (by rw [lo, z]; rfl)
      refine ⟨_, rfl, a, rfl, ⟨_, SqT.of (s25 _ _ ha)⟩, fun D6 hD6 => lc_tup (K := K) (a := a) (xs := ts) (fun i H' => Bld FQ H5 D6 ((rows.take i).map fun r => lsum p m others r others.length) H') (Bld.start hD6) (fun i H' _ b => SqT.of (b.same _ _ (s25 _ _ ha))) ?_ ?_⟩
      · intro i y H6 hy z
        obtain ⟨r, hr0, hyr⟩ := paired_at hts hy
        have s6 := s25.trans z.same
        obtain ⟨c, rfl, hc⟩ := hyr.same s6
        have hrL := hR r (List.mem_of_getElem? hr0)
        refine ⟨rfl, _, rfl, _, rfl, _, rfl, _, rfl, p, m, .ref g, c, others, r, rfl, hO.same s6, .inr hc, hp, hOL, hrL.2, by rw [hrL.1, hol], by omega, by omega, fun y7 H7 s7 hy7 => ?_⟩
        rw [map_take_succ hr0]
        exact z.put stab_FQ hD6 s7 hy7 (hy7.neL (s7 _ _ z.ex.choose_spec.1)) (by rw [List.length_map, List.length_take]; exact small1000 (by omega))
      · intro H6 z
        obtain ⟨s6, ys6, eD6, py6⟩ := z.fin
        rw [lt, List.take_length] at py6
        refine ⟨D6, _, rfl, .inl ⟨SqL.of eD6, fun q6 hq6 => ?_⟩⟩
        have s7 := same_new (o := .tup ys6) hq6
        have s27 := s25.trans (s6.trans s7)
        have hd7 : MT (upd H6 q6 (.tup ys6)) (.ref q6) (rows.map fun r => lsum p m others r others.length) := ⟨q6, ys6, rfl, upd_same, paired_mono (fun _ _ z => (z.same s7).ft) py6⟩
        generalize upd H6 q6 (.tup ys6) = H7 at s7 s27 hd7 ⊢
        refine ⟨_, rfl, _, rfl, _, rfl, .int p, .ref a, .ref g, rfl, chk_ok hp ⟨n, m, rows, others, hO.same s27, hne2, hol, hOL, by omega, hM.same s27, hR, by omega, by omega, fun y8 H8 s8 hy8 => ?_⟩⟩
        have em : (rows.map fun r => ((List.range m).map (colm others)).map fun c => (dotn n c r).fmod p) = rows.map fun r => lsum p m others r others.length := List.map_congr_left fun r _ => mp_eq p0 hOL hol
        rw [em] at hy8
        refine ⟨_, rfl, y8, .ref q6, rfl, eq_mat hy8 (hd7.same s8) (fun c hc => ?_) (by rw [List.length_map]; omega), k H8 (s27.trans s8)⟩
        obtain ⟨r, _, rfl⟩ := List.mem_map.mp hc
        rw [(lsum_ltr (x := r) p0 hOL others.length (Nat.le_refl _)).1]
        omega
end
end WU

set_option maxRecDepth 100000
set_option maxHeartbeats 8000000
namespace WU
open PySem PySem.Spec PyProof.Rows L2
section
variable {P : Program} {w : World} {K : PySem.W.Frag} {mg : Str → Option Value} {base : Heap} {S : Addr}
/-- an odd value, to the depth n; all its things are told by G and are not the hand at a -/
def OT (S a : Addr) : Nat → (Addr → Prop) → Hp → V → Prop
  | 0, _, _, _ => False
  | n + 1, G, H, v => flatV v = true ∨ ∃ p, v = .ref p ∧ p ≠ a ∧ G p ∧ ((∃ t b, ShAt S H p t b) ∨ ∃ xs, (H p = some (.lst xs) ∨ H p = some (.tup xs)) ∧ xs.length ≤ 3 ∧ ∀ x ∈ xs, OT S a n G H x)
theorem OT.go {a : Addr} {G G' : Addr → Prop} {H H' : Hp} (k : ∀ p, p ≠ a → G p → G' p ∧ ∀ o, H p = some o → H' p = some o) : ∀ {n : Nat} {v : V}, OT S a n G H v → OT S a n G' H' v
  | 0, _, h => h
  | n + 1, v, h => by
    rcases h with h | ⟨p, rfl, ne, g, h⟩
    · exact .inl h
    · obtain ⟨g', kk⟩ := k p ne g
      refine .inr ⟨p, rfl, ne, g', ?_⟩
      rcases h with ⟨t, b, dx, h⟩ | ⟨xs, h, hl, hx⟩
      · exact .inl ⟨t, b, dx, kk _ h⟩
      · exact .inr ⟨xs, h.imp (kk _) (kk _), hl, fun x hm => OT.go k (hx x hm)⟩
theorem OT.keep {a : Addr} {n : Nat} {G : Addr → Prop} {H H' : Hp} {v : V} (h : OT S a n G H v) (k : Keep a H H') : OT S a n G H' v := h.go fun p ne g => ⟨g, fun o e => k p o ne e⟩
theorem none_back {a p : Addr} {H H' : Hp} (k : Keep a H H') (ne : p ≠ a) (h : H' p = none) : H p = none := by
  cases e : H p with
  | none => rfl
  | some o =>
    rw [k p o ne e] at h
    cases h
theorem sh_nt {H : Hp} {p : Addr} {t b : Int} (C : ShC K mg S) (ct : PySem.W.kitOne K (.ref S) (.type "tuple") = some false) (h : ShAt S H p t b) : NTs K H (.ref p) := fun H' s => ⟨_, C.ty (h.same s), ct⟩
theorem flat_nt {H : Hp} {v : V} (h : flatV v = true) : NTs K H v := fun H' _ => by
  cases v with
  | non => exact ⟨_, .base .non, kit_ty (show kitB "NoneType" "tuple" = some false by decide +kernel)⟩
  | bl b => exact ⟨_, .base (.bl b), kit_ty (show kitB "bool" "tuple" = some false by decide +kernel)⟩
  | int i => exact ⟨_, .base (.int i), kit_ty (show kitB "int" "tuple" = some false by decide +kernel)⟩
  | str z => exact ⟨_, .base (.str z), kit_ty (show kitB "str" "tuple" = some false by decide +kernel)⟩
  | _ => cases h
theorem lst_nt {H : Hp} {p : Addr} {xs : List V} (e : H p = some (.lst xs)) : NTs K H (.ref p) := fun H' s => ⟨_, .base (.lst (s _ _ e)), kit_ty (show kitB "list" "tuple" = some false by decide +kernel)⟩
theorem flat_ts {H : Hp} {v : V} (h : flatV v = true) : TyS K H v := fun H' _ => by
  cases v with
  | non => exact ty3_non
  | bl b => exact ty3_bl b
  | int i => exact ty3_int i
  | str z => exact ty3_str z
  | _ => cases h
theorem ot_ts {a : Addr} {n : Nat} {G : Addr → Prop} {H : Hp} {v : V} (C : ShC K mg S) (h : OT S a n G H v) : TyS K H v := by
  cases n with
  | zero => exact h.elim
  | succ n =>
    rcases h with h | ⟨p, rfl, ne, g, h⟩
    · exact flat_ts h
    · rcases h with ⟨t, b, h⟩ | ⟨xs, h | h, hl, hx⟩
      · exact fun H' s => C.ty3 (h.same s)
      · exact fun H' s => ty3_lst (s _ _ h)
      · exact fun H' s => ty3_tup (s _ _ h)
theorem ot_row {a : Addr} {n : Nat} {G : Addr → Prop} {H : Hp} {v : V} (p m : Int) (C : ShC K mg S) (ct : PySem.W.kitOne K (.ref S) (.type "tuple") = some false) (h : OT S a n G H v) : ∃ b, RowB K p m H v b := by
  cases n with
  | zero => exact h.elim
  | succ n =>
    rcases h with h | ⟨q, rfl, ne, g, h⟩
    · exact ⟨_, .inl ⟨flat_nt h, rfl⟩⟩
    · rcases h with ⟨t, b, h⟩ | ⟨xs, h | h, hl, hx⟩
      · exact ⟨_, .inl ⟨sh_nt C ct h, rfl⟩⟩
      · exact ⟨_, .inl ⟨lst_nt h, rfl⟩⟩
      · exact ⟨_, .inr ⟨q, xs, rfl, SqT.of h, by omega, fun y hy => ot_ts C (hx y hy), rfl⟩⟩
theorem rows_ex {p m : Int} {H : Hp} : ∀ {xs : List V}, (∀ x ∈ xs, ∃ b, RowB K p m H x b) → ∃ bs, Paired (RowB K p m H) xs bs
  | [], _ => ⟨[], .nil⟩
  | x :: xs, h => by
    obtain ⟨b, hb⟩ := h x List.mem_cons_self
    obtain ⟨bs, hbs⟩ := rows_ex fun y hy => h y (List.mem_cons_of_mem _ hy)
    exact ⟨b :: bs, .cons hb hbs⟩
theorem ot_mat {a : Addr} {n : Nat} {G : Addr → Prop} {H : Hp} {v : V} (p m : Int) (C : ShC K mg S) (ct : PySem.W.kitOne K (.ref S) (.type "tuple") = some false) (h : OT S a n G H v) : ∃ b, MatB K p m H v b := by
  cases n with
  | zero => exact h.elim
  | succ n =>
    rcases h with h | ⟨q, rfl, ne, g, h⟩
    · exact ⟨_, .inl ⟨flat_nt h, rfl⟩⟩
    · rcases h with ⟨t, b, h⟩ | ⟨xs, h | h, hl, hx⟩
      · exact ⟨_, .inl ⟨sh_nt C ct h, rfl⟩⟩
      · exact ⟨_, .inl ⟨lst_nt h, rfl⟩⟩
      · obtain ⟨bs, hbs⟩ := rows_ex (p := p) (m := m) fun x hm => ot_row p m C ct (hx x hm)
        exact ⟨_, .inr ⟨q, xs, bs, rfl, SqT.of h, by omega, hbs, rfl⟩⟩
def spOT (S : Addr) (n : Nat) : Sp := fun vs H Q _ => ∃ (a d : Addr) (m : Int), vs = [.ref a, .int m] ∧ 0 ≤ m ∧ m < n ∧ HandAt H a d ∧ ∀ v H', OT S a n (fun p => H p = none) H' v → HandAt H' a d → Keep a H H' → Q v H'
theorem ok_OT {f fT fI : Addr} {fd fdT fdI : FuncData} {dI : List Value} (F : FnS K "_law_odd" sOdd f fd) (B : Blt2 mg) (C : ShC K mg S) (CT : Cal P w K mg base 1 "_law_take" fT fdT ["hand", "many"] spTake)
    (MK : Mk K S fI) (GI : FnOk P w K mg base (L2.CX P w) 2 fI fdI ["self", "top", "bottom"] (spSI S)) (bI : Binds K fdI ["self", "top", "bottom"] dI) (vI : Vals [.int 1] dI) (n : Nat)
    (CO : Cal P w K mg base (3 + n) "_law_odd" f fd ["hand", "depth"] (spOT S n)) : FnOk P w K mg base (L2.CX P w) (3 + n + 1) f fd ["hand", "depth"] (spOT S (n + 1)) := by
  refine F.ok scOdd (fun vs H Q E h => ?_) (fun cdv A outer s H vs Q E hr h => ?_)
  · obtain ⟨a, d, m, rfl, _⟩ := h
    rfl
  · obtain ⟨a, d, m, rfl, m0, m1, hH, k⟩ := h
    have nd := scOdd.nd
    have hr1 := hr.mono (show 1 ≤ 3 + n by omega)
    have hr3 := hr.mono (show 3 ≤ 3 + n by omega)
    refine ⟨_, (pss_cons (ps_set (i := 2) nd rfl (Or.inl rfl) (pe_cal CT hr1 (pa_cons (pv 0) (pa_cons pe_int pa_nil)) passU))
      (pss_cons (ps_if (PW.pt (pw_and (pt_cmpR op_gt (pv 1) pe_int (nomark _)) (pw_and1 (pt_cmpR op_gt (pv 2) pe_int (nomark _))))) (pss_cons (ps_setLc (i := 3) (own := [("k", 5)]) (g := gName 5) (by rfl) nd rfl rfl (sw_true rfl rfl rfl (by decide +kernel)) (pi_range1 rfl B.range (pa_cons (pe_cal CT hr1 (pa_cons (pv 0) (pa_cons pe_int pa_nil)) passU) pa_nil)) (blkOk_by (own := [("k", 5)]) (N := ["hand", "depth", "kind", "parts", "values", "k"]) (sc := defScope sOdd) (by decide +kernel)) (fun _ _ _ _ _ => pg_name (i := 5) nd rfl (Or.inl rfl)) (fun _ _ _ _ _ => pts_nil) (fun _ _ _ _ _ => (pe_cal CO hr (pa_cons (pv 0) (pa_cons (pe_op op_sub (pv 1) pe_int) pa_nil)) passU)))
      (pss_one (ps_ret (pe_ix ix_list (pe_lst (pa_cons (pv 3) (pa_cons (pe_callTy call_tuple_of (by rfl) B.tuple (by decide +kernel) (pa_cons (pv 3) pa_nil)) pa_nil))) (pe_op op_sub (pv 2) pe_int) (fun _ _ => rfl))))) pss_nil)
      (pss_cons (ps_set (i := 4) nd rfl (Or.inl rfl) (pe_lst (pa_cons pe_bl (pa_cons pe_bl (pa_cons pe_non (pa_cons pe_str (pa_cons pe_str (pa_cons pe_int (pa_cons pe_int (pa_cons (pe_un un_neg pe_int) (pa_cons pe_int (pa_cons pe_int (pa_cons pe_int (pa_cons pe_int (pa_cons (pe_op op_pow pe_int pe_int) (pa_cons (pe_un un_neg (pe_op op_pow pe_int pe_int)) (pa_cons (pe_tup pa_nil) (pa_cons (pe_lst pa_nil) (pa_cons (pe_make MK GI hr3 (by rfl) C.g bI vI passU (pa_cons pe_int pa_nil)) (pa_cons (pe_make MK GI hr3 (by rfl) C.g bI vI passU (pa_cons pe_int pa_nil)) (pa_cons (pe_make MK GI hr3 (by rfl) C.g bI vI passU (pa_cons pe_int pa_nil)) pa_nil)))))))))))))))))))))
      (pss_one (ps_ret (pe_ix ix_list (pv 4) (pe_cal CT hr1 (pa_cons (pv 0) (pa_cons pe_int pa_nil)) passU) (fun _ _ => rfl))))))), ?_⟩
    refine ⟨_, rfl, a, d, 9, rfl, by decide, hH, fun kind H1 r0 r1 hH1 k1 => ?_⟩
    have vals : ∀ w3 : Option V, tSeq (tAsg (tLst (tCons (tC (.bl true)) (tCons (tC (.bl false)) (tCons (tC .non) (tCons (tC (.str "")) (tCons (tC (.str "a1")) (tCons (tC (.int 0)) (tCons (tC (.int 1)) (tCons (tUn (rU fun i => .int (-i)) (tC (.int 1))) (tCons (tC (.int 2)) (tCons (tC (.int 7)) (tCons (tC (.int 31)) (tCons (tC (.int 37))
        (tCons (tOp (rI CPow fun i j => .int (i ^ j.toNat)) (tC (.int 10)) (tC (.int 30))) (tCons (tUn (rU fun i => .int (-i)) (tOp (rI CPow fun i j => .int (i ^ j.toNat)) (tC (.int 10)) (tC (.int 30)))) (tCons (tTup tNil) (tCons (tLst tNil)
        (tCons (tMake S (spSI S) [.int 1] E0 (tCons (tC (.int 7)) tNil)) (tCons (tMake S (spSI S) [.int 1] E0 (tCons (tC (.int 1)) tNil)) (tCons (tMake S (spSI S) [.int 1] E0 (tCons (tC (.int 0)) tNil)) tNil)))))))))))))))))))) (gName 4))
        (tRet (tOp (rIxL K) (tVar 4) (tCall spTake [] E0 (tCons (tVar 0) (tCons (tC (.int 19)) tNil))))) { nx := fun _ H' => Q .non H', rt := Q } [some (.ref a), some (.int m), some (.int kind), w3, none, none] H1 := by
      intro w3
      refine ⟨_, rfl, _, _, rfl, rfl, ⟨by decide, by decide, by decide⟩, _, _, rfl, rfl, ⟨by decide, by decide, by decide⟩, _, rfl, (by show 0 ≤ sizeLine; omega), fun T hT => ⟨(by show 0 ≤ sizeLine; omega), fun L hL => fun x1 y1 hx1 hy1 n1 => ?_⟩⟩
      have n0 := hH1.ne hT
      have h0 := hH1.new (o := .tup []) hT
      have n0' := h0.ne hL
      have h0' := h0.new (o := .lst []) hL
      have s0 : Same H1 (upd (upd H1 T (.tup [])) L (.lst [])) := (same_new hT).trans (same_new hL)
      have eT : upd (upd H1 T (.tup [])) L (.lst []) T = some (.tup []) := by rw [upd_ne (ne_of_none upd_same hL), upd_same]
      have eL : upd (upd H1 T (.tup [])) L (.lst []) L = some (.lst []) := upd_same
      have nx1 := h0'.ne hx1
      have kT : Keep a H (upd H1 T (.tup [])) := k1.trans (Keep.new hT)
      have kL : Keep a H (upd (upd H1 T (.tup [])) L (.lst [])) := kT.trans (Keep.new hL)
      have gT : H T = none := none_back k1 n0.1.symm hT
      have gL : H L = none := none_back kT n0'.1.symm hL
      have g1 : H x1 = none := none_back kL nx1.1.symm hx1
      refine sh_make hx1 hy1 (by decide) fun H2 sh1 s1 => ?_
      intro x2 y2 hx2 hy2 _
      have nx2 := (h0'.same s1).ne hx2
      have g2 : H x2 = none := none_back (kL.trans (Keep.of s1)) nx2.1.symm hx2
      refine sh_make hx2 hy2 (by decide) fun H3 sh2 s2 => ?_
      intro x3 y3 hx3 hy3 _
      have nx3 := ((h0'.same s1).same s2).ne hx3
      have g3 : H x3 = none := none_back ((kL.trans (Keep.of s1)).trans (Keep.of s2)) nx3.1.symm hx3
      refine sh_make hx3 hy3 (by decide) fun H4 sh3 s3 => ?_
      have s14 : Same (upd (upd H1 T (.tup [])) L (.lst [])) H4 := (s1.trans s2).trans s3
      have h4 := h0'.same s14
      refine ⟨(by show 19 ≤ sizeLine; decide), fun Z hZ => ?_⟩
      have nZ := h4.ne hZ
      refine ⟨_, rfl, _, rfl, a, d, 19, rfl, by decide, h4.new hZ, fun r H5 r0 r1 h5 k5 => ?_⟩
      have kz : Keep a H4 H5 := (Keep.new hZ).trans k5
      have all : ∀ v ∈ ([.bl true, .bl false, .non, .str "", .str "a1", .int 0, .int 1, .int (-1), .int 2, .int 7, .int 31, .int 37, .int (10 ^ (30 : Int).toNat), .int (-(10 ^ (30 : Int).toNat)), .ref T, .ref L, .ref x1, .ref x2, .ref x3] : List V), OT S a (n + 1) (fun p => H p = none) H5 v := by
        have fl : ∀ v, flatV v = true → OT S a (n + 1) (fun p => H p = none) H5 v := fun v h => .inl h
        have e1 : ∀ p, a ≠ p → H p = none → ShAt S H4 p 7 1 ∨ ShAt S H4 p 1 1 ∨ ShAt S H4 p 0 1 → OT S a (n + 1) (fun p => H p = none) H5 (.ref p) := fun p ne g h => by
          refine OT.keep (H := H4) (.inr ⟨p, rfl, ne.symm, g, .inl ?_⟩) kz
          rcases h with h | h | h
          · exact ⟨_, _, h⟩
          · exact ⟨_, _, h⟩
          · exact ⟨_, _, h⟩
        intro v hv
        simp only [List.mem_cons, List.not_mem_nil, or_false] at hv
        rcases hv with rfl | rfl | rfl | rfl | rfl | rfl | rfl | rfl | rfl | rfl | rfl | rfl | rfl | rfl | rfl | rfl | rfl | rfl | rfl
        · exact fl _ rfl
        · exact fl _ rfl
        · exact fl _ rfl
        · exact fl _ rfl
        · exact fl _ rfl
        · exact fl _ rfl
        · exact fl _ rfl
        · exact fl _ rfl
        · exact fl _ rfl
        · exact fl _ rfl
        · exact fl _ rfl
        · exact fl _ rfl
        · exact fl _ rfl
        · exact fl _ rfl
        · exact OT.keep (H := H4) (.inr ⟨_, rfl, n0.1.symm, gT, .inr ⟨[], .inr (s14 _ _ eT), (by decide), fun x hx => nomatch hx⟩⟩) kz
        · exact OT.keep (H := H4) (.inr ⟨_, rfl, n0'.1.symm, gL, .inr ⟨[], .inl (s14 _ _ eL), (by decide), fun x hx => nomatch hx⟩⟩) kz
        · exact e1 _ nx1.1 g1 (.inl ((sh1.same s2).same s3))
        · exact e1 _ nx2.1 g2 (.inr (.inl (sh2.same s3)))
        · exact e1 _ nx3.1 g3 (.inr (.inr sh3))
      obtain ⟨q, rfl⟩ : ∃ q : Nat, r = (q : Int) := ⟨r.toNat, by omega⟩
      have hq : q < 19 := by omega
      obtain ⟨v, hv⟩ : ∃ v, ([.bl true, .bl false, .non, .str "", .str "a1", .int 0, .int 1, .int (-1), .int 2, .int 7, .int 31, .int 37, .int (10 ^ (30 : Int).toNat), .int (-(10 ^ (30 : Int).toNat)), .ref T, .ref L, .ref x1, .ref x2, .ref x3] : List V)[q]? = some v := ⟨_, List.getElem?_eq_getElem (show q < 19 from hq)⟩
      have ez : H5 Z = some (.lst [.bl true, .bl false, .non, .str "", .str "a1", .int 0, .int 1, .int (-1), .int 2, .int 7, .int 31, .int 37, .int (10 ^ (30 : Int).toNat), .int (-(10 ^ (30 : Int).toNat)), .ref T, .ref L, .ref x1, .ref x2, .ref x3]) := k5 _ _ nZ.1.symm upd_same
      exact ⟨Z, _, _, v, rfl, rfl, SqL.of ez, atI_nat hv, k v H5 (all v (List.mem_of_getElem? hv)) h5 (k1.trans ((Keep.of (s0.trans s14)).trans kz))⟩
    refine ⟨_, rfl, _, _, rfl, rfl, _, rfl, iteD (fun hc => ⟨_, rfl, _, _, rfl, rfl, _, rfl, iteD (fun hd => ?_) (fun hd => ?_)⟩) (fun hc => ?_)⟩
    · refine ⟨_, rfl, a, d, 4, rfl, by decide, hH1, fun cnt H2 c0 c1 hH2 k2 => ⟨cnt, rfl, (by omega), (by omega), fun D hD => ?_⟩⟩
      obtain ⟨naD, ndD⟩ := hH2.ne hD
      refine lc_range (lo := 0) (n := cnt.toNat) (fun i H' => ∃ xs, H' D = some (.lst xs) ∧ xs.length = i ∧ (∀ x ∈ xs, OT S a n (fun p => H2 p = none ∧ p ≠ D) H' x) ∧ HandAt H' a d ∧ Keep a H2 H') ⟨[], upd_same, rfl, (fun x hx => nomatch hx), hH2.new hD, Keep.new hD⟩ ?_ ?_
      · rintro i H3 hi ⟨xs, e, hl, hx, h3, k3⟩
        refine ⟨rfl, _, rfl, _, rfl, _, _, rfl, rfl, a, d, _, rfl, (by omega), (by omega), h3, fun v H4 o h4 k4 => ⟨xs, k4 _ _ naD.symm e, small1000 (by omega), xs ++ [v], upd_same, (by rw [List.length_append, hl]; rfl), ?_, h4.put naD ndD, ?_⟩⟩
        · intro x hm
          rcases List.mem_append.mp hm with hm | hm
          · exact (hx x hm).go fun p ne ⟨g, nd⟩ => ⟨⟨g, nd⟩, fun ob eb => by rw [upd_ne nd]; exact k4 p ob ne eb⟩
          · rw [List.mem_singleton.mp hm]
            exact o.go fun p ne g => by
              have nd : p ≠ D := fun z => by rw [z, e] at g; cases g
              exact ⟨⟨none_back k3 ne g, nd⟩, fun ob eb => by rw [upd_ne nd]; exact eb⟩
        · intro b o hb hbo
          have nb : b ≠ D := ne_of_none hbo hD
          rw [upd_ne nb]
          exact k4 b o hb (k3 b o hb hbo)
      · rintro H3 ⟨xs, e, hl, hx, h3, k3⟩
        refine ⟨_, rfl, _, rfl, D, xs, rfl, .inl ⟨SqL.of e, fun T hT => ⟨(by show 2 ≤ sizeLine; decide), fun q hq => ?_⟩⟩⟩
        have nT := h3.ne hT
        have nq := (h3.new hT).ne hq
        have nDT : D ≠ T := ne_of_none e hT
        have nDq : D ≠ q := ne_of_none (show upd H3 T (.tup xs) D = some (.lst xs) by rw [upd_ne nDT]; exact e) hq
        have nTq : T ≠ q := ne_of_none (upd_same (H := H3) (a := T) (o := .tup xs)) hq
        have kk : Keep a H (upd (upd H3 T (.tup xs)) q (.lst [.ref D, .ref T])) := k1.trans (k2.trans (k3.trans ((Keep.new hT).trans (Keep.new hq))))
        have hh := (h3.new (o := .tup xs) hT).new (o := .lst [.ref D, .ref T]) hq
        have gD : H D = none := none_back (k1.trans k2) naD.symm hD
        have gT : H T = none := none_back ((k1.trans k2).trans k3) nT.1.symm hT
        have hl3 : xs.length ≤ 3 := by omega
        have its : ∀ x ∈ xs, OT S a n (fun p => H p = none) (upd (upd H3 T (.tup xs)) q (.lst [.ref D, .ref T])) x := fun x hm => (hx x hm).go fun p ne ⟨g, _⟩ => ⟨none_back (k1.trans k2) ne g, fun ob eb => by
          have e1 : upd H3 T (.tup xs) p = some ob := by rw [upd_ne (ne_of_none eb hT)]; exact eb
          rw [upd_ne (ne_of_none e1 hq)]
          exact e1⟩
        have hk : kind = 7 ∨ kind = 8 := by omega
        rcases hk with rfl | rfl
        · refine ⟨_, rfl, _, _, rfl, rfl, q, _, _, .ref D, rfl, rfl, SqL.of upd_same, rfl, k _ _ (.inr ⟨D, rfl, naD.symm, gD, .inr ⟨xs, .inl ?_, hl3, its⟩⟩) hh kk⟩
          rw [upd_ne nDq, upd_ne nDT]
          exact e
        · refine ⟨_, rfl, _, _, rfl, rfl, q, _, _, .ref T, rfl, rfl, SqL.of upd_same, rfl, k _ _ (.inr ⟨T, rfl, nT.1.symm, gT, .inr ⟨xs, .inr ?_, hl3, its⟩⟩) hh kk⟩
          rw [upd_ne nTq, upd_same]
    · exact vals _
    · exact vals _
end
end WU

set_option maxRecDepth 100000
set_option maxHeartbeats 16000000
namespace WU
open PySem PySem.Spec PyProof.Rows L2
def asgLc : Stmt → Scope
  | .Assign _ (.Call _ (.ListComp _ _ sc _ :: _) _ _) _ => sc
  | st => defScope st
/-- one more letter that the hand gave -/
theorem tk_step {a d D : Addr} {G H3 H4 : Hp} {p : Int} {ls : List Int} {r : Int} (hH : HandAt G a d) (hD : G D = none) (k3 : Keep a G H3) (e3 : H3 D = some (.lst (ls.map V.int))) (hl : ls.length ≤ 900) (a3 : Lets p ls) (h4 : HandAt H4 a d) (k4 : Keep a H3 H4) (x0 : 0 ≤ r) (x1 : r < p) :
    ∃ acc, H4 D = some (.lst acc) ∧ acc.length < sizeLine ∧ HandAt (upd H4 D (.lst (acc ++ [.int r]))) a d ∧ Keep a G (upd H4 D (.lst (acc ++ [.int r]))) ∧ ∃ ls' : List Int, upd H4 D (.lst (acc ++ [.int r])) D = some (.lst (ls'.map V.int)) ∧ ls'.length = ls.length + 1 ∧ Lets p ls' := by
  have naD := (hH.ne hD).1
  have ndD := (hH.ne hD).2
  refine ⟨_, k4 _ _ naD.symm e3, by rw [List.length_map]; exact small1000 (by omega), h4.put naD ndD, fun b o hb e => ?_, ls ++ [r], by rw [upd_same, List.map_append]; rfl, by rw [List.length_append]; rfl, fun l hl => ?_⟩
  · rw [upd_ne (ne_of_none e hD)]
    exact k4 _ _ hb (k3 _ _ hb e)
  · rcases List.mem_append.mp hl with h | h
    · exact a3 l h
    · rw [List.mem_singleton.mp h]
      exact ⟨x0, x1⟩
section
variable {P : Program} {w : World} {K : PySem.W.Frag} {mg : Str → Option Value} {base : Heap} {S : Addr}
/-- a pair for is_matrix -/
def PairOk (K : PySem.W.Frag) (p : Int) (H : Hp) (x : V) : Prop := ∃ (t : Addr) (one : V) (many : Int) (b : Bool), x = .ref t ∧ H t = some (.tup [one, .int many]) ∧ MatB K p many H one b
def spLaw (K : PySem.W.Frag) : Sp := fun vs H Q _ => ∃ (a : Addr) (ns : List Int), vs = [.ref a] ∧ SqL K H a (ns.map V.int) ∧ ns.length ≤ 63 ∧ ∀ H', Q (.bl true) H'
theorem scLaw : FnScope ["script", "hand", "p", "columns", "rows", "letters", "spanned", "row", "wide", "others", "places", "due", "bad", "one", "many", "found", "wrong", "which", "k"] ["script"] (defScope sLaw) := ⟨rfl, rfl, rfl, by decide +kernel, rfl, by decide +kernel, by decide +kernel⟩
theorem ok_Law {f fD fT fFd fLM fLS fSR fZR fPR fSm fWC fBd fOd fIM fLIM fLN fTd fI : Addr} {fd fdD fdT fdFd fdLM fdLS fdSR fdZR fdPR fdSm fdWC fdBd fdOd fdIM fdLIM fdLN fdTd fdI : FuncData} {dI : List Value} (F : FnS K "law" sLaw f fd) (B : Blt5 mg) (C : ShC K mg S) (ct : PySem.W.kitOne K (.ref S) (.type "tuple") = some false)
    (CD : Cal P w K mg base 1 "_law_draws" fD fdD ["script", "many"] (spDraws K 400)) (CT : Cal P w K mg base 1 "_law_take" fT fdT ["hand", "many"] spTake) (CFd : Cal P w K mg base 2 "_law_field" fFd fdFd ["hand"] spLFd)
    (CLM : Cal P w K mg base 2 "_law_matrix" fLM fdLM ["hand", "p", "rows", "columns"] spLM) (CLS : Cal P w K mg base 1 "_law_sum_of" fLS fdLS ["rows", "letters", "p", "columns"] spLS) (CSR : Cal P w K mg base 11 "_law_span_right" fSR fdSR ["p", "rows", "row", "columns"] spSR)
    (CZR : Cal P w K mg base 9 "_law_zero_right" fZR fdZR ["p", "rows", "columns"] spZRt) (CPR : Cal P w K mg base 9 "_law_products_right" fPR fdPR ["p", "rows", "letters", "others", "columns", "wide"] spPRt) (CSm : Cal P w K mg base 3 "_law_same" fSm fdSm ["found", "due"] (spSm 2))
    (CWC : Cal P w K mg base 8 "without_columns" fWC fdWC ["p", "rows", "places"] (spWC K)) (CBd : Cal P w K mg base 2 "_law_bad_matrix" fBd fdBd ["hand", "rows", "p"] (spBad K)) (COd : Cal P w K mg base 6 "_law_odd" fOd fdOd ["hand", "depth"] (spOT S 3))
    (CIM : Cal P w K mg base 6 "is_matrix" fIM fdIM ["value", "p", "columns"] (spMat2 K)) (CLIM : Cal P w K mg base 1 "_law_is_matrix" fLIM fdLIM ["value", "p", "columns"] (spMat2 K)) (CLN : Cal P w K mg base 6 "_law_no_field" fLN fdLN ["hand"] (spLN S))
    (CTd : Cal P w K mg base 10 "_law_told" fTd fdTd ["which", "p", "rows", "row", "columns"] (spTd K)) (MK : Mk K S fI) (GI : FnOk P w K mg base (L2.CX P w) 2 fI fdI ["self", "top", "bottom"] (spSI S)) (bI : Binds K fdI ["self", "top", "bottom"] dI) (vI : Vals [.int 1] dI) :
    FnOk P w K mg base CX0 12 f fd ["script"] (spLaw K) := by
  refine F.ok scLaw (fun vs H Q E h => ?_) (fun cdv A outer s H vs Q E hr h => ?_)
  · obtain ⟨a, ns, rfl, _⟩ := h
    rfl
  · obtain ⟨a0, ns, rfl, hS, hl, k⟩ := h
    have nd := scLaw.nd
    have hu := hr.units
    refine ⟨_, (pss_cons (ps_set (i := 1) nd rfl (Or.inr rfl) (pe_lst (pa_cons (pe_cal CD (hr.mono (by decide)) (pa_cons (pv 0) (pa_cons pe_int pa_nil)) passU) (pa_cons pe_int pa_nil))))
      (pss_cons (ps_set (i := 2) nd rfl (Or.inr rfl) (pe_cal CFd (hr.mono (by decide)) (pa_cons (pv 1) pa_nil) passU))
      (pss_cons (ps_set (i := 3) nd rfl (Or.inr rfl) (pe_cal CT (hr.mono (by decide)) (pa_cons (pv 1) (pa_cons pe_int pa_nil)) passU))
      (pss_cons (ps_set (i := 4) nd rfl (Or.inl rfl) (pe_cal CLM (hr.mono (by decide)) (pa_cons (pv 1) (pa_cons (pv 2) (pa_cons (pe_cal CT (hr.mono (by decide)) (pa_cons (pv 1) (pa_cons pe_int pa_nil)) passU) (pa_cons (pv 3) pa_nil)))) passU))
      (pss_cons (ps_set (i := 5) nd rfl (Or.inl rfl) (pe_callTy (tup_ofK (K := K)) (by rfl) B.tuple (by decide +kernel) (pa_cons (pe_lc (own := [("k", 18)]) (g := gName 18) (by rfl) nd (pi_range1 rfl B.range (pa_cons (pv 3) pa_nil)) (blkOk_by (own := [("k", 18)]) (N := ["script", "hand", "p", "columns", "rows", "letters", "spanned", "row", "wide", "others", "places", "due", "bad", "one", "many", "found", "wrong", "which", "k"]) (sc := defScope sLaw) (by decide +kernel)) (fun _ _ _ _ _ => (pg_name (i := 18) nd rfl (Or.inl rfl))) (fun _ _ _ _ _ => pts_nil) (fun _ _ _ _ _ => (pe_cal CT (hr.mono (by decide)) (pa_cons (pv 1) (pa_cons (pv 2) pa_nil)) passU))) pa_nil)))
      (pss_cons (ps_set (i := 6) nd rfl (Or.inl rfl) (pe_cal CLS (hr.mono (by decide)) (pa_cons (pv 4) (pa_cons (pe_lc (own := [("k", 18)]) (g := gName 18) (by rfl) nd (pi_tupK (K := K) (pv 4)) (blkOk_by (own := [("k", 18)]) (N := ["script", "hand", "p", "columns", "rows", "letters", "spanned", "row", "wide", "others", "places", "due", "bad", "one", "many", "found", "wrong", "which", "k"]) (sc := defScope sLaw) (by decide +kernel)) (fun _ _ _ _ _ => (pg_name (i := 18) nd rfl (Or.inl rfl))) (fun _ _ _ _ _ => pts_nil) (fun _ _ _ _ _ => (pe_cal CT (hr.mono (by decide)) (pa_cons (pv 1) (pa_cons (pv 2) pa_nil)) passU))) (pa_cons (pv 2) (pa_cons (pv 3) pa_nil)))) passU))
      (pss_cons (ps_for (passes_of rfl) rfl (pi_listK (K := K) (pe_lst (pa_cons (pv 5) (pa_cons (pv 6) (pa_cons (pe_op (op_repAK (K := K)) (pe_tup (pa_cons pe_int pa_nil)) (pv 3)) pa_nil))))) (pg_name (i := 7) nd rfl (Or.inl rfl)) (pss_one (ps_if (pt_not (pt_val (pe_cal CSR (hr.mono (by decide)) (pa_cons (pv 2) (pa_cons (pv 4) (pa_cons (pv 7) (pa_cons (pv 3) pa_nil)))) passU))) (pss_one (ps_ret pe_bl)) pss_nil)))
      (pss_cons (ps_set (i := 8) nd rfl (Or.inl rfl) (pe_cal CT (hr.mono (by decide)) (pa_cons (pv 1) (pa_cons pe_int pa_nil)) passU))
      (pss_cons (ps_set (i := 9) nd rfl (Or.inl rfl) (pe_cal CLM (hr.mono (by decide)) (pa_cons (pv 1) (pa_cons (pv 2) (pa_cons (pv 3) (pa_cons (pv 8) pa_nil)))) passU))
      (pss_cons (ps_if (PW.pt (pw_or (pt_not (pt_val (pe_cal CZR (hr.mono (by decide)) (pa_cons (pv 2) (pa_cons (pv 4) (pa_cons (pv 3) pa_nil))) passU))) (pw_or1 (pt_not (pt_val (pe_cal CPR (hr.mono (by decide)) (pa_cons (pv 2) (pa_cons (pv 4) (pa_cons (pv 5) (pa_cons (pv 9) (pa_cons (pv 3) (pa_cons (pv 8) pa_nil)))))) passU)))))) (pss_one (ps_ret pe_bl)) pss_nil)
      (pss_cons (ps_set (i := 10) nd rfl (Or.inr rfl) (pe_lc (own := [("k", 18)]) (g := gName 18) (by rfl) nd (pi_range1 rfl B.range (pa_cons (pv 3) pa_nil)) (blkOk_by (own := [("k", 18)]) (N := ["script", "hand", "p", "columns", "rows", "letters", "spanned", "row", "wide", "others", "places", "due", "bad", "one", "many", "found", "wrong", "which", "k"]) (sc := defScope sLaw) (by decide +kernel)) (fun _ _ _ _ _ => (pg_name (i := 18) nd rfl (Or.inl rfl))) (fun _ _ _ _ _ => pts_one (pt_cmpR op_eq (pe_cal CT (hr.mono (by decide)) (pa_cons (pv 1) (pa_cons pe_int pa_nil)) passU) pe_int (nomark _))) (fun _ _ _ _ _ => (pv 18))))
      (pss_cons (ps_set (i := 11) nd rfl (Or.inl rfl) (pe_callTy (tup_ofK (K := K)) (by rfl) B.tuple (by decide +kernel) (pa_cons (pe_lc (own := [("row", 7)]) (g := gName 7) (by rfl) nd (pi_tupK (K := K) (pv 4)) (blkOk_by (own := [("row", 7)]) (N := ["script", "hand", "p", "columns", "rows", "letters", "spanned", "row", "wide", "others", "places", "due", "bad", "one", "many", "found", "wrong", "which", "k"]) (sc := defScope sLaw) (by decide +kernel)) (fun _ _ _ _ _ => (pg_name (i := 7) nd rfl (Or.inr rfl))) (fun _ _ _ _ _ => pts_nil) (fun _ _ _ _ _ => (pe_callTy (tup_ofK (K := K)) (by rfl) B.tuple (by decide +kernel) (pa_cons (pe_lc (own := [("k", 18)]) (g := gName 18) (by rfl) nd (pi_range1 rfl B.range (pa_cons (pv 3) pa_nil)) (blkOk_by (own := [("k", 18)]) (N := ["script", "hand", "p", "columns", "rows", "letters", "spanned", "row", "wide", "others", "places", "due", "bad", "one", "many", "found", "wrong", "which", "k"]) (sc := relS (asgLc ((defBody sLaw).getD 11 (.Pass ⟨0, 0, 0, 0⟩))) (defScope sLaw)) (by decide +kernel)) (fun _ _ _ _ _ => (pg_name (i := 18) nd rfl (Or.inl rfl))) (fun _ _ _ _ _ => pts_one (pt_cmpR (op_notInK (K := K)) (pv 18) (pv 10) rfl)) (fun _ _ _ _ _ => (pe_ix (ix_tupK (K := K)) (pv 7) (pv 18) (fun _ _ => rfl)))) pa_nil)))) pa_nil)))
      (pss_cons (ps_if (PW.pt (pw_or (pt_not (pt_val (pe_cal CSm (hr.mono (by decide)) (pa_cons (pe_cal CWC (hr.mono (by decide)) (pa_cons (pv 2) (pa_cons (pv 4) (pa_cons (pv 10) pa_nil))) passU) (pa_cons (pv 11) pa_nil)) passU))) (pw_or1 (pt_not (pt_val (pe_cal CSm (hr.mono (by decide)) (pa_cons (pe_cal CWC (hr.mono (by decide)) (pa_cons (pv 2) (pa_cons (pv 4) (pa_cons (pe_callTy (tup_ofK (K := K)) (by rfl) B.tuple (by decide +kernel) (pa_cons (pv 10) pa_nil)) pa_nil))) passU) (pa_cons (pv 11) pa_nil)) passU)))))) (pss_one (ps_ret pe_bl)) pss_nil)
      (pss_cons (ps_set (i := 12) nd rfl (Or.inl rfl) (pe_cal CBd (hr.mono (by decide)) (pa_cons (pv 1) (pa_cons (pv 4) (pa_cons (pv 2) pa_nil))) passU))
      (pss_cons (ps_for (passes_of rfl) rfl (pi_listK (K := K) (pe_lst (pa_cons (pe_tup (pa_cons (pv 4) (pa_cons (pv 3) pa_nil))) (pa_cons (pe_tup (pa_cons (pv 4) (pa_cons (pe_op op_add (pv 3) pe_int) pa_nil))) (pa_cons (pe_tup (pa_cons (pv 12) (pa_cons (pv 3) pa_nil))) (pa_cons (pe_tup (pa_cons (pe_cal COd (hr.mono (by decide)) (pa_cons (pv 1) (pa_cons pe_int pa_nil)) passU) (pa_cons (pe_cal CT (hr.mono (by decide)) (pa_cons (pv 1) (pa_cons pe_int pa_nil)) passU) pa_nil))) (pa_cons (pe_tup (pa_cons (pe_tup pa_nil) (pa_cons pe_int pa_nil))) (pa_cons (pe_tup (pa_cons (pe_tup (pa_cons (pe_tup (pa_cons (pe_make MK GI (hr.mono (by decide)) (by rfl) C.g bI vI passU (pa_cons pe_int pa_nil)) pa_nil)) pa_nil)) (pa_cons pe_int pa_nil))) pa_nil)))))))) (pg_tup rfl (pgs_cons (pg_name (i := 13) nd rfl (Or.inl rfl)) (pgs_cons (pg_name (i := 14) nd rfl (Or.inl rfl)) pgs_nil))) (pss_cons (ps_set (i := 15) nd rfl (Or.inl rfl) (pe_cal CIM (hr.mono (by decide)) (pa_cons (pv 13) (pa_cons (pv 2) (pa_cons (pv 14) pa_nil))) passU))
      (pss_one (ps_if (PW.pt (pw_or (pt_not (pt_val (pe_callB (isiK (K := K)) (by rfl) B.isi (by decide +kernel) (pa_cons (pv 15) (pa_cons (pe_bltn (v := .ty "bool") (by rfl) B.bool (by decide +kernel) rfl) pa_nil))))) (pw_or1 (pt_cmpR op_ne (pv 15) (pe_cal CLIM (hr.mono (by decide)) (pa_cons (pv 13) (pa_cons (pv 2) (pa_cons (pv 14) pa_nil))) passU) (nomark _))))) (pss_one (ps_ret pe_bl)) pss_nil))))
      (pss_cons (ps_set (i := 16) nd rfl (Or.inl rfl) (pe_cal CLN (hr.mono (by decide)) (pa_cons (pv 1) pa_nil) passU))
      (pss_cons (ps_for (passes_of rfl) rfl (pi_range1 rfl B.range (pa_cons pe_int pa_nil)) (pg_name (i := 17) nd rfl (Or.inl rfl)) (pss_cons (ps_if (PW.pt (pw_and (pt_cmpR op_eq (pv 17) pe_int (nomark _)) (pw_and1 (pt_cmpR op_eq (pv 3) pe_int (nomark _))))) (pss_one ps_continue) pss_nil)
      (pss_cons (ps_if (pt_cmpR (op_neS (K := K) hu) (pe_cal CTd (hr.mono (by decide)) (pa_cons (pv 17) (pa_cons (pv 2) (pa_cons (pv 12) (pa_cons (pv 5) (pa_cons (pv 3) pa_nil))))) passU) (pe_lst (pa_cons pe_str (pa_cons (pv 12) pa_nil))) (nomark _)) (pss_one (ps_ret pe_bl)) pss_nil)
      (pss_one (ps_if (pt_cmpR (op_neS (K := K) hu) (pe_cal CTd (hr.mono (by decide)) (pa_cons (pv 17) (pa_cons (pv 16) (pa_cons (pv 12) (pa_cons (pv 5) (pa_cons (pv 3) pa_nil))))) passU) (pe_lst (pa_cons pe_str (pa_cons (pv 16) pa_nil))) (nomark _)) (pss_one (ps_ret pe_bl)) pss_nil)))))
      (pss_one (ps_ret pe_bl))))))))))))))))))), ?_⟩
    refine ⟨_, rfl, a0, ns, rfl, hS, hl, fun d ds H1 s1 nd1 e1 nn ln => ⟨(by show 2 ≤ sizeLine; decide), fun a ha => ?_⟩⟩
    have hH1 : HandAt (upd H1 a (.lst [.ref d, .int 0])) a d := ⟨ds, 0, upd_same, by rw [upd_ne (ne_of_none e1 ha)]; exact e1, nn, Int.le_refl 0⟩
    generalize upd H1 a (.lst [.ref d, .int 0]) = G1 at hH1 ⊢
    refine ⟨_, rfl, a, d, rfl, hH1, fun p G2 hp hH2 k2 => ?_⟩
    have hb := fld_le hp
    have p0 := prime_pos hp
    refine ⟨_, rfl, a, d, 8, rfl, by decide, hH2, fun cI G3 c0 c1 hH3 k3 => ?_⟩
    obtain ⟨n, rfl⟩ : ∃ n : Nat, cI = (n : Int) := ⟨cI.toNat, by omega⟩
    refine ⟨_, rfl, _, rfl, _, rfl, a, d, 6, rfl, by decide, hH3, fun mI G4 m0 m1 hH4 k4 => ?_⟩
    obtain ⟨m, rfl⟩ : ∃ m : Nat, mI = (m : Int) := ⟨mI.toNat, by omega⟩
    refine ⟨_, rfl, a, d, p, m, n, rfl, hH4, hp, by omega, by omega, fun rv rows G5 hM5 hml hR hH5 k5 => ?_⟩
    have hn7 : n ≤ 8 := by omega
    have hm5 : rows.length ≤ 6 := by omega
    -- letters
    refine ⟨_, rfl, (n : Int), rfl, by omega, by omega, fun D hD => lc_range (lo := 0) (n := n) (fun j H' => HandAt H' a d ∧ Keep a G5 H' ∧ ∃ ls : List Int, H' D = some (.lst (ls.map V.int)) ∧ ls.length = j ∧ Lets p ls)
      ⟨hH5.new hD, Keep.new hD, [], upd_same, rfl, fun l hl => nomatch hl⟩ ?_ ?_⟩
    · rintro j H3 hj ⟨hH3, k3, ls, e3, l3, a3⟩
      refine ⟨rfl, _, rfl, _, rfl, a, d, p, rfl, by omega, hH3, fun r H4 x0 x1 hH4 k4 => ?_⟩
      subst l3
      exact tk_step hH5 hD k3 e3 (by omega) a3 hH4 k4 x0 x1
    rintro G6 ⟨hH6, k6, ls, e6, l6, a6⟩
    refine ⟨D, _, rfl, .inl ⟨SqL.of e6, fun q hq => ?_⟩⟩
    have hx7 : FQ (upd G6 q (.tup (ls.map V.int))) (.ref q) ls := FQ.new
    have hH7 := hH6.new (o := .tup (ls.map V.int)) hq
    have hM7 := hM5.keep hH5 (k6.trans (Keep.new (o := .tup (ls.map V.int)) hq))
    generalize upd G6 q (.tup (ls.map V.int)) = G7 at hx7 hH7 hM7 ⊢
    have hlL : Ltr p n ls := ⟨l6, a6⟩
    -- spanned
    obtain ⟨c, ts, rfl, hc, hts⟩ := id hM7
    have lt := paired_len hts
    refine ⟨_, rfl, _, rfl, c, rfl, ⟨_, SqT.of hc⟩, fun D hD => lc_tup (K := K) (a := c) (xs := ts) (fun j H' => HandAt H' a d ∧ Keep a G7 H' ∧ ∃ ls : List Int, H' D = some (.lst (ls.map V.int)) ∧ ls.length = j ∧ Lets p ls)
      ⟨hH7.new hD, Keep.new hD, [], upd_same, rfl, fun l hl => nomatch hl⟩ (fun j H' _ ⟨_, k, _⟩ => SqT.of (k _ _ (tup_ne hH7 hc) hc)) ?_ ?_⟩
    · rintro j x H3 hx ⟨hH3, k3, ls, e3, l3, a3⟩
      have hj := (List.getElem?_eq_some_iff.mp hx).1
      refine ⟨rfl, _, rfl, _, rfl, a, d, p, rfl, by omega, hH3, fun r H4 x0 x1 hH4 k4 => ?_⟩
      subst l3
      exact tk_step hH7 hD k3 e3 (by omega) a3 hH4 k4 x0 x1
    rintro G8 ⟨hH8, k8, cs, e8, l8, a8⟩
    have hM8 := hM7.keep hH7 k8
    have hx8 := hx7.keep hH7 k8
    refine ⟨_, rfl, _, rfl, p, n, .ref c, D, rows, cs, rfl, hM8.mt, .inl e8, hp, hR, a8, by omega, by omega, by omega, fun y G9 s9 hy => ?_⟩
    have hM9 := hM8.same s9
    have hx9 := hx8.same s9
    have hH9 := hH8.same s9
    obtain ⟨sp, rfl, hsp⟩ := id hy
    -- the three rows
    refine ⟨_, rfl, _, rfl, (by show 1 ≤ sizeLine; decide), fun t ht => ⟨_, rfl, t, n, [.int 0], rfl, rfl, upd_same, (by intro z; cases z), by omega, (by decide), fun z G10 s10 ez => ⟨(by show 3 ≤ sizeLine; decide), fun Z hZ => ?_⟩⟩⟩
    have s11 := ((same_new (o := .tup [.int 0]) ht).trans s10).trans (same_new (o := .lst [.ref q, .ref sp, .ref z]) hZ)
    have eZ : upd G10 Z (.lst [.ref q, .ref sp, .ref z]) Z = some (.lst [.ref q, .ref sp, .ref z]) := upd_same
    have ez2 := same_new (o := .lst [.ref q, .ref sp, .ref z]) hZ _ _ ez
    rw [rep_int] at ez2
    generalize upd G10 Z (.lst [.ref q, .ref sp, .ref z]) = G11 at s11 eZ ez2 ⊢
    have hM11 := hM9.same s11
    have hx11 := hx9.same s11
    have hH11 := hH9.same s11
    have three : ∀ x ∈ ([.ref q, .ref sp, .ref z] : List V), ∃ r, FT G11 x r ∧ Ltr p n r := by
      intro x hx
      simp only [List.mem_cons, List.not_mem_nil, or_false] at hx
      rcases hx with rfl | rfl | rfl
      · exact ⟨ls, hx11.ft, hlL⟩
      · exact ⟨_, (hy.same s11).ft, lsum_ltr p0 hR _ (Nat.le_refl _)⟩
      · exact ⟨zer n, ⟨z, rfl, .inl ez2⟩, zer_ltr p0⟩
    refine ⟨Z, rfl, ⟨_, SqL.of eZ⟩, for_it (walk_list (xs := [.ref q, .ref sp, .ref z])) (fun i σ H' => ∃ rw', σ = [some (.ref a0), some (.ref a), some (.int p), some (.int n), some (.ref c), some (.ref q), some (.ref sp), rw', none, none, none, none, none, none, none, none, none, none, none] ∧ Same G11 H')
      ⟨none, rfl, Same.refl _⟩ (fun i σ H' _ ⟨rw', _, s⟩ => SqL.of (s _ _ eZ)) ?_ ?_⟩
    · rintro i x σ H2 H3 hi ⟨rw', rfl, s2⟩ ⟨rfl, hx⟩
      obtain ⟨r, hr1, hr2⟩ := three x (List.mem_of_getElem? hx)
      exact ⟨_, rfl, _, rfl, _, rfl, _, rfl, p, n, .ref c, x, rows, r, rfl, (hM11.same s2).mt, hr1.same s2, hp, hR, hr2, by omega, by omega, fun H6 s6 => ⟨_, rfl, iteF ⟨_, rfl, s2.trans s6⟩⟩⟩
    rintro σ G12 ⟨rw', rfl, s12⟩
    have hM12 := hM11.same s12
    have hx12 := hx11.same s12
    have hH12 := hH11.same s12
    -- wide, others
    refine ⟨_, rfl, a, d, 5, rfl, by decide, hH12, fun wI G13 w0 w1 hH13 k13 => ?_⟩
    obtain ⟨wd, rfl⟩ : ∃ wd : Nat, wI = (wd : Int) := ⟨wI.toNat, by omega⟩
    have hM13 := hM12.keep hH12 k13
    have hx13 := hx12.keep hH12 k13
    refine ⟨_, rfl, _, rfl, _, rfl, _, rfl, a, d, p, n, wd, rfl, hH13, hp, by omega, by omega, fun ov others G14 hO hol hOL hH14 k14 => ?_⟩
    have hM14 := hM13.keep hH13 k14
    have hx14 := hx13.keep hH13 k14
    refine ⟨_, rfl, _, rfl, _, rfl, p, n, .ref c, rows, rfl, hM14.mt, hp, hR, by omega, by omega, fun G15 s15 => ⟨_, rfl, iteF ?_⟩⟩
    refine ⟨_, rfl, _, rfl, _, rfl, _, rfl, _, rfl, _, rfl, p, n, wd, .ref c, .ref q, ov, rows, others, ls, rfl, (hM14.same s15).mt, (hx14.same s15).ft, (hO.same s15).mt, hp, hR, l6, hol, hOL, by omega, by omega, by omega, fun G16 s16 => ⟨_, rfl, iteF ?_⟩⟩
    have s156 := s15.trans s16
    have hM16 := hM14.same s156
    have hx16 := hx14.same s156
    have hH16 := hH14.same s156
    -- places
    refine ⟨_, rfl, (n : Int), rfl, by omega, by omega, fun D hD => lc_range (lo := 0) (n := n) (fun j H' => HandAt H' a d ∧ Keep a G16 H' ∧ ∃ ps : List Int, H' D = some (.lst (ps.map V.int)) ∧ ps.length ≤ j)
      ⟨hH16.new hD, Keep.new hD, [], upd_same, Nat.zero_le _⟩ ?_ ?_⟩
    · rintro j H3 hj ⟨hH3, k3, ps, e3, l3⟩
      have naD := (hH16.ne hD).1
      have ndD := (hH16.ne hD).2
      refine ⟨rfl, _, rfl, a, d, 3, rfl, by decide, hH3, fun r H4 x0 x1 hH4 k4 => ⟨rfl, _, rfl, iteD (fun _ => ⟨_, rfl, ?_⟩) (fun _ => ⟨hH4, k3.trans k4, ps, k4 _ _ naD.symm e3, by omega⟩)⟩⟩
      refine ⟨_, k4 _ _ naD.symm e3, by rw [List.length_map]; exact small1000 (by omega), hH4.put naD ndD, fun b o hb e => ?_, ps ++ [0 + (j : Int)], by rw [upd_same, List.map_append]; rfl, by rw [List.length_append]; exact Nat.succ_le_succ l3⟩
      rw [upd_ne (ne_of_none e hD)]
      exact k4 _ _ hb (k3 _ _ hb e)
    rintro G17 ⟨hH17, k17, ps, e17, l17⟩
    have hM17 := hM16.keep hH16 k17
    have hx17 := hx16.keep hH16 k17
    -- due
    have naD := (hH16.ne hD).1
    obtain ⟨c', ts17, ec, hc17, hts17⟩ := id hM17
    cases ec
    have lt17 := paired_len hts17
    refine ⟨_, rfl, c, rfl, ⟨_, SqT.of hc17⟩, fun D2 hD2 => lc_tup (K := K) (a := c) (xs := ts17) (fun i H' => Bld FQ G17 D2 ((rows.take i).map fun r => ((List.range n).filter fun (k : Nat) => decide ((k : Int) ∉ ps)).map (at0 r)) H') (Bld.start hD2) (fun i H' _ b => SqT.of (b.same _ _ hc17)) ?_ ?_⟩
    · intro i x H1 hx b
      obtain ⟨r, hr0, hxr⟩ := paired_at hts17 hx
      obtain ⟨g, rfl, hg⟩ := hxr.same b.same
      have hrl := (hR r (List.mem_of_getElem? hr0)).1
      have e1 := b.same _ _ e17
      refine ⟨rfl, _, rfl, (n : Int), rfl, by omega, by omega, fun D3 hD3 => lc_range (lo := 0) (n := n) (fun j H' => Bld FI H1 D3 (((List.range j).filter fun (k : Nat) => decide ((k : Int) ∉ ps)).map (at0 r)) H') (Bld.start hD3) ?_ ?_⟩
      · intro j H2 hj b2
        rw [Int.zero_add]
        refine ⟨rfl, _, rfl, _, rfl, D, _, rfl, .inl (SqL.of (b2.same _ _ e1)), rfl, flat_ints _, _, rfl, ?_⟩
        rw [inV_ints]
        have es : ((List.range (j + 1)).filter fun (k : Nat) => decide ((k : Int) ∉ ps)).map (at0 r) = ((List.range j).filter fun (k : Nat) => decide ((k : Int) ∉ ps)).map (at0 r) ++ (if decide ((j : Int) ∉ ps) = true then [at0 r j] else []) := by
          rw [List.range_succ, List.filter_append, List.map_append, List.filter_cons]
          split <;> rfl
        rw [es]
        show if (!decide ((j : Int) ∈ ps)) = true then _ else _
        by_cases h : (j : Int) ∈ ps
        · rw [decide_eq_true h, decide_eq_false (fun z : (j : Int) ∉ ps => z h)]
          refine iteF ?_
          rw [if_neg (by decide), List.append_nil]
          exact b2
        · rw [decide_eq_false h, decide_eq_true h]
          refine iteT ⟨_, rfl, _, rfl, g, _, _, _, rfl, rfl, SqT.of (b2.same _ _ hg), atI_nat (take_map_at n (r := r) (i := j) (by rw [hrl]; exact hj)), ?_⟩
          rw [if_pos rfl]
          refine b2.put (y := .int (at0 r j)) (z := at0 r j) stab_FI hD3 (Same.refl _) rfl (by intro z; cases z) (small1000 ?_)
          rw [List.length_map]
          exact Nat.le_trans (List.length_filter_le _ _) (by rw [List.length_range]; omega)
      · intro H2 b2
        obtain ⟨s2, ys, eD, py⟩ := b2.fin
        rw [fi_map py] at eD
        refine ⟨D3, _, rfl, .inl ⟨SqL.of eD, fun q hq => ?_⟩⟩
        rw [map_take_succ hr0]
        exact b.put stab_FQ hD2 (s2.trans (same_new hq)) FQ.new (ref_new (s2 _ _ b.ex.choose_spec.1) hq) (by rw [List.length_map, List.length_take]; exact small1000 (by omega))
    intro G18 b18
    obtain ⟨s18, ys18, eD18, py18⟩ := b18.fin
    rw [lt17, List.take_length] at py18
    refine ⟨D2, _, rfl, .inl ⟨SqL.of eD18, fun du hdu => ?_⟩⟩
    have s19 : Same G17 (upd G18 du (.tup ys18)) := s18.trans (same_new hdu)
    have hdue : MT (upd G18 du (.tup ys18)) (.ref du) (rows.map fun r => ((List.range n).filter fun (k : Nat) => decide ((k : Int) ∉ ps)).map (at0 r)) := ⟨du, ys18, rfl, upd_same, paired_mono (fun _ _ z => (z.same (same_new hdu)).ft) py18⟩
    generalize upd G18 du (.tup ys18) = G19 at s19 hdue ⊢
    have hM19 := hM17.same s19
    have hx19 := hx17.same s19
    have hH19 := hH17.same s19
    have ew : (rows.map fun r => ((List.range (wid rows)).filter fun (k : Nat) => decide ((k : Int) ∉ ps)).map (at0 r)) = rows.map fun r => ((List.range n).filter fun (k : Nat) => decide ((k : Int) ∉ ps)).map (at0 r) := by
      cases rows with
      | nil => rfl
      | cons r t =>
        have : wid (r :: t) = n := (hR r List.mem_cons_self).1
        rw [this]
    have hsm1 : ∀ b ∈ (rows.map fun r => ((List.range n).filter fun (k : Nat) => decide ((k : Int) ∉ ps)).map (at0 r)), b.length ≤ 10000 := fun b hb => by
      obtain ⟨r, _, rfl⟩ := List.mem_map.mp hb
      rw [List.length_map]
      exact Nat.le_trans (List.length_filter_le _ _) (by rw [List.length_range]; omega)
    have hsm2 : (rows.map fun r => ((List.range n).filter fun (k : Nat) => decide ((k : Int) ∉ ps)).map (at0 r)).length ≤ 10000 := by
      rw [List.length_map]
      omega
    refine ⟨_, rfl, _, rfl, _, rfl, .int p, .ref c, .ref D, rfl, chk_ok hp ⟨n, rows, D, ps, rfl, .inl (s19 _ _ e17), hM19.mt, hR, by omega, by omega, fun y G20 s20 hy => ?_⟩⟩
    rw [ew] at hy
    refine ⟨_, rfl, y, .ref du, rfl, eq_mat hy (hdue.same s20) hsm1 hsm2, _, rfl, iteF ?_⟩
    refine ⟨_, rfl, _, rfl, _, rfl, D, _, rfl, .inl ⟨SqL.of (s20 _ _ (s19 _ _ e17)), fun tp htp => ?_⟩⟩
    have s21 := s20.trans (same_new (o := .tup (ps.map V.int)) htp)
    refine ⟨.int p, .ref c, .ref tp, rfl, chk_ok hp ⟨n, rows, tp, ps, rfl, .inr (.inl upd_same), (hM19.same s21).mt, hR, by omega, by omega, fun y G22 s22 hy => ?_⟩⟩
    rw [ew] at hy
    have s1922 := s21.trans s22
    refine ⟨_, rfl, y, .ref du, rfl, eq_mat hy (hdue.same s1922) hsm1 hsm2, _, rfl, iteF ?_⟩
    have hM22 := hM19.same s1922
    have hx22 := hx19.same s1922
    have hH22 := hH19.same s1922
    -- bad
    refine ⟨_, rfl, _, rfl, _, rfl, a, d, .ref c, p, n, rows, rfl, hH22, hM22, hp, hR, by omega, by omega, fun bv e G23 hbv hsm hmd hH23 k23 => ?_⟩
    have hM23 := hM22.keep hH22 k23
    -- the pairs
    refine ⟨_, rfl, _, rfl, (by show 2 ≤ sizeLine; decide), fun t1 ht1 => ?_⟩
    have n1 := hH23.ne ht1
    have kt1 : Keep a G23 (upd G23 t1 (.tup [.ref c, .int n])) := Keep.new ht1
    have et1 : upd G23 t1 (.tup [.ref c, .int n]) t1 = some (.tup [.ref c, .int n]) := upd_same
    have hHa := hH23.new (o := .tup [.ref c, .int n]) ht1
    generalize upd G23 t1 (.tup [.ref c, .int n]) = Ga at kt1 et1 hHa ⊢
    refine ⟨_, rfl, _, rfl, _, _, rfl, rfl, (by show 2 ≤ sizeLine; decide), fun t2 ht2 => ?_⟩
    have n2 := hHa.ne ht2
    have kt2 : Keep a Ga (upd Ga t2 (.tup [.ref c, .int ((n : Int) + 1)])) := Keep.new ht2
    have et2 : upd Ga t2 (.tup [.ref c, .int ((n : Int) + 1)]) t2 = some (.tup [.ref c, .int ((n : Int) + 1)]) := upd_same
    have hHb := hHa.new (o := .tup [.ref c, .int ((n : Int) + 1)]) ht2
    generalize upd Ga t2 (.tup [.ref c, .int ((n : Int) + 1)]) = Gb at kt2 et2 hHb ⊢
    refine ⟨_, rfl, _, rfl, (by show 2 ≤ sizeLine; decide), fun t3 ht3 => ?_⟩
    have n3 := hHb.ne ht3
    have kt3 : Keep a Gb (upd Gb t3 (.tup [bv, .int n])) := Keep.new ht3
    have et3 : upd Gb t3 (.tup [bv, .int n]) t3 = some (.tup [bv, .int n]) := upd_same
    have hHc := hHb.new (o := .tup [bv, .int n]) ht3
    generalize upd Gb t3 (.tup [bv, .int n]) = Gc at kt3 et3 hHc ⊢
    refine ⟨_, rfl, a, d, 2, rfl, by decide, by decide, hHc, fun od Gd hod hHd kd => ?_⟩
    refine ⟨_, rfl, a, d, 3, rfl, by decide, hHd, fun r4 Ge x0 x1 hHe ke => ⟨(by show 2 ≤ sizeLine; decide), fun t4 ht4 => ?_⟩⟩
    have n4 := hHe.ne ht4
    have kt4 : Keep a Ge (upd Ge t4 (.tup [od, .int r4])) := Keep.new ht4
    have et4 : upd Ge t4 (.tup [od, .int r4]) t4 = some (.tup [od, .int r4]) := upd_same
    have hHf := hHe.new (o := .tup [od, .int r4]) ht4
    generalize upd Ge t4 (.tup [od, .int r4]) = Gf at kt4 et4 hHf ⊢
    refine ⟨(by show 0 ≤ sizeLine; decide), fun z5 hz5 => ?_⟩
    have kz5 : Same Gf (upd Gf z5 (.tup [])) := same_new hz5
    have ez5 : upd Gf z5 (.tup []) z5 = some (.tup []) := upd_same
    generalize upd Gf z5 (.tup []) = Gg at kz5 ez5 ⊢
    refine ⟨(by show 2 ≤ sizeLine; decide), fun t5 ht5 => ?_⟩
    have kt5 : Same Gg (upd Gg t5 (.tup [.ref z5, .int 9])) := same_new ht5
    have et5 : upd Gg t5 (.tup [.ref z5, .int 9]) t5 = some (.tup [.ref z5, .int 9]) := upd_same
    generalize upd Gg t5 (.tup [.ref z5, .int 9]) = Gh at kt5 et5 ⊢
    intro sx sy hsx hsy _
    refine sh_make hsx hsy (by decide) fun Gi sh ssh => ⟨(by show 1 ≤ sizeLine; decide), fun u1 hu1 => ?_⟩
    have ku1 : Same Gi (upd Gi u1 (.tup [.ref sx])) := same_new hu1
    have eu1 : upd Gi u1 (.tup [.ref sx]) u1 = some (.tup [.ref sx]) := upd_same
    generalize upd Gi u1 (.tup [.ref sx]) = Gj at ku1 eu1 ⊢
    refine ⟨(by show 1 ≤ sizeLine; decide), fun u2 hu2 => ?_⟩
    have ku2 : Same Gj (upd Gj u2 (.tup [.ref u1])) := same_new hu2
    have eu2 : upd Gj u2 (.tup [.ref u1]) u2 = some (.tup [.ref u1]) := upd_same
    generalize upd Gj u2 (.tup [.ref u1]) = Gk at ku2 eu2 ⊢
    refine ⟨(by show 2 ≤ sizeLine; decide), fun t6 ht6 => ?_⟩
    have kt6 : Same Gk (upd Gk t6 (.tup [.ref u2, .int 1])) := same_new ht6
    have et6 : upd Gk t6 (.tup [.ref u2, .int 1]) t6 = some (.tup [.ref u2, .int 1]) := upd_same
    generalize upd Gk t6 (.tup [.ref u2, .int 1]) = Gl at kt6 et6 ⊢
    refine ⟨(by show 6 ≤ sizeLine; decide), fun Z hZ => ?_⟩
    have kZ : Same Gl (upd Gl Z (.lst [.ref t1, .ref t2, .ref t3, .ref t4, .ref t5, .ref t6])) := same_new hZ
    have eZ : upd Gl Z (.lst [.ref t1, .ref t2, .ref t3, .ref t4, .ref t5, .ref t6]) Z = some (.lst [.ref t1, .ref t2, .ref t3, .ref t4, .ref t5, .ref t6]) := upd_same
    generalize upd Gl Z (.lst [.ref t1, .ref t2, .ref t3, .ref t4, .ref t5, .ref t6]) = Gm at kZ eZ ⊢
    have sjm : Same Gj Gm := ku2.trans (kt6.trans kZ)
    have sim : Same Gi Gm := ku1.trans sjm
    have sgm : Same Gg Gm := kt5.trans (ssh.trans sim)
    have sfm : Same Gf Gm := kz5.trans sgm
    have kem : Keep a Ge Gm := kt4.trans (Keep.of sfm)
    have kdm : Keep a Gd Gm := ke.trans kem
    have kcm : Keep a Gc Gm := kd.trans kdm
    have kbm : Keep a Gb Gm := kt3.trans kcm
    have kam : Keep a Ga Gm := kt2.trans kbm
    have k23m : Keep a G23 Gm := kt1.trans kam
    have hHm := hHf.same sfm
    have hMm := hM23.keep hH23 k23m
    have hbm := hbv.keep k23m
    have pairs : ∀ x ∈ ([.ref t1, .ref t2, .ref t3, .ref t4, .ref t5, .ref t6] : List V), PairOk K p Gm x := by
      intro x hx
      simp only [List.mem_cons, List.not_mem_nil, or_false] at hx
      have szr := small_rows hR (show n ≤ 200 by omega) (show rows.length ≤ 200 by omega)
      rcases hx with rfl | rfl | rfl | rfl | rfl | rfl
      · exact ⟨t1, _, _, _, rfl, kam _ _ n1.1.symm et1, dp_mat hMm.mt.dp szr⟩
      · exact ⟨t2, _, _, _, rfl, kbm _ _ n2.1.symm et2, dp_mat hMm.mt.dp szr⟩
      · exact ⟨t3, _, _, _, rfl, kcm _ _ n3.1.symm et3, dp_mat hbm.dp hsm⟩
      · obtain ⟨b, hb⟩ := ot_mat p r4 C ct (hod.keep kdm)
        exact ⟨t4, _, _, b, rfl, sfm _ _ et4, hb⟩
      · exact ⟨t5, _, _, _, rfl, (ssh.trans sim) _ _ et5, .inr ⟨z5, [], [], rfl, SqT.of (sgm _ _ ez5), by decide, .nil, rfl⟩⟩
      · refine ⟨t6, _, _, _, rfl, kZ _ _ et6, .inr ⟨u2, [.ref u1], [_], rfl, SqT.of ((kt6.trans kZ) _ _ eu2), (by show 1 ≤ 200; decide), .cons (.inr ⟨u1, [.ref sx], rfl, SqT.of (sjm _ _ eu1), (by show 1 ≤ 200; decide), fun y hy => ?_, rfl⟩) .nil, rfl⟩⟩
        rw [List.mem_singleton.mp hy]
        exact fun H' s => C.ty3 ((sh.same sim).same s)
    refine ⟨Z, rfl, ⟨_, SqL.of eZ⟩, for_it (walk_list (xs := [.ref t1, .ref t2, .ref t3, .ref t4, .ref t5, .ref t6])) (fun i σ H' => ∃ o1 o2 o3, σ = [some (.ref a0), some (.ref a), some (.int p), some (.int n), some (.ref c), some (.ref q), some (.ref sp), rw', some (.int wd), some ov, some (.ref D), some (.ref du), some bv, o1, o2, o3, none, none, none] ∧ Same Gm H')
      ⟨none, none, none, rfl, Same.refl _⟩ (fun i σ H' _ ⟨o1, o2, o3, _, s⟩ => SqL.of (s _ _ eZ)) ?_ ?_⟩
    · rintro i x σ H2 H3 hi ⟨o1, o2, o3, rfl, s2⟩ ⟨rfl, hx⟩
      obtain ⟨t, one, many, b, rfl, et, hmb⟩ := pairs x (List.mem_of_getElem? hx)
      refine ⟨t, _, rfl, SqT.of (s2 _ _ et), rfl, _, _, rfl, _, _, rfl, rfl, ?_⟩
      refine ⟨_, rfl, _, rfl, _, rfl, p, many, one, b, rfl, hmb.same s2, fun H6 s6 => ?_⟩
      refine ⟨_, rfl, _, _, _, _, _, rfl, .ty "bool", .base (.bl _), kit_ty (show kitB "bool" "bool" = some true by decide +kernel), _, rfl, iteF ?_⟩
      exact ⟨_, rfl, _, rfl, _, rfl, _, rfl, p, many, one, b, rfl, hmb.same (s2.trans s6), fun H7 s7 => ⟨rfl, _, rfl, iteND (fun z => absurd rfl z) (fun _ => ⟨_, _, _, rfl, (s2.trans s6).trans s7⟩)⟩⟩
    rintro σ G24 ⟨o1, o2, o3, rfl, s24⟩
    have hH24 := hHm.same s24
    have hb24 := hbm.keep (Keep.of s24)
    -- wrong
    refine ⟨_, rfl, a, d, rfl, hH24, fun wv G25 how hwf hH25 k25 => ?_⟩
    have hb25 := hb24.keep k25
    have hfw := how.fr
    have hfb := dp_fr hb25.dp
    have hty := how.ty3 C
    refine ⟨6, rfl, by decide, by decide, for_range (lo := 0) (n := 6) (fun i σ H' => Same G25 H' ∧ ∃ wh : Option V, σ = [some (.ref a0), some (.ref a), some (.int p), some (.int n), some (.ref c), some (.ref q), some (.ref sp), rw', some (.int wd), some ov, some (.ref D), some (.ref du), some bv, o1, o2, o3, some wv, wh, none])
      ⟨Same.refl _, none, rfl⟩ ?_ ?_⟩
    · rintro i σ H' hi ⟨sx, wh, rfl⟩
      have lf : ∀ (x : Str) (v : V), FR v → ∀ z ∈ [V.str x, v], FR z := fun x v hv z hz => by
        rcases List.mem_cons.mp hz with e | e
        · rw [e]
          exact .inl rfl
        · rw [List.mem_singleton.mp e]
          exact hv
      refine ⟨_, rfl, rfl, _, rfl, iteD (fun _ => ⟨_, rfl, rfl, _, rfl, iteD (fun _ => ⟨sx, _, rfl⟩) (fun _ => ?_)⟩) (fun _ => ?_)⟩
      all_goals
        refine ⟨_, rfl, _, rfl, _, rfl, _, rfl, _, rfl, _, .int p, bv, _, n, rfl, by omega, by omega, by omega, ty3_int p, (fun e => by rw [mem_fld hp] at e; cases e), fun p' ep _ => ?_⟩
        cases ep
        refine .inl ⟨e, dp_same sx hb25.dp, hsm, hmd, fun q H1 x1 eq => ⟨_, rfl, (by show 2 ≤ sizeLine; decide), fun z hz => ⟨q, z, _, rfl, rfl, SqL.of (same_new hz _ _ eq), SqL.of upd_same, lf _ _ hfb, _, rfl, iteF ?_⟩⟩⟩
        have sx1 := (sx.trans x1).trans (same_new (o := .lst [.str "matrix", bv]) hz)
        generalize upd H1 z (.lst [.str "matrix", bv]) = H2 at sx1 ⊢
        refine ⟨_, rfl, _, rfl, _, rfl, _, rfl, _, rfl, _, wv, bv, _, n, rfl, by omega, by omega, by omega, hty.same sx1, ?_, fun p' ep e2 => ?_⟩
        rotate_left
        · rw [hwf] at e2
          cases e2
        intro _ q2 H3 x3 eq2
        exact ⟨_, rfl, (by show 2 ≤ sizeLine; decide), fun z2 hz2 => ⟨q2, z2, _, rfl, rfl, SqL.of (same_new hz2 _ _ eq2), SqL.of upd_same, lf _ _ hfw, _, rfl, iteF ⟨(sx1.trans x3).trans (same_new hz2), _, rfl⟩⟩⟩
    · rintro σ H' ⟨sx, wh, rfl⟩
      exact k H'
end
end WU

set_option maxRecDepth 100000
set_option maxHeartbeats 0
namespace WU
open PySem PySem.Spec PyProof.Rows L2
def dG (x : Str) (i : Nat) : He.DefD := ⟨(x, none), x, x, defArgs (top i), defBody (top i), defScope (top i), [], []⟩
def dM (c m : Str) (i j : Nat) (q : Str) (ds : List He.Dv) : He.DefD := ⟨(c, some m), m, q, defArgs (inClass (top i) j), defBody (inClass (top i) j), defScope (inClass (top i) j), ds, []⟩
def fn : List He.DefD := ([dG "is_integer" 9, dG "is_number" 10, dG "is_below" 11, dG "is_sequence" 12, dG "are_letters" 13, dG "is_field" 17, dG "check_field" 18, dG "inverse_of" 19, dG "is_matrix" 21, dG "without_columns" 22, dG "in_span" 23, dG "sum_to" 24, dG "zero_rows" 25, dG "products" 26, dG "matrix_product" 27, dG "check_matrix" 28] : List He.DefD) ++ ([dG "width_of_rows" 29, dG "columns_at" 30, dG "turned_rows" 31, dG "leads_of" 32, dG "_is_row" 33, dG "_products" 34, dG "_reduced" 35, dG "_led_by_one" 36, dG "_cleared" 37, dG "_less" 38, dG "_zero_row" 39, dG "_law_draws" 46, dG "_law_take" 47, dG "_law_odd" 48, dG "_law_is_field" 49, dG "_law_field" 50] : List He.DefD) ++ ([dG "_law_no_field" 51, dG "_law_matrix" 52, dG "_law_bad_matrix" 53, dG "_law_is_matrix" 54, dG "_law_inverse" 55, dG "_law_reduced" 56, dG "_law_product" 57, dG "_law_sum_of" 58, dG "_law_same" 59, dG "_law_call" 60, dG "_law_told" 61, dG "_law_span_right" 62, dG "_law_zero_right" 63, dG "_law_products_right" 64, dG "law" 65, dM "InvalidNumber" "__init__" 4 0 "InvalidNumber.__init__" []] : List He.DefD) ++ ([dM "InvalidMatrix" "__init__" 6 0 "InvalidMatrix.__init__" [], dM "Undefined" "__init__" 7 0 "Undefined.__init__" [], dM "Share" "__init__" 41 0 "Share.__init__" [.int 1], dM "Share" "__eq__" 41 8 "Share.__eq__" []] : List He.DefD)
def frees : List Str := ["isinstance", "int", "bool", "len", "abs", "range", "tuple", "list", "all", "any", "zip", "max", "min", "sum"]
def globs : List Str := (["is_integer", "is_number", "is_below", "is_sequence", "are_letters", "is_field", "check_field", "inverse_of", "is_matrix", "without_columns", "in_span", "sum_to", "zero_rows", "products", "matrix_product", "check_matrix"] : List Str) ++ (["width_of_rows", "columns_at", "turned_rows", "leads_of", "_is_row", "_products", "_reduced", "_led_by_one", "_cleared", "_less", "_zero_row", "_law_draws", "_law_take", "_law_odd", "_law_is_field", "_law_field"] : List Str) ++ (["_law_no_field", "_law_matrix", "_law_bad_matrix", "_law_is_matrix", "_law_inverse", "_law_reduced", "_law_product", "_law_sum_of", "_law_same", "_law_call", "_law_told", "_law_span_right", "_law_zero_right", "_law_products_right", "law", "PRIMES"] : List Str) ++ (["Share"] : List Str)
def isB0 (o : Option Bool) (b : Bool) : Bool := decide (o = some b)
def shB (K : PySem.W.Frag) (S : Addr) : Bool :=
  (He.Fa.cls "Share").ok K && ((He.Fa.noat "Share" "top").ok K && ((He.Fa.noat "Share" "bottom").ok K && ((He.Fa.mkr "Share").ok K && ((He.Fa.meth "Share" "__eq__").ok K &&
    (decide (PySem.W.findIn K (.ref S) "__class__" = some (some (.builtin "object.__class__"))) && (decide (PySem.W.specialIn K (.builtin "object.__class__") "__get__" = some (some (.builtin "getset_descriptor.__get__"))) &&
      (isB0 (PySem.W.takesIn K (.builtin "object.__class__")) true && (isB0 (PySem.W.mroIn K S (.type "object")) true && (isB0 (PySem.W.kitOne K (.ref S) (.ref S)) true && (isB0 (PySem.W.kitOne K (.ref S) (.type "int")) false && isB0 (PySem.W.kitOne K (.ref S) (.type "bool")) false))))))))))
def exmB (K : PySem.W.Frag) (x y : Str) (b : Bool) : Bool := isB0 (PySem.W.exmOne K (.ref (He.ga K x)) (.ref (He.ga K y))) b
def ex (K : PySem.W.Frag) : Bool := freeB K frees && (globB K globs && (exc1B K "InvalidNumber" "value" && (xfB K (He.ga K "InvalidNumber") && (exc1B K "InvalidMatrix" "value" && (xfB K (He.ga K "InvalidMatrix") && (exc1B K "Undefined" "what" && (xfB K (He.ga K "Undefined") && (exmB K "InvalidNumber" "InvalidNumber" true && (exmB K "InvalidNumber" "InvalidMatrix" false && (exmB K "InvalidNumber" "Undefined" false && (exmB K "InvalidMatrix" "InvalidNumber" false && (exmB K "InvalidMatrix" "InvalidMatrix" true && (exmB K "InvalidMatrix" "Undefined" false && (exmB K "Undefined" "InvalidNumber" false && (exmB K "Undefined" "InvalidMatrix" false && (exmB K "Undefined" "Undefined" true && (He.tupB K "PRIMES" (primes.map He.Dv.int) && (decide (PySem.W.nsIn K mainGlobals "gcd" = some (some (.builtin "math.gcd"))) && (isB0 (PySem.W.kitOne K (.ref (He.ga K "Share")) (.type "tuple")) false && (shB K (He.ga K "Share")))))))))))))))))))))
theorem getG {K : PySem.W.Frag} (c : He.SaysD [] fn K) (i : Nat) {x : Str} {j : Nat} (h : fn[i]? = some (dG x j)) : ∃ fd, FnS K x (top j) (He.ga K x) fd := c.def_ i h
theorem getM {K : PySem.W.Frag} (c : He.SaysD [] fn K) (i : Nat) {cl m q : Str} {ds : List He.Dv} {j k : Nat} (h : fn[i]? = some (dM cl m j k q ds)) :
    ∃ fd, FunD K m q (defArgs (inClass (top j) k)) (defBody (inClass (top j) k)) (defScope (inClass (top j) k)) (ds.map (He.Dv.v K)) [] (He.ma K (He.ga K cl) m) fd := c.def_ i h
theorem facts {P : Program} {w : World} {K : PySem.W.Frag} {h : Heap} {mg : Str → Option Value} {fa : Addr} (X : K.In h) (G : h.Ns mainGlobals mg) (hfa : mg "law" = some (.ref fa)) (c : He.SaysD [] fn K) (e : ex K = true) :
    ∃ fd : FuncData, (∀ (s : Shared) (v : Value), BindsTo s fd ⟨[v], []⟩ [("script", v)]) ∧ ∀ base : Heap, K.In base → base.Ns mainGlobals mg → FnOk P w K mg base CX0 12 fa fd ["script"] (spLaw K) := by
  obtain ⟨e0, e⟩ := and2 e
  obtain ⟨e1, e⟩ := and2 e
  obtain ⟨e2, e⟩ := and2 e
  obtain ⟨e3, e⟩ := and2 e
  obtain ⟨e4, e⟩ := and2 e
  obtain ⟨e5, e⟩ := and2 e
  obtain ⟨e6, e⟩ := and2 e
  obtain ⟨e7, e⟩ := and2 e
  obtain ⟨e8, e⟩ := and2 e
  obtain ⟨e9, e⟩ := and2 e
  obtain ⟨e10, e⟩ := and2 e
  obtain ⟨e11, e⟩ := and2 e
  obtain ⟨e12, e⟩ := and2 e
  obtain ⟨e13, e⟩ := and2 e
  obtain ⟨e14, e⟩ := and2 e
  obtain ⟨e15, e⟩ := and2 e
  obtain ⟨e16, e⟩ := and2 e
  obtain ⟨e17, e⟩ := and2 e
  obtain ⟨e18, e⟩ := and2 e
  obtain ⟨e19, e20⟩ := and2 e
  have fr : ∀ {x : Str}, x ∈ frees → mg x = none := fun hx => freeB_ok X G e0 hx
  have gl : ∀ {x : Str}, x ∈ globs → mg x = some (.ref (He.ga K x)) := fun hx => globB_ok X G e1 hx
  have b0 : ∀ {o : Option Bool} {b : Bool}, isB0 o b = true → o = some b := fun h => of_decide_eq_true h
  have TInvalidNumber : Exc1 K mg "InvalidNumber" "value" := exc1B_ok X G e2
  have XInvalidNumber := xfB_ok e3
  have TInvalidMatrix : Exc1 K mg "InvalidMatrix" "value" := exc1B_ok X G e4
  have XInvalidMatrix := xfB_ok e5
  have TUndefined : Exc1 K mg "Undefined" "what" := exc1B_ok X G e6
  have XUndefined := xfB_ok e7
  have xInvalidNumber_InvalidNumber := b0 e8
  have xInvalidNumber_InvalidMatrix := b0 e9
  have xInvalidNumber_Undefined := b0 e10
  have xInvalidMatrix_InvalidNumber := b0 e11
  have xInvalidMatrix_InvalidMatrix := b0 e12
  have xInvalidMatrix_Undefined := b0 e13
  have xUndefined_InvalidNumber := b0 e14
  have xUndefined_InvalidMatrix := b0 e15
  have xUndefined_Undefined := b0 e16
  have tP : ∀ H, SqT K H (He.ga K "PRIMES") (primes.map V.int) := fun H => He.tupB_ok e17 H
  have gG : mg "gcd" = some (.builtin "math.gcd") := PySem.W.mg_of X G (of_decide_eq_true e18)
  have ct := b0 e19
  have sh := e20
  obtain ⟨s1, sh⟩ := and2 sh
  obtain ⟨s2, sh⟩ := and2 sh
  obtain ⟨s3, sh⟩ := and2 sh
  obtain ⟨s4, sh⟩ := and2 sh
  obtain ⟨s5, sh⟩ := and2 sh
  obtain ⟨s6, sh⟩ := and2 sh
  obtain ⟨s7, sh⟩ := and2 sh
  obtain ⟨s8, sh⟩ := and2 sh
  obtain ⟨s9, sh⟩ := and2 sh
  obtain ⟨s10, sh⟩ := and2 sh
  obtain ⟨s11, s12⟩ := and2 sh
  have C : ShC K mg (He.ga K "Share") := ⟨gl (by decide +kernel), He.cls_ok s1, He.noat_ok s2, He.noat_ok s3, of_decide_eq_true s6, of_decide_eq_true s7, b0 s8, b0 s9, b0 s10, b0 s11, b0 s12⟩
  have MK := He.mkr_ok s4
  have ME := He.meth_ok s5
  obtain ⟨fd_is_integer, F_is_integer⟩ := getG c 0 (x := "is_integer") (j := 9) rfl
  obtain ⟨fd_is_number, F_is_number⟩ := getG c 1 (x := "is_number") (j := 10) rfl
  obtain ⟨fd_is_below, F_is_below⟩ := getG c 2 (x := "is_below") (j := 11) rfl
  obtain ⟨fd_is_sequence, F_is_sequence⟩ := getG c 3 (x := "is_sequence") (j := 12) rfl
  obtain ⟨fd_are_letters, F_are_letters⟩ := getG c 4 (x := "are_letters") (j := 13) rfl
  obtain ⟨fd_is_field, F_is_field⟩ := getG c 5 (x := "is_field") (j := 17) rfl
  obtain ⟨fd_check_field, F_check_field⟩ := getG c 6 (x := "check_field") (j := 18) rfl
  obtain ⟨fd_inverse_of, F_inverse_of⟩ := getG c 7 (x := "inverse_of") (j := 19) rfl
  obtain ⟨fd_is_matrix, F_is_matrix⟩ := getG c 8 (x := "is_matrix") (j := 21) rfl
  obtain ⟨fd_without_columns, F_without_columns⟩ := getG c 9 (x := "without_columns") (j := 22) rfl
  obtain ⟨fd_in_span, F_in_span⟩ := getG c 10 (x := "in_span") (j := 23) rfl
  obtain ⟨fd_sum_to, F_sum_to⟩ := getG c 11 (x := "sum_to") (j := 24) rfl
  obtain ⟨fd_zero_rows, F_zero_rows⟩ := getG c 12 (x := "zero_rows") (j := 25) rfl
  obtain ⟨fd_products, F_products⟩ := getG c 13 (x := "products") (j := 26) rfl
  obtain ⟨fd_matrix_product, F_matrix_product⟩ := getG c 14 (x := "matrix_product") (j := 27) rfl
  obtain ⟨fd_check_matrix, F_check_matrix⟩ := getG c 15 (x := "check_matrix") (j := 28) rfl
  obtain ⟨fd_width_of_rows, F_width_of_rows⟩ := getG c 16 (x := "width_of_rows") (j := 29) rfl
  obtain ⟨fd_columns_at, F_columns_at⟩ := getG c 17 (x := "columns_at") (j := 30) rfl
  obtain ⟨fd_turned_rows, F_turned_rows⟩ := getG c 18 (x := "turned_rows") (j := 31) rfl
  obtain ⟨fd_leads_of, F_leads_of⟩ := getG c 19 (x := "leads_of") (j := 32) rfl
  obtain ⟨fd__is_row, F__is_row⟩ := getG c 20 (x := "_is_row") (j := 33) rfl
  obtain ⟨fd__products, F__products⟩ := getG c 21 (x := "_products") (j := 34) rfl
  obtain ⟨fd__reduced, F__reduced⟩ := getG c 22 (x := "_reduced") (j := 35) rfl
  obtain ⟨fd__led_by_one, F__led_by_one⟩ := getG c 23 (x := "_led_by_one") (j := 36) rfl
  obtain ⟨fd__cleared, F__cleared⟩ := getG c 24 (x := "_cleared") (j := 37) rfl
  obtain ⟨fd__less, F__less⟩ := getG c 25 (x := "_less") (j := 38) rfl
  obtain ⟨fd__zero_row, F__zero_row⟩ := getG c 26 (x := "_zero_row") (j := 39) rfl
  obtain ⟨fd__law_draws, F__law_draws⟩ := getG c 27 (x := "_law_draws") (j := 46) rfl
  obtain ⟨fd__law_take, F__law_take⟩ := getG c 28 (x := "_law_take") (j := 47) rfl
  obtain ⟨fd__law_odd, F__law_odd⟩ := getG c 29 (x := "_law_odd") (j := 48) rfl
  obtain ⟨fd__law_is_field, F__law_is_field⟩ := getG c 30 (x := "_law_is_field") (j := 49) rfl
  obtain ⟨fd__law_field, F__law_field⟩ := getG c 31 (x := "_law_field") (j := 50) rfl
  obtain ⟨fd__law_no_field, F__law_no_field⟩ := getG c 32 (x := "_law_no_field") (j := 51) rfl
  obtain ⟨fd__law_matrix, F__law_matrix⟩ := getG c 33 (x := "_law_matrix") (j := 52) rfl
  obtain ⟨fd__law_bad_matrix, F__law_bad_matrix⟩ := getG c 34 (x := "_law_bad_matrix") (j := 53) rfl
  obtain ⟨fd__law_is_matrix, F__law_is_matrix⟩ := getG c 35 (x := "_law_is_matrix") (j := 54) rfl
  obtain ⟨fd__law_inverse, F__law_inverse⟩ := getG c 36 (x := "_law_inverse") (j := 55) rfl
  obtain ⟨fd__law_reduced, F__law_reduced⟩ := getG c 37 (x := "_law_reduced") (j := 56) rfl
  obtain ⟨fd__law_product, F__law_product⟩ := getG c 38 (x := "_law_product") (j := 57) rfl
  obtain ⟨fd__law_sum_of, F__law_sum_of⟩ := getG c 39 (x := "_law_sum_of") (j := 58) rfl
  obtain ⟨fd__law_same, F__law_same⟩ := getG c 40 (x := "_law_same") (j := 59) rfl
  obtain ⟨fd__law_call, F__law_call⟩ := getG c 41 (x := "_law_call") (j := 60) rfl
  obtain ⟨fd__law_told, F__law_told⟩ := getG c 42 (x := "_law_told") (j := 61) rfl
  obtain ⟨fd__law_span_right, F__law_span_right⟩ := getG c 43 (x := "_law_span_right") (j := 62) rfl
  obtain ⟨fd__law_zero_right, F__law_zero_right⟩ := getG c 44 (x := "_law_zero_right") (j := 63) rfl
  obtain ⟨fd__law_products_right, F__law_products_right⟩ := getG c 45 (x := "_law_products_right") (j := 64) rfl
  obtain ⟨fd_law, F_law⟩ := getG c 46 (x := "law") (j := 65) rfl
  obtain ⟨fd_InvalidNumber___init__, F_InvalidNumber___init__⟩ := getM c 47 (cl := "InvalidNumber") (m := "__init__") (q := "InvalidNumber.__init__") (ds := []) (j := 4) (k := 0) rfl
  obtain ⟨fd_InvalidMatrix___init__, F_InvalidMatrix___init__⟩ := getM c 48 (cl := "InvalidMatrix") (m := "__init__") (q := "InvalidMatrix.__init__") (ds := []) (j := 6) (k := 0) rfl
  obtain ⟨fd_Undefined___init__, F_Undefined___init__⟩ := getM c 49 (cl := "Undefined") (m := "__init__") (q := "Undefined.__init__") (ds := []) (j := 7) (k := 0) rfl
  obtain ⟨fd_Share___init__, F_Share___init__⟩ := getM c 50 (cl := "Share") (m := "__init__") (q := "Share.__init__") (ds := [.int 1]) (j := 41) (k := 0) rfl
  obtain ⟨fd_Share___eq__, F_Share___eq__⟩ := getM c 51 (cl := "Share") (m := "__eq__") (q := "Share.__eq__") (ds := []) (j := 41) (k := 8) rfl
  have efa := hfa.symm.trans (gl (x := "law") (by decide +kernel))
  cases efa
  have bl := FunD.bindsA (ps := ["script"]) F_law fun _ _ _ _ _ _ us hl => match us, hl with | [_], _ => rfl
  obtain ⟨dI, vI, bI⟩ := FunD.binds1 (ps := ["self", "top", "bottom"]) F_Share___init__ 2 0 (by intro z; cases z) rfl fun T kV doc pm an cdv ct us its hu hi => match us, its, hu, hi with | [_, _], [_], _, _ => ⟨_, rfl, rfl⟩
  have B5 : Blt5 mg := { isi := fr (by decide +kernel), int := fr (by decide +kernel), bool := fr (by decide +kernel), len := fr (by decide +kernel), abs := fr (by decide +kernel), range := fr (by decide +kernel), tuple := fr (by decide +kernel), lst := fr (by decide +kernel), all := fr (by decide +kernel), any := fr (by decide +kernel), zip := fr (by decide +kernel), max := fr (by decide +kernel), min := fr (by decide +kernel), sum := fr (by decide +kernel) }
  have B : Blt4 mg := B5.toBlt4
  refine ⟨fd_law, fun s v => bl s [v] rfl, fun base _ _ => ?_⟩
  have GInvalidNumber := ok_init1 (P := P) (w := w) (K := K) (mg := mg) (base := base) (C := He.ga K "InvalidNumber") F_InvalidNumber___init__ scInvalidNumber bodyInvalidNumber
  have bdInvalidNumber : Binds K fd_InvalidNumber___init__ ["self", "value"] [] := FunD.bindsN F_InvalidNumber___init__ fun _ _ _ _ _ _ us hl => match us, hl with | [_, _], _ => rfl
  have GInvalidMatrix := ok_init1 (P := P) (w := w) (K := K) (mg := mg) (base := base) (C := He.ga K "InvalidMatrix") F_InvalidMatrix___init__ scInvalidMatrix bodyInvalidMatrix
  have bdInvalidMatrix : Binds K fd_InvalidMatrix___init__ ["self", "value"] [] := FunD.bindsN F_InvalidMatrix___init__ fun _ _ _ _ _ _ us hl => match us, hl with | [_, _], _ => rfl
  have GUndefined := ok_init1 (P := P) (w := w) (K := K) (mg := mg) (base := base) (C := He.ga K "Undefined") F_Undefined___init__ scUndefined bodyUndefined
  have bdUndefined : Binds K fd_Undefined___init__ ["self", "what"] [] := FunD.bindsN F_Undefined___init__ fun _ _ _ _ _ _ us hl => match us, hl with | [_, _], _ => rfl
  have C0 : Cal P w K mg base 1 "is_integer" _ fd_is_integer ["value"] (spIsInt K) := cal_mk F_is_integer (gl (by decide +kernel)) (ok_isInt F_is_integer B.toBlt) fun _ _ _ _ _ _ us hl => match us, hl with | [_], _ => rfl
  have C1 : Cal P w K mg base 2 "is_number" _ fd_is_number ["value"] (spIsNum K) := cal_mk F_is_number (gl (by decide +kernel)) (ok_isNum F_is_number C0) fun _ _ _ _ _ _ us hl => match us, hl with | [_], _ => rfl
  have C2 : Cal P w K mg base 3 "is_below" _ fd_is_below ["value", "limit"] (spIsBel K) := cal_mk F_is_below (gl (by decide +kernel)) (ok_isBel F_is_below C1) fun _ _ _ _ _ _ us hl => match us, hl with | [_, _], _ => rfl
  have CSq : Cal P w K mg base 1 "is_sequence" _ fd_is_sequence ["value"] (spSeq2 K) := cal_mk F_is_sequence (gl (by decide +kernel)) (ok_seq2 F_is_sequence B.toBlt3) fun _ _ _ _ _ _ us hl => match us, hl with | [_], _ => rfl
  have CLs : Cal P w K mg base 4 "are_letters" _ fd_are_letters ["p", "count", "value"] (spLets2 K) := cal_mk F_are_letters (gl (by decide +kernel)) (ok_lets2 F_are_letters B.toBlt3 CSq C2) fun _ _ _ _ _ _ us hl => match us, hl with | [_, _, _], _ => rfl
  have C3 : Cal P w K mg base 2 "is_field" _ fd_is_field ["p"] (spIsFld K) := cal_mk F_is_field (gl (by decide +kernel)) (ok_isFld F_is_field C0 (gl (by decide +kernel)) tP) fun _ _ _ _ _ _ us hl => match us, hl with | [_], _ => rfl
  have C4 : Cal P w K mg base 3 "check_field" _ fd_check_field ["p"] (spCheck K) := cal_mk F_check_field (gl (by decide +kernel)) (ok_check F_check_field C3 TInvalidNumber GInvalidNumber bdInvalidNumber) fun _ _ _ _ _ _ us hl => match us, hl with | [_], _ => rfl
  have C5 : Cal P w K mg base 4 "inverse_of" _ fd_inverse_of ["p", "a"] (spInv K) := cal_mk F_inverse_of (gl (by decide +kernel)) (ok_inv F_inverse_of C4 C2 TInvalidNumber TUndefined B.range GInvalidNumber bdInvalidNumber GUndefined bdUndefined) fun _ _ _ _ _ _ us hl => match us, hl with | [_, _], _ => rfl
  have CRw : Cal P w K mg base 5 "_is_row" _ fd__is_row ["value", "p", "columns"] (spRow2 K) := cal_mk F__is_row (gl (by decide +kernel)) (ok_row2 F__is_row B CLs) fun _ _ _ _ _ _ us hl => match us, hl with | [_, _, _], _ => rfl
  have CMt2 : Cal P w K mg base 6 "is_matrix" _ fd_is_matrix ["value", "p", "columns"] (spMat2 K) := cal_mk F_is_matrix (gl (by decide +kernel)) (ok_mat2 F_is_matrix B CRw) fun _ _ _ _ _ _ us hl => match us, hl with | [_, _, _], _ => rfl
  have CMt : Cal P w K mg base 6 "is_matrix" _ fd_is_matrix ["value", "p", "columns"] (spMat K) := cal_mk F_is_matrix (gl (by decide +kernel)) (mat_of (ok_mat2 F_is_matrix B CRw)) fun _ _ _ _ _ _ us hl => match us, hl with | [_, _, _], _ => rfl
  have CWd : Cal P w K mg base 1 "width_of_rows" _ fd_width_of_rows ["rows"] (spWid K) := cal_mk F_width_of_rows (gl (by decide +kernel)) (ok_wid F_width_of_rows B) fun _ _ _ _ _ _ us hl => match us, hl with | [_], _ => rfl
  have CCk : Cal P w K mg base 7 "check_matrix" _ fd_check_matrix ["p", "rows"] (spChk K) := cal_mk F_check_matrix (gl (by decide +kernel)) (ok_chk F_check_matrix C4 CMt CWd TInvalidMatrix GInvalidMatrix bdInvalidMatrix) fun _ _ _ _ _ _ us hl => match us, hl with | [_, _], _ => rfl
  have CLe : Cal P w K mg base 1 "_less" _ fd__less ["p", "row", "factor", "lead"] (spLess) := cal_mk F__less (gl (by decide +kernel)) (ok_less F__less B) fun _ _ _ _ _ _ us hl => match us, hl with | [_, _, _, _], _ => rfl
  have CLd : Cal P w K mg base 5 "_led_by_one" _ fd__led_by_one ["p", "row", "column"] (spLed) := cal_mk F__led_by_one (gl (by decide +kernel)) (ok_led F__led_by_one B C5) fun _ _ _ _ _ _ us hl => match us, hl with | [_, _, _], _ => rfl
  have CCl : Cal P w K mg base 2 "_cleared" _ fd__cleared ["p", "rows", "lead", "column"] (spClr) := cal_mk F__cleared (gl (by decide +kernel)) (ok_clr F__cleared CLe) fun _ _ _ _ _ _ us hl => match us, hl with | [_, _, _, _], _ => rfl
  have CRd : Cal P w K mg base 6 "_reduced" _ fd__reduced ["p", "rows"] (spRed) := cal_mk F__reduced (gl (by decide +kernel)) (ok_red F__reduced B CLd CCl) fun _ _ _ _ _ _ us hl => match us, hl with | [_, _], _ => rfl
  have CCA : Cal P w K mg base 1 "columns_at" _ fd_columns_at ["rows", "places"] (spCA) := cal_mk F_columns_at (gl (by decide +kernel)) (ok_CA F_columns_at B) fun _ _ _ _ _ _ us hl => match us, hl with | [_, _], _ => rfl
  have CTR : Cal P w K mg base 1 "turned_rows" _ fd_turned_rows ["rows", "columns"] (spTR) := cal_mk F_turned_rows (gl (by decide +kernel)) (ok_TR F_turned_rows B) fun _ _ _ _ _ _ us hl => match us, hl with | [_, _], _ => rfl
  have CLO : Cal P w K mg base 1 "leads_of" _ fd_leads_of ["reduced"] (spLO) := cal_mk F_leads_of (gl (by decide +kernel)) (ok_LO F_leads_of B) fun _ _ _ _ _ _ us hl => match us, hl with | [_], _ => rfl
  have CPr : Cal P w K mg base 1 "_products" _ fd__products ["p", "rows", "letters"] (spPr) := cal_mk F__products (gl (by decide +kernel)) (ok_Pr F__products B5) fun _ _ _ _ _ _ us hl => match us, hl with | [_, _, _], _ => rfl
  have CZr : Cal P w K mg base 1 "_zero_row" _ fd__zero_row ["p", "leading", "leads", "columns", "free"] (spZR) := cal_mk F__zero_row (gl (by decide +kernel)) (ok_ZR F__zero_row B) fun _ _ _ _ _ _ us hl => match us, hl with | [_, _, _, _, _], _ => rfl
  have CZs : Cal P w K mg base 8 "zero_rows" _ fd_zero_rows ["p", "rows", "columns"] (spZs K) := cal_mk F_zero_rows (gl (by decide +kernel)) (ok_Zs F_zero_rows B5 CCk CRd CLO CZr) fun _ _ _ _ _ _ us hl => match us, hl with | [_, _, _], _ => rfl
  have CWC : Cal P w K mg base 8 "without_columns" _ fd_without_columns ["p", "rows", "places"] (spWC K) := cal_mk F_without_columns (gl (by decide +kernel)) (ok_WC F_without_columns B5 CCk CWd CCA) fun _ _ _ _ _ _ us hl => match us, hl with | [_, _, _], _ => rfl
  have CPs : Cal P w K mg base 8 "products" _ fd_products ["p", "rows", "letters"] (spPs K) := cal_mk F_products (gl (by decide +kernel)) (ok_Ps F_products CCk CPr) fun _ _ _ _ _ _ us hl => match us, hl with | [_, _, _], _ => rfl
  have CMP : Cal P w K mg base 8 "matrix_product" _ fd_matrix_product ["p", "rows", "others"] (spMP K) := cal_mk F_matrix_product (gl (by decide +kernel)) (ok_MP F_matrix_product B5 CCk CWd CTR CPr) fun _ _ _ _ _ _ us hl => match us, hl with | [_, _, _], _ => rfl
  have CIS : Cal P w K mg base 8 "in_span" _ fd_in_span ["p", "rows", "row"] (spIS K) := cal_mk F_in_span (gl (by decide +kernel)) (ok_IS F_in_span B5 CCk CRd) fun _ _ _ _ _ _ us hl => match us, hl with | [_, _, _], _ => rfl
  have CST : Cal P w K mg base 8 "sum_to" _ fd_sum_to ["p", "rows", "row"] (spST K) := cal_mk F_sum_to (gl (by decide +kernel)) (ok_ST F_sum_to B5 CCk CRd CLO CTR TUndefined GUndefined bdUndefined) fun _ _ _ _ _ _ us hl => match us, hl with | [_, _, _], _ => rfl
  have GI := ok_SI (P := P) (w := w) (base := base) F_Share___init__ C0 C gG
  have CD : Cal P w K mg base 1 "_law_draws" _ fd__law_draws ["script", "many"] (spDraws K 400) := cal_mk F__law_draws (gl (by decide +kernel)) (ok_draws F__law_draws B.toBlt2 (by decide) (by decide)) fun _ _ _ _ _ _ us hl => match us, hl with | [_, _], _ => rfl
  have CT : Cal P w K mg base 1 "_law_take" _ fd__law_take ["hand", "many"] (spTake) := cal_mk F__law_take (gl (by decide +kernel)) (ok_take F__law_take B.toBlt2) fun _ _ _ _ _ _ us hl => match us, hl with | [_, _], _ => rfl
  have bO : Binds K fd__law_odd ["hand", "depth"] [] := FunD.bindsN F__law_odd fun _ _ _ _ _ _ us hl => match us, hl with | [_, _], _ => rfl
  have co : ∀ n, FnOk P w K mg base (L2.CX P w) (3 + n) (He.ga K "_law_odd") fd__law_odd ["hand", "depth"] (spOdd (He.ga K "Share") n) := by
    intro n
    induction n with
    | zero => exact ⟨fun vs H Q E h => by obtain ⟨a, d, m, rfl, m0, m1, _⟩ := h; rfl, fun A outer s H args us vs Q E hr he hb hv hs => by obtain ⟨a, d, m, rfl, m0, m1, _⟩ := hs; exact absurd m1 (by omega)⟩
    | succ n ih => exact ok_odd F__law_odd B.toBlt2 C CT MK GI bI vI n ⟨gl (by decide +kernel), F__law_odd.kp, bO, ih⟩
  have CO2 : Cal P w K mg base 5 "_law_odd" _ fd__law_odd ["hand", "depth"] (spOdd (He.ga K "Share") 2) := ⟨gl (by decide +kernel), F__law_odd.kp, bO, co 2⟩
  have ct3 : ∀ n, FnOk P w K mg base (L2.CX P w) (3 + n) (He.ga K "_law_odd") fd__law_odd ["hand", "depth"] (spOT (He.ga K "Share") n) := by
    intro n
    induction n with
    | zero => exact ⟨fun vs H Q E h => by obtain ⟨a, d, m, rfl, m0, m1, _⟩ := h; rfl, fun A outer s H args us vs Q E hr he hb hv hs => by obtain ⟨a, d, m, rfl, m0, m1, _⟩ := hs; exact absurd m1 (by omega)⟩
    | succ n ih => exact ok_OT F__law_odd B.toBlt2 C CT MK GI bI vI n ⟨gl (by decide +kernel), F__law_odd.kp, bO, ih⟩
  have CO3 : Cal P w K mg base 6 "_law_odd" _ fd__law_odd ["hand", "depth"] (spOT (He.ga K "Share") 3) := ⟨gl (by decide +kernel), F__law_odd.kp, bO, ct3 3⟩
  have CLF : Cal P w K mg base 1 "_law_is_field" _ fd__law_is_field ["p"] (spIsFld K) := cal_mk F__law_is_field (gl (by decide +kernel)) (ok_LF F__law_is_field B.toBlt2) fun _ _ _ _ _ _ us hl => match us, hl with | [_], _ => rfl
  have CFd : Cal P w K mg base 2 "_law_field" _ fd__law_field ["hand"] (spLFd) := cal_mk F__law_field (gl (by decide +kernel)) (ok_LFd F__law_field B.toBlt2 CLF CT) fun _ _ _ _ _ _ us hl => match us, hl with | [_], _ => rfl
  have CLN : Cal P w K mg base 6 "_law_no_field" _ fd__law_no_field ["hand"] (spLN (He.ga K "Share")) := cal_mk F__law_no_field (gl (by decide +kernel)) (ok_LN F__law_no_field B.toBlt2 C CLF CT CO2 MK GI bI vI) fun _ _ _ _ _ _ us hl => match us, hl with | [_], _ => rfl
  have CLI : Cal P w K mg base 1 "_law_inverse" _ fd__law_inverse ["a", "p"] (spLI) := cal_mk F__law_inverse (gl (by decide +kernel)) (ok_LI F__law_inverse B.toBlt2) fun _ _ _ _ _ _ us hl => match us, hl with | [_, _], _ => rfl
  have CLM : Cal P w K mg base 2 "_law_matrix" _ fd__law_matrix ["hand", "p", "rows", "columns"] (spLM) := cal_mk F__law_matrix (gl (by decide +kernel)) (ok_LM F__law_matrix B CT) fun _ _ _ _ _ _ us hl => match us, hl with | [_, _, _, _], _ => rfl
  have CBd : Cal P w K mg base 2 "_law_bad_matrix" _ fd__law_bad_matrix ["hand", "rows", "p"] (spBad K) := cal_mk F__law_bad_matrix (gl (by decide +kernel)) (ok_Bad F__law_bad_matrix B CT) fun _ _ _ _ _ _ us hl => match us, hl with | [_, _, _], _ => rfl
  have CLR : Cal P w K mg base 2 "_law_reduced" _ fd__law_reduced ["rows", "p"] (spLRd) := cal_mk F__law_reduced (gl (by decide +kernel)) (ok_LRd F__law_reduced B CLI) fun _ _ _ _ _ _ us hl => match us, hl with | [_, _], _ => rfl
  have bSm : Binds K fd__law_same ["found", "due"] [] := FunD.bindsN F__law_same fun _ _ _ _ _ _ us hl => match us, hl with | [_, _], _ => rfl
  have CS : Cal P w K mg base 3 "_law_same" _ fd__law_same ["found", "due"] (spSm 2) := ⟨gl (by decide +kernel), F__law_same.kp, bSm, ok_Sm F__law_same B.toBlt3 (gl (by decide +kernel)) bSm 2⟩
  have CLIM : Cal P w K mg base 1 "_law_is_matrix" _ fd__law_is_matrix ["value", "p", "columns"] (spMat2 K) := cal_mk F__law_is_matrix (gl (by decide +kernel)) (ok_LIM F__law_is_matrix B) fun _ _ _ _ _ _ us hl => match us, hl with | [_, _, _], _ => rfl
  have CLP : Cal P w K mg base 1 "_law_product" _ fd__law_product ["first", "second", "p"] (spLP) := cal_mk F__law_product (gl (by decide +kernel)) (ok_LP F__law_product B5) fun _ _ _ _ _ _ us hl => match us, hl with | [_, _, _], _ => rfl
  have CLS : Cal P w K mg base 1 "_law_sum_of" _ fd__law_sum_of ["rows", "letters", "p", "columns"] (spLS) := cal_mk F__law_sum_of (gl (by decide +kernel)) (ok_LS F__law_sum_of B5) fun _ _ _ _ _ _ us hl => match us, hl with | [_, _, _, _], _ => rfl
  have CLC : Cal P w K mg base 9 "_law_call" _ fd__law_call ["which", "p", "rows", "row", "columns"] (spLC K) := cal_mk F__law_call (gl (by decide +kernel)) (ok_LC F__law_call CIS CST CZs CPs CMP CWC) fun _ _ _ _ _ _ us hl => match us, hl with | [_, _, _, _, _], _ => rfl
  have CTd : Cal P w K mg base 10 "_law_told" _ fd__law_told ["which", "p", "rows", "row", "columns"] (spTd K) := cal_mk F__law_told (gl (by decide +kernel)) (ok_Td F__law_told CLC TInvalidNumber TInvalidMatrix TUndefined XInvalidNumber XInvalidMatrix XUndefined xInvalidNumber_InvalidNumber xInvalidMatrix_InvalidNumber xInvalidMatrix_InvalidMatrix xUndefined_InvalidNumber xUndefined_InvalidMatrix xUndefined_Undefined) fun _ _ _ _ _ _ us hl => match us, hl with | [_, _, _, _, _], _ => rfl
  have CSR : Cal P w K mg base 11 "_law_span_right" _ fd__law_span_right ["p", "rows", "row", "columns"] (spSR) := cal_mk F__law_span_right (gl (by decide +kernel)) (ok_SR F__law_span_right B5 CIS CST CLR CTd CLIM CLS) fun _ _ _ _ _ _ us hl => match us, hl with | [_, _, _, _], _ => rfl
  have CZR : Cal P w K mg base 9 "_law_zero_right" _ fd__law_zero_right ["p", "rows", "columns"] (spZRt) := cal_mk F__law_zero_right (gl (by decide +kernel)) (ok_ZRt F__law_zero_right B5 CZs CLR CLIM CS CLP) fun _ _ _ _ _ _ us hl => match us, hl with | [_, _, _], _ => rfl
  have CPR : Cal P w K mg base 9 "_law_products_right" _ fd__law_products_right ["p", "rows", "letters", "others", "columns", "wide"] (spPRt) := cal_mk F__law_products_right (gl (by decide +kernel)) (ok_PRt F__law_products_right B5 CPs CLP CS CLS CMP) fun _ _ _ _ _ _ us hl => match us, hl with | [_, _, _, _, _, _], _ => rfl
  exact ok_Law F_law B5 C ct CD CT CFd CLM CLS CSR CZR CPR CS CWC CBd CO3 CMt2 CLIM CLN CTd MK GI bI vI
end WU

namespace WU
open PySem PySem.Spec PyProof.Rows L2
theorem walk {l : PySem.W.OpenLaw} {q : Program} {loose : List Str} {XP : (Str → Option Value) → Heap → Prop} {YP : World → Heap → Prop} {d : DefRec} {K : Params → PySem.W.Frag} (hn : l.most = some 63) (hdf : d.params.defaults = []) (hname : d.name = ("law" : Str))
    (hY : ∀ (w : World) (h : Heap), YP w h → (K w.params).In h) (hD : ∀ w : World, He.SaysD [] fn (K w.params)) (hE : ∀ w : World, ex (K w.params) = true) :
    PySem.W.WalkO q loose XP YP l.row.toRowW d [] (fun f vs => PySem.call f vs) :=
  L2.walk_of (n := 63) (k := 12) (x := "script") (CX := fun _ => CX0) (sp := fun w => spLaw (K w.params)) hn (by decide) hdf ⟨rfl, by decide, by decide⟩ hY
    (fun w mg fa h KX G hmg => facts KX G (by rw [← hname]; exact hmg) (hD w) (hE w)) (fun _ _ a ns hl _ hS => ⟨a, ns, rfl, hS, hl, fun _ => rfl⟩) fun _ _ _ _ _ z => z
end WU
open PySem PySem.W PyProof.Rows
set_option maxRecDepth 100000 in
set_option maxHeartbeats 0 in
theorem PySem.Challenge.cw_wishunseen_k05_spans_sums_and_products_holds : PySem.Challenge.rw_wishunseen_k05_spans_sums_and_products.Holds := by
  w_on; o_law; k_head; (case hw => w_witness2)
  k_fill
  refine WU.walk (l := PySem.Challenge.rw_wishunseen_k05_spans_sums_and_products) rfl rfl (by rfl) (fun w h Y => PySem.W.kIn_of Y) ?D ?E
  case D =>
    intro w
    show He.obsD [] WU.fn _ = He.valD WU.fn
    kernel_rfl
  case E =>
    intro w
    kernel_rfl

