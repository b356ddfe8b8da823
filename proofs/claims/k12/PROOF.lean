import PyProof.Rows.All
import Wide.All
import OpenK.AllK
import Wide.FinOn
import HandS.Base
import HandS.Call
import HandS.Exc
import HandS.List
import HandS.Comp
import HandS.Ends
import HandS.ExcOwn
import HandS.ExcInit
import HandS.OwnEq
import HandS.Words
import HandS.Defaults
import HandS.Head0
import HandS.Head1
import HandS.Head2
import HandS.HeadHook1
import HandS.HeadHook2
import HandS.IsInst
import HandS.ExcField
import HandS.Conv
import HandS.WordsExc
import HandS.Star
import HandS.TupAny
import HandS.Gcd
import KE.DataAny
import HandS.TupMul
import HandS.TupLen
import HandS.DictTup
import HandS.Zip
import HandS.Iter
import HandS.Dict
import HandS.Walk
import KE.GoesMore
import HandS.Strs
import KE.DataCmp
import PyProof.Draws
import HandS.Deep
import HandS.CallSlots
import HandS.MakeKw
import HandS.HeadEnd
import PySem.Challenge.RW_wishunseen_k12_answers_of_a_plan
set_option Elab.async false
set_option linter.all false
set_option maxRecDepth 100000
set_option maxHeartbeats 4000000
/-! try with several clauses «except C as n», and with clauses without a name among them -/
namespace WU
open PySem PySem.Spec PyProof.Rows L2
/-- a clause: the class, its name's slot (if it has one), what the suite does -/
abbrev Cl := Value × Option Nat × (Addr → Value → Option Addr → TS)
/-- behind a named suite the slot is empty -/
def wiped (i : Nat) (D : Ends) : Ends := { nx := fun z h => D.nx (z.set i none) h, rt := D.rt, bk := fun z h => D.bk (z.set i none) h, ct := fun z h => D.ct (z.set i none) h }
def suiteOf (i : Option Nat) (ts : TS) (D : Ends) (σ : L2.St) (H : Hp) (a : Addr) : Prop :=
  match i with
  | some j => ts (wiped j D) (σ.set j (some (V.ref a))) H
  | none => ts D σ H
/-- what the clauses wish of an exception that leaves the body -/
def wCls (K : PySem.W.Frag) (Wout : WX) (D : Ends) : List Cl → WX
  | [] => Wout
  | q :: r => fun cls d σ H => ∃ b, PySem.W.exmOne K cls q.1 = some b ∧ (b = true → ∀ a, H a = none → suiteOf q.2.1 (q.2.2 a cls d) D σ H a) ∧ (b = false → wCls K Wout D r cls d σ H)
inductive Clauses (X : Cx) : List ExceptHandler → List Cl → Prop
  | nil : Clauses X [] []
  | named {x n : Str} {i : Nat} {c : Value} {ts : Addr → Value → Option Addr → TS} {b : Stmt} {su : List Stmt} {p q : Pos} {hs : List ExceptHandler} {l : List Cl}
      (hi : X.N[i]? = some n) (hl : X.env.kindOf n = some .local) (hc : Names X x c)
      (hsu : ∀ (a : Addr) (oe : Obj) (cls : Value) (d : Option Addr) (pn : List (Addr × Obj)), Zc cls d oe → (∃ vs, oe.data = .fields vs) → PSs (X.suite a ((a, oe) :: pn)) (b :: su) (ts a cls d))
      (r : Clauses X hs l) : Clauses X (.ExceptHandler (some (.Name x p)) (some n) (b :: su) q :: hs) ((c, some i, ts) :: l)
section
variable {X : Cx} {body : List Stmt} {h₀ : ExceptHandler} {hds : List ExceptHandler} {l : List Cl} {pos : Pos} {tb : WX → TS} {Wout : WX}
theorem ps_try_cls (hst : X.stack = X.env :: X.outer) (hfr : X.env.frame = some X.env.locals) (hN : X.N.Nodup) (tk : Takes X Wout)
    (hb : ∀ (W : WX) (pn : List (Addr × Obj)) (xe : Value → Shared → Prop), Takes (X.tr pn xe) W →
      PassesOwn (model X.prog X.w) X.A X.env xe → PSs (X.tr pn xe) body (tb W))
    (hh : Clauses X (h₀ :: hds) l) : PS X (.Try body (h₀ :: hds) [] [] pos) (fun D σ H => tb (wCls X.K Wout D l) D σ H) := by
  constructor
  intro pins s σ H D I h
  have okX := I.ok
  have frA : X.A.frames = some (X.env :: X.outer) := okX.frames.trans (congrArg some hst)
  apply wpAny_Try_except
  let xe1 : Value → Shared → Prop := fun e s₁ => wpAny (model X.prog X.w) X.A (noteFrame e X.env) (fun _ s₂ =>
    wpAny (model X.prog X.w) X.A (setFlight e none) (fun _ s₃ => wpAny (model X.prog X.w) X.A (handleBy e X.env (h₀ :: hds))
      (SP X pins D) X.xe s₃) X.xe s₂) X.xe s₁
  have taken : Takes (X.tr (X.pn ++ pins) xe1) (wCls X.K Wout D l) := by
    rintro u st ⟨a, B, sI, pins', σ', H', cls, d, rfl, J', nb, up, sky, na, os, ag, wish⟩
    have J : Inv X pins σ' H' sI := J'.ofTry okX
    rw [show (X.tr (X.pn ++ pins) xe1).stack = X.env :: X.outer from hst] at sky
    show wpAny (model X.prog X.w) X.A (noteFrame (Value.ref a) X.env) _ _ _
    refine Sky.land Zc.steady frA hfr sky fun hA flA upA => ?_
    have JA : Inv X pins σ' H' { st with heap := hA } := J.landed nb flA.1 (up.trans upA) os ag
    obtain ⟨oA, vA, eA, zA, dA⟩ := flA.there
    have offF : a ∉ frs (X.env :: X.outer) := fun hm => by
      obtain ⟨_, o', e', hn⟩ := flA.2.2.1.mem hm
      cases eA.symm.trans e'
      exact hn _ dA
    have offL : a ≠ X.env.locals := by
      rintro rfl
      exact offF (List.mem_filterMap.mpr ⟨X.env, .head _, hfr⟩)
    have offO : a ∉ X.fs := fun hm => by
      obtain ⟨en, hen, q⟩ := List.mem_filterMap.mp hm
      exact offF (List.mem_filterMap.mpr ⟨en, .tail _ hen, q⟩)
    have SA := JA.suite eA dA na offL offO
    have isT : PySem.W.Looks (model X.prog X.w) hA (typeOf (.ref a)) cls := by
      intro A Q E s2 kk q
      refine wpAny_typeOf_ref (kk _ _ eA) ?_
      rw [zA.1]
      exact q
    have onward : ∀ {hs : List ExceptHandler} {l' : List Cl}, Clauses X hs l' → wCls X.K Wout D l' cls d σ' H' →
        wpAny (model X.prog X.w) X.A (handleBy (.ref a) X.env hs) (SP X pins D) X.xe { st with heap := hA } := by
      intro hs l' hk
      induction hk with
      | nil =>
        intro wout
        apply wpAny_handleBy_nil
        obtain ⟨_, _, _, oe, vs, T, oT, tt, he, hz, hd, h1, hr⟩ := id flA
        unfold PySem.passOn
        apply wpAny_bind
        refine wpAny_field he hd h1 ?_
        have nn : ¬ ((Value.ref T == Value.none) = true) := by simp
        rw [if_neg nn]
        have fin : wpAny (model X.prog X.w) X.A (setFlight (.ref a) X.env.frame) (fun _ s4 =>
            wpAny (model X.prog X.w) X.A (throw (.ref a) : Sem Flow) (SP X pins D) X.xe s4) X.xe { st with heap := hA } := by
          rw [hfr]
          refine HandSPX.setFlight_upZ flA fun hB hhB upB => ?_
          apply wpAny_throw
          apply tk
          refine ⟨a, B, sI, pins, σ', H', cls, d, rfl, J, nb, (up.trans upA).trans upB, ?_, na, os, ag, wout⟩
          right; right
          rw [hst]
          exact hhB
        first
          | exact wpAny_bind (wpAny_pure (wpAny_bind fin))
          | exact wpAny_bind fin
      | @named x n i c ts b su p q hs2 l2 hi hl hc hsu r ih =>
        rintro ⟨yes, hyn, onYes, onNo⟩
        refine wpAny_handleBy_cons (codeAny_handlers_test ?_) (by intro z; cases z)
        have hits := PySem.W.exm_one (M := model X.prog X.w) JA.kIn isT hyn
        have asked : ∀ {Q E : Value → Shared → Prop}, Q c { st with heap := hA } →
            wpAny (model X.prog X.w) (X.A.mark (some (.ref a))) (eval (.Name x p) X.env) Q E { st with heap := hA } := by
          intro Q E q
          obtain ⟨g1, g2, g3⟩ := hc
          rcases g3 with g3 | ⟨g3, g4, g5⟩
          · exact ld_glob (X := X.suite a ((a, oA) :: (X.pn ++ pins))) SA g1 g3 q g2
          · exact ld_blt (X := X.suite a ((a, oA) :: (X.pn ++ pins))) SA g1 g3 g4 q g5 g2
        apply asked
        refine hits.here ?_
        cases yes with
        | false => exact ih (onNo rfl)
        | true =>
          apply codeAny_handlers_suite_as
          refine HandSPX.lands_againZ flA fun hB flB upB => ?_
          have JB : Inv X pins σ' H' { st with heap := hB } := J.landed nb flB.1 ((up.trans upA).trans upB) os ag
          obtain ⟨oB, vB, eB, zB, dB⟩ := flB.there
          have SB := JB.suite eB dB na offL offO
          refine store_ok (X := X.suite a ((a, oB) :: (X.pn ++ pins))) (v := .ref a) SB hN hi (Or.inl hl) rfl (fun s5 S5 => ?_) (Or.inr hl)
          have runs := (hsu a oB cls d (X.pn ++ pins) zB ⟨_, dB⟩).run [] s5 _ H' _ S5 (onYes rfl a na)
          refine wpAny_mono runs (fun f s6 hsp => ?_) fun _ _ z => z.elim
          have left_ : ∀ {σ6 : L2.St} {H6 : Hp} {Q : Shared → Prop}, Inv (X.suite a ((a, oB) :: (X.pn ++ pins))) [] σ6 H6 s6 →
              (∀ s7, Inv X pins (σ6.set i none) H6 s7 → Q s7) →
              wpAny (model X.prog X.w) X.A (do bindName X.env n .none; unbindBehindTheSuite X.env n q) (fun _ s7 => Q s7) X.xe s6 :=
            fun S6 k => gone_ok (S6.unsuite okX) hN hi hl k
          match f, hsp with
          | .next, ⟨σ6, H6, S6, q6⟩ => exact left_ S6 fun s7 J7 => ⟨_, _, J7, q6⟩
          | .brk, ⟨σ6, H6, S6, q6⟩ => exact left_ S6 fun s7 J7 => ⟨_, _, J7, q6⟩
          | .cont, ⟨σ6, H6, S6, q6⟩ => exact left_ S6 fun s7 J7 => ⟨_, _, J7, q6⟩
          | .ret u, ⟨v6, σ6, H6, S6, r6, q6⟩ => exact left_ S6 fun s7 J7 => ⟨_, _, _, J7, r6, q6⟩
    exact onward hh wish
  have body_ := (hb _ (X.pn ++ pins) xe1 taken PassesOwn.looking).run [] s σ H D (I.toTry _) h
  refine wpAny_mono body_ (fun f s1 hsp => ?_) fun _ _ z => z
  match f, hsp with
  | .next, ⟨σ', H', J', q⟩ => exact wpAny_execs_nil ⟨σ', H', J'.ofTry okX, q⟩
  | .brk, ⟨σ', H', J', q⟩ => exact ⟨σ', H', J'.ofTry okX, q⟩
  | .cont, ⟨σ', H', J', q⟩ => exact ⟨σ', H', J'.ofTry okX, q⟩
  | .ret u, ⟨v, σ', H', J', r, q⟩ => exact ⟨v, σ', H', J'.ofTry okX, r, q⟩
end
end WU

set_option maxRecDepth 100000
set_option maxHeartbeats 4000000
namespace WU
open PySem PySem.Spec PyProof.Rows L2
/-! ### the head's facts -/
/-- the facts of the defs, and one more Bool -/
def hookB (n : Nat) (fn : List He.DefD) (ex : PySem.W.Frag → Bool) : PySem.W.Hook where
  α := He.AlD × Bool
  obs := fun s => (He.obsDG n [] fn s.heap.get?, ex (He.frG s.heap.get? (He.asD s.heap.get? n)))
  val := fun _ => (He.valD fn, true)
  says := fun _ h => ∃ K : PySem.W.Frag, K.In h ∧ He.SaysD [] fn K ∧ ex K = true
  of := fun _ _ e => ⟨_, He.frG_in, congrArg Prod.fst e, congrArg Prod.snd e⟩
  keeps := fun _ _ _ ⟨K, hK, c⟩ k => ⟨K, PySem.W.Frag.In.keeps hK k, c⟩
def obB (n : Nat) (fn : List He.DefD) (ex : PySem.W.Frag → Bool) (s : PySem.W.SharedT) : He.AlD × Bool :=
  (He.obsDG n [] fn (HandSHeadRun.getT s), ex (He.frG (HandSHeadRun.getT s) (He.asD (HandSHeadRun.getT s) n)))
theorem obB_eq {n : Nat} {fn : List He.DefD} {ex : PySem.W.Frag → Bool} (s : PySem.W.SharedT) : obB n fn ex s = (hookB n fn ex).obs s.abs := by
  have e : HandSHeadRun.getT s = s.abs.heap.get? := funext (HandSHeadRun.getT_eq s)
  unfold obB
  rw [e]
  rfl
theorem and2 {a b : Bool} (h : (a && b) = true) : a = true ∧ b = true := Bool.and_eq_true_iff.mp h
/-- names that the module leaves to the built-ins; names that stand for objects -/
def freeB (K : PySem.W.Frag) (xs : List Str) : Bool := xs.all fun x => decide (PySem.W.nsIn K mainGlobals x = some none)
def globB (K : PySem.W.Frag) (xs : List Str) : Bool := xs.all fun x => decide (PySem.W.nsIn K mainGlobals x = some (some (.ref (He.ga K x))))
section
variable {K : PySem.W.Frag} {h : Heap} {mg : Str → Option Value}
theorem freeB_ok (X : K.In h) (G : h.Ns mainGlobals mg) {xs : List Str} (c : freeB K xs = true) {x : Str} (hx : x ∈ xs) : mg x = none :=
  PySem.W.mg_none_of X G (of_decide_eq_true (List.all_eq_true.mp c x hx))
theorem globB_ok (X : K.In h) (G : h.Ns mainGlobals mg) {xs : List Str} (c : globB K xs = true) {x : Str} (hx : x ∈ xs) : mg x = some (.ref (He.ga K x)) :=
  PySem.W.mg_of X G (of_decide_eq_true (List.all_eq_true.mp c x hx))
end
/-! ### an own exception class over ValueError (or over own ones that are) -/
def oexShape (C : Addr) : Option Obj → Bool
  | some ⟨.type t, _, .cls ⟨_, _, .ref C' :: bm, _, _, true, _, _, _, _, false⟩, ⟨[_, _, _, _, some (.builtin id), _]⟩⟩ =>
    decide (t = "type") && (decide (C' = C) && (decide (id = "ValueError.__new__") && PySem.HandSPX.refsVE bm))
  | _ => false
def oexB (K : PySem.W.Frag) (C : Addr) : Bool :=
  oexShape C (K.lookup C) && (decide (PySem.W.findIn K (.ref C) "__setattr__" = some (some (.builtin "object.__setattr__"))) &&
    (decide (PySem.W.subIn K (.ref C) (.type "BaseException") = some true) && (decide (PySem.W.typeIn K (.ref C) = some (.type "type")) && PySem.W.keepIn K (.ref C))))
theorem oexB_ok {K : PySem.W.Frag} {C : Addr} (h : oexB K C = true) : OexC K C := by
  obtain ⟨h1, h⟩ := and2 h
  obtain ⟨h2, h⟩ := and2 h
  obtain ⟨h3, h⟩ := and2 h
  obtain ⟨h4, h5⟩ := and2 h
  refine ⟨?_, of_decide_eq_true h2, of_decide_eq_true h3, of_decide_eq_true h4, h5⟩
  unfold oexShape at h1
  split at h1
  · rename_i t dd nm bs C' bm N q sn sub ab col k0 k1 k2 k3 id k5 heq
    obtain ⟨e1, h1⟩ := and2 h1
    obtain ⟨e2, h1⟩ := and2 h1
    obtain ⟨e3, e4⟩ := and2 h1
    have q1 := of_decide_eq_true e1
    have q2 := of_decide_eq_true e2
    have q3 := of_decide_eq_true e3
    subst q1 q2 q3
    exact ⟨_, _, _, _, _, _, _, _, _, _, _, _, _, _, _, heq, e4⟩
  · cases h1
/-- what every body asks of an exception class X whose __init__ stands at fI and keeps one field f -/
structure Exc1 (K : PySem.W.Frag) (mg : Str → Option Value) (x : Str) (f : Str) : Prop where
  glob : mg x = some (.ref (He.ga K x))
  oex : OexC K (He.ga K x)
  no : PySem.W.findIn K (.ref (He.ga K x)) f = some none
  init : PySem.W.findIn K (.ref (He.ga K x)) "__init__" = some (some (.ref (He.ma K (He.ga K x) "__init__")))
  tI : PySem.W.typeIn K (.ref (He.ma K (He.ga K x) "__init__")) = some (.type "function")
def exc1B (K : PySem.W.Frag) (x f : Str) : Bool :=
  decide (PySem.W.nsIn K mainGlobals x = some (some (.ref (He.ga K x)))) && (oexB K (He.ga K x) && (decide (PySem.W.findIn K (.ref (He.ga K x)) f = some none) &&
    (decide (PySem.W.findIn K (.ref (He.ga K x)) "__init__" = some (some (.ref (He.ma K (He.ga K x) "__init__")))) && decide (PySem.W.typeIn K (.ref (He.ma K (He.ga K x) "__init__")) = some (.type "function")))))
theorem exc1B_ok {K : PySem.W.Frag} {h : Heap} {mg : Str → Option Value} (X : K.In h) (G : h.Ns mainGlobals mg) {x f : Str} (c : exc1B K x f = true) : Exc1 K mg x f := by
  obtain ⟨h1, c⟩ := and2 c
  obtain ⟨h2, c⟩ := and2 c
  obtain ⟨h3, c⟩ := and2 c
  obtain ⟨h4, h5⟩ := and2 c
  exact ⟨PySem.W.mg_of X G (of_decide_eq_true h1), oexB_ok h2, of_decide_eq_true h3, of_decide_eq_true h4, of_decide_eq_true h5⟩
/-- an if whose test is known by an equation -/
theorem iteTb {c : Bool} {A B : Prop} (hc : c = true) (h : A) : if c = true then A else B := by
  rw [if_pos hc]
  exact h
theorem iteFb {c : Bool} {A B : Prop} (hc : c = false) (h : B) : if c = true then A else B := by
  rw [if_neg (by rw [hc]; decide)]
  exact h
theorem iteD {c : Prop} [Decidable c] {A B : Prop} (h1 : c → A) (h2 : ¬ c → B) : if decide c = true then A else B := by
  by_cases h : c
  · rw [decide_eq_true h]
    exact iteT (h1 h)
  · rw [decide_eq_false h]
    exact iteF (h2 h)
theorem ixN_at {n q : Nat} (h : q < n) : ixN n (q : Int) = some q := by
  unfold ixN
  rw [if_pos (by omega), if_pos (by omega)]
  simp
/-! ### calls -/
/-- the name x stands for a def that keeps sp -/
structure Cal (P : Program) (w : World) (K : PySem.W.Frag) (mg : Str → Option Value) (base : Heap) (k : Nat) (x : Str) (f : Addr) (fd : FuncData) (ps : List Str) (sp : Sp) : Prop where
  glob : mg x = some (.ref f)
  kp : PySem.W.keepIn K (.ref f) = true
  binds : Binds K fd ps []
  ok : FnOk P w K mg base (L2.CX P w) k f fd ps sp
theorem passU {X : Cx} : Passes (L2.CX X.prog X.w) X E0 := fun _ _ _ _ _ _ _ ⟨_, _, _, _, _, _, _, _, _, _, _, _, z⟩ => z.elim
section
variable {X : Cx} {k : Nat} {x : Str} {f : Addr} {fd : FuncData} {ps : List Str} {sp : Sp} {E : XK} {e : Expr} {es : List Expr} {t : TA} {p pos : Pos}
theorem pe_cal (C : Cal X.prog X.w X.K X.mg X.base k x f fd ps sp) (hr : Room k X.A) (ha : PA X (e :: es) t) (hx : Passes (L2.CX X.prog X.w) X E) (hg : Gl X x := by rfl) (hdb : (x == ("__debug__" : Str)) = false := by decide)
    (he : starEach (e :: es) X.env = (false, eval e X.env) :: starEach es X.env := by rfl) (hpl : (backTo pos (starEach es X.env)).any (·.1) = false := by rfl) :
    PE X (.Call (.Name x p) (e :: es) [] pos) (tCall sp [] E t) := pe_call C.ok hr hg C.glob C.kp C.binds .nil hx ha hdb he hpl
theorem pe_calS {W : WX} (C : Cal X.prog X.w X.K X.mg X.base k x f fd ps sp) (hr : Room k X.A) (ha : PA X (e :: es) t) (tk : Takes X W) (hg : Gl X x := by rfl) (hdb : (x == ("__debug__" : Str)) = false := by decide)
    (he : starEach (e :: es) X.env = (false, eval e X.env) :: starEach es X.env := by rfl) (hpl : (backTo pos (starEach es X.env)).any (·.1) = false := by rfl) :
    PE X (.Call (.Name x p) (e :: es) [] pos) (tCallS sp (WE W) t) := pe_callS C.ok hr hg C.glob C.kp C.binds (fun σ => passAt tk σ) ha hdb he hpl
end
/-! ### raise X(e), X's __init__ keeping one field -/
/-- self.f = value -/
def spInit1 (K : PySem.W.Frag) (C : Addr) (f : Str) : Sp := fun vs H Q _ => ∃ (a : Addr) (y : V), vs = [.ref a, y] ∧ OexC K C ∧ PySem.W.findIn K (.ref C) f = some none ∧ H a = some (exo a C none) ∧
  ∀ dx, H dx = none → dx ≠ a → Q .non (upd (upd H dx (exd dx [(f, y)])) a (exo a C (some dx)))
/-- the reading: the error's class, its own dict, the heap behind -/
def tMk1 (C : Addr) (f : Str) (ta : TA) : L2.St → Hp → XK → Prop := fun σ H Q => ta σ H fun vs H1 => ∃ v, vs = [v] ∧ ∀ d H', Same H1 H' → H1 d = none → H' d = some (.xd [(f, v)]) → Q (.ref C) (some d) H'
/-- a reading that may be weakened -/
def lax (ta : TA) : TA := fun σ H Q => ∃ Q0 : List V → Hp → Prop, ta σ H Q0 ∧ ∀ vs H1, Q0 vs H1 → Q vs H1
theorem pa_lax {X : Cx} {es : List Expr} {ta : TA} (ha : PA X es ta) : PA X es (lax ta) :=
  ⟨fun pos pins s σ H Q I h => by
    obtain ⟨Q0, h0, hq⟩ := h
    refine wpAny_mono (ha.run pos pins s σ H Q0 I h0) (fun us s1 hu => ?_) fun _ _ z => z
    obtain ⟨vs, H1, I1, r, q⟩ := hu
    exact ⟨vs, H1, I1, r, hq vs H1 q⟩⟩
section
variable {X : Cx} {k : Nat} {x f : Str} {fd : FuncData} {q : Str} {e : Expr} {ta : TA} {p pos pos2 : Pos}
theorem pmk_1 (T : Exc1 X.K X.mg x f) (F : FnOk X.prog X.w X.K X.mg X.base (L2.CX X.prog X.w) k (He.ma X.K (He.ga X.K x) "__init__") fd ["self", q] (spInit1 X.K (He.ga X.K x) f)) (b : Binds X.K fd ["self", q] [])
    (hr : Room (k + 1) X.A) (ha : PA X [e] ta) (hg : Gl X x := by rfl) (hdb : (x == ("__debug__" : Str)) = false := by decide)
    (he : starEach (e :: []) X.env = (false, eval e X.env) :: starEach [] X.env := by rfl) (hpl : (backTo pos (starEach [] X.env)).any (·.1) = false := by rfl) :
    PMk X (.Call (.Name x p) [e] [] pos) (tMk1 (He.ga X.K x) f ta) := by
  intro pins s σ H Q I h
  refine pmk_oex (CX := L2.CX X.prog X.w) (dvs := []) T.oex T.init T.tI F hr b .nil passU hg T.glob (pa_lax ha) hdb he hpl pins s σ H Q I ⟨_, h, fun vs H1 hv => ?_⟩
  obtain ⟨v, rfl, kk⟩ := hv
  refine ⟨(show 1 ≤ 1000 by decide), fun a na => ⟨a, v, rfl, T.oex, T.no, upd_same, fun dx ndx hdx => ⟨rfl, dx, [(f, v)], upd_same, by rw [upd_ne hdx, upd_same], ?_, ?_⟩⟩⟩
  · rw [upd_ne hdx] at ndx
    exact ndx
  · rw [upd_ne hdx] at ndx
    refine kk dx _ (fun c o hc => ?_) ndx upd_same
    have c1 : c ≠ dx := ne_of_none hc ndx
    have c2 : c ≠ a := ne_of_none hc na
    rw [upd_ne c1, del_ne c2, upd_ne c2, upd_ne c1, upd_ne c2]
    exact hc
theorem ps_raise1 {W : WX} (hc : X.calm = true) (tk : Takes X W) (T : Exc1 X.K X.mg x f) (F : FnOk X.prog X.w X.K X.mg X.base (L2.CX X.prog X.w) k (He.ma X.K (He.ga X.K x) "__init__") fd ["self", q] (spInit1 X.K (He.ga X.K x) f)) (b : Binds X.K fd ["self", q] [])
    (hr : Room (k + 1) X.A) (ha : PA X [e] ta) (hg : Gl X x := by rfl) (hdb : (x == ("__debug__" : Str)) = false := by decide)
    (he : starEach (e :: []) X.env = (false, eval e X.env) :: starEach [] X.env := by rfl) (hpl : (backTo pos (starEach [] X.env)).any (·.1) = false := by rfl) :
    PS X (.Raise (some (.Call (.Name x p) [e] [] pos)) none pos2) (fun _ σ H => tMk1 (He.ga X.K x) f ta σ H fun cls d H' => W cls d σ H') :=
  ps_raise hc tk (pmk_1 T F b hr ha hg hdb he hpl)
end
end WU

namespace WU
open PySem PySem.Spec PyProof.Rows L2
def top (i : Nat) : Stmt := PySem.Challenge.pw_wishunseen_k12_answers_of_a_plan.main.body.getD i (.Pass ⟨0, 0, 0, 0⟩)
abbrev s_wall : Stmt := top 0
abbrev sInvalidNumber_init : Stmt := inClass (top 3) 0
abbrev sInvalidMatrix_init : Stmt := inClass (top 4) 0
abbrev sInvalidLibrary_init : Stmt := inClass (top 5) 0
abbrev sInvalidPlan_init : Stmt := inClass (top 6) 0
abbrev sIsInt : Stmt := top 8
abbrev sIsNum : Stmt := top 9
abbrev sIsBel : Stmt := top 10
abbrev s_is_positive : Stmt := top 11
abbrev sSeq : Stmt := top 12
abbrev s_is_rising : Stmt := top 13
abbrev sLets : Stmt := top 14
abbrev sIsFld : Stmt := top 17
abbrev sCheck : Stmt := top 18
abbrev sLibrary_init : Stmt := inClass (top 20) 0
abbrev sLibrary_eq : Stmt := inClass (top 20) 1
abbrev sLibrary_book : Stmt := inClass (top 20) 2
abbrev sLibrary_changed : Stmt := inClass (top 20) 3
abbrev sLibrary_of_letters : Stmt := inClass (top 20) 4
abbrev sLibrary_check_book : Stmt := inClass (top 20) 5
abbrev s_are_books : Stmt := top 21
abbrev s_letters_of : Stmt := top 22
abbrev s_is_matrix : Stmt := top 24
abbrev s_products : Stmt := top 25
abbrev s_check_matrix : Stmt := top 26
abbrev s_width_of_rows : Stmt := top 27
abbrev s_is_row : Stmt := top 28
abbrev s_u_products : Stmt := top 29
abbrev sPlan_init : Stmt := inClass (top 31) 0
abbrev sPlan_eq : Stmt := inClass (top 31) 1
abbrev sPlan_asked : Stmt := inClass (top 31) 2
abbrev sPlan_asked_rows : Stmt := inClass (top 31) 3
abbrev sPlan_answer_size : Stmt := inClass (top 31) 4
abbrev sPlan_answer : Stmt := inClass (top 31) 5
abbrev sPlan_answers : Stmt := inClass (top 31) 6
abbrev sPlan_made : Stmt := inClass (top 31) 7
abbrev s_check_sizes : Stmt := top 32
abbrev s_members_of : Stmt := top 33
abbrev s_check_places : Stmt := top 34
abbrev s_check_draws : Stmt := top 35
abbrev s_kept_questions : Stmt := top 36
abbrev s_kept_draws : Stmt := top 37
abbrev s_weight_of : Stmt := top 38
abbrev s_is_draw : Stmt := top 39
abbrev s_check_wish : Stmt := top 40
abbrev s_check_ask : Stmt := top 41
abbrev s_check_question : Stmt := top 42
abbrev s_check_library : Stmt := top 43
abbrev s_parts_of : Stmt := top 44
abbrev s_all_houses : Stmt := top 45
abbrev s_rows_asked : Stmt := top 46
abbrev s_are_questions : Stmt := top 47
abbrev s_is_framed : Stmt := top 48
abbrev sDraws : Stmt := top 50
abbrev sTake : Stmt := top 51
abbrev s_law_books : Stmt := top 52
abbrev s_law_library_size : Stmt := top 53
abbrev s_law_questions : Stmt := top 54
abbrev s_law_rising : Stmt := top 55
abbrev s_law_parts : Stmt := top 56
abbrev s_law_product : Stmt := top 57
abbrev s_law_answer : Stmt := top 58
abbrev s_law_same : Stmt := top 59
abbrev s_law_is_plan : Stmt := top 60
abbrev s_law_call : Stmt := top 61
abbrev s_law_told : Stmt := top 62
abbrev s_law_other_library : Stmt := top 63
abbrev s_law_far : Stmt := top 64
abbrev s_law_asks_right : Stmt := top 65
abbrev s_law_houses_right : Stmt := top 66
abbrev sLaw : Stmt := top 67
theorem scInvalidNumber : FnScope ["self", "value"] ["self", "value"] (defScope sInvalidNumber_init) := ⟨rfl, rfl, rfl, by decide +kernel, rfl, by decide +kernel, by decide +kernel⟩
theorem bodyInvalidNumber (X : Cx) (hN : X.N = (["self", "value"] : List Str)) (hs : X.env.scope = defScope sInvalidNumber_init) : PSs X (defBody sInvalidNumber_init) (tOst X.K "value" (tVar 0) (tVar 1)) :=
  pss_one (ps_ost (pv 0 (by rw [hN] <;> rfl) (by rw [hs]; exact .inl rfl)) (pv 1 (by rw [hN] <;> rfl) (by rw [hs]; exact .inl rfl)))
theorem scInvalidMatrix : FnScope ["self", "value"] ["self", "value"] (defScope sInvalidMatrix_init) := ⟨rfl, rfl, rfl, by decide +kernel, rfl, by decide +kernel, by decide +kernel⟩
theorem bodyInvalidMatrix (X : Cx) (hN : X.N = (["self", "value"] : List Str)) (hs : X.env.scope = defScope sInvalidMatrix_init) : PSs X (defBody sInvalidMatrix_init) (tOst X.K "value" (tVar 0) (tVar 1)) :=
  pss_one (ps_ost (pv 0 (by rw [hN] <;> rfl) (by rw [hs]; exact .inl rfl)) (pv 1 (by rw [hN] <;> rfl) (by rw [hs]; exact .inl rfl)))
theorem scInvalidLibrary : FnScope ["self", "value"] ["self", "value"] (defScope sInvalidLibrary_init) := ⟨rfl, rfl, rfl, by decide +kernel, rfl, by decide +kernel, by decide +kernel⟩
theorem bodyInvalidLibrary (X : Cx) (hN : X.N = (["self", "value"] : List Str)) (hs : X.env.scope = defScope sInvalidLibrary_init) : PSs X (defBody sInvalidLibrary_init) (tOst X.K "value" (tVar 0) (tVar 1)) :=
  pss_one (ps_ost (pv 0 (by rw [hN] <;> rfl) (by rw [hs]; exact .inl rfl)) (pv 1 (by rw [hN] <;> rfl) (by rw [hs]; exact .inl rfl)))
end WU

set_option maxRecDepth 100000
set_option maxHeartbeats 4000000
namespace WU
open PySem PySem.Spec PyProof.Rows L2
abbrev FnS (K : PySem.W.Frag) (x : Str) (st : Stmt) (f : Addr) (fd : FuncData) : Prop := FunD K x x (defArgs st) (defBody st) (defScope st) [] [] f fd
theorem small4k {n : Nat} (h : n ≤ 4000) : n < sizeLine := Nat.lt_of_le_of_lt h (by decide)
/-! ### any values -/
def isIB : V → Bool
  | .int _ => true
  | .bl _ => true
  | _ => false
def isB : V → Bool
  | .bl _ => true
  | _ => false
def isI : V → Bool
  | .int _ => true
  | _ => false
/-- the value has a type, of which int and bool are known -/
def Ty3 (K : PySem.W.Frag) (H : Hp) (v : V) : Prop := ∃ t, TyX K H v t ∧ PySem.W.kitOne K t (.type "int") = some (isIB v) ∧ PySem.W.kitOne K t (.type "bool") = some (isB v)
section
variable {K : PySem.W.Frag} {H : Hp}
theorem ty3_int (i : Int) : Ty3 K H (.int i) := ⟨_, .base (.int i), kit_ty (show kitB "int" "int" = some true by decide +kernel), kit_ty (show kitB "int" "bool" = some false by decide +kernel)⟩
theorem ty3_bl (b : Bool) : Ty3 K H (.bl b) := ⟨_, .base (.bl b), kit_ty (show kitB "bool" "int" = some true by decide +kernel), kit_ty (show kitB "bool" "bool" = some true by decide +kernel)⟩
theorem ty3_non : Ty3 K H .non := ⟨_, .base .non, kit_ty (show kitB "NoneType" "int" = some false by decide +kernel), kit_ty (show kitB "NoneType" "bool" = some false by decide +kernel)⟩
theorem ty3_str (z : Str) : Ty3 K H (.str z) := ⟨_, .base (.str z), kit_ty (show kitB "str" "int" = some false by decide +kernel), kit_ty (show kitB "str" "bool" = some false by decide +kernel)⟩
theorem ty3_lst {a : Addr} {xs : List V} (e : H a = some (.lst xs)) : Ty3 K H (.ref a) := ⟨_, .base (.lst e), kit_ty (show kitB "list" "int" = some false by decide +kernel), kit_ty (show kitB "list" "bool" = some false by decide +kernel)⟩
theorem ty3_tup {a : Addr} {xs : List V} (e : H a = some (.tup xs)) : Ty3 K H (.ref a) := ⟨_, .base (.tup e), kit_ty (show kitB "tuple" "int" = some false by decide +kernel), kit_ty (show kitB "tuple" "bool" = some false by decide +kernel)⟩
end
section
variable {P : Program} {w : World} {K : PySem.W.Frag} {mg : Str → Option Value} {base : Heap}
structure Blt (mg : Str → Option Value) : Prop where
  isi : mg "isinstance" = none
  int : mg "int" = none
  bool : mg "bool" = none
def spIsInt (K : PySem.W.Frag) : Sp := fun vs H Q _ => ∃ v, vs = [v] ∧ Ty3 K H v ∧ Q (.bl (isI v)) H
theorem scIsInt : FnScope ["value"] ["value"] (defScope sIsInt) := ⟨rfl, rfl, rfl, by decide +kernel, rfl, by decide +kernel, by decide +kernel⟩
theorem ok_isInt {f : Addr} {fd : FuncData} (F : FnS K "is_integer" sIsInt f fd) (B : Blt mg) : FnOk P w K mg base (L2.CX P w) 1 f fd ["value"] (spIsInt K) := by
  refine F.ok scIsInt (fun vs H Q E h => ?_) (fun cdv A outer s H vs Q E hr h => ?_)
  · obtain ⟨v, rfl, _⟩ := h
    rfl
  · obtain ⟨v, rfl, ⟨t, ht, h1, h2⟩, k⟩ := h
    refine ⟨_, pss_one (ps_ret (pe_and (pe_callB call_isi (by rfl) B.isi (by decide +kernel) (pa_cons (pv 0) (pa_cons (pe_bltn (v := .ty "int") (by rfl) B.int (by decide +kernel) rfl) pa_nil)))
      (pe_one (pe_not (pe_callB call_isi (by rfl) B.isi (by decide +kernel) (pa_cons (pv 0) (pa_cons (pe_bltn (v := .ty "bool") (by rfl) B.bool (by decide +kernel) rfl) pa_nil))))))), ?_⟩
    refine ⟨_, rfl, _, _, _, _, _, rfl, .ty "int", ht, h1, _, rfl, ?_⟩
    cases v with
    | int n =>
      refine iteT ⟨_, rfl, _, _, _, _, _, rfl, .ty "bool", ht, h2, _, rfl, k⟩
    | bl b => exact iteT ⟨_, rfl, _, _, _, _, _, rfl, .ty "bool", ht, h2, _, rfl, k⟩
    | _ => exact iteF k
theorem bN {x : Str} {st : Stmt} {f : Addr} {fd : FuncData} {ps : List Str} (F : FnS K x st f fd)
    (h : ∀ (kV doc pm : Value) (an : Option Addr) (cdv ct : Value) (us : List Value), us.length = ps.length → bindArgs (PySem.W.fnOf x x (defArgs st) (defBody st) (defScope st) .none kV doc pm an cdv ct) ⟨us, []⟩ = pure (ps.zip us)) : Binds K fd ps [] := F.bindsN h
theorem cal_mk {x : Str} {st : Stmt} {f : Addr} {fd : FuncData} {ps : List Str} {k : Nat} {sp : Sp} (F : FnS K x st f fd) (g : mg x = some (.ref f)) (ok : FnOk P w K mg base (L2.CX P w) k f fd ps sp)
    (h : ∀ (kV doc pm : Value) (an : Option Addr) (cdv ct : Value) (us : List Value), us.length = ps.length → bindArgs (PySem.W.fnOf x x (defArgs st) (defBody st) (defScope st) .none kV doc pm an cdv ct) ⟨us, []⟩ = pure (ps.zip us)) : Cal P w K mg base k x f fd ps sp :=
  ⟨g, F.kp, F.bindsN h, ok⟩
/-- whether it is a number; .. below n -/
def isN : V → Bool
  | .int i => decide (0 ≤ i)
  | _ => false
def isBel (n : Int) : V → Bool
  | .int i => decide (0 ≤ i) && decide (i < n)
  | _ => false
def spIsNum (K : PySem.W.Frag) : Sp := fun vs H Q _ => ∃ v, vs = [v] ∧ Ty3 K H v ∧ Q (.bl (isN v)) H
def spIsBel (K : PySem.W.Frag) : Sp := fun vs H Q _ => ∃ v n, vs = [v, .int n] ∧ Ty3 K H v ∧ Q (.bl (isBel n v)) H
theorem scIsNum : FnScope ["value"] ["value"] (defScope sIsNum) := ⟨rfl, rfl, rfl, by decide +kernel, rfl, by decide +kernel, by decide +kernel⟩
theorem ok_isNum {f f1 : Addr} {fd fd1 : FuncData} (F : FnS K "is_number" sIsNum f fd) (C1 : Cal P w K mg base 1 "is_integer" f1 fd1 ["value"] (spIsInt K)) : FnOk P w K mg base (L2.CX P w) 2 f fd ["value"] (spIsNum K) := by
  refine F.ok scIsNum (fun vs H Q E h => ?_) (fun cdv A outer s H vs Q E hr h => ?_)
  · obtain ⟨v, rfl, _⟩ := h
    rfl
  · obtain ⟨v, rfl, ht, k⟩ := h
    refine ⟨_, pss_one (ps_ret (pe_and (pe_cal C1 hr (pa_cons (pv 0) pa_nil) passU) (pe_one (pe_cmp (pc_ge (pv 0) pe_int))))), ?_⟩
    refine ⟨_, rfl, v, rfl, ht, _, rfl, ?_⟩
    cases v with
    | int n => exact iteT ⟨_, rfl, _, _, rfl, rfl, k⟩
    | _ => exact iteF k
theorem scIsBel : FnScope ["value", "limit"] ["value", "limit"] (defScope sIsBel) := ⟨rfl, rfl, rfl, by decide +kernel, rfl, by decide +kernel, by decide +kernel⟩
theorem ok_isBel {f f1 : Addr} {fd fd1 : FuncData} (F : FnS K "is_below" sIsBel f fd) (C1 : Cal P w K mg base 2 "is_number" f1 fd1 ["value"] (spIsNum K)) : FnOk P w K mg base (L2.CX P w) 3 f fd ["value", "limit"] (spIsBel K) := by
  refine F.ok scIsBel (fun vs H Q E h => ?_) (fun cdv A outer s H vs Q E hr h => ?_)
  · obtain ⟨v, n, rfl, _⟩ := h
    rfl
  · obtain ⟨v, n, rfl, ht, k⟩ := h
    refine ⟨_, pss_one (ps_ret (pe_and (pe_cal C1 hr (pa_cons (pv 0) pa_nil) passU) (pe_one (pe_cmp (pc_lt (pv 0) (pv 1)))))), ?_⟩
    refine ⟨_, rfl, v, rfl, ht, _, rfl, ?_⟩
    cases v with
    | int i =>
      have k' : Q (.bl (decide (0 ≤ i) && decide (i < n))) H := k
      show if decide (0 ≤ i) = true then _ else _
      by_cases h0 : 0 ≤ i
      · rw [decide_eq_true h0] at k' ⊢
        exact iteT ⟨_, rfl, _, rfl, _, _, rfl, rfl, k'⟩
      · rw [decide_eq_false h0] at k' ⊢
        exact iteF k'
    | _ => exact iteF k
/-- the primes to 31 -/
def primes : List Int := [2, 3, 5, 7, 11, 13, 17, 19, 23, 29, 31]
def isFld : V → Bool
  | .int i => inV (.int i) (primes.map V.int)
  | _ => false
def spIsFld (K : PySem.W.Frag) : Sp := fun vs H Q _ => ∃ v, vs = [v] ∧ Ty3 K H v ∧ Q (.bl (isFld v)) H
theorem scIsFld : FnScope ["p"] ["p"] (defScope sIsFld) := ⟨rfl, rfl, rfl, by decide +kernel, rfl, by decide +kernel, by decide +kernel⟩
theorem ok_isFld {f f1 fP : Addr} {fd fd1 : FuncData} (F : FnS K "is_field" sIsFld f fd) (C1 : Cal P w K mg base 1 "is_integer" f1 fd1 ["value"] (spIsInt K)) (gP : mg "PRIMES" = some (.ref fP)) (tP : ∀ H, SqT K H fP (primes.map V.int)) :
    FnOk P w K mg base (L2.CX P w) 2 f fd ["p"] (spIsFld K) := by
  refine F.ok scIsFld (fun vs H Q E h => ?_) (fun cdv A outer s H vs Q E hr h => ?_)
  · obtain ⟨v, rfl, _⟩ := h
    rfl
  · obtain ⟨v, rfl, ht, k⟩ := h
    refine ⟨_, pss_one (ps_ret (pe_and (pe_cal C1 hr (pa_cons (pv 0) pa_nil) passU) (pe_one (pe_cmpR op_in_seq (pv 0) (pe_glob (v := .ref fP) rfl gP rfl) rfl)))), ?_⟩
    refine ⟨_, rfl, v, rfl, ht, _, rfl, ?_⟩
    cases v with
    | int n => exact iteT ⟨_, rfl, _, _, rfl, .inr (tP H), rfl, by decide, k⟩
    | _ => exact iteF k
/-- an error of class C with its own dict at d, in a heap that has grown -/
def Errs (C : Addr) (f : Str) (v : V) (H : Hp) (E : XK) : Prop := ∀ d H', Same H H' → H d = none → H' d = some (.xd [(f, v)]) → E (.ref C) (some d) H'
def spCheck (K : PySem.W.Frag) : Sp := fun vs H Q E => ∃ v, vs = [v] ∧ Ty3 K H v ∧ (isFld v = true → Q .non H) ∧ (isFld v = false → Errs (He.ga K "InvalidNumber") "value" v H E)
theorem scCheck : FnScope ["p"] ["p"] (defScope sCheck) := ⟨rfl, rfl, rfl, by decide +kernel, rfl, by decide +kernel, by decide +kernel⟩
theorem ok_check {f f1 : Addr} {fd fd1 fdI : FuncData} (F : FnS K "check_field" sCheck f fd) (C1 : Cal P w K mg base 2 "is_field" f1 fd1 ["p"] (spIsFld K)) (T : Exc1 K mg "InvalidNumber" "value")
    (FI : FnOk P w K mg base (L2.CX P w) 1 (He.ma K (He.ga K "InvalidNumber") "__init__") fdI ["self", "value"] (spInit1 K (He.ga K "InvalidNumber") "value")) (bI : Binds K fdI ["self", "value"] []) :
    FnOk P w K mg base (L2.CX P w) 3 f fd ["p"] (spCheck K) := by
  refine F.ok scCheck (fun vs H Q E h => ?_) (fun cdv A outer s H vs Q E hr h => ?_)
  · obtain ⟨v, rfl, _⟩ := h
    rfl
  · obtain ⟨v, rfl, ht, kY, kN⟩ := h
    refine ⟨_, pss_one (ps_if (pt_not (pt_val (pe_cal C1 hr (pa_cons (pv 0) pa_nil) passU))) (pss_one (ps_raise1 rfl (takes_of rfl rfl rfl rfl) T FI bI hr (pa_cons (pv 0) pa_nil))) pss_nil), ?_⟩
    refine ⟨_, rfl, v, rfl, ht, _, rfl, ?_⟩
    cases e : isFld v with
    | true => exact iteF (kY e)
    | false => exact iteT ⟨_, rfl, v, rfl, kN e⟩
end
section
variable {P : Program} {w : World} {K : PySem.W.Frag} {mg : Str → Option Value} {base : Heap}
/-! ### the errors' __init__ -/
theorem ok_init1 {st : Stmt} {qual fld par : Str} {f C : Addr} {fd : FuncData} (F : FunD K "__init__" qual (defArgs st) (defBody st) (defScope st) [] [] f fd) (S : FnScope (("self" : Str) :: [par]) (("self" : Str) :: [par]) (defScope st))
    (body : ∀ X : Cx, X.N = (("self" : Str) :: [par]) → X.env.scope = defScope st → PSs X (defBody st) (tOst X.K fld (tVar 0) (tVar 1))) :
    FnOk P w K mg base (L2.CX P w) 1 f fd (("self" : Str) :: [par]) (spInit1 K C fld) := by
  refine F.ok S (fun vs H Q E h => ?_) (fun cdv A outer s H vs Q E hr h => ?_)
  · obtain ⟨a, y, rfl, _⟩ := h
    rfl
  · obtain ⟨a, y, rfl, hC, hno, ha, k⟩ := h
    refine ⟨_, body _ rfl rfl, ?_⟩
    exact ⟨_, rfl, _, rfl, a, C, rfl, hC, hno, .inl ⟨ha, fun dx n ne => k dx n ne⟩⟩
theorem fld_mem {p : Int} (h : isFld (.int p) = true) : p ∈ primes := by
  have h' : ((primes.map V.int).any fun y => eqV y (.int p)) = true := h
  obtain ⟨y, hy, e⟩ := List.any_eq_true.mp h'
  obtain ⟨q, hq, rfl⟩ := List.mem_map.mp hy
  have e' : (q == p) = true := e
  rw [← beq_iff_eq.mp e']
  exact hq
theorem mem_fld {p : Int} (h : p ∈ primes) : isFld (.int p) = true := by
  show ((primes.map V.int).any fun y => eqV y (.int p)) = true
  exact List.any_eq_true.mpr ⟨.int p, List.mem_map.mpr ⟨p, h, rfl⟩, by show (p == p) = true; simp⟩
theorem fld_le {p : Int} (h : p ∈ primes) : 2 ≤ p ∧ p ≤ 31 := by
  have all : ∀ q ∈ primes, 2 ≤ q ∧ q ≤ 31 := by decide
  exact all p h
/-- the built-ins that the law's helpers call -/
structure Blt2 (mg : Str → Option Value) : Prop extends Blt mg where
  len : mg "len" = none
  abs : mg "abs" = none
  range : mg "range" = none
  tuple : mg "tuple" = none
/-- numbers from 0 on -/
def Nn (ns : List Int) : Prop := ∀ n ∈ ns, 0 ≤ n
/-- _law_draws(script, many) -/
def spDraws (K : PySem.W.Frag) (many : Int) : Sp := fun vs H Q _ => ∃ (a : Addr) (ns : List Int), vs = [.ref a, .int many] ∧ SqL K H a (ns.map V.int) ∧ ns.length ≤ 63 ∧
  ∀ p ds H', Same H H' → H p = none → H' p = some (.lst (ds.map V.int)) → Nn ds → ds.length ≤ many.toNat → Q (.ref p) H'
theorem scDraws : FnScope ["script", "many", "cell", "rests", "draws", "k", "at", "mixed"] ["script", "many"] (defScope sDraws) := ⟨rfl, rfl, rfl, by decide +kernel, rfl, by decide +kernel, by decide +kernel⟩
def rMd : R2 := rI (fun _ j => j ≠ 0) fun i j => .int (i.fmod j)
def rDv : R2 := rI CDivN fun i j => .int (i.fdiv j)
def rMl : R2 := rI CMul fun i j => .int (i * j)
def rAd : R2 := rI0 fun i j => .int (i + j)
def tI1 (t : TE) : TE := tCB (fun xs H Q => (∃ i, xs = [V.int i] ∧ Q (.int i) H) ∨ ∃ k, xs = [V.bl k] ∧ Q (.int (if k then 1 else 0)) H) (tCons t tNil)
/-- the end of a turn: two mixings, one number put behind the others -/
def tTail (K : PySem.W.Frag) : TS := tSeq (tAsg (tOp rMd (tI1 (tOp rAd (tOp rAd (tOp rMl (tVar 2) (tC (.int 48271))) (tOp rMl (tVar 5) (tC (.int 69621)))) (tC (.int 11)))) (tC (.int 2147483647))) (gName 7))
  (tSeq (tAsg (tOp rMd (tI1 (tOp rAd (tOp rDv (tOp rMl (tVar 7) (tVar 7)) (tC (.int 4096))) (tVar 7))) (tC (.int 2147483629))) (gName 7))
    (tDrop (tBM K "list" rAppend (tVar 4) (tCons (tOp rMd (tI1 (tOp rAd (tOp rDv (tOp rMl (tVar 7) (tVar 7)) (tC (.int 4096))) (tOp rMl (tVar 5) (tC (.int 7919))))) (tC (.int 2147483629))) tNil))))
theorem fmod_bd (x : Int) {m : Int} (h : 0 < m) : 0 ≤ x.fmod m ∧ x.fmod m < m := ⟨Int.fmod_nonneg_of_pos x h, Int.fmod_lt_of_pos x h⟩
theorem tail_ok {D : Ends} {s0 s1 s3 s6 s7 : Option V} {c k : Int} {L : Addr} {ds : List Int} {H : Hp} (hL : H L = some (.lst (ds.map V.int))) (hl : ds.length ≤ 4000)
    (kk : ∀ (x : Int) (y : Option V), 0 ≤ x → D.nx [s0, s1, some (.int c), s3, some (.ref L), some (.int k), s6, y] (upd H L (.lst ((ds ++ [x]).map V.int)))) :
    tTail K D [s0, s1, some (.int c), s3, some (.ref L), some (.int k), s6, s7] H := by
  have b1 := fmod_bd (c * 48271 + k * 69621 + 11) (m := 2147483647) (by decide)
  refine ⟨_, rfl, _, _, rfl, rfl, .inr ⟨by decide, by decide⟩, _, rfl, _, _, rfl, rfl, .inr ⟨by decide, by decide⟩, _, _, rfl, rfl, _, _, rfl, rfl, .inl ⟨_, rfl, _, _, rfl, rfl, (show (2147483647 : Int) ≠ 0 by decide), ?_⟩⟩
  dsimp only
  generalize (c * 48271 + k * 69621 + 11).fmod 2147483647 = m at b1 ⊢
  have b2 := fmod_bd ((m * m).fdiv 4096 + m) (m := 2147483629) (by decide)
  refine ⟨_, rfl, _, rfl, _, _, rfl, rfl, .inl ⟨by omega, by omega⟩, _, _, rfl, rfl, ⟨by decide, by decide⟩, _, rfl, _, _, rfl, rfl, .inl ⟨_, rfl, _, _, rfl, rfl, (show (2147483629 : Int) ≠ 0 by decide), ?_⟩⟩
  dsimp only
  generalize ((m * m).fdiv 4096 + m).fmod 2147483629 = n at b2 ⊢
  refine ⟨_, rfl, .inl ⟨rfl, _, SqL.of hL⟩, ?_⟩
  refine ⟨_, rfl, _, rfl, _, _, rfl, rfl, .inl ⟨by omega, by omega⟩, _, _, rfl, rfl, ⟨by decide, by decide⟩, _, rfl, _, _, rfl, rfl, .inr ⟨by decide, by decide⟩, _, _, rfl, rfl, .inl ⟨_, rfl, _, _, rfl, rfl, (show (2147483629 : Int) ≠ 0 by decide), ?_⟩⟩
  refine ⟨L, _, _, rfl, rfl, hL, ?_, ?_⟩
  · rw [List.length_map]
    exact small4k hl
  · have b3 := fmod_bd ((n * n).fdiv 4096 + k * 7919) (m := 2147483629) (by decide)
    have q := kk _ (some (.int n)) b3.1
    rw [List.map_append] at q
    exact q
theorem ok_draws {f : Addr} {fd : FuncData} (F : FnS K "_law_draws" sDraws f fd) (B : Blt2 mg) {many : Int} (hm0 : 0 ≤ many) (hm : many ≤ 4000) : FnOk P w K mg base (L2.CX P w) 1 f fd ["script", "many"] (spDraws K many) := by
  refine F.ok scDraws (fun vs H Q E h => ?_) (fun cdv A outer s H vs Q E hr h => ?_)
  · obtain ⟨a, ns, rfl, _⟩ := h
    rfl
  · obtain ⟨a, ns, rfl, hS, hl, k⟩ := h
    have nd := scDraws.nd
    refine ⟨_, (pss_cons (ps_setLc (i := 3) (own := [("cell", 2)]) (g := gName 2) (by rfl) nd rfl rfl (sw_true rfl rfl rfl (by decide +kernel)) (pi_list (pv 0)) (blkOk_by (own := [("cell", 2)]) (N := ["script", "many", "cell", "rests", "draws", "k", "at", "mixed"]) (sc := defScope sDraws) (by decide +kernel)) (fun _ _ _ _ _ => pg_name (i := 2) nd rfl (Or.inl rfl)) (fun _ _ _ _ _ => pts_nil) (fun _ _ _ _ _ => (pe_callB call_abs (by rfl) B.abs (by decide +kernel) (pa_cons (pe_callTy call_int1 (by rfl) B.int (by decide +kernel) (pa_cons (pv 2) pa_nil)) pa_nil))))
      (pss_cons (ps_set (i := 4) nd rfl (Or.inl rfl) (pe_lst pa_nil))
      (pss_cons (ps_for (passes_of rfl) rfl (pi_range1 rfl B.range (pa_cons (pv 1) pa_nil)) (pg_name (i := 5) nd rfl (Or.inl rfl)) (pss_cons (ps_set (i := 2) nd rfl (Or.inl rfl) (pv 5))
      (pss_cons (ps_if (pt_cmpR op_gt (pe_callB call_len_seq (by rfl) B.len (by decide +kernel) (pa_cons (pv 0) pa_nil)) pe_int (nomark _)) (pss_cons (ps_set (i := 6) nd rfl (Or.inl rfl) (pe_op op_modN (pv 5) (pe_callB call_len_seq (by rfl) B.len (by decide +kernel) (pa_cons (pv 0) pa_nil))))
      (pss_cons (ps_set (i := 2) nd rfl (Or.inl rfl) (pe_callTy call_int1 (by rfl) B.int (by decide +kernel) (pa_cons (pe_ix ix_list (pv 0) (pv 6) (fun _ _ => rfl)) pa_nil)))
      (pss_one (ps_if (PW.pt (pw_and (pt_cmpR op_ge (pv 2) (pe_op op_pow pe_int pe_int) (nomark _)) (pw_and1 (pt_cmpR op_gt (pe_ix ix_list (pv 3) (pv 6) (fun _ _ => rfl)) pe_int (nomark _))))) (pss_cons (ps_expr (pe_bm PySem.F.plainAttrs_list PySem.F.slot_list_append PySem.F.type_list_append mt_append (pv 4) (pa_cons (pe_op op_modN (pe_callTy call_int1 (by rfl) B.int (by decide +kernel) (pa_cons (pe_ix ix_list (pv 3) (pv 6) (fun _ _ => rfl)) pa_nil)) pe_int) pa_nil)))
      (pss_cons (ps_asg (pe_op op_fdivN (pe_callTy call_int1 (by rfl) B.int (by decide +kernel) (pa_cons (pe_ix ix_list (pv 3) (pv 6) (fun _ _ => rfl)) pa_nil)) pe_int) (pg_sub (pv 3) (pv 6) set_list))
      (pss_one ps_continue))) pss_nil)))) pss_nil)
      (pss_cons (ps_set (i := 7) nd rfl (Or.inl rfl) (pe_op op_modN (pe_callTy call_int1 (by rfl) B.int (by decide +kernel) (pa_cons (pe_op op_add (pe_op op_add (pe_op op_mul (pv 2) pe_int) (pe_op op_mul (pv 5) pe_int)) pe_int) pa_nil)) pe_int))
      (pss_cons (ps_set (i := 7) nd rfl (Or.inl rfl) (pe_op op_modN (pe_callTy call_int1 (by rfl) B.int (by decide +kernel) (pa_cons (pe_op op_add (pe_op op_fdivN (pe_op op_mul (pv 7) (pv 7)) pe_int) (pv 7)) pa_nil)) pe_int))
      (pss_one (ps_expr (pe_bm PySem.F.plainAttrs_list PySem.F.slot_list_append PySem.F.type_list_append mt_append (pv 4) (pa_cons (pe_op op_modN (pe_callTy call_int1 (by rfl) B.int (by decide +kernel) (pa_cons (pe_op op_add (pe_op op_fdivN (pe_op op_mul (pv 7) (pv 7)) pe_int) (pe_op op_mul (pv 5) pe_int)) pa_nil)) pe_int) pa_nil)))))))))
      (pss_one (ps_ret (pv 4)))))), ?_⟩
    refine ⟨_, rfl, a, rfl, ⟨_, hS⟩, fun D hD => lc_list (K := K) (a := a) (xs := ns.map V.int) (fun i H' => Same H H' ∧ ∃ rs : List Int, H' D = some (.lst (rs.map V.int)) ∧ rs.length = i ∧ Nn rs)
      ⟨fun c o hc => by rw [upd_ne (ne_of_none hc hD)]; exact hc, [], upd_same, rfl, fun n hn => by cases hn⟩ (fun i H' _ z => z.1.seq hS) ?_ ?_⟩
    · rintro i x H' hi ⟨s1, rs, e, l, n⟩
      obtain ⟨z, hz, rfl⟩ : ∃ z, ns[i]? = some z ∧ x = V.int z := by
        rw [List.getElem?_map] at hi
        cases q : ns[i]? with
        | none => rw [q] at hi; cases hi
        | some z => rw [q] at hi; exact ⟨z, rfl, (Option.some.inj hi).symm⟩
      have hi2 : i < ns.length := (List.getElem?_eq_some_iff.mp hz).1
      refine ⟨rfl, _, rfl, .inl ⟨z, rfl, z, rfl, _, e, ?_, fun c o hc => ?_, rs ++ [if z < 0 then -z else z], ?_, ?_, ?_⟩⟩
      · rw [List.length_map]
        exact small4k (by omega)
      · rw [upd_ne (ne_of_none hc hD)]
        exact s1 c o hc
      · rw [upd_same, List.map_append]
        rfl
      · rw [List.length_append, l]
        rfl
      · intro m hm
        rcases List.mem_append.mp hm with hm | hm
        · exact n m hm
        · rw [List.mem_singleton.mp hm]
          split <;> omega
    · rintro H1 ⟨s1, rs, e, l, n⟩
      rw [List.length_map] at l
      refine ⟨(by show 0 ≤ sizeLine; omega), fun L hL => ?_⟩
      have hDL : D ≠ L := ne_of_none e hL
      have hL0 : H L = none := s1.free hL
      refine ⟨_, rfl, many, rfl, (by omega), (by omega), for_range (lo := 0) (n := many.toNat) (fun i σ H' => ∃ (v2 v5 v6 v7 : Option V) (rs ds : List Int), σ = [some (.ref a), some (.int many), v2, some (.ref D), some (.ref L), v5, v6, v7] ∧ Same H H' ∧
        H' D = some (.lst (rs.map V.int)) ∧ rs.length = ns.length ∧ Nn rs ∧ H' L = some (.lst (ds.map V.int)) ∧ Nn ds ∧ ds.length ≤ i)
        ⟨none, none, none, none, rs, [], rfl, fun c o hc => by rw [upd_ne (ne_of_none hc hL0)]; exact s1 c o hc, by rw [upd_ne hDL]; exact e, l, n, upd_same, (fun m hm => nomatch hm), Nat.le_refl _⟩ ?_ ?_⟩
      · rintro i σ H2 hi ⟨v2, v5, v6, v7, rs, ds, rfl, s2, eD, lD, nD, eL, nL, lL⟩
        have s2S := s2.seq hS
        have put : ∀ (x : Int) (v2 v5 v6 v7 : Option V), 0 ≤ x → ∃ (v2' v5' v6' v7' : Option V) (rs' ds' : List Int), [some (V.ref a), some (V.int many), v2, some (V.ref D), some (V.ref L), v5, v6, v7] = [some (V.ref a), some (V.int many), v2', some (V.ref D), some (V.ref L), v5', v6', v7'] ∧
            Same H (upd H2 L (.lst ((ds ++ [x]).map V.int))) ∧ upd H2 L (.lst ((ds ++ [x]).map V.int)) D = some (.lst (rs'.map V.int)) ∧ rs'.length = ns.length ∧ Nn rs' ∧ upd H2 L (.lst ((ds ++ [x]).map V.int)) L = some (.lst (ds'.map V.int)) ∧ Nn ds' ∧ ds'.length ≤ i + 1 := by
          intro x v2 v5 v6 v7 hx
          refine ⟨v2, v5, v6, v7, rs, ds ++ [x], rfl, fun c o hc => by rw [upd_ne (ne_of_none hc hL0)]; exact s2 c o hc, by rw [upd_ne hDL]; exact eD, lD, nD, upd_same, ?_, by rw [List.length_append]; show ds.length + 1 ≤ i + 1; omega⟩
          intro m hm
          rcases List.mem_append.mp hm with hm | hm
          · exact nL m hm
          · rw [List.mem_singleton.mp hm]
            exact hx
        refine ⟨_, rfl, _, rfl, _, _, rfl, .inl s2S, _, _, rfl, rfl, _, rfl, ?_⟩
        rw [List.length_map]
        by_cases h0 : ns.length = 0
        · rw [decide_eq_false (by omega)]
          refine iteF ?_
          show tTail K _ [some (.ref a), some (.int many), some (.int _), some (.ref D), some (.ref L), some (.int _), _, _] H2
          exact tail_ok eL (by omega) fun x y hx => put x _ _ _ y hx
        · rw [decide_eq_true (by omega)]
          refine iteT ?_
          refine ⟨_, rfl, _, rfl, _, _, rfl, .inl s2S, _, _, rfl, rfl, (by rw [List.length_map]; omega), ?_⟩
          have bq := fmod_bd (0 + (i : Int)) (m := ((ns.map V.int).length : Int)) (by rw [List.length_map]; omega)
          obtain ⟨q, hq⟩ : ∃ q : Nat, (0 + (i : Int)).fmod ((ns.map V.int).length : Int) = (q : Int) := ⟨((0 + (i : Int)).fmod ((ns.map V.int).length : Int)).toNat, by omega⟩
          rw [hq] at bq
          have hql : q < ns.length := by
            have := bq.2
            rw [List.length_map] at this
            omega
          have e1 : (ns.map V.int)[q]? = some (V.int ns[q]) := by rw [List.getElem?_map, List.getElem?_eq_getElem hql] <;> rfl
          have e2 : (rs.map V.int)[q]? = some (V.int (rs[q]'(by omega))) := by rw [List.getElem?_map, List.getElem?_eq_getElem (by omega)] <;> rfl
          refine ⟨_, rfl, _, rfl, a, _, _, _, rfl, rfl, s2S, (by rw [hq]; exact atI_nat e1), .inl ⟨_, rfl, ?_⟩⟩
          have ea2 : atI (rs.map V.int) ((0 + (i : Int)).fmod ((ns.map V.int).length : Int)) = some (.int (rs[q]'(by omega))) := by rw [hq]; exact atI_nat e2
          have nq : 0 ≤ rs[q]'(by omega) := nD _ (List.getElem_mem _)
          refine ⟨_, rfl, _, _, rfl, rfl, ⟨by decide, by decide, by decide⟩, _, _, rfl, rfl, _, rfl, ?_⟩
          refine iteD (fun hc => ?_) (fun hc => ?_)
          · refine ⟨_, rfl, _, rfl, D, _, _, _, rfl, rfl, SqL.of eD, ea2, _, _, rfl, rfl, _, rfl, ?_⟩
            refine iteD (fun hd => ?_) (fun hd => ?_)
            · refine ⟨_, rfl, .inl ⟨rfl, _, SqL.of eL⟩, _, rfl, _, rfl, D, _, _, _, rfl, rfl, SqL.of eD, ea2, .inl ⟨_, rfl, _, _, rfl, rfl, (show (1000003 : Int) ≠ 0 by decide), L, _, _, rfl, rfl, eL, (by rw [List.length_map]; exact small4k (by omega)), ?_⟩⟩
              have eD2 : ∀ o, upd H2 L o D = some (.lst (rs.map V.int)) := fun o => by rw [upd_ne hDL]; exact eD
              refine ⟨_, rfl, _, rfl, D, _, _, _, rfl, rfl, SqL.of (eD2 _), ea2, .inl ⟨_, rfl, _, _, rfl, rfl, ⟨by decide, by decide⟩, _, rfl, _, rfl, D, _, _, q, rfl, rfl, eD2 _, (by rw [hq, List.length_map]; exact ixN_at (by omega)), ?_⟩⟩
              have b4 := fmod_bd (rs[q]'(by omega)) (m := 1000003) (by decide)
              have b5 : 0 ≤ (rs[q]'(by omega)).fdiv 1000003 := Int.fdiv_nonneg nq (by decide)
              have hDc : ∀ {c : Addr} {o : HO}, H c = some o → c ≠ D := fun hc => ne_of_none hc hD
              refine ⟨_, _, _, _, rs.set q ((rs[q]'(by omega)).fdiv 1000003), ds ++ [(rs[q]'(by omega)).fmod 1000003], rfl, fun c o hc => ?_, ?_, ?_, ?_, ?_, ?_, ?_⟩
              · rw [upd_ne (hDc hc), upd_ne (ne_of_none hc hL0)]
                exact s2 c o hc
              · rw [upd_same, List.map_set]
              · rw [List.length_set]
                exact lD
              · intro m hm
                rcases List.mem_or_eq_of_mem_set hm with h | h
                · exact nD m h
                · rw [h]; exact b5
              · rw [upd_ne hDL.symm, upd_same, List.map_append]
                rfl
              · intro m hm
                rcases List.mem_append.mp hm with hm | hm
                · exact nL m hm
                · rw [List.mem_singleton.mp hm]
                  exact b4.1
              · rw [List.length_append]
                show ds.length + 1 ≤ i + 1
                omega
            · show tTail K _ [some (.ref a), some (.int many), some (.int _), some (.ref D), some (.ref L), some (.int _), _, _] H2
              exact tail_ok eL (by omega) fun x y hx => put x _ _ _ y hx
          · show tTail K _ [some (.ref a), some (.int many), some (.int _), some (.ref D), some (.ref L), some (.int _), _, _] H2
            exact tail_ok eL (by omega) fun x y hx => put x _ _ _ y hx
      · rintro σ H2 ⟨v2, v5, v6, v7, rs, ds, rfl, s2, eD, lD, nD, eL, nL, lL⟩
        exact ⟨_, rfl, k L ds H2 s2 hL0 eL nL lL⟩
/-- the hand: the draws and the place in them -/
def HandAt (H : Hp) (a d : Addr) : Prop := ∃ (ds : List Int) (i : Int), H a = some (.lst [.ref d, .int i]) ∧ H d = some (.lst (ds.map V.int)) ∧ Nn ds ∧ 0 ≤ i
theorem hand_ne {H : Hp} {a d : Addr} {ds : List Int} {i : Int} (h1 : H a = some (.lst [.ref d, .int i])) (h2 : H d = some (.lst (ds.map V.int))) : a ≠ d := by
  refine ne_of h1 h2 fun z => ?_
  have z' : [V.ref d, V.int i] = ds.map V.int := HO.lst.inj z
  cases ds with
  | nil => cases z'
  | cons x r =>
    have z2 : V.ref d = V.int x := (List.cons.inj z').1
    cases z2
/-- all but what stands at a is as it was -/
def Keep (a : Addr) (H H' : Hp) : Prop := ∀ b o, b ≠ a → H b = some o → H' b = some o
theorem Keep.refl {a : Addr} {H : Hp} : Keep a H H := fun _ _ _ h => h
theorem Keep.trans {a : Addr} {H H1 H2 : Hp} (x : Keep a H H1) (y : Keep a H1 H2) : Keep a H H2 := fun b o n h => y b o n (x b o n h)
theorem Keep.of {a : Addr} {H H' : Hp} (h : Same H H') : Keep a H H' := fun b o _ e => h b o e
theorem Keep.new {a p : Addr} {o : HO} {H : Hp} (h : H p = none) : Keep a H (upd H p o) := fun b u _ e => by rw [upd_ne (ne_of_none e h)]; exact e
theorem same_new {p : Addr} {o : HO} {H : Hp} (h : H p = none) : Same H (upd H p o) := fun b u e => by rw [upd_ne (ne_of_none e h)]; exact e
theorem HandAt.same {H H' : Hp} {a d : Addr} (h : HandAt H a d) (s : Same H H') : HandAt H' a d := by
  obtain ⟨ds, i, h1, h2, h3, h4⟩ := h
  exact ⟨ds, i, s _ _ h1, s _ _ h2, h3, h4⟩
theorem HandAt.one {H : Hp} {a d : Addr} (h : HandAt H a d) : ∃ o, H a = some o := by
  obtain ⟨ds, i, h1, _⟩ := h
  exact ⟨_, h1⟩
theorem HandAt.two {H : Hp} {a d : Addr} (h : HandAt H a d) : ∃ o, H d = some o := by
  obtain ⟨ds, i, _, h2, _⟩ := h
  exact ⟨_, h2⟩
theorem HandAt.ne {H : Hp} {a d p : Addr} (h : HandAt H a d) (n : H p = none) : a ≠ p ∧ d ≠ p := by
  obtain ⟨o, e⟩ := h.one
  obtain ⟨u, e2⟩ := h.two
  exact ⟨ne_of_none e n, ne_of_none e2 n⟩
theorem HandAt.put {H : Hp} {a d p : Addr} {o : HO} (h : HandAt H a d) (n1 : a ≠ p) (n2 : d ≠ p) : HandAt (upd H p o) a d := by
  obtain ⟨ds, i, h1, h2, h3, h4⟩ := h
  exact ⟨ds, i, by rw [upd_ne n1]; exact h1, by rw [upd_ne n2]; exact h2, h3, h4⟩
theorem HandAt.new {H : Hp} {a d p : Addr} {o : HO} (h : HandAt H a d) (n : H p = none) : HandAt (upd H p o) a d := h.put (h.ne n).1 (h.ne n).2
def spTake : Sp := fun vs H Q _ => ∃ (a d : Addr) (many : Int), vs = [.ref a, .int many] ∧ 0 < many ∧ HandAt H a d ∧ ∀ r H', 0 ≤ r → r < many → HandAt H' a d → Keep a H H' → Q (.int r) H'
theorem scTake : FnScope ["hand", "many", "at", "draws"] ["hand", "many"] (defScope sTake) := ⟨rfl, rfl, rfl, by decide +kernel, rfl, by decide +kernel, by decide +kernel⟩
theorem ok_take {f : Addr} {fd : FuncData} (F : FnS K "_law_take" sTake f fd) (B : Blt2 mg) : FnOk P w K mg base (L2.CX P w) 1 f fd ["hand", "many"] spTake := by
  refine F.ok scTake (fun vs H Q E h => ?_) (fun cdv A outer s H vs Q E hr h => ?_)
  · obtain ⟨a, d, m, rfl, _⟩ := h
    rfl
  · obtain ⟨a, d, m, rfl, hm, ⟨ds, i, h1, h2, h3, h4⟩, k⟩ := h
    have nd := scTake.nd
    have nad := hand_ne h1 h2
    refine ⟨_, (pss_cons (ps_set (i := 2) nd rfl (Or.inl rfl) (pe_ix ix_list (pv 0) pe_int (fun _ _ => rfl)))
      (pss_cons (ps_asg (pe_op op_add (pv 2) pe_int) (pg_sub (pv 0) pe_int set_list))
      (pss_cons (ps_set (i := 3) nd rfl (Or.inl rfl) (pe_ix ix_list (pv 0) pe_int (fun _ _ => rfl)))
      (pss_cons (ps_if (pt_cmpR op_ge (pv 2) (pe_callB call_len_seq (by rfl) B.len (by decide +kernel) (pa_cons (pv 3) pa_nil)) (nomark _)) (pss_one (ps_ret pe_int)) pss_nil)
      (pss_one (ps_ret (pe_op op_modN (pe_op op_fdivN (pe_callTy call_int1 (by rfl) B.int (by decide +kernel) (pa_cons (pe_ix ix_list (pv 3) (pv 2) (fun _ _ => rfl)) pa_nil)) pe_int) (pv 1)))))))), ?_⟩
    refine ⟨_, rfl, a, _, _, _, rfl, rfl, SqL.of h1, atI_nat (j := 1) rfl, ?_⟩
    refine ⟨_, rfl, _, _, rfl, rfl, _, rfl, a, _, _, 1, rfl, rfl, h1, rfl, ?_⟩
    have h2' : ∀ o, upd H a o d = some (.lst (ds.map V.int)) := fun o => by rw [upd_ne nad.symm]; exact h2
    have done : ∀ r, 0 ≤ r → r < m → Q (.int r) (upd H a (.lst [.ref d, .int (i + 1)])) := fun r r0 r1 =>
      k r _ r0 r1 ⟨ds, i + 1, upd_same, h2' _, h3, by omega⟩ fun b o hb e => by rw [upd_ne hb]; exact e
    refine ⟨_, rfl, a, _, _, _, rfl, rfl, SqL.of upd_same, atI_nat (j := 0) rfl, ?_⟩
    refine ⟨_, rfl, _, rfl, d, _, rfl, .inl (SqL.of (h2' _)), _, _, rfl, rfl, _, rfl, ?_⟩
    rw [List.length_map]
    refine iteD (fun hc => ?_) (fun hc => ?_)
    · exact done 0 (by omega) (by omega)
    · obtain ⟨q, hq⟩ : ∃ q : Nat, i = (q : Int) := ⟨i.toNat, by omega⟩
      subst hq
      have hql : q < ds.length := by omega
      have e1 : (ds.map V.int)[q]? = some (V.int ds[q]) := by rw [List.getElem?_map, List.getElem?_eq_getElem hql] <;> rfl
      have b := fmod_bd (ds[q].fdiv 7) hm
      refine ⟨_, rfl, _, rfl, d, _, _, _, rfl, rfl, SqL.of (h2' _), atI_nat e1, .inl ⟨_, rfl, _, _, rfl, rfl, ⟨by decide, by decide⟩, _, rfl, _, _, rfl, rfl, (by omega), done _ b.1 b.2⟩⟩
theorem fld_all {p : Int} (h2 : 2 ≤ p) (h31 : p ≤ 31) : (isFld (.int p) = true → ∀ j : Nat, (j : Int) < p - 2 → ¬ p.fmod (2 + (j : Int)) = 0) ∧ (isFld (.int p) = false → ∃ j : Nat, (j : Int) < p - 2 ∧ p.fmod (2 + (j : Int)) = 0) := by
  have t1 : ∀ n ∈ List.range 32, isFld (.int (n : Int)) = true → ∀ j ∈ List.range 32, (j : Int) < (n : Int) - 2 → ¬ (n : Int).fmod (2 + (j : Int)) = 0 := by decide +kernel
  have t2 : ∀ n ∈ List.range 32, 2 ≤ n → isFld (.int (n : Int)) = false → ∃ j ∈ List.range 32, (j : Int) < (n : Int) - 2 ∧ (n : Int).fmod (2 + (j : Int)) = 0 := by decide +kernel
  obtain ⟨n, rfl⟩ : ∃ n : Nat, p = (n : Int) := ⟨p.toNat, by omega⟩
  have hn : n ∈ List.range 32 := List.mem_range.mpr (by omega)
  refine ⟨fun h j hj => t1 n hn h j (List.mem_range.mpr (by omega)) hj, fun h => ?_⟩
  obtain ⟨j, _, h1, h2⟩ := t2 n hn (by omega) h
  exact ⟨j, h1, h2⟩
theorem fld_out {p : Int} (h : p < 2 ∨ 31 < p) : isFld (.int p) = false := by
  cases e : isFld (.int p) with
  | false => rfl
  | true =>
    have := fld_le (fld_mem e)
    omega
def ups (n : Nat) : List Int := ((List.range n).filter fun (j : Nat) => isFld (.int (2 + (j : Int)))).map fun (j : Nat) => 2 + (j : Int)
theorem ups_succ (n : Nat) : ups (n + 1) = if isFld (.int (2 + (n : Int))) = true then ups n ++ [2 + (n : Int)] else ups n := by
  unfold ups
  rw [List.range_succ, List.filter_append, List.map_append]
  cases h : isFld (.int (2 + (n : Int))) <;> simp [h]
theorem ups_len (n : Nat) : (ups n).length ≤ n := by
  unfold ups
  rw [List.length_map]
  exact Nat.le_trans (List.length_filter_le _ _) (by simp)
theorem ups_all : ups 30 = primes := by decide +kernel
def spLFd : Sp := fun vs H Q _ => ∃ (a d : Addr), vs = [.ref a] ∧ HandAt H a d ∧ ∀ p H', p ∈ primes → HandAt H' a d → Keep a H H' → Q (.int p) H'
end
end WU

set_option maxRecDepth 100000
set_option maxHeartbeats 8000000
namespace WU
open PySem PySem.Spec PyProof.Rows L2
/-! ### walking what may be a list or a tuple -/
def iSeq (K : PySem.W.Frag) (tl : TE) : TI := fun σ H R => tl σ H fun x H1 => ∃ a, x = .ref a ∧ (((∃ xs, SqL K H1 a xs) ∧ R (Itl K a) H1) ∨ ((∃ xs, SqT K H1 a xs) ∧ R (Itt K a) H1))
theorem pi_seq {X : Cx} {tg l : Expr} {tl : TE} (hl : PE X l tl) : PI X tg l (iSeq X.K tl) := by
  constructor
  intro pins st σ H R I h
  refine thn (hl.run pins st σ H _ I h) fun v t1 ⟨x, H2, J, rx, a, ea, q⟩ => ?_
  subst ea
  cases rx
  have fresh : ∀ b ∈ [t1.heap.objs.size], FpOk X pins H2 b := fun b hb => by
    cases List.mem_singleton.mp hb
    exact J.fpOk (Nat.le_refl _) (J.hok.fresh (Nat.le_refl _))
  rcases q with ⟨⟨xs, hq⟩, q⟩ | ⟨⟨xs, hq⟩, q⟩
  · obtain ⟨its, rv, pl, _⟩ := J.list hq
    apply wpAny_pyIter_list pl.isList
    exact ⟨_, [t1.heap.objs.size], _, _, H2, rfl, J.kept (t' := t1.toks) fun b o e => Heap.get?_push_of_some _ e, turn_list a _, ⟨_, Heap.get?_push_size _ rfl, rfl, rfl⟩, fresh, q⟩
  · obtain ⟨its, rv, pl, _⟩ := J.tuple hq
    apply wpAny_pyIter_tuple (show t1.heap.IsTuple a its.toArray from pl)
    exact ⟨_, [t1.heap.objs.size], _, _, H2, rfl, J.kept (t' := t1.toks) fun b o e => Heap.get?_push_of_some _ e, turn_tuple a _, ⟨_, Heap.get?_push_size _ rfl, rfl, rfl⟩, fresh, q⟩
/-! ### data -/
def tyName : PyData → String
  | .none => "NoneType"
  | .bool _ => "bool"
  | .int _ => "int"
  | .str _ => "str"
  | .list _ => "list"
  | .tuple _ => "tuple"
  | .dict _ => "dict"
def isSeq : PyData → Bool
  | .list _ => true
  | .tuple _ => true
  | _ => false
def belD (p : Int) : PyData → Bool
  | .int i => decide (0 ≤ i) && decide (i < p)
  | _ => false
/-- whether it is a sequence of n letters -/
def letsD (p n : Int) : PyData → Bool
  | .list ds => decide ((ds.length : Int) = n) && ds.all (belD p)
  | .tuple ds => decide ((ds.length : Int) = n) && ds.all (belD p)
  | _ => false
def smallD : PyData → Prop
  | .list ds => ds.length ≤ 200
  | .tuple ds => ds.length ≤ 200
  | _ => True
section
variable {K : PySem.W.Frag} {H H' : Hp}
theorem sqL_ty {a : Addr} {xs : List V} (h : SqL K H a xs) : TyX K H (.ref a) (.type "list") := by
  rcases h with (h | ⟨o, h⟩) | ⟨o, its, n, h1, h2, _⟩
  · exact .base (.lst h)
  · exact .base (.frz h)
  · exact .kList h1 h2
theorem sqT_ty {a : Addr} {xs : List V} (h : SqT K H a xs) : TyX K H (.ref a) (.type "tuple") := by
  rcases h with (h | ⟨o, h⟩) | ⟨o, its, n, h1, h2, _⟩
  · exact .base (.tup h)
  · exact .fTuple h
  · exact .kTuple h1 h2
theorem dp_ty {v : V} {d : PyData} (h : Dp K H v d) : TyX K H v (.type (tyName d)) := by
  cases h with
  | non => exact .base .non
  | bl b => exact .base (.bl b)
  | int i => exact .base (.int i)
  | str x => exact .base (.str x)
  | lst h _ => exact sqL_ty h
  | tup h _ => exact sqT_ty h
theorem dp_ty3 {v : V} {d : PyData} (h : Dp K H v d) : Ty3 K H v := by
  have t := dp_ty h
  cases h with
  | non => exact ty3_non
  | bl b => exact ty3_bl b
  | int i => exact ty3_int i
  | str x => exact ty3_str x
  | lst h _ => exact ⟨_, t, kit_ty (show kitB "list" "int" = some false by decide +kernel), kit_ty (show kitB "list" "bool" = some false by decide +kernel)⟩
  | tup h _ => exact ⟨_, t, kit_ty (show kitB "tuple" "int" = some false by decide +kernel), kit_ty (show kitB "tuple" "bool" = some false by decide +kernel)⟩
theorem dp_bel {v : V} {d : PyData} (h : Dp K H v d) (p : Int) : isBel p v = belD p d := by
  cases h <;> rfl
theorem kit_seq {d : PyData} : (∀ kvs, d ≠ .dict kvs) → PySem.W.kitAny K (.type (tyName d)) [.type "list", .type "tuple"] = some (isSeq d) := by
  intro nd
  cases d with
  | none => exact kitAny_cons (b := false) (kit_ty (show kitB "NoneType" "list" = some false by decide +kernel)) (fun _ => kitAny_cons (b := false) (kit_ty (show kitB "NoneType" "tuple" = some false by decide +kernel)) (fun _ => kitAny_nil) (fun h => nomatch h)) (fun h => nomatch h)
  | bool b => exact kitAny_cons (b := false) (kit_ty (show kitB "bool" "list" = some false by decide +kernel)) (fun _ => kitAny_cons (b := false) (kit_ty (show kitB "bool" "tuple" = some false by decide +kernel)) (fun _ => kitAny_nil) (fun h => nomatch h)) (fun h => nomatch h)
  | int i => exact kitAny_cons (b := false) (kit_ty (show kitB "int" "list" = some false by decide +kernel)) (fun _ => kitAny_cons (b := false) (kit_ty (show kitB "int" "tuple" = some false by decide +kernel)) (fun _ => kitAny_nil) (fun h => nomatch h)) (fun h => nomatch h)
  | str x => exact kitAny_cons (b := false) (kit_ty (show kitB "str" "list" = some false by decide +kernel)) (fun _ => kitAny_cons (b := false) (kit_ty (show kitB "str" "tuple" = some false by decide +kernel)) (fun _ => kitAny_nil) (fun h => nomatch h)) (fun h => nomatch h)
  | list xs => exact kitAny_cons (b := true) (kit_ty (show kitB "list" "list" = some true by decide +kernel)) (fun h => nomatch h) (fun _ => rfl)
  | tuple xs => exact kitAny_cons (b := false) (kit_ty (show kitB "tuple" "list" = some false by decide +kernel)) (fun _ => kitAny_cons (b := true) (kit_ty (show kitB "tuple" "tuple" = some true by decide +kernel)) (fun h => nomatch h) (fun _ => rfl)) (fun h => nomatch h)
  | dict kvs => exact absurd rfl (nd kvs)
theorem dp_nodict {v : V} {d : PyData} (h : Dp K H v d) : ∀ kvs, d ≠ .dict kvs := fun kvs z => by
  subst z
  cases h
theorem sqL_same {a : Addr} {xs : List V} (h : SqL K H a xs) (s : Same H H') : SqL K H' a xs := SqL.ext h s
theorem sqT_same {a : Addr} {xs : List V} (h : SqT K H a xs) (s : Same H H') : SqT K H' a xs := SqT.ext h s
mutual
theorem dp_same (s : Same H H') : ∀ {v : V} {d : PyData}, Dp K H v d → Dp K H' v d
  | _, _, .non => .non
  | _, _, .bl b => .bl b
  | _, _, .int i => .int i
  | _, _, .str x => .str x
  | _, _, .lst h k => .lst (sqL_same h s) (dps_same s k)
  | _, _, .tup h k => .tup (sqT_same h s) (dps_same s k)
theorem dps_same (s : Same H H') : ∀ {vs : List V} {ds : List PyData}, DpAll K H vs ds → DpAll K H' vs ds
  | _, _, .nil => .nil
  | _, _, .cons h k => .cons (dp_same s h) (dps_same s k)
end
theorem dps_len : ∀ {vs : List V} {ds : List PyData}, DpAll K H vs ds → vs.length = ds.length
  | _, _, .nil => rfl
  | _, _, .cons _ k => congrArg Nat.succ (dps_len k)
theorem dps_at : ∀ {vs : List V} {ds : List PyData} {i : Nat} {v : V}, DpAll K H vs ds → vs[i]? = some v → ∃ d, ds[i]? = some d ∧ Dp K H v d
  | _, _, _, _, .nil, e => by cases e
  | _, _, 0, _, .cons h _, e => by
    cases e
    exact ⟨_, rfl, h⟩
  | _, _, i + 1, _, .cons _ k, e => dps_at (i := i) k e
end
structure Blt3 (mg : Str → Option Value) : Prop extends Blt2 mg where
  lst : mg "list" = none
  all : mg "all" = none
section
variable {P : Program} {w : World} {K : PySem.W.Frag} {mg : Str → Option Value} {base : Heap}
def spSeq (K : PySem.W.Frag) : Sp := fun vs H Q _ => ∃ v d, vs = [v] ∧ Dp K H v d ∧ ∀ H', Same H H' → Q (.bl (isSeq d)) H'
theorem scSeq : FnScope ["value"] ["value"] (defScope sSeq) := ⟨rfl, rfl, rfl, by decide +kernel, rfl, by decide +kernel, by decide +kernel⟩
theorem ok_seq {f : Addr} {fd : FuncData} (F : FnS K "is_sequence" sSeq f fd) (B : Blt3 mg) : FnOk P w K mg base (L2.CX P w) 1 f fd ["value"] (spSeq K) := by
  refine F.ok scSeq (fun vs H Q E h => ?_) (fun cdv A outer s H vs Q E hr h => ?_)
  · obtain ⟨v, d, rfl, _⟩ := h
    rfl
  · obtain ⟨v, d, rfl, hd, k⟩ := h
    refine ⟨_, (pss_one (ps_ret (pe_callB call_isiT (by rfl) B.isi (by decide +kernel) (pa_cons (pv 0) (pa_cons (pe_tup (pa_cons (pe_bltn (v := .ty "list") (by rfl) B.lst (by decide +kernel) rfl) (pa_cons (pe_bltn (v := .ty "tuple") (by rfl) B.tuple (by decide +kernel) rfl) pa_nil))) pa_nil))))), ?_⟩
    refine ⟨_, rfl, (by show 2 ≤ sizeLine; decide), fun t ht => ⟨v, t, _, _, _, _, rfl, upd_same, .cons (.ty "list") (.cons (.ty "tuple") .nil), dp_ty (dp_same (same_new ht) hd), kit_seq (dp_nodict hd), k _ (same_new ht)⟩⟩
def spLets (K : PySem.W.Frag) : Sp := fun vs H Q _ => ∃ (p n : Int) (v : V) (d : PyData), vs = [.int p, .int n, v] ∧ Dp K H v d ∧ smallD d ∧ ∀ H', Same H H' → Q (.bl (letsD p n d)) H'
theorem scLets : FnScope ["p", "count", "value", "letter"] ["p", "count", "value"] (defScope sLets) := ⟨rfl, rfl, rfl, by decide +kernel, rfl, by decide +kernel, by decide +kernel⟩
theorem ok_lets {f f1 f2 : Addr} {fd fd1 fd2 : FuncData} (F : FnS K "are_letters" sLets f fd) (B : Blt3 mg) (CS : Cal P w K mg base 1 "is_sequence" f1 fd1 ["value"] (spSeq K)) (CB : Cal P w K mg base 3 "is_below" f2 fd2 ["value", "limit"] (spIsBel K)) :
    FnOk P w K mg base (L2.CX P w) 4 f fd ["p", "count", "value"] (spLets K) := by
  refine F.ok scLets (fun vs H Q E h => ?_) (fun cdv A outer s H vs Q E hr h => ?_)
  · obtain ⟨p, n, v, d, rfl, _⟩ := h
    rfl
  · obtain ⟨p, n, v, d, rfl, hd, hz, k⟩ := h
    have nd := scLets.nd
    have hr1 := hr.mono (show 1 ≤ 3 by decide)
    refine ⟨_, (pss_one (ps_ret (pe_and (pe_cal CS hr1 (pa_cons (pv 2) pa_nil) passU) (pe_and (pe_cmpR op_eq (pe_callB call_len_seq (by rfl) B.len (by decide +kernel) (pa_cons (pv 2) pa_nil)) (pv 1) (nomark _)) (pe_one (pe_callB (cr_all rfl) (by rfl) B.all (by decide +kernel) (pa_cons (pe_lc (own := [("letter", 3)]) (g := gName 3) (by rfl) nd (pi_seq (pv 2)) (blkOk_by (own := [("letter", 3)]) (N := ["p", "count", "value", "letter"]) (sc := defScope sLets) (by decide +kernel)) (fun _ _ _ _ _ => pg_name (i := 3) nd rfl (Or.inl rfl)) (fun _ _ _ _ _ => pts_nil) (fun _ _ _ _ _ => (pe_cal CB hr (pa_cons (pv 3) (pa_cons (pv 0) pa_nil)) passU))) pa_nil))))))), ?_⟩
    refine ⟨_, rfl, v, d, rfl, hd, fun H1 s1 => ⟨_, rfl, ?_⟩⟩
    have cs : (isSeq d = false ∧ letsD p n d = false) ∨ ∃ a xs ds, v = .ref a ∧ (SqL K H a xs ∨ SqT K H a xs) ∧ DpAll K H xs ds ∧ ds.length ≤ 200 ∧ isSeq d = true ∧ letsD p n d = (decide ((ds.length : Int) = n) && ds.all (belD p)) := by
      cases hd with
      | non => exact .inl ⟨rfl, rfl⟩
      | bl b => exact .inl ⟨rfl, rfl⟩
      | int i => exact .inl ⟨rfl, rfl⟩
      | str x => exact .inl ⟨rfl, rfl⟩
      | lst h q => exact .inr ⟨_, _, _, rfl, .inl h, q, hz, rfl, rfl⟩
      | tup h q => exact .inr ⟨_, _, _, rfl, .inr h, q, hz, rfl, rfl⟩
    rcases cs with ⟨e1, e2⟩ | ⟨a, xs, ds, rfl, hx, hds, hl, e1, e2⟩
    · rw [e1]
      rw [e2] at k
      exact iteF (k H1 s1)
    · refine iteTb e1 ?_
      rw [e2] at k
      have el := dps_len hds
      have hx1 : SqL K H1 a xs ∨ SqT K H1 a xs := hx.imp (fun h => sqL_same h s1) fun h => sqT_same h s1
      refine ⟨_, rfl, a, xs, rfl, hx1, _, rfl, rfl, _, rfl, ?_⟩
      refine iteD (fun hc => ?_) (fun hc => ?_)
      · have hc' : ((ds.length : Nat) : Int) = n := by
          rw [← el]
          exact V.int.inj hc
        rw [decide_eq_true hc', Bool.true_and] at k
        have st0 : ∀ D, H1 D = none → Same H1 (upd H1 D (.lst [])) ∧ upd H1 D (.lst []) D = some (.lst ((ds.take 0).map fun d => V.bl (belD p d))) := fun D hD => ⟨same_new hD, upd_same⟩
        have turn : ∀ (D : Addr), H1 D = none → ∀ (i : Nat) (y : V) (H2 : Hp), xs[i]? = some y → Same H1 H2 ∧ H2 D = some (.lst ((ds.take i).map fun d => V.bl (belD p d))) →
            isBel p y = belD p (ds.getD i .none) ∧ Ty3 K H2 y ∧ ((ds.take i).map fun d => V.bl (belD p d)).length < sizeLine ∧ Same H1 (upd H2 D (.lst (((ds.take i).map fun d => V.bl (belD p d)) ++ [.bl (isBel p y)]))) ∧
              upd H2 D (.lst (((ds.take i).map fun d => V.bl (belD p d)) ++ [.bl (isBel p y)])) D = some (.lst ((ds.take (i + 1)).map fun d => V.bl (belD p d))) := by
          rintro D hD i y H2 hi ⟨s2, eD⟩
          obtain ⟨di, hdi, hy⟩ := dps_at hds hi
          have eb := dp_bel hy p
          have eg : ds.getD i .none = di := by rw [List.getD_eq_getElem?_getD, hdi] <;> rfl
          refine ⟨by rw [eg]; exact eb, dp_ty3 (dp_same (s1.trans s2) hy), ?_, ?_, ?_⟩
          · rw [List.length_map, List.length_take]
            exact small1000 (by omega)
          · exact fun c o hc => by rw [upd_ne (ne_of_none hc hD)]; exact s2 c o hc
          · rw [upd_same, List.take_succ, hdi, List.map_append, eb]
            rfl
        have fin : ∀ (D : Addr) (H2 : Hp), Same H1 H2 → H2 D = some (.lst ((ds.take xs.length).map fun d => V.bl (belD p d))) → rAll K [.ref D] H2 Q := by
          intro D H2 s2 eD
          rw [el, List.take_length] at eD
          refine ⟨D, ds.map (belD p), rfl, SqL.of (by rw [eD, List.map_map]; rfl), ?_⟩
          have ea : (ds.map (belD p)).all id = ds.all (belD p) := by rw [List.all_map]; rfl
          rw [ea]
          exact k H2 (s1.trans s2)
        refine ⟨_, rfl, a, rfl, ?_⟩
        rcases hx1 with h | h
        · refine .inl ⟨⟨_, h⟩, fun D hD => lc_list (K := K) (a := a) (xs := xs) (fun i H2 => Same H1 H2 ∧ H2 D = some (.lst ((ds.take i).map fun d => V.bl (belD p d)))) (st0 D hD) (fun i H2 _ z => sqL_same h z.1) ?_ (fun H2 z => fin D H2 z.1 z.2)⟩
          rintro i y H2 hi z
          obtain ⟨t1, t2, t3, t4, t5⟩ := turn D hD i y H2 hi z
          exact ⟨rfl, _, rfl, _, rfl, y, p, rfl, t2, _, z.2, t3, t4, t5⟩
        · refine .inr ⟨⟨_, h⟩, fun D hD => lc_tup (K := K) (a := a) (xs := xs) (fun i H2 => Same H1 H2 ∧ H2 D = some (.lst ((ds.take i).map fun d => V.bl (belD p d)))) (st0 D hD) (fun i H2 _ z => sqT_same h z.1) ?_ (fun H2 z => fin D H2 z.1 z.2)⟩
          rintro i y H2 hi z
          obtain ⟨t1, t2, t3, t4, t5⟩ := turn D hD i y H2 hi z
          exact ⟨rfl, _, rfl, _, rfl, y, p, rfl, t2, _, z.2, t3, t4, t5⟩
      · have hc' : ¬ ((ds.length : Nat) : Int) = n := fun z => hc (congrArg V.int (by rw [el]; exact z))
        rw [decide_eq_false hc', Bool.false_and] at k
        exact k H1 s1
end
end WU

set_option maxRecDepth 100000
set_option maxHeartbeats 4000000
namespace WU
open PySem PySem.Spec PyProof.Rows L2
section
variable {P : Program} {w : World} {K : PySem.W.Frag} {mg : Str → Option Value} {base : Heap}
/-! ### the errors' __init__ -/
/-! ### inverse_of -/
/-- whether 1 + j is an inverse -/
def hit (p a : Int) (j : Nat) : Bool := decide ((a * (1 + (j : Int))).fmod p = 1)
def cnd (p a : Int) (n : Nat) : List Int := ((List.range n).filter (hit p a)).map fun (j : Nat) => 1 + (j : Int)
theorem cnd_succ (p a : Int) (n : Nat) : cnd p a (n + 1) = if hit p a n = true then cnd p a n ++ [1 + (n : Int)] else cnd p a n := by
  unfold cnd
  rw [List.range_succ, List.filter_append, List.map_append]
  by_cases h : hit p a n = true
  · rw [if_pos h]
    simp [h]
  · rw [if_neg h]
    simp [h]
theorem cnd_len (p a : Int) (n : Nat) : (cnd p a n).length ≤ n := by
  unfold cnd
  rw [List.length_map]
  exact Nat.le_trans (List.length_filter_le _ _) (by simp)
theorem cnd_none (p a : Int) (n : Nat) (h : ∀ j, j < n → hit p a j = false) : cnd p a n = [] := by
  induction n with
  | zero => rfl
  | succ n ih =>
    rw [cnd_succ, ih fun j hj => h j (by omega), if_neg (by rw [h n (by omega)]; decide)]
theorem cnd_grow (p a : Int) (n : Nat) : ∀ m, ∃ l, cnd p a (n + m) = cnd p a n ++ l
  | 0 => ⟨[], by simp⟩
  | m + 1 => by
    obtain ⟨l, e⟩ := cnd_grow p a n m
    rw [show n + (m + 1) = n + m + 1 from rfl, cnd_succ, e]
    split
    · exact ⟨l ++ [1 + ((n + m : Nat) : Int)], by simp⟩
    · exact ⟨l, rfl⟩
/-- the inverse: the first one -/
def inv (p a : Int) : Int := (cnd p a (p - 1).toNat).headD 0
theorem inv_first {p a : Int} {n : Nat} (hn : n < (p - 1).toNat) (h : ∀ j, j < n → hit p a j = false) (hh : hit p a n = true) : inv p a = 1 + (n : Int) := by
  obtain ⟨l, e⟩ := cnd_grow p a (n + 1) ((p - 1).toNat - (n + 1))
  rw [show n + 1 + ((p - 1).toNat - (n + 1)) = (p - 1).toNat by omega] at e
  unfold inv
  rw [e, cnd_succ, if_pos hh, cnd_none p a n h]
  rfl
theorem inv_there {p a : Int} (hp : p ∈ primes) (h0 : 0 < a) (h1 : a < p) : ∃ l, cnd p a (p - 1).toNat = inv p a :: l := by
  have all : ∀ q ∈ primes, ∀ n ∈ List.range 31, ¬ n = 0 → (n : Int) < q → (cnd q n (q - 1).toNat).isEmpty = false := by decide +kernel
  have hb := fld_le hp
  have e := all p hp a.toNat (List.mem_range.mpr (by omega)) (by omega) (by omega)
  rw [show ((a.toNat : Nat) : Int) = a by omega] at e
  unfold inv
  cases q : cnd p a (p - 1).toNat with
  | nil =>
    rw [q] at e
    cases e
  | cons x l => exact ⟨l, rfl⟩
def spInv (K : PySem.W.Frag) : Sp := fun vs H Q E => ∃ v u, vs = [v, u] ∧ Ty3 K H v ∧ Ty3 K H u ∧ (isFld v = false → Errs (He.ga K "InvalidNumber") "value" v H E) ∧
  ∀ p, v = .int p → isFld v = true → (isBel p u = false → Errs (He.ga K "InvalidNumber") "value" u H E) ∧ (u = .int 0 → Errs (He.ga K "Undefined") "what" (.str "inverse") H E) ∧
    ∀ a, u = .int a → 0 < a → a < p → ∀ H', Same H H' → Q (.int (inv p a)) H'
end
end WU

set_option maxRecDepth 100000
set_option maxHeartbeats 4000000
namespace WU
open PySem PySem.Spec PyProof.Rows L2
section
variable {P : Program} {w : World} {K : PySem.W.Frag} {mg : Str → Option Value} {base : Heap} {S : Addr}
/-- what is asked of the class Share, at S -/
structure ShC (K : PySem.W.Frag) (mg : Str → Option Value) (S : Addr) : Prop where
  g : mg "Share" = some (.ref S)
  cl : Cls K S
  nT : NoAttr K S "top"
  nB : NoAttr K S "bottom"
  ha : PySem.W.findIn K (.ref S) "__class__" = some (some (.builtin "object.__class__"))
  hn : PySem.W.specialIn K (.builtin "object.__class__") "__get__" = some (some (.builtin "getset_descriptor.__get__"))
  htk : PySem.W.takesIn K (.builtin "object.__class__") = some true
  hm : PySem.W.mroIn K S (.type "object") = some true
  kS : PySem.W.kitOne K (.ref S) (.ref S) = some true
  kI : PySem.W.kitOne K (.ref S) (.type "int") = some false
  kB : PySem.W.kitOne K (.ref S) (.type "bool") = some false
theorem nTB : ¬ (("top" : Str) = "bottom") := by decide +kernel
def shf (t b : Int) : List (Str × V) := putF "bottom" (.int b) (putF "top" (.int t) [])
theorem shf_top (t b : Int) : (shf t b).lookup ("top" : Str) = some (.int t) := by
  unfold shf
  rw [lookup_putF, if_neg nTB, lookup_putF, if_pos rfl]
theorem shf_bot (t b : Int) : (shf t b).lookup ("bottom" : Str) = some (.int b) := by
  unfold shf
  rw [lookup_putF, if_pos rfl]
/-- a Share stands at p -/
def ShAt (S : Addr) (H : Hp) (p : Addr) (t b : Int) : Prop := ∃ dx, H p = some (.ins S dx (shf t b))
theorem ShC.ty {H : Hp} {p : Addr} {t b : Int} (C : ShC K mg S) (h : ShAt S H p t b) : TyX K H (.ref p) (.ref S) := by
  obtain ⟨dx, h⟩ := h
  exact .base (.ins h C.cl C.ha C.hn C.htk C.hm)
theorem ShC.ty3 {H : Hp} {p : Addr} {t b : Int} (C : ShC K mg S) (h : ShAt S H p t b) : Ty3 K H (.ref p) := ⟨_, C.ty h, C.kI, C.kB⟩
def spSI (S : Addr) : Sp := fun vs H Q _ => ∃ (p dx : Addr) (n : Int), vs = [.ref p, .int n, .int 1] ∧ H p = some (.ins S dx []) ∧ 0 ≤ n ∧
  ∀ H', ShAt S H' p n 1 → (∀ b o, b ≠ p → H b = some o → H' b = some o) → Q .non H'
/-- two Shares of the same numbers -/
def ShR (S : Addr) : Addr → Addr → Hp → Prop := fun a b H => ∃ t u, ShAt S H a t u ∧ ShAt S H b t u
end
end WU

set_option maxRecDepth 100000
set_option maxHeartbeats 8000000
namespace WU
open PySem PySem.Spec PyProof.Rows L2
section
variable {P : Program} {w : World} {K : PySem.W.Frag} {mg : Str → Option Value} {base : Heap} {S : Addr}
/-- flat, or an object -/
def FR (x : V) : Prop := flatV x = true ∨ ∃ p, x = .ref p
/-- one of the odd values, none of them the hand at a -/
def OddV (S a : Addr) (H : Hp) (v : V) : Prop := flatV v = true ∨ ∃ p, v = .ref p ∧ p ≠ a ∧ ((∃ t b, ShAt S H p t b) ∨ ∃ xs, (H p = some (.lst xs) ∨ H p = some (.tup xs)) ∧ ∀ x ∈ xs, FR x)
theorem OddV.keep {a : Addr} {H H' : Hp} {v : V} (h : OddV S a H v) (k : Keep a H H') : OddV S a H' v := by
  rcases h with h | ⟨p, rfl, ne, h⟩
  · exact .inl h
  · refine .inr ⟨p, rfl, ne, ?_⟩
    rcases h with ⟨t, b, dx, h⟩ | ⟨xs, h, hx⟩
    · exact .inl ⟨t, b, dx, k _ _ ne h⟩
    · exact .inr ⟨xs, h.elim (fun h => .inl (k _ _ ne h)) fun h => .inr (k _ _ ne h), hx⟩
theorem OddV.fr {a : Addr} {H : Hp} {v : V} (h : OddV S a H v) : FR v := by
  rcases h with h | ⟨p, rfl, _⟩
  · exact .inl h
  · exact .inr ⟨p, rfl⟩
theorem OddV.ty3 {a : Addr} {H : Hp} {v : V} (C : ShC K mg S) (h : OddV S a H v) : Ty3 K H v := by
  rcases h with h | ⟨p, rfl, _, h⟩
  · cases v with
    | non => exact ty3_non
    | bl b => exact ty3_bl b
    | int i => exact ty3_int i
    | str z => exact ty3_str z
    | _ => cases h
  · rcases h with ⟨t, b, h⟩ | ⟨xs, h | h, _⟩
    · exact C.ty3 h
    · exact ty3_lst h
    · exact ty3_tup h
theorem sh_make {H : Hp} {x y : Addr} {n : Int} {G : Hp → Prop} {E : XK} (hx : H x = none) (hy : H y = none) (hn : 0 ≤ n) (k : ∀ H', ShAt S H' x n 1 → Same H H' → G H') :
    spSI S [.ref x, .int n, .int 1] (upd (upd H y (.own x)) x (.ins S y [])) (fun v H2 => v = .non ∧ G H2) E :=
  ⟨x, y, n, rfl, upd_same, hn, fun H' sh kp => ⟨rfl, k H' sh fun b o hb => kp b o (ne_of_none hb hx) (by rw [upd_ne (ne_of_none hb hx), upd_ne (ne_of_none hb hy)]; exact hb)⟩⟩
theorem ShAt.same {H H' : Hp} {p : Addr} {t b : Int} (h : ShAt S H p t b) (s : Same H H') : ShAt S H' p t b := by
  obtain ⟨dx, e⟩ := h
  exact ⟨dx, s _ _ e⟩
def spOdd (S : Addr) (n : Nat) : Sp := fun vs H Q _ => ∃ (a d : Addr) (m : Int), vs = [.ref a, .int m] ∧ 0 ≤ m ∧ m < n ∧ HandAt H a d ∧ ∀ v H', OddV S a H' v → HandAt H' a d → Keep a H H' → Q v H'
end
end WU

set_option maxRecDepth 100000
set_option maxHeartbeats 8000000
namespace WU
open PySem PySem.Spec PyProof.Rows L2
section
variable {P : Program} {w : World} {K : PySem.W.Frag} {mg : Str → Option Value} {base : Heap} {S : Addr}
def spLN (S : Addr) : Sp := fun vs H Q _ => ∃ (a d : Addr), vs = [.ref a] ∧ HandAt H a d ∧ ∀ v H', OddV S a H' v → isFld v = false → HandAt H' a d → Keep a H H' → Q v H'
def spLI : Sp := fun vs H Q _ => ∃ (a p : Int), vs = [.int a, .int p] ∧ p ∈ primes ∧ 0 < a ∧ a < p ∧ Q (.int (inv p a)) H
theorem cnd_hit {p a : Int} {n : Nat} {x : Int} {l : List Int} (h : cnd p a n = x :: l) : ∃ j : Nat, j < n ∧ hit p a j = true := by
  have hx : x ∈ cnd p a n := by rw [h]; exact List.mem_cons_self
  unfold cnd at hx
  obtain ⟨j, hj, _⟩ := List.mem_map.mp hx
  obtain ⟨h1, h2⟩ := List.mem_filter.mp hj
  exact ⟨j, List.mem_range.mp h1, h2⟩
end
end WU

set_option maxRecDepth 100000
set_option maxHeartbeats 8000000
namespace WU
open PySem PySem.Spec PyProof.Rows L2
section
variable {X : Cx}
theorem dps_ints {K : PySem.W.Frag} {H : Hp} : ∀ ns : List Int, DpAll K H (ns.map V.int) (ns.map PyData.int)
  | [] => .nil
  | n :: ns => .cons (.int n) (dps_ints ns)
theorem plain_ints : ∀ ns : List Int, PyData.plainAll (ns.map PyData.int) = true
  | [] => rfl
  | n :: ns => plain_ints ns
theorem any_ints : ∀ ns : List Int, (ns.map PyData.int).any PyData.truthy = ns.any fun n => decide (n ≠ 0)
  | [] => rfl
  | n :: ns => by
    rw [List.map_cons, List.any_cons, List.any_cons, any_ints ns]
    congr 1
    show (n != 0) = _
    by_cases h : n = 0 <;> simp [h]
/-- any(a tuple of ints) -/
def rAnyT (K : PySem.W.Frag) : List V → Hp → VK → Prop := fun vs H Q => ∃ (a : Addr) (ns : List Int), vs = [V.ref a] ∧ SqT K H a (ns.map V.int) ∧ Q (.bl (ns.any fun n => decide (n ≠ 0))) H
theorem cr_anyT (hc : X.calm = true) : CallR X (.builtin "any") (rAnyT X.K) := by
  intro pins s σ H vs us Q I r h
  obtain ⟨a, ns, rfl, hs, q⟩ := h
  obtain ⟨its, rv, hl, _⟩ := I.tuple hs
  rw [Vals.ref1 r]
  obtain ⟨as, hr⟩ := Dp.readsAll I (ns.map PyData.int) _ its (dps_ints ns) rv
  refine PySem.W.any_tuple_data (I.ok.hd hc) (show s.heap.IsTuple a its.toArray from hl) hr (plain_ints ns) (fun x hx => ?_) fun h' tk hk => ?_
  · obtain ⟨n, _, rfl⟩ := List.mem_map.mp hx
    trivial
  · rw [any_ints]
    exact ⟨.bl _, H, I.kept fun b o eo => hk b o eo, rfl, q⟩
end
end WU

set_option maxRecDepth 100000
set_option maxHeartbeats 8000000
namespace WU
open PySem PySem.Spec PyProof.Rows L2
theorem tuple_mul1 (l : Addr) (items : Array Value) (n : Nat) (dd : Option Addr) (sl : Array (Option Value)) (u : Tok) :
    Meets (Builtin.«tuple.__mul__» ⟨[.ref l, .int 1 u], []⟩) (fun _ R s => s.heap.get? l = some { cls := .type "tuple", dict := dd, data := .seq items n, slots := sl } ∧ R (.ok (.ret (Value.ref l))) { s with heap := s.heap, toks := s.toks }) :=
  .of_wp fun prog w A R s h => by
    obtain ⟨hp, g, d, tk, os⟩ := s
    obtain ⟨hl, h⟩ := h
    have f1 := AutoSeq1.idx_int
    have c0 : (decide ((1 : Int) < -(2 ^ 63)) || decide ((1 : Int) ≥ 2 ^ 63)) = false := by decide
    have c1 : (items.isEmpty || (1 : Int) == 1) = true := by simp
    wp_walk using wpAny_loadPart' hl
    repeat (first
      | (refine wpAny_ite_false (decide_eq_false (by rw [c0]; exact Bool.false_ne_true)) ?_; wp_walk using wpAny_loadPart' hl)
      | (refine wpAny_ite_true (decide_eq_true c1) ?_; wp_walk using wpAny_loadPart' hl))
    exact ⟨_, rfl, h⟩
theorem tuple_mul0 (l : Addr) (items : Array Value) (n : Nat) (dd : Option Addr) (sl : Array (Option Value)) (u : Tok) (hi : items.isEmpty = false) :
    Meets (Builtin.«tuple.__mul__» ⟨[.ref l, .int 0 u], []⟩) (fun _ R s => s.heap.get? l = some { cls := .type "tuple", dict := dd, data := .seq items n, slots := sl } ∧
      R (.ok (.ret (Value.ref s.heap.objs.size))) { s with heap := s.heap.push { cls := Value.type "tuple", data := Data.seq #[] }, toks := s.toks }) :=
  .of_wp fun prog w A R s h => by
    obtain ⟨hp, g, d, tk, os⟩ := s
    obtain ⟨hl, h⟩ := h
    have f1 := AutoSeq1.idx_int
    have c0 : (decide ((0 : Int) < -(2 ^ 63)) || decide ((0 : Int) ≥ 2 ^ 63)) = false := by decide
    have c1 : (items.isEmpty || (0 : Int) == 1) = false := by rw [hi]; decide
    have c2 : (decide ((0 : Int) ≤ 0) || items.isEmpty) = true := by rw [decide_eq_true (Int.le_refl 0)]; rfl
    wp_walk using wpAny_loadPart' hl
    repeat (first
      | (refine wpAny_ite_false (decide_eq_false (by rw [c0]; exact Bool.false_ne_true)) ?_; wp_walk using wpAny_loadPart' hl)
      | (refine wpAny_ite_false (decide_eq_false (by rw [c1]; exact Bool.false_ne_true)) ?_; wp_walk using wpAny_loadPart' hl)
      | (refine wpAny_ite_true (decide_eq_true c2) ?_; wp_walk using wpAny_loadPart' hl))
    exact ⟨_, rfl, h⟩
/-- (v,) * k, k from 0 on -/
def rRepA (K : PySem.W.Frag) : R2 := fun x y H Q => ∃ (l : Addr) (k : Nat) (xs : List V), x = .ref l ∧ y = .int k ∧ H l = some (.tup xs) ∧ xs ≠ [] ∧ k ≤ 1000 ∧ xs.length ≤ 1000 ∧ ∀ p H', Same H H' → H' p = some (.tup (List.replicate k xs).flatten) → Q (.ref p) H'
section
variable {X : Cx}
theorem op_repA : OpR X (binaryOp .Mult) (rRepA X.K) := by
  intro pins s σ H x y v u Q I rx ry h
  obtain ⟨l, k, xs, rfl, rfl, hT, hne, h2, hz, q⟩ := h
  by_cases hk : 2 ≤ k
  · refine op_repT pins s σ H _ _ v u Q I rx ry ⟨l, (k : Int), xs, rfl, rfl, SqT.of hT, hne, by omega, by omega, hz, fun p hp => q p _ (same_new hp) ?_⟩
    rw [upd_same]
    rfl
  · cases rx
    obtain ⟨t, rfl⟩ := ry
    obtain ⟨its, r, ⟨⟨cls, dd, data, sl⟩, ho, hc, n, hd⟩, hs⟩ := I.tuple (SqT.of hT)
    simp only at hc hd
    subst hc hd
    have hle : its.length = xs.length := r.length.symm
    have hi : its.toArray.isEmpty = false := by
      cases its with
      | nil => exact absurd (List.eq_nil_of_length_eq_zero hle.symm) hne
      | cons a b => rfl
    have hk2 : k = 0 ∨ k = 1 := by omega
    rcases hk2 with rfl | rfl
    · refine wpAny_binaryOp_repeat_ref (T := "tuple") (U := "int") (by decide) ⟨_, ho, rfl⟩ (fun s' => typeIs_int s' 0 t) noFill_tuple_mul PySem.F.fills_int_mul PySem.F.slot_int_rmul repeat_tuple PySem.F.slot_int_index.lookup
        (call_meets PySem.F.slot_int_rmul (typeIs_int s 0 t) PySem.F.entry_int_rmul (PySem.F.args_int_rmul_2 _ _) (int_rmul_tuple 0 t l its.toArray n dd sl)
          ⟨ho, rfl, ⟨_, ho, rfl⟩, call_meets PySem.F.slot_tuple_mul ⟨_, ho, rfl⟩ PySem.F.entry_tuple_mul (PySem.F.args_tuple_mul_2 _ _) (tuple_mul0 l its.toArray n dd sl t hi) ⟨ho, ?_⟩⟩)
      refine ⟨.ref s.heap.objs.size, _, I.laid (t' := s.toks) (o := .tup []) (fun b ob q => Heap.get?_push_of_some _ q) (Nat.le_refl _) ?_, rfl, q _ _ (same_new (I.hok.fresh (Nat.le_refl _))) upd_same⟩
      exact ⟨Nat.zero_le _, [], .nil, IsTup.new _ _⟩
    · refine wpAny_binaryOp_repeat_ref (T := "tuple") (U := "int") (by decide) ⟨_, ho, rfl⟩ (fun s' => typeIs_int s' 1 t) noFill_tuple_mul PySem.F.fills_int_mul PySem.F.slot_int_rmul repeat_tuple PySem.F.slot_int_index.lookup
        (call_meets PySem.F.slot_int_rmul (typeIs_int s 1 t) PySem.F.entry_int_rmul (PySem.F.args_int_rmul_2 _ _) (int_rmul_tuple 1 t l its.toArray n dd sl)
          ⟨ho, rfl, ⟨_, ho, rfl⟩, call_meets PySem.F.slot_tuple_mul ⟨_, ho, rfl⟩ PySem.F.entry_tuple_mul (PySem.F.args_tuple_mul_2 _ _) (tuple_mul1 l its.toArray n dd sl t) ⟨ho, ?_⟩⟩)
      refine ⟨.ref l, H, I, rfl, q l H (Same.refl H) ?_⟩
      rw [hT]
      simp
end
end WU

set_option maxRecDepth 100000
set_option maxHeartbeats 4000000
namespace WU
open PySem PySem.Spec PyProof.Rows L2
/-! ### rows of letters, by places -/
def at0 (r : List Int) (k : Nat) : Int := r.getD k 0
/-- a row of n letters -/
def Ltr (p : Int) (n : Nat) (b : List Int) : Prop := b.length = n ∧ ∀ i ∈ b, 0 ≤ i ∧ i < p
theorem at0_lt {r : List Int} {k : Nat} (h : k < r.length) : at0 r k = r[k] := by
  unfold at0
  rw [List.getD_eq_getElem?_getD, List.getElem?_eq_getElem h]
  rfl
theorem at0_some {r : List Int} {k : Nat} (h : k < r.length) : r[k]? = some (at0 r k) := by
  rw [at0_lt h, List.getElem?_eq_getElem h]
theorem Ltr.bd {p : Int} {n k : Nat} {r : List Int} (h : Ltr p n r) (hk : k < n) : 0 ≤ at0 r k ∧ at0 r k < p := by
  have hl : k < r.length := by rw [h.1]; exact hk
  rw [at0_lt hl]
  exact h.2 _ (List.getElem_mem hl)
theorem row_ext {n : Nat} {r t : List Int} (hr : r.length = n) (ht : t.length = n) (h : ∀ k, k < n → at0 r k = at0 t k) : r = t := by
  refine List.ext_getElem (by rw [hr, ht]) fun k h1 h2 => ?_
  rw [← at0_lt h1, ← at0_lt h2]
  exact h k (by omega)
theorem ltr_of {p : Int} {n : Nat} {r : List Int} (hl : r.length = n) (h : ∀ k, k < n → 0 ≤ at0 r k ∧ at0 r k < p) : Ltr p n r := by
  refine ⟨hl, fun x hx => ?_⟩
  obtain ⟨k, hk, rfl⟩ := List.getElem_of_mem hx
  rw [← at0_lt hk]
  exact h k (by omega)
def zer (n : Nat) : List Int := List.replicate n 0
theorem zer_len {n : Nat} : (zer n).length = n := List.length_replicate
theorem zer_at {n k : Nat} : at0 (zer n) k = 0 := by
  unfold at0 zer
  rw [List.getD_eq_getElem?_getD, List.getElem?_replicate]
  split <;> rfl
/-- u + c r, by places -/
def addv (p : Int) (u : List Int) (c : Int) (r : List Int) : List Int := List.zipWith (fun a b => (a + c * b).fmod p) u r
theorem addv_len {p c : Int} {n : Nat} {u r : List Int} (hu : u.length = n) (hr : r.length = n) : (addv p u c r).length = n := by
  unfold addv
  rw [List.length_zipWith, hu, hr, Nat.min_self]
theorem addv_at {p c : Int} {n k : Nat} {u r : List Int} (hu : u.length = n) (hr : r.length = n) (hk : k < n) : at0 (addv p u c r) k = (at0 u k + c * at0 r k).fmod p := by
  rw [at0_lt (by rw [addv_len hu hr]; exact hk), at0_lt (r := u) (by omega), at0_lt (r := r) (by omega)]
  unfold addv
  rw [List.getElem_zipWith]
theorem fm_bd (x : Int) {p : Int} (h : 0 < p) : 0 ≤ x.fmod p ∧ x.fmod p < p := ⟨Int.fmod_nonneg_of_pos x h, Int.fmod_lt_of_pos x h⟩
theorem addv_ltr {p c : Int} {n : Nat} {u r : List Int} (hp : 0 < p) (hu : u.length = n) (hr : r.length = n) : Ltr p n (addv p u c r) :=
  ltr_of (addv_len hu hr) fun k hk => by rw [addv_at hu hr hk]; exact fm_bd _ hp
theorem zer_ltr {p : Int} {n : Nat} (hp : 0 < p) : Ltr p n (zer n) := ltr_of zer_len fun k _ => by rw [zer_at]; omega
/-! ### alike modulo p -/
def Cg (p a b : Int) : Prop := ∃ t, a = b + p * t
theorem Cg.rfl' {p a : Int} : Cg p a a := ⟨0, by omega⟩
theorem Cg.symm {p a b : Int} (h : Cg p a b) : Cg p b a := by
  obtain ⟨t, e⟩ := h
  exact ⟨-t, by rw [e, Int.mul_neg]; omega⟩
theorem Cg.trans {p a b c : Int} (h : Cg p a b) (k : Cg p b c) : Cg p a c := by
  obtain ⟨t, e⟩ := h
  obtain ⟨u, f⟩ := k
  exact ⟨t + u, by rw [e, f, Int.mul_add]; omega⟩
theorem Cg.add {p a b c d : Int} (h : Cg p a b) (k : Cg p c d) : Cg p (a + c) (b + d) := by
  obtain ⟨t, e⟩ := h
  obtain ⟨u, f⟩ := k
  exact ⟨t + u, by rw [e, f, Int.mul_add]; omega⟩
theorem Cg.mul {p a b : Int} (c : Int) (h : Cg p a b) : Cg p (c * a) (c * b) := by
  obtain ⟨t, e⟩ := h
  exact ⟨c * t, by rw [e, Int.mul_add, ← Int.mul_assoc, ← Int.mul_assoc, Int.mul_comm c p]⟩
theorem Cg.mulr {p a b : Int} (c : Int) (h : Cg p a b) : Cg p (a * c) (b * c) := by
  rw [Int.mul_comm a, Int.mul_comm b]
  exact h.mul c
theorem Cg.fm {p : Int} (a : Int) : Cg p (a.fmod p) a := ⟨-(a.fdiv p), by rw [Int.fmod_def, Int.mul_neg]; omega⟩
theorem Cg.eq {p a b : Int} (h : Cg p a b) (ha : 0 ≤ a ∧ a < p) (hb : 0 ≤ b ∧ b < p) : a = b := by
  obtain ⟨t, e⟩ := h
  have h1 : a % p = a := Int.emod_eq_of_lt ha.1 ha.2
  have h2 : b % p = b := Int.emod_eq_of_lt hb.1 hb.2
  rw [← h1, ← h2, e, Int.add_mul_emod_self_left]
theorem Cg.fmod {p a b : Int} (hp : 0 < p) (h : Cg p a b) : a.fmod p = b.fmod p := Cg.eq ((Cg.fm a).trans (h.trans (Cg.fm b).symm)) (fm_bd a hp) (fm_bd b hp)
theorem fm_id {p a : Int} (h : 0 ≤ a ∧ a < p) : a.fmod p = a := Cg.eq (Cg.fm a) (fm_bd a (by omega)) h
/-! ### what sums and multiples keep -/
def Lin (p : Int) (n : Nat) (S : List Int → Prop) : Prop := S (zer n) ∧ ∀ u r c, S u → S r → S (addv p u c r)
/-- spanned by rows -/
def Span (p : Int) (n : Nat) (rows : List (List Int)) (v : List Int) : Prop := ∀ S, Lin p n S → (∀ r ∈ rows, S r) → S v
theorem span_lin {p : Int} {n : Nat} {rows : List (List Int)} : Lin p n (Span p n rows) := ⟨fun S l _ => l.1, fun u r c hu hr S l h => l.2 u r c (hu S l h) (hr S l h)⟩
theorem span_mem {p : Int} {n : Nat} {rows : List (List Int)} {r : List Int} (h : r ∈ rows) : Span p n rows r := fun S _ k => k r h
theorem span_sub {p : Int} {n : Nat} {rows rows' : List (List Int)} (h : ∀ r ∈ rows, Span p n rows' r) {v : List Int} (hv : Span p n rows v) : Span p n rows' v := hv _ span_lin h
theorem ltr_lin {p : Int} {n : Nat} (hp : 0 < p) : Lin p n (Ltr p n) := ⟨zer_ltr hp, fun u r c hu hr => addv_ltr hp hu.1 hr.1⟩
/-! ### the elimination -/
def nz (r : List Int) : Bool := r.any fun n => decide (n ≠ 0)
def led (p : Int) (r : List Int) (j : Nat) : List Int := r.map fun l => (inv p (at0 r j) * l).fmod p
def less (p : Int) (r : List Int) (f : Int) (lead : List Int) : List Int := List.zipWith (fun a b => (a - f * b).fmod p) r lead
def clr (p : Int) (lead : List Int) (j : Nat) (r : List Int) : List Int := if at0 r j ≠ 0 then less p r (at0 r j) lead else r
def hot (j : Nat) (r : List Int) : Bool := decide (at0 r j ≠ 0)
/-- one column, as the law goes -/
def stp (p : Int) (j : Nat) (s : List (List Int) × List (List Int)) : List (List Int) × List (List Int) :=
  match s.1.findIdx? (hot j) with
  | none => s
  | some k => ((s.1.eraseIdx k).map fun r => less p r (at0 r j) (led p (s.1.getD k []) j), (s.2.map fun r => less p r (at0 r j) (led p (s.1.getD k []) j)) ++ [led p (s.1.getD k []) j])
def run (p : Int) (rows : List (List Int)) : Nat → List (List Int) × List (List Int)
  | 0 => (rows, [])
  | j + 1 => stp p j (run p rows j)
def wid (rows : List (List Int)) : Nat := (rows.head?.getD []).length
/-- the reduced rows -/
def red (p : Int) (rows : List (List Int)) : List (List Int) := (run p rows (wid rows)).2
theorem less_add (p f : Int) (r lead : List Int) : less p r f lead = addv p r (-f) lead := by
  unfold less addv
  congr 1
  funext a b
  rw [Int.neg_mul]
  rfl
theorem less_len {p f : Int} {n : Nat} {r lead : List Int} (hr : r.length = n) (hl : lead.length = n) : (less p r f lead).length = n := by
  rw [less_add]
  exact addv_len hr hl
theorem less_at {p f : Int} {n k : Nat} {r lead : List Int} (hr : r.length = n) (hl : lead.length = n) (hk : k < n) : at0 (less p r f lead) k = (at0 r k - f * at0 lead k).fmod p := by
  rw [less_add, addv_at hr hl hk, Int.neg_mul]
  rfl
theorem led_len {p : Int} {j n : Nat} {r : List Int} (hr : r.length = n) : (led p r j).length = n := by
  unfold led
  rw [List.length_map, hr]
theorem led_at {p : Int} {j n k : Nat} {r : List Int} (hr : r.length = n) (hk : k < n) : at0 (led p r j) k = (inv p (at0 r j) * at0 r k).fmod p := by
  rw [at0_lt (by rw [led_len hr]; exact hk), at0_lt (r := r) (k := k) (by omega)]
  unfold led
  rw [List.getElem_map]
theorem led_add {p : Int} {j n : Nat} {r : List Int} (hr : r.length = n) : led p r j = addv p (zer n) (inv p (at0 r j)) r := by
  refine row_ext (led_len hr) (addv_len zer_len hr) fun k hk => ?_
  rw [led_at hr hk, addv_at zer_len hr hk, zer_at, Int.zero_add]
/-- the inverse is one -/
theorem inv_mul {p a : Int} (hp : p ∈ primes) (h0 : 0 < a) (h1 : a < p) : (a * inv p a).fmod p = 1 := by
  have all : ∀ q ∈ primes, ∀ n ∈ List.range 31, ¬ n = 0 → (n : Int) < q → ((n : Int) * inv q n).fmod q = 1 := by decide +kernel
  have hb := fld_le hp
  have e := all p hp a.toNat (List.mem_range.mpr (by omega)) (by omega) (by omega)
  rw [show ((a.toNat : Nat) : Int) = a by omega] at e
  exact e
/-- what stands ahead of column j -/
structure Iv (p : Int) (n : Nat) (rows : List (List Int)) (j : Nat) (s : List (List Int) × List (List Int)) (pv : List Nat) : Prop where
  left : ∀ r ∈ s.1, Ltr p n r
  done : ∀ r ∈ s.2, Ltr p n r
  low : ∀ r ∈ s.1, ∀ k, k < j → at0 r k = 0
  len : pv.length = s.2.length
  plt : ∀ c ∈ pv, c < j
  one : ∀ (i l : Nat) (r : List Int) (c : Nat), s.2[i]? = some r → pv[l]? = some c → at0 r c = if i = l then 1 else 0
  to : ∀ r, r ∈ s.1 ∨ r ∈ s.2 → Span p n rows r
  of : ∀ r ∈ rows, Span p n (s.1 ++ s.2) r
theorem iv_zero {p : Int} {n : Nat} {rows : List (List Int)} (h : ∀ r ∈ rows, Ltr p n r) : Iv p n rows 0 (run p rows 0) [] where
  left := h
  done := fun r hr => nomatch hr
  low := fun r _ k hk => absurd hk (Nat.not_lt_zero _)
  len := rfl
  plt := fun c hc => nomatch hc
  one := fun i l r c hi _ => nomatch hi
  to := fun r hr => hr.elim span_mem fun z => nomatch z
  of := fun r hr => span_mem (List.mem_append.mpr (.inl hr))
theorem find_hot {j : Nat} {rows : List (List Int)} {k : Nat} (h : rows.findIdx? (hot j) = some k) : ∃ a r b, rows = a ++ r :: b ∧ a.length = k ∧ hot j r = true ∧ ∀ t ∈ a, hot j t = false := by
  rw [List.findIdx?_eq_some_iff_getElem] at h
  obtain ⟨hk, h1, h2⟩ := h
  refine ⟨rows.take k, rows[k], rows.drop (k + 1), ?_, by rw [List.length_take]; omega, h1, fun t ht => ?_⟩
  · rw [List.getElem_cons_drop, List.take_append_drop]
  · obtain ⟨i, hi, rfl⟩ := List.getElem_of_mem ht
    rw [List.length_take] at hi
    rw [List.getElem_take]
    have := h2 i (by omega)
    simpa using this
theorem erase_mid {α : Type} (a b : List α) (r : α) : (a ++ r :: b).eraseIdx a.length = a ++ b := by
  rw [List.eraseIdx_append_of_length_le (Nat.le_refl _), Nat.sub_self]
  rfl
theorem getD_mid (a b : List (List Int)) (r : List Int) : (a ++ r :: b).getD a.length [] = r := by
  rw [List.getD_eq_getElem?_getD, List.getElem?_append_right (Nat.le_refl _), Nat.sub_self]
  rfl
theorem stp_some {p : Int} {j : Nat} {a b d : List (List Int)} {r : List Int} (hr : hot j r = true) (ha : ∀ t ∈ a, hot j t = false) :
    stp p j (a ++ r :: b, d) = ((a ++ b).map fun t => less p t (at0 t j) (led p r j), (d.map fun t => less p t (at0 t j) (led p r j)) ++ [led p r j]) := by
  have e : (a ++ r :: b).findIdx? (hot j) = some a.length := by
    rw [List.findIdx?_eq_some_iff_getElem]
    refine ⟨by rw [List.length_append]; simp, by rw [List.getElem_append_right (Nat.le_refl _)]; simpa using hr, fun i hi => ?_⟩
    rw [List.getElem_append_left hi, ha _ (List.getElem_mem hi)]
    exact Bool.false_ne_true
  unfold stp
  simp only
  rw [e]
  simp only
  rw [erase_mid, getD_mid]
theorem stp_none {p : Int} {j : Nat} {s : List (List Int) × List (List Int)} (h : ∀ t ∈ s.1, hot j t = false) : stp p j s = s := by
  have e : s.1.findIdx? (hot j) = none := by
    rw [List.findIdx?_eq_none_iff]
    exact h
  unfold stp
  rw [e]
end WU

set_option maxRecDepth 100000
set_option maxHeartbeats 4000000
namespace WU
open PySem PySem.Spec PyProof.Rows L2
theorem prime_pos {p : Int} (hp : p ∈ primes) : 0 < p := by have := fld_le hp; omega
theorem fm_zero {p : Int} : (0 : Int).fmod p = 0 := Int.zero_fmod p
theorem fm_one {p : Int} (hp : p ∈ primes) : (1 : Int).fmod p = 1 := fm_id (by have := fld_le hp; omega)
theorem hot_ne {j : Nat} {r : List Int} (h : hot j r = true) : at0 r j ≠ 0 := of_decide_eq_true h
theorem hot_not {j : Nat} {r : List Int} (h : hot j r = false) : at0 r j = 0 := by
  have := of_decide_eq_false h
  simpa using this
theorem led_one {p : Int} {j n : Nat} {r : List Int} (hp : p ∈ primes) (hr : Ltr p n r) (hj : j < n) (h : hot j r = true) : at0 (led p r j) j = 1 := by
  have b := hr.bd hj
  have z := hot_ne h
  rw [led_at hr.1 hj, Int.mul_comm]
  exact inv_mul hp (by omega) b.2
theorem less_ltr {p f : Int} {n : Nat} {r lead : List Int} (hp : 0 < p) (hr : r.length = n) (hl : lead.length = n) : Ltr p n (less p r f lead) := by
  rw [less_add]
  exact addv_ltr hp hr hl
theorem led_ltr {p : Int} {j n : Nat} {r : List Int} (hp : 0 < p) (hr : r.length = n) : Ltr p n (led p r j) := by
  rw [led_add hr]
  exact addv_ltr hp zer_len hr
/-- a row with nothing at j stays as it is -/
theorem less_zero {p : Int} {n : Nat} {r lead : List Int} (hr : Ltr p n r) (hl : lead.length = n) : less p r 0 lead = r := by
  refine row_ext (less_len hr.1 hl) hr.1 fun k hk => ?_
  rw [less_at hr.1 hl hk, Int.zero_mul, Int.sub_zero]
  exact fm_id (hr.bd hk)
theorem clr_less {p : Int} {j n : Nat} {r lead : List Int} (hr : Ltr p n r) (hl : lead.length = n) : clr p lead j r = less p r (at0 r j) lead := by
  unfold clr
  by_cases h : at0 r j = 0
  · rw [if_neg (by simpa using h), h, less_zero hr hl]
  · rw [if_pos h]
/-- cleared of itself a row is nothing -/
theorem less_self {p : Int} {j n : Nat} {r : List Int} (hp : p ∈ primes) (hr : Ltr p n r) (hj : j < n) (h : hot j r = true) : less p r (at0 r j) (led p r j) = zer n := by
  have p0 := prime_pos hp
  refine row_ext (less_len hr.1 (led_len hr.1)) zer_len fun k hk => ?_
  have b := hr.bd hj
  have z := hot_ne h
  rw [less_at hr.1 (led_len hr.1) hk, zer_at, led_at hr.1 hk]
  have c1 : Cg p (at0 r j * inv p (at0 r j)) 1 := by
    rw [← inv_mul hp (show 0 < at0 r j by omega) b.2]
    exact (Cg.fm _).symm
  have c2 : Cg p (at0 r j * (inv p (at0 r j) * at0 r k).fmod p) (at0 r k) := by
    have := (Cg.fm (p := p) (inv p (at0 r j) * at0 r k)).mul (at0 r j)
    rw [← Int.mul_assoc] at this
    have c3 := c1.mulr (at0 r k)
    rw [Int.one_mul] at c3
    exact this.trans c3
  have c4 : Cg p (at0 r k - at0 r j * (inv p (at0 r j) * at0 r k).fmod p) 0 := by
    obtain ⟨t, e⟩ := c2
    exact ⟨-t, by rw [e, Int.mul_neg]; omega⟩
  rw [Cg.fmod p0 c4, fm_zero]
theorem nz_zer {n : Nat} : nz (zer n) = false := by
  unfold nz zer
  rw [List.any_eq_false]
  intro x hx
  rw [(List.mem_replicate.mp hx).2]
  decide
theorem nz_false {p : Int} {n : Nat} {r : List Int} (hr : r.length = n) (h : nz r = false) : r = zer n := by
  unfold nz at h
  rw [List.any_eq_false] at h
  refine List.eq_replicate_iff.mpr ⟨hr, fun x hx => ?_⟩
  have := h x hx
  simpa using this
theorem nz_hot {j n : Nat} {r : List Int} (hr : r.length = n) (hj : j < n) (h : hot j r = true) : nz r = true := by
  unfold nz
  rw [List.any_eq_true]
  exact ⟨r[j]'(by omega), List.getElem_mem _, by rw [← at0_lt (by omega)]; exact h⟩
theorem less_span {p f : Int} {n : Nat} {rows : List (List Int)} {r l : List Int} (hr : Span p n rows r) (hl : Span p n rows l) : Span p n rows (less p r f l) := by
  rw [less_add]
  exact span_lin.2 _ _ _ hr hl
theorem led_span {p : Int} {j n : Nat} {rows : List (List Int)} {r : List Int} (hl : r.length = n) (hr : Span p n rows r) : Span p n rows (led p r j) := by
  rw [led_add hl]
  exact span_lin.2 _ _ _ span_lin.1 hr
/-- and back: a row is what is left of it and its multiple -/
theorem less_back {p f : Int} {n : Nat} {r l : List Int} (hp : 0 < p) (hr : Ltr p n r) (hl : l.length = n) : r = addv p (less p r f l) f l := by
  have h1 := less_len (p := p) (f := f) hr.1 hl
  refine row_ext hr.1 (addv_len h1 hl) fun k hk => ?_
  rw [addv_at h1 hl hk, less_at hr.1 hl hk]
  have c : Cg p ((at0 r k - f * at0 l k).fmod p + f * at0 l k) (at0 r k) := by
    have := (Cg.fm (p := p) (at0 r k - f * at0 l k)).add (Cg.rfl' (p := p) (a := f * at0 l k))
    rw [Int.sub_add_cancel] at this
    exact this
  rw [Cg.fmod hp c, fm_id (hr.bd hk)]
theorem led_back {p : Int} {j n : Nat} {r : List Int} (hp : p ∈ primes) (hr : Ltr p n r) (hj : j < n) (h : hot j r = true) : r = addv p (zer n) (at0 r j) (led p r j) := by
  have p0 := prime_pos hp
  have e := less_back (f := at0 r j) p0 hr (led_len (p := p) (j := j) hr.1)
  rw [less_self hp hr hj h] at e
  exact e
theorem iv_step {p : Int} {n j : Nat} {rows : List (List Int)} {s : List (List Int) × List (List Int)} {pv : List Nat} (hp : p ∈ primes) (hj : j < n) (I : Iv p n rows j s pv) : ∃ pv', Iv p n rows (j + 1) (stp p j s) pv' := by
  have p0 := prime_pos hp
  cases e : s.1.findIdx? (hot j) with
  | none =>
    rw [List.findIdx?_eq_none_iff] at e
    rw [stp_none e]
    refine ⟨pv, I.left, I.done, fun r hr k hk => ?_, I.len, fun c hc => Nat.lt_succ_of_lt (I.plt c hc), I.one, I.to, I.of⟩
    by_cases z : k = j
    · rw [z]
      exact hot_not (e r hr)
    · exact I.low r hr k (by omega)
  | some k =>
    obtain ⟨a, r, b, ea, hk, hr, ha⟩ := find_hot e
    obtain ⟨l, d⟩ := s
    simp only at ea
    subst ea
    rw [stp_some hr ha]
    have hrm : r ∈ a ++ r :: b := List.mem_append.mpr (.inr (List.mem_cons_self))
    have hrL : Ltr p n r := I.left r hrm
    have hl : (led p r j).length = n := led_len hrL.1
    have sub : ∀ t ∈ a ++ b, t ∈ a ++ r :: b := fun t ht => by
      rcases List.mem_append.mp ht with h | h
      · exact List.mem_append.mpr (.inl h)
      · exact List.mem_append.mpr (.inr (List.mem_cons_of_mem _ h))
    have l1 := led_one hp hrL hj hr
    have lpv : ∀ c, c < j → at0 (led p r j) c = 0 := fun c hc => by
      rw [led_at hrL.1 (by omega), I.low r hrm c hc, Int.mul_zero, fm_zero]
    have tl : Span p n rows (led p r j) := led_span hrL.1 (I.to r (.inl hrm))
    refine ⟨pv ++ [j], ?_⟩
    constructor
    · intro t ht
      obtain ⟨u, hu, rfl⟩ := List.mem_map.mp ht
      exact less_ltr p0 (I.left u (sub u hu)).1 hl
    · intro t ht
      rcases List.mem_append.mp ht with h | h
      · obtain ⟨u, hu, rfl⟩ := List.mem_map.mp h
        exact less_ltr p0 (I.done u hu).1 hl
      · rw [List.mem_singleton.mp h]
        exact led_ltr p0 hrL.1
    · intro t ht k hk
      obtain ⟨u, hu, rfl⟩ := List.mem_map.mp ht
      have hu2 := I.left u (sub u hu)
      rw [less_at hu2.1 hl (by omega)]
      by_cases z : k = j
      · rw [z, l1, Int.mul_one, Int.sub_self, fm_zero]
      · rw [I.low u (sub u hu) k (by omega), lpv k (by omega), Int.mul_zero, Int.sub_zero, fm_zero]
    · rw [List.length_append, List.length_append, List.length_map, I.len]
      rfl
    · intro c hc
      rcases List.mem_append.mp hc with h | h
      · exact Nat.lt_succ_of_lt (I.plt c h)
      · rw [List.mem_singleton.mp h]
        exact Nat.lt_succ_self j
    · intro i m t c hi hm
      have hpl := I.len
      by_cases zi : i < d.length
      · rw [List.getElem?_append_left (by rw [List.length_map]; exact zi), List.getElem?_map] at hi
        obtain ⟨u, hu, rfl⟩ := Option.map_eq_some_iff.mp hi
        have hu2 := I.done u (List.mem_of_getElem? hu)
        by_cases zm : m < pv.length
        · rw [List.getElem?_append_left zm] at hm
          have hc := I.plt c (List.mem_of_getElem? hm)
          rw [less_at hu2.1 hl (by omega), lpv c hc, Int.mul_zero, Int.sub_zero, I.one i m u c hu hm]
          split
          · exact fm_one hp
          · exact fm_zero
        · have hm2 := (List.getElem?_eq_some_iff.mp hm).1
          rw [List.length_append] at hm2
          have em : m = pv.length := by
            have : m < pv.length + 1 := hm2
            omega
          rw [em, List.getElem?_append_right (Nat.le_refl _), Nat.sub_self] at hm
          cases hm
          rw [less_at hu2.1 hl hj, l1, Int.mul_one, Int.sub_self, fm_zero, if_neg (by simp only at hpl; omega)]
      · have hi2 := (List.getElem?_eq_some_iff.mp hi).1
        rw [List.length_append, List.length_map] at hi2
        have ei : i = d.length := by
          have : i < d.length + 1 := hi2
          omega
        rw [ei, List.getElem?_append_right (by rw [List.length_map]; exact Nat.le_refl _), List.length_map, Nat.sub_self] at hi
        cases hi
        by_cases zm : m < pv.length
        · rw [List.getElem?_append_left zm] at hm
          have hc := I.plt c (List.mem_of_getElem? hm)
          rw [lpv c hc, if_neg (by simp only at hpl; omega)]
        · have hm2 := (List.getElem?_eq_some_iff.mp hm).1
          rw [List.length_append] at hm2
          have em : m = pv.length := by
            have : m < pv.length + 1 := hm2
            omega
          rw [em, List.getElem?_append_right (Nat.le_refl _), Nat.sub_self] at hm
          cases hm
          rw [l1, if_pos (by simp only at hpl; omega)]
    · intro t ht
      rcases ht with h | h
      · obtain ⟨u, hu, rfl⟩ := List.mem_map.mp h
        exact less_span (I.to u (.inl (sub u hu))) tl
      · rcases List.mem_append.mp h with h | h
        · obtain ⟨u, hu, rfl⟩ := List.mem_map.mp h
          exact less_span (I.to u (.inr hu)) tl
        · rw [List.mem_singleton.mp h]
          exact tl
    · intro t ht
      refine span_sub (fun u hu => ?_) (I.of t ht)
      generalize hL : ((a ++ b).map fun t => less p t (at0 t j) (led p r j)) ++ ((d.map fun t => less p t (at0 t j) (led p r j)) ++ [led p r j]) = L
      have hlead : Span p n L (led p r j) := span_mem (by rw [← hL]; exact List.mem_append.mpr (.inr (List.mem_append.mpr (.inr (List.mem_singleton.mpr rfl)))))
      have back : ∀ u, Ltr p n u → less p u (at0 u j) (led p r j) ∈ L → Span p n L u := fun u hu hm => by
        rw [less_back (f := at0 u j) p0 hu hl]
        exact span_lin.2 _ _ _ (span_mem hm) hlead
      rcases List.mem_append.mp hu with h | h
      · have hab : u ∈ a ++ b ∨ u = r := by
          rcases List.mem_append.mp h with h | h
          · exact .inl (List.mem_append.mpr (.inl h))
          · rcases List.mem_cons.mp h with h | h
            · exact .inr h
            · exact .inl (List.mem_append.mpr (.inr h))
        rcases hab with h | rfl
        · exact back u (I.left u (sub u h)) (by rw [← hL]; exact List.mem_append.mpr (.inl (List.mem_map.mpr ⟨u, h, rfl⟩)))
        · rw [led_back hp hrL hj hr]
          exact span_lin.2 _ _ _ span_lin.1 hlead
      · exact back u (I.done u h) (by rw [← hL]; exact List.mem_append.mpr (.inr (List.mem_append.mpr (.inl (List.mem_map.mpr ⟨u, h, rfl⟩)))))
theorem iv_run {p : Int} {n : Nat} {rows : List (List Int)} (hp : p ∈ primes) (h : ∀ r ∈ rows, Ltr p n r) : ∀ j, j ≤ n → ∃ pv, Iv p n rows j (run p rows j) pv
  | 0, _ => ⟨[], iv_zero h⟩
  | j + 1, hj => by
    obtain ⟨pv, I⟩ := iv_run hp h j (by omega)
    exact iv_step hp (by omega) I
end WU

set_option maxRecDepth 100000
set_option maxHeartbeats 4000000
namespace WU
open PySem PySem.Spec PyProof.Rows L2
theorem filter_hot_nz {p : Int} {n j : Nat} {l : List (List Int)} (hl : ∀ r ∈ l, Ltr p n r) (hj : j < n) : (l.filter nz).filter (hot j) = l.filter (hot j) := by
  rw [List.filter_filter]
  refine List.filter_congr fun r hr => ?_
  cases h : hot j r with
  | false => rfl
  | true => rw [nz_hot (hl r hr).1 hj h] <;> rfl
theorem filter_first {j : Nat} {l : List (List Int)} {r : List Int} {t : List (List Int)} (h : l.filter (hot j) = r :: t) : ∃ a b, l = a ++ r :: b ∧ hot j r = true ∧ ∀ u ∈ a, hot j u = false := by
  induction l with
  | nil => cases h
  | cons x l ih =>
    rw [List.filter_cons] at h
    cases e : hot j x with
    | true =>
      rw [if_pos e] at h
      cases h
      exact ⟨[], l, rfl, e, fun u hu => nomatch hu⟩
    | false =>
      rw [if_neg (by rw [e]; decide)] at h
      obtain ⟨a, b, e1, e2, e3⟩ := ih h
      refine ⟨x :: a, b, by rw [e1]; rfl, e2, fun u hu => ?_⟩
      rcases List.mem_cons.mp hu with h | h
      · rw [h]
        exact e
      · exact e3 u h
/-- clearing and dropping, and dropping first -/
theorem clr_filter {p : Int} {n j : Nat} {lead : List Int} (hp : 0 < p) (hl : lead.length = n) : ∀ {l : List (List Int)}, (∀ r ∈ l, Ltr p n r) → ((l.filter nz).map (clr p lead j)).filter nz = (l.map fun t => less p t (at0 t j) lead).filter nz
  | [], _ => rfl
  | r :: l, h => by
    have hr := h r (List.mem_cons_self)
    have ih := clr_filter (j := j) hp hl (l := l) fun u hu => h u (List.mem_cons_of_mem _ hu)
    rw [List.filter_cons, List.map_cons, List.filter_cons, ← clr_less (j := j) hr hl]
    cases e : nz r with
    | true =>
      rw [if_pos rfl, List.map_cons, List.filter_cons, ih]
    | false =>
      rw [if_neg (by decide), ih]
      have z := nz_false (p := p) hr.1 e
      have c : clr p lead j r = r := by
        unfold clr
        rw [if_neg]
        rw [z, zer_at]
        decide
      rw [c, e, if_neg (by decide)]
theorem map_clr {p : Int} {n j : Nat} {lead : List Int} (hl : lead.length = n) {l : List (List Int)} (h : ∀ r ∈ l, Ltr p n r) : l.map (clr p lead j) = l.map fun t => less p t (at0 t j) lead :=
  List.map_congr_left fun r hr => clr_less (h r hr) hl
theorem less_mid {p : Int} {n j : Nat} {a b : List (List Int)} {r : List Int} (hp : p ∈ primes) (hr : Ltr p n r) (hj : j < n) (h : hot j r = true) :
    ((a ++ r :: b).map fun t => less p t (at0 t j) (led p r j)).filter nz = ((a ++ b).map fun t => less p t (at0 t j) (led p r j)).filter nz := by
  rw [List.map_append, List.map_append, List.map_cons, List.filter_append, List.filter_append, List.filter_cons, less_self hp hr hj h, nz_zer, if_neg (by decide)]
/-- what the program does at a column is what the law does -/
theorem sim {p : Int} {n j : Nat} {rows : List (List Int)} {s : List (List Int) × List (List Int)} {pv : List Nat} (hp : p ∈ primes) (hj : j < n) (I : Iv p n rows j s pv) :
    ((s.1.filter nz).filter (hot j) = [] → stp p j s = s) ∧ ∀ r t, (s.1.filter nz).filter (hot j) = r :: t → Ltr p n r ∧ hot j r = true ∧
      (((s.1.filter nz).map (clr p (led p r j) j)).filter nz = (stp p j s).1.filter nz) ∧ s.2.map (clr p (led p r j) j) ++ [led p r j] = (stp p j s).2 := by
  rw [filter_hot_nz I.left hj]
  refine ⟨fun e => stp_none fun t ht => ?_, fun r t e => ?_⟩
  · have := List.filter_eq_nil_iff.mp e t ht
    simpa using this
  · obtain ⟨a, b, e1, e2, e3⟩ := filter_first e
    obtain ⟨l, d⟩ := s
    simp only at e1
    subst e1
    have hr : Ltr p n r := I.left r (List.mem_append.mpr (.inr (List.mem_cons_self)))
    have hl : (led p r j).length = n := led_len hr.1
    refine ⟨hr, e2, ?_, ?_⟩
    · rw [clr_filter (prime_pos hp) hl I.left, less_mid hp hr hj e2, stp_some e2 e3]
    · rw [map_clr hl I.done, stp_some e2 e3]
theorem run_stay {p : Int} {rows : List (List Int)} {j : Nat} (h : ∀ t ∈ (run p rows j).1, ∀ i, hot i t = false) : ∀ m, run p rows (j + m) = run p rows j
  | 0 => rfl
  | m + 1 => by
    show stp p (j + m) (run p rows (j + m)) = _
    rw [run_stay h m]
    exact stp_none fun t ht => h t ht _
theorem zer_hot {n i : Nat} : hot i (zer n) = false := by
  unfold hot
  rw [zer_at]
  decide
/-- nothing left: the rest of the columns change nothing -/
theorem run_end {p : Int} {n j : Nat} {rows : List (List Int)} {pv : List Nat} (I : Iv p n rows j (run p rows j) pv) (hj : j ≤ n) (h : (run p rows j).1.filter nz = []) : (run p rows n).2 = (run p rows j).2 := by
  have st := run_stay (p := p) (rows := rows) (j := j) (fun t ht i => by
    have h1 := List.filter_eq_nil_iff.mp h t ht
    rw [nz_false (p := p) (I.left t ht).1 (by simpa using h1)]
    exact zer_hot) (n - j)
  rw [show j + (n - j) = n by omega] at st
  rw [st]
/-- something left: there is a column -/
theorem run_more {p : Int} {n j : Nat} {rows : List (List Int)} {s : List (List Int) × List (List Int)} {pv : List Nat} (I : Iv p n rows j s pv) (h : s.1.filter nz ≠ []) : j < n := by
  obtain ⟨r, t, e⟩ := List.exists_cons_of_ne_nil h
  have hm : r ∈ s.1.filter nz := by rw [e]; exact List.mem_cons_self
  obtain ⟨h1, h2⟩ := List.mem_filter.mp hm
  have hr := I.left r h1
  rcases Nat.lt_or_ge j n with q | q
  · exact q
  · exfalso
    unfold nz at h2
    rw [List.any_eq_true] at h2
    obtain ⟨x, hx, ne⟩ := h2
    obtain ⟨k, hk, rfl⟩ := List.getElem_of_mem hx
    rw [← at0_lt hk, I.low r h1 k (by have := hr.1; omega)] at ne
    cases ne
theorem run_nil {p : Int} {n : Nat} {rows : List (List Int)} (hp : p ∈ primes) (h : ∀ r ∈ rows, Ltr p n r) : ∃ pv, Iv p n rows n (run p rows n) pv ∧ ∀ t ∈ (run p rows n).1, t = zer n := by
  obtain ⟨pv, I⟩ := iv_run hp h n (Nat.le_refl n)
  refine ⟨pv, I, fun t ht => row_ext (I.left t ht).1 zer_len fun k hk => ?_⟩
  rw [I.low t ht k hk, zer_at]
/-! ### how many sums there are -/
def cmb (p : Int) (n : Nat) : List (List Int) → List Int → List Int
  | r :: rs, c :: cs => addv p (cmb p n rs cs) c r
  | _, _ => zer n
theorem cmb_ltr {p : Int} {n : Nat} (hp : 0 < p) : ∀ {rs : List (List Int)} {cs : List Int}, (∀ r ∈ rs, Ltr p n r) → Ltr p n (cmb p n rs cs)
  | [], _, _ => by
    unfold cmb
    exact zer_ltr hp
  | r :: rs, [], _ => by
    unfold cmb
    exact zer_ltr hp
  | r :: rs, c :: cs, h => addv_ltr hp (cmb_ltr hp fun u hu => h u (List.mem_cons_of_mem _ hu)).1 (h r (List.mem_cons_self)).1
theorem cmb_span {p : Int} {n : Nat} {R : List (List Int)} : ∀ {rs : List (List Int)} {cs : List Int}, (∀ r ∈ rs, Span p n R r) → Span p n R (cmb p n rs cs)
  | [], _, _ => by
    unfold cmb
    exact span_lin.1
  | r :: rs, [], _ => by
    unfold cmb
    exact span_lin.1
  | r :: rs, c :: cs, h => span_lin.2 _ _ _ (cmb_span fun u hu => h u (List.mem_cons_of_mem _ hu)) (h r (List.mem_cons_self))
/-- the sum at a place -/
def csum (k : Nat) : List (List Int) → List Int → Int
  | r :: rs, c :: cs => csum k rs cs + c * at0 r k
  | _, _ => 0
theorem cmb_at {p : Int} {n k : Nat} (hp : 0 < p) (hk : k < n) : ∀ {rs : List (List Int)} {cs : List Int}, (∀ r ∈ rs, Ltr p n r) → Cg p (at0 (cmb p n rs cs) k) (csum k rs cs)
  | [], _, _ => by
    unfold cmb csum
    rw [zer_at]
    exact Cg.rfl'
  | r :: rs, [], _ => by
    unfold cmb csum
    rw [zer_at]
    exact Cg.rfl'
  | r :: rs, c :: cs, h => by
    have ih := cmb_at hp hk (rs := rs) (cs := cs) fun u hu => h u (List.mem_cons_of_mem _ hu)
    have l1 := (cmb_ltr (p := p) (n := n) (cs := cs) hp fun u hu => h u (List.mem_cons_of_mem _ hu)).1
    show Cg p (at0 (addv p (cmb p n rs cs) c r) k) (csum k rs cs + c * at0 r k)
    rw [addv_at l1 (h r (List.mem_cons_self)).1 hk]
    exact (Cg.fm _).trans (ih.add Cg.rfl')
/-- rows with a 1 at an own place, and noughts at the others' -/
structure Piv (p : Int) (n : Nat) (rs : List (List Int)) (pv : List Nat) : Prop where
  ltr : ∀ r ∈ rs, Ltr p n r
  len : pv.length = rs.length
  plt : ∀ c ∈ pv, c < n
  one : ∀ (i l : Nat) (r : List Int) (c : Nat), rs[i]? = some r → pv[l]? = some c → at0 r c = if i = l then 1 else 0
theorem Piv.tail {p : Int} {n : Nat} {r : List Int} {rs : List (List Int)} {c : Nat} {pv : List Nat} (P : Piv p n (r :: rs) (c :: pv)) : Piv p n rs pv where
  ltr := fun u hu => P.ltr u (List.mem_cons_of_mem _ hu)
  len := Nat.succ.inj P.len
  plt := fun u hu => P.plt u (List.mem_cons_of_mem _ hu)
  one := fun i l u d hi hl => by
    have := P.one (i + 1) (l + 1) u d hi hl
    rw [this]
    by_cases z : i = l
    · rw [if_pos z, if_pos (by omega)]
    · rw [if_neg z, if_neg (by omega)]
theorem csum_zero {k : Nat} : ∀ {rs : List (List Int)} {cs : List Int}, (∀ r ∈ rs, at0 r k = 0) → csum k rs cs = 0
  | [], _, _ => by
    unfold csum
    rfl
  | r :: rs, [], _ => by
    unfold csum
    rfl
  | r :: rs, c :: cs, h => by
    unfold csum
    rw [csum_zero fun u hu => h u (List.mem_cons_of_mem _ hu), h r (List.mem_cons_self), Int.mul_zero]
    rfl
/-- at the own places stand the letters -/
theorem csum_piv {p : Int} {n : Nat} : ∀ {rs : List (List Int)} {pv : List Nat} {cs : List Int}, Piv p n rs pv → cs.length = rs.length → pv.map (fun c => csum c rs cs) = cs
  | [], pv, cs, P, h => by
    have h1 := List.eq_nil_of_length_eq_zero (h.trans rfl)
    have h2 := List.eq_nil_of_length_eq_zero (P.len.trans rfl)
    rw [h1, h2]
    rfl
  | r :: rs, pv, cs, P, h => by
    cases pv with
    | nil => exact absurd P.len (by simp)
    | cons c pv =>
      cases cs with
      | nil => exact absurd h (by simp)
      | cons d cs =>
        have ih := csum_piv P.tail (Nat.succ.inj h)
        rw [List.map_cons]
        have e0 : csum c (r :: rs) (d :: cs) = d := by
          show csum c rs cs + d * at0 r c = d
          rw [P.one 0 0 r c rfl rfl, if_pos rfl, Int.mul_one, csum_zero, Int.zero_add]
          intro u hu
          obtain ⟨i, hi⟩ := List.getElem?_of_mem hu
          rw [P.one (i + 1) 0 u c hi rfl, if_neg (by omega)]
        rw [e0]
        congr 1
        refine Eq.trans (List.map_congr_left fun e he => ?_) ih
        obtain ⟨l, hl⟩ := List.getElem?_of_mem he
        show csum e rs cs + d * at0 r e = csum e rs cs
        rw [P.one 0 (l + 1) r e rfl hl, if_neg (by omega), Int.mul_zero, Int.add_zero]
def pvs (pv : List Nat) (v : List Int) : List Int := pv.map fun c => at0 v c
/-- what the rows span, read by its own places -/
def Sv (p : Int) (n : Nat) (rs : List (List Int)) (pv : List Nat) (v : List Int) : Prop := Ltr p n v ∧ ∀ k, k < n → Cg p (at0 v k) (csum k rs (pvs pv v))
theorem csum_add {p c : Int} {n k : Nat} {u v : List Int} (hu : u.length = n) (hv : v.length = n) : ∀ {rs : List (List Int)} {pv : List Nat}, (∀ d ∈ pv, d < n) →
    Cg p (csum k rs (pvs pv (addv p u c v))) (csum k rs (pvs pv u) + c * csum k rs (pvs pv v))
  | [], pv, _ => by
    unfold csum
    rw [Int.mul_zero]
    exact Cg.rfl'
  | r :: rs, [], _ => by
    unfold pvs csum
    simp only [List.map_nil]
    rw [Int.mul_zero]
    exact Cg.rfl'
  | r :: rs, d :: pv, h => by
    have ih := csum_add (k := k) (c := c) (p := p) hu hv (rs := rs) (pv := pv) fun e he => h e (List.mem_cons_of_mem _ he)
    show Cg p (csum k rs (pvs pv (addv p u c v)) + at0 (addv p u c v) d * at0 r k) ((csum k rs (pvs pv u) + at0 u d * at0 r k) + c * (csum k rs (pvs pv v) + at0 v d * at0 r k))
    rw [addv_at hu hv (h d (List.mem_cons_self))]
    have c1 := ih.add ((Cg.fm (p := p) (at0 u d + c * at0 v d)).mulr (at0 r k))
    rw [Int.add_mul] at c1
    rw [Int.mul_add, ← Int.mul_assoc]
    rw [show csum k rs (pvs pv u) + at0 u d * at0 r k + (c * csum k rs (pvs pv v) + c * at0 v d * at0 r k) = csum k rs (pvs pv u) + c * csum k rs (pvs pv v) + (at0 u d * at0 r k + c * at0 v d * at0 r k) by omega]
    exact c1
theorem pvs_zer {n : Nat} {pv : List Nat} : pvs pv (zer n) = pv.map fun _ => 0 := List.map_congr_left fun c _ => zer_at
theorem csum_zer {k : Nat} : ∀ {rs : List (List Int)} {pv : List Nat}, csum k rs (pv.map fun _ => 0) = 0
  | [], _ => by
    unfold csum
    rfl
  | r :: rs, [] => by
    show csum k (r :: rs) [] = 0
    unfold csum
    rfl
  | r :: rs, d :: pv => by
    show csum k rs (pv.map fun _ => 0) + 0 * at0 r k = 0
    rw [csum_zer, Int.zero_mul]
    rfl
theorem sv_lin {p : Int} {n : Nat} {rs : List (List Int)} {pv : List Nat} (hp : 0 < p) (h : ∀ d ∈ pv, d < n) : Lin p n (Sv p n rs pv) := by
  refine ⟨⟨zer_ltr hp, fun k hk => ?_⟩, fun u r c hu hr => ⟨addv_ltr hp hu.1.1 hr.1.1, fun k hk => ?_⟩⟩
  · rw [zer_at, pvs_zer, csum_zer]
    exact Cg.rfl'
  · rw [addv_at hu.1.1 hr.1.1 hk]
    exact (Cg.fm _).trans (((hu.2 k hk).add ((hr.2 k hk).mul c)).trans (csum_add hu.1.1 hr.1.1 h).symm)
theorem sv_of {p : Int} {n : Nat} {rs : List (List Int)} {pv : List Nat} (hp : 0 < p) (P : Piv p n rs pv) {cs : List Int} (hl : cs.length = rs.length) (hc : ∀ c ∈ cs, 0 ≤ c ∧ c < p) : pvs pv (cmb p n rs cs) = cs := by
  have e := csum_piv P hl
  refine Eq.trans (List.map_congr_left fun c hc2 => ?_) e
  have b : ∀ i ∈ cs, 0 ≤ i ∧ i < p := hc
  have m : csum c rs cs ∈ cs := by
    rw [← e]
    exact List.mem_map.mpr ⟨c, hc2, by rw [e]⟩
  exact Cg.eq (cmb_at hp (P.plt c hc2) P.ltr) ((cmb_ltr hp P.ltr).bd (P.plt c hc2)) (b _ m)
theorem sv_back {p : Int} {n : Nat} {rs : List (List Int)} {pv : List Nat} (hp : 0 < p) (P : Piv p n rs pv) {v : List Int} (h : Sv p n rs pv v) : cmb p n rs (pvs pv v) = v :=
  row_ext (cmb_ltr hp P.ltr).1 h.1.1 fun k hk => Cg.eq ((cmb_at hp hk P.ltr).trans (h.2 k hk).symm) ((cmb_ltr hp P.ltr).bd hk) (h.1.bd hk)
end WU

set_option maxRecDepth 100000
set_option maxHeartbeats 4000000
namespace WU
open PySem PySem.Spec PyProof.Rows L2
theorem run_empty {p : Int} : ∀ j, run p [] j = ([], [])
  | 0 => rfl
  | j + 1 => by
    show stp p j (run p [] j) = _
    rw [run_empty j]
    exact stp_none fun t ht => nomatch ht
theorem red_run {p : Int} {n : Nat} {rows : List (List Int)} (h : ∀ r ∈ rows, Ltr p n r) : red p rows = (run p rows n).2 := by
  cases rows with
  | nil =>
    unfold red
    rw [run_empty, run_empty]
  | cons r t =>
    unfold red
    have : wid (r :: t) = n := (h r (List.mem_cons_self)).1
    rw [this]
/-- the reduced rows have own places, and span the same -/
theorem red_piv {p : Int} {n : Nat} {rows : List (List Int)} (hp : p ∈ primes) (h : ∀ r ∈ rows, Ltr p n r) : ∃ pv, Piv p n (red p rows) pv ∧ (∀ r ∈ red p rows, Span p n rows r) ∧ ∀ r ∈ rows, Span p n (red p rows) r := by
  obtain ⟨pv, I, hz⟩ := run_nil hp h
  rw [red_run h]
  refine ⟨pv, ⟨I.done, I.len, I.plt, I.one⟩, fun r hr => I.to r (.inr hr), fun r hr => ?_⟩
  refine span_sub (fun u hu => ?_) (I.of r hr)
  rcases List.mem_append.mp hu with q | q
  · rw [hz u q]
    exact span_lin.1
  · exact span_mem q
/-- the sums, row by row -/
def SpanR (p : Int) (n : Nat) : List (List Int) → List Int → Prop
  | [], v => v = zer n
  | r :: rs, v => ∃ u c, SpanR p n rs u ∧ 0 ≤ c ∧ c < p ∧ v = addv p u c r
theorem spanR_ltr {p : Int} {n : Nat} (hp : 0 < p) : ∀ {rs : List (List Int)} {v : List Int}, (∀ r ∈ rs, Ltr p n r) → SpanR p n rs v → Ltr p n v
  | [], v, _, h => by
    rw [show v = zer n from h]
    exact zer_ltr hp
  | r :: rs, v, hr, ⟨u, c, hu, _, _, e⟩ => by
    rw [e]
    exact addv_ltr hp (spanR_ltr hp (fun t ht => hr t (List.mem_cons_of_mem _ ht)) hu).1 (hr r (List.mem_cons_self)).1
theorem addv_zero {p : Int} {n : Nat} {u r : List Int} (hu : Ltr p n u) (hr : r.length = n) : addv p u 0 r = u := by
  refine row_ext (addv_len hu.1 hr) hu.1 fun k hk => ?_
  rw [addv_at hu.1 hr hk, Int.zero_mul, Int.add_zero]
  exact fm_id (hu.bd hk)
theorem addv_one {p : Int} {n : Nat} {r : List Int} (hr : Ltr p n r) : addv p (zer n) 1 r = r := by
  refine row_ext (addv_len zer_len hr.1) hr.1 fun k hk => ?_
  rw [addv_at zer_len hr.1 hk, zer_at, Int.one_mul, Int.zero_add]
  exact fm_id (hr.bd hk)
theorem addv_mix {p c d e : Int} {n : Nat} {u v r : List Int} (hp : 0 < p) (hu : u.length = n) (hv : v.length = n) (hr : r.length = n) :
    addv p (addv p u c r) d (addv p v e r) = addv p (addv p u d v) ((c + d * e).fmod p) r := by
  have l1 := addv_len (p := p) (c := c) hu hr
  have l2 := addv_len (p := p) (c := e) hv hr
  have l3 := addv_len (p := p) (c := d) hu hv
  refine row_ext (addv_len l1 l2) (addv_len l3 hr) fun k hk => ?_
  rw [addv_at l1 l2 hk, addv_at hu hr hk, addv_at hv hr hk, addv_at l3 hr hk, addv_at hu hv hk]
  refine Cg.fmod hp ?_
  have a1 := (Cg.fm (p := p) (at0 u k + c * at0 r k)).add ((Cg.fm (p := p) (at0 v k + e * at0 r k)).mul d)
  have a2 := (Cg.fm (p := p) (at0 u k + d * at0 v k)).add ((Cg.fm (p := p) (c + d * e)).mulr (at0 r k))
  refine a1.trans (Cg.trans ?_ a2.symm)
  have : at0 u k + c * at0 r k + d * (at0 v k + e * at0 r k) = at0 u k + d * at0 v k + (c + d * e) * at0 r k := by
    rw [Int.mul_add, Int.add_mul, Int.mul_assoc]
    omega
  rw [this]
  exact Cg.rfl'
theorem addv_fm {p c : Int} {n : Nat} {u r : List Int} (hp : 0 < p) (hu : u.length = n) (hr : r.length = n) : addv p u (c.fmod p) r = addv p u c r := by
  refine row_ext (addv_len hu hr) (addv_len hu hr) fun k hk => ?_
  rw [addv_at hu hr hk, addv_at hu hr hk]
  exact Cg.fmod hp (Cg.rfl'.add ((Cg.fm c).mulr _))
theorem spanR_zero {p : Int} {n : Nat} (hp : 0 < p) : ∀ {rs : List (List Int)}, (∀ r ∈ rs, Ltr p n r) → SpanR p n rs (zer n)
  | [], _ => rfl
  | r :: rs, h => ⟨zer n, 0, spanR_zero hp (fun t ht => h t (List.mem_cons_of_mem _ ht)), Int.le_refl _, hp, (addv_zero (zer_ltr hp) (h r (List.mem_cons_self)).1).symm⟩
theorem spanR_add {p : Int} {n : Nat} (hp : 0 < p) : ∀ {rs : List (List Int)}, (∀ r ∈ rs, Ltr p n r) → ∀ u v d, SpanR p n rs u → SpanR p n rs v → SpanR p n rs (addv p u d v)
  | [], _, u, v, d, hu, hv => by
    rw [show u = zer n from hu, show v = zer n from hv]
    show addv p (zer n) d (zer n) = zer n
    refine row_ext (addv_len zer_len zer_len) zer_len fun k hk => ?_
    rw [addv_at zer_len zer_len hk, zer_at, Int.mul_zero]
    exact fm_zero
  | r :: rs, h, u, v, d, ⟨u0, c, hu, c0, c1, eu⟩, ⟨v0, e, hv, e0, e1, ev⟩ => by
    have h2 : ∀ t ∈ rs, Ltr p n t := fun t ht => h t (List.mem_cons_of_mem _ ht)
    refine ⟨addv p u0 d v0, (c + d * e).fmod p, spanR_add hp h2 u0 v0 d hu hv, (fm_bd _ hp).1, (fm_bd _ hp).2, ?_⟩
    rw [eu, ev]
    exact addv_mix hp (spanR_ltr hp h2 hu).1 (spanR_ltr hp h2 hv).1 (h r (List.mem_cons_self)).1
theorem spanR_mem {p : Int} {n : Nat} (hp : 1 < p) : ∀ {rs : List (List Int)}, (∀ r ∈ rs, Ltr p n r) → ∀ r ∈ rs, SpanR p n rs r
  | [], _, _, h => nomatch h
  | t :: rs, h, r, hr => by
    have h2 : ∀ t ∈ rs, Ltr p n t := fun t ht => h t (List.mem_cons_of_mem _ ht)
    rcases List.mem_cons.mp hr with e | e
    · rw [e]
      exact ⟨zer n, 1, spanR_zero (by omega) h2, by omega, hp, (addv_one (h t (List.mem_cons_self))).symm⟩
    · exact ⟨r, 0, spanR_mem hp h2 r e, Int.le_refl _, by omega, (addv_zero (h2 r e) (h t (List.mem_cons_self)).1).symm⟩
theorem spanR_span {p : Int} {n : Nat} : ∀ {rs : List (List Int)} {v : List Int}, SpanR p n rs v → Span p n rs v
  | [], v, h => by
    rw [show v = zer n from h]
    exact span_lin.1
  | r :: rs, v, ⟨u, c, hu, _, _, e⟩ => by
    rw [e]
    exact span_lin.2 _ _ _ (span_sub (fun t ht => span_mem (List.mem_cons_of_mem _ ht)) (spanR_span hu)) (span_mem (List.mem_cons_self))
/-- all rows of m letters -/
def allc (p : Nat) : Nat → List (List Int)
  | 0 => [[]]
  | m + 1 => (List.range p).flatMap fun (c : Nat) => (allc p m).map fun t => (c : Int) :: t
theorem allc_mem {p : Nat} : ∀ {m : Nat} {cs : List Int}, cs ∈ allc p m ↔ cs.length = m ∧ ∀ c ∈ cs, 0 ≤ c ∧ c < (p : Int)
  | 0, cs => by
    show cs ∈ [[]] ↔ _
    rw [List.mem_singleton]
    constructor
    · rintro rfl
      exact ⟨rfl, fun c hc => nomatch hc⟩
    · rintro ⟨h, _⟩
      exact List.eq_nil_of_length_eq_zero h
  | m + 1, cs => by
    show cs ∈ (List.range p).flatMap _ ↔ _
    rw [List.mem_flatMap]
    constructor
    · rintro ⟨c, hc, h⟩
      obtain ⟨t, ht, rfl⟩ := List.mem_map.mp h
      obtain ⟨h1, h2⟩ := allc_mem.mp ht
      have := List.mem_range.mp hc
      refine ⟨by rw [List.length_cons, h1], fun d hd => ?_⟩
      rcases List.mem_cons.mp hd with e | e
      · rw [e]
        omega
      · exact h2 d e
    · rintro ⟨h1, h2⟩
      cases cs with
      | nil => cases h1
      | cons c t =>
        have b := h2 c (List.mem_cons_self)
        refine ⟨c.toNat, List.mem_range.mpr (by omega), List.mem_map.mpr ⟨t, allc_mem.mpr ⟨Nat.succ.inj h1, fun d hd => h2 d (List.mem_cons_of_mem _ hd)⟩, ?_⟩⟩
        rw [show ((c.toNat : Nat) : Int) = c by omega]
theorem allc_len {p : Nat} : ∀ m : Nat, (allc p m).length = p ^ m
  | 0 => rfl
  | m + 1 => by
    show ((List.range p).flatMap _).length = _
    rw [List.length_flatMap]
    have : (List.range p).map (fun (c : Nat) => ((allc p m).map fun t => (c : Int) :: t).length) = (List.range p).map fun _ => p ^ m := List.map_congr_left fun c _ => by rw [List.length_map, allc_len m]
    rw [this, List.map_const', List.length_range, List.sum_replicate_nat, Nat.pow_succ, Nat.mul_comm]
theorem nodup_map' {α β : Type} {f : α → β} : ∀ {l : List α}, (∀ a ∈ l, ∀ b ∈ l, f a = f b → a = b) → l.Nodup → (l.map f).Nodup
  | [], _, _ => by simp
  | x :: l, hi, h => by
    rw [List.map_cons, List.nodup_cons]
    rw [List.nodup_cons] at h
    refine ⟨fun hm => ?_, nodup_map' (fun a ha b hb => hi a (List.mem_cons_of_mem _ ha) b (List.mem_cons_of_mem _ hb)) h.2⟩
    obtain ⟨y, hy, e⟩ := List.mem_map.mp hm
    rw [hi y (List.mem_cons_of_mem _ hy) x (List.mem_cons_self) e] at hy
    exact h.1 hy
theorem nodup_flat {α : Type} {f : Nat → List α} : ∀ {l : List Nat}, l.Nodup → (∀ a ∈ l, (f a).Nodup) → (∀ a ∈ l, ∀ b ∈ l, a ≠ b → ∀ x ∈ f a, x ∉ f b) → (l.flatMap f).Nodup
  | [], _, _, _ => by simp
  | x :: l, h, h1, h2 => by
    rw [List.flatMap_cons, List.nodup_append]
    rw [List.nodup_cons] at h
    refine ⟨h1 x (List.mem_cons_self), nodup_flat h.2 (fun a ha => h1 a (List.mem_cons_of_mem _ ha)) (fun a ha b hb => h2 a (List.mem_cons_of_mem _ ha) b (List.mem_cons_of_mem _ hb)), fun a ha b hb e => ?_⟩
    subst e
    obtain ⟨y, hy, hb⟩ := List.mem_flatMap.mp hb
    exact h2 x (List.mem_cons_self) y (List.mem_cons_of_mem _ hy) (fun z => h.1 (z ▸ hy)) a ha hb
theorem allc_nodup {p : Nat} : ∀ m : Nat, (allc p m).Nodup
  | 0 => by
    show ([[]] : List (List Int)).Nodup
    simp
  | m + 1 => by
    refine nodup_flat List.nodup_range (fun c _ => nodup_map' (fun a _ b _ e => (List.cons.inj e).2) (allc_nodup m)) fun a _ b _ ne x hx hb => ?_
    obtain ⟨t, _, rfl⟩ := List.mem_map.mp hx
    obtain ⟨u, _, e⟩ := List.mem_map.mp hb
    exact ne (Int.ofNat.inj (List.cons.inj e).1).symm
theorem nodup_len {α : Type} [DecidableEq α] {l m : List α} (hl : l.Nodup) (hm : m.Nodup) (h : ∀ x, x ∈ l ↔ x ∈ m) : l.length = m.length :=
  ((List.perm_ext_iff_of_nodup hl hm).mpr h).length_eq
/-- as many sums as letters' rows as long as the rank -/
theorem count_sums {p : Int} {n : Nat} {rows : List (List Int)} (hp : p ∈ primes) (h : ∀ r ∈ rows, Ltr p n r) {keys : List (List Int)} (hn : keys.Nodup) (hk : ∀ v, v ∈ keys ↔ SpanR p n rows.reverse v) :
    keys.length = p.toNat ^ (red p rows).length := by
  have p0 := prime_pos hp
  have p1 := fld_le hp
  obtain ⟨pv, P, h1, h2⟩ := red_piv hp h
  have hrev : ∀ r ∈ rows.reverse, Ltr p n r := fun r hr => h r (List.mem_reverse.mp hr)
  have ep : ((p.toNat : Nat) : Int) = p := by omega
  rw [← allc_len]
  refine Eq.trans ?_ (List.length_map (as := allc p.toNat (red p rows).length) (cmb p n (red p rows)))
  refine nodup_len hn (nodup_map' (fun a ha b hb e => ?_) (allc_nodup _)) fun v => ?_
  · obtain ⟨a1, a2⟩ := allc_mem.mp ha
    obtain ⟨b1, b2⟩ := allc_mem.mp hb
    rw [ep] at a2 b2
    rw [← sv_of p0 P a1 a2, ← sv_of p0 P b1 b2, e]
  · rw [hk, List.mem_map]
    constructor
    · intro hv
      have sp := span_sub (rows' := red p rows) (fun r hr => h2 r (List.mem_reverse.mp hr)) (spanR_span hv)
      have svm : ∀ r ∈ red p rows, Sv p n (red p rows) pv r := by
        intro r hr
        refine ⟨P.ltr r hr, fun k hk2 => ?_⟩
        -- a reduced row is its own sum
        obtain ⟨i, hi⟩ := List.getElem?_of_mem hr
        have hil : i < (red p rows).length := (List.getElem?_eq_some_iff.mp hi).1
        have e : pvs pv r = (List.range (red p rows).length).map fun l => if i = l then 1 else 0 := by
          refine List.ext_getElem (by unfold pvs; rw [List.length_map, List.length_map, List.length_range, P.len]) fun l g1 g2 => ?_
          unfold pvs at g1 ⊢
          rw [List.length_map] at g1
          rw [List.getElem_map, List.getElem_map, List.getElem_range]
          exact P.one i l r _ hi (List.getElem?_eq_getElem g1)
        have key : ∀ (rs : List (List Int)) (i : Nat) (r : List Int), rs[i]? = some r → csum k rs ((List.range rs.length).map fun l => if i = l then 1 else 0) = at0 r k := by
          intro rs
          induction rs with
          | nil => intro i r hi; cases hi
          | cons t rs ih =>
            intro i r hi
            rw [List.length_cons, List.range_succ_eq_map, List.map_cons, List.map_map]
            show csum k rs ((List.range rs.length).map fun l => if i = l + 1 then 1 else 0) + (if i = 0 then 1 else 0) * at0 t k = at0 r k
            cases i with
            | zero =>
              cases hi
              rw [if_pos rfl, Int.one_mul]
              have z : ∀ (m : Nat) (rs : List (List Int)), csum k rs ((List.range m).map fun l => if 0 = l + 1 then (1 : Int) else 0) = 0 := by
                intro m rs
                have : ((List.range m).map fun l => if 0 = l + 1 then (1 : Int) else 0) = (List.range m).map fun _ => 0 := List.map_congr_left fun l _ => if_neg (by omega)
                rw [this]
                have q := csum_zer (k := k) (rs := rs) (pv := List.range m)
                exact q
              rw [z, Int.zero_add]
            | succ i =>
              rw [if_neg (by omega), Int.zero_mul, Int.add_zero]
              have : ((List.range rs.length).map fun l => if i + 1 = l + 1 then (1 : Int) else 0) = (List.range rs.length).map fun l => if i = l then 1 else 0 := List.map_congr_left fun l _ => by
                by_cases z : i = l
                · rw [if_pos z, if_pos (by omega)]
                · rw [if_neg z, if_neg (by omega)]
              rw [this]
              exact ih i r hi
        rw [e, key _ i r hi]
        exact Cg.rfl'
      have sv := sp _ (sv_lin p0 P.plt) svm
      refine ⟨pvs pv v, allc_mem.mpr ⟨by unfold pvs; rw [List.length_map, P.len], fun c hc => ?_⟩, sv_back p0 P sv⟩
      unfold pvs at hc
      obtain ⟨d, hd, rfl⟩ := List.mem_map.mp hc
      rw [ep]
      exact sv.1.bd (P.plt d hd)
    · rintro ⟨cs, _, rfl⟩
      have := cmb_span (p := p) (n := n) (cs := cs) h1
      exact this _ ⟨spanR_zero p0 hrev, fun u r c hu hr => spanR_add p0 hrev u r c hu hr⟩ fun r hr => spanR_mem (by omega) hrev r (List.mem_reverse.mpr hr)
end WU

set_option maxRecDepth 100000
set_option maxHeartbeats 8000000
namespace WU
open PySem PySem.Spec PyProof.Rows L2
/-! ### the rules whose readings name the written part, with K told (for use within the blocks of comprehensions) -/
section
variable {X : Cx} {K : PySem.W.Frag}
theorem ix_tupK (hK : X.K = K := by rfl) : IxR X (rIxT K) := hK ▸ ix_tup
theorem ix_listK (hK : X.K = K := by rfl) : IxR X (rIxL K) := hK ▸ ix_list
theorem cr_anyTK (hc : X.calm = true) (hK : X.K = K := by rfl) : CallR X (.builtin "any") (rAnyT K) := hK ▸ cr_anyT hc
theorem cr_allK (hc : X.calm = true) (hK : X.K = K := by rfl) : CallR X (.builtin "all") (rAll K) := hK ▸ cr_all hc
theorem cr_anyK (hc : X.calm = true) (hK : X.K = K := by rfl) : CallR X (.builtin "any") (rAny K) := hK ▸ cr_any hc
theorem cr_sumK (hc : X.calm = true) (hK : X.K = K := by rfl) : CallR X (.builtin "sum") (rSum K) := hK ▸ cr_sum hc
def rLenK (K : PySem.W.Frag) : List V → Hp → VK → Prop := fun xs H Q => ∃ p ys, xs = [.ref p] ∧ (SqL K H p ys ∨ SqT K H p ys) ∧ Q (.int ys.length) H
theorem len_seqK (hK : X.K = K := by rfl) : CallR X (.builtin "len") (rLenK K) := hK ▸ call_len_seq
def rListK (K : PySem.W.Frag) : List V → Hp → VK → Prop := fun xs H Q => ∃ p ys, xs = [.ref p] ∧ (SqL K H p ys ∨ SqT K H p ys) ∧ ∀ l, H l = none → Q (.ref l) (upd H l (.lst ys))
theorem list_ofK (hK : X.K = K := by rfl) : CallR X (.type "list") (rListK K) := hK ▸ call_list_of
def rTupK (K : PySem.W.Frag) : List V → Hp → VK → Prop := fun xs H Q => ∃ p ys, xs = [.ref p] ∧ ((SqL K H p ys ∧ ∀ l, H l = none → Q (.ref l) (upd H l (.tup ys))) ∨ (SqT K H p ys ∧ Q (.ref p) H))
theorem tup_ofK (hK : X.K = K := by rfl) : CallR X (.type "tuple") (rTupK K) := hK ▸ call_tuple_of
theorem isiK (hK : X.K = K := by rfl) : CallR X (.builtin "isinstance") (rIsi K) := hK ▸ call_isi
theorem sl_tupAK (hK : X.K = K := by rfl) : SlR X (rSlA K) := hK ▸ sl_tupA
theorem sl_listK (hK : X.K = K := by rfl) : SlR X (rSlL K) := hK ▸ sl_list
theorem op_catAK (hK : X.K = K := by rfl) : OpR X (binaryOp .Add) (rCatA K) := hK ▸ op_catA
theorem op_repAK (hK : X.K = K := by rfl) : OpR X (binaryOp .Mult) (rRepA K) := hK ▸ op_repA
theorem op_inK (hK : X.K = K := by rfl) : OpR X (compareOp .In) (rIn K false) := hK ▸ op_in_seq
theorem op_notInK (hK : X.K = K := by rfl) : OpR X (compareOp .NotIn) (rIn K true) := hK ▸ op_notIn_seq
theorem op_neDK (hu : X.A.units + 64 < cLine) (hK : X.K = K := by rfl) : OpR X (compareOp .NotEq) (rNeD K) := hK ▸ op_neD hu
theorem op_eqDK (hu : X.A.units + 64 < cLine) (hK : X.K = K := by rfl) : OpR X (compareOp .Eq) (rEqD K) := hK ▸ op_eqD hu
theorem pi_listK {tg l : Expr} {tl : TE} (hl : PE X l tl) (hK : X.K = K := by rfl) : PI X tg l (iList K tl) := hK ▸ pi_list hl
theorem pi_tupK {tg l : Expr} {tl : TE} (hl : PE X l tl) (hK : X.K = K := by rfl) : PI X tg l (iTup K tl) := hK ▸ pi_tup hl
theorem pi_seqK {tg l : Expr} {tl : TE} (hl : PE X l tl) (hK : X.K = K := by rfl) : PI X tg l (iSeq K tl) := hK ▸ pi_seq hl
theorem pg_tupK {es : List Expr} {k : Nat} {pos : Pos} {t : List V → L2.St → Hp → (L2.St → Hp → Prop) → Prop} {n : Nat} (h : PG X (.Tuple es k pos) (gTup X.K n t)) (hK : X.K = K := by rfl) : PG X (.Tuple es k pos) (gTup K n t) := hK ▸ h
theorem pe_bmK {o e : Expr} {es : List Expr} {to : TE} {t : TA} {name : Str} {apos cpos : Pos} {T id : String} {r : V → List V → Hp → VK → Prop} (h : PE X (.Call (.Attribute o name apos) (e :: es) [] cpos) (tBM X.K T r to t)) (hK : X.K = K := by rfl) :
    PE X (.Call (.Attribute o name apos) (e :: es) [] cpos) (tBM K T r to t) := hK ▸ h
theorem pe_fldK {e : Expr} {f : Str} {pos : Pos} {ta : TE} (he : PE X e ta) (hb : attributeBase e f X.env (eval e X.env) = eval e X.env) (hK : X.K = K := by rfl) : PE X (.Attribute e f pos) (tFld K ta f) := hK ▸ pe_fld he hb
end
end WU

set_option maxRecDepth 100000
set_option maxHeartbeats 4000000
namespace WU
open PySem PySem.Spec PyProof.Rows L2
/-- nothing ahead of its own place, the places rising -/
structure Ah (s : List (List Int)) (pv : List Nat) : Prop where
  ahead : ∀ (i : Nat) (r : List Int) (c : Nat), s[i]? = some r → pv[i]? = some c → ∀ k, k < c → at0 r k = 0
  inc : ∀ (i l c d : Nat), pv[i]? = some c → pv[l]? = some d → i < l → c < d
theorem ah_step {p : Int} {n j : Nat} {rows : List (List Int)} {s : List (List Int) × List (List Int)} {pv : List Nat} (hp : p ∈ primes) (hj : j < n) (I : Iv p n rows j s pv) (A : Ah s.2 pv) : ∃ pv', Iv p n rows (j + 1) (stp p j s) pv' ∧ Ah (stp p j s).2 pv' := by
  cases e : s.1.findIdx? (hot j) with
  | none =>
    have hs := stp_none (p := p) (List.findIdx?_eq_none_iff.mp e)
    obtain ⟨pv', I'⟩ := iv_step hp hj I
    refine ⟨pv, ?_, by rw [hs]; exact A⟩
    rw [hs] at I' ⊢
    exact ⟨I'.left, I'.done, I'.low, I.len, fun c hc => Nat.lt_succ_of_lt (I.plt c hc), I.one, I.to, I.of⟩
  | some k =>
    obtain ⟨a, r, b, ea, hk, hr, ha⟩ := find_hot e
    obtain ⟨l, d⟩ := s
    simp only at ea
    subst ea
    have hs := stp_some (p := p) (b := b) (d := d) hr ha
    obtain ⟨pv', I'⟩ := iv_step hp hj I
    rw [hs] at I' ⊢
    have hrm : r ∈ a ++ r :: b := List.mem_append.mpr (.inr (List.mem_cons_self))
    have hrL : Ltr p n r := I.left r hrm
    have hl : (led p r j).length = n := led_len hrL.1
    have l1 := led_one hp hrL hj hr
    have lpv : ∀ c, c < j → at0 (led p r j) c = 0 := fun c hc => by
      rw [led_at hrL.1 (by omega), I.low r hrm c hc, Int.mul_zero, fm_zero]
    have hpl := I.len
    simp only at hpl
    refine ⟨pv ++ [j], ⟨I'.left, I'.done, I'.low, ?_, ?_, ?_, I'.to, I'.of⟩, ?_, ?_⟩
    · rw [List.length_append, List.length_append, List.length_map, hpl]
      rfl
    · intro c hc
      rcases List.mem_append.mp hc with h | h
      · exact Nat.lt_succ_of_lt (I.plt c h)
      · rw [List.mem_singleton.mp h]
        exact Nat.lt_succ_self j
    · intro i m t c hi hm
      by_cases zi : i < d.length
      · rw [List.getElem?_append_left (by rw [List.length_map]; exact zi), List.getElem?_map] at hi
        obtain ⟨u, hu, rfl⟩ := Option.map_eq_some_iff.mp hi
        have hu2 := I.done u (List.mem_of_getElem? hu)
        by_cases zm : m < pv.length
        · rw [List.getElem?_append_left zm] at hm
          have hc := I.plt c (List.mem_of_getElem? hm)
          rw [less_at hu2.1 hl (by omega), lpv c hc, Int.mul_zero, Int.sub_zero, I.one i m u c hu hm]
          split
          · exact fm_one hp
          · exact fm_zero
        · have hm2 := (List.getElem?_eq_some_iff.mp hm).1
          rw [List.length_append] at hm2
          have em : m = pv.length := by
            have : m < pv.length + 1 := hm2
            omega
          rw [em, List.getElem?_append_right (Nat.le_refl _), Nat.sub_self] at hm
          cases hm
          rw [less_at hu2.1 hl hj, l1, Int.mul_one, Int.sub_self, fm_zero, if_neg (by omega)]
      · have hi2 := (List.getElem?_eq_some_iff.mp hi).1
        rw [List.length_append, List.length_map] at hi2
        have ei : i = d.length := by
          have : i < d.length + 1 := hi2
          omega
        rw [ei, List.getElem?_append_right (by rw [List.length_map]; exact Nat.le_refl _), List.length_map, Nat.sub_self] at hi
        cases hi
        by_cases zm : m < pv.length
        · rw [List.getElem?_append_left zm] at hm
          have hc := I.plt c (List.mem_of_getElem? hm)
          rw [lpv c hc, if_neg (by omega)]
        · have hm2 := (List.getElem?_eq_some_iff.mp hm).1
          rw [List.length_append] at hm2
          have em : m = pv.length := by
            have : m < pv.length + 1 := hm2
            omega
          rw [em, List.getElem?_append_right (Nat.le_refl _), Nat.sub_self] at hm
          cases hm
          rw [l1, if_pos (by omega)]
    · intro i t c hi hc k hk
      by_cases zi : i < d.length
      · rw [List.getElem?_append_left (by rw [List.length_map]; exact zi), List.getElem?_map] at hi
        obtain ⟨u, hu, rfl⟩ := Option.map_eq_some_iff.mp hi
        have hu2 := I.done u (List.mem_of_getElem? hu)
        rw [List.getElem?_append_left (by omega)] at hc
        have hcj := I.plt c (List.mem_of_getElem? hc)
        rw [less_at hu2.1 hl (by omega), lpv k (by omega), A.ahead i u c hu hc k hk, Int.mul_zero, Int.sub_zero, fm_zero]
      · have hi2 := (List.getElem?_eq_some_iff.mp hi).1
        rw [List.length_append, List.length_map] at hi2
        have ei : i = d.length := by
          have : i < d.length + 1 := hi2
          omega
        rw [ei, List.getElem?_append_right (by rw [List.length_map]; exact Nat.le_refl _), List.length_map, Nat.sub_self] at hi
        cases hi
        rw [ei, ← hpl, List.getElem?_append_right (Nat.le_refl _), Nat.sub_self] at hc
        cases hc
        exact lpv k hk
    · intro i m c f hi hm him
      have hm2 := (List.getElem?_eq_some_iff.mp hm).1
      rw [List.length_append] at hm2
      have hm3 : m < pv.length + 1 := hm2
      rw [List.getElem?_append_left (by omega)] at hi
      by_cases zm : m < pv.length
      · rw [List.getElem?_append_left zm] at hm
        exact A.inc i m c f hi hm him
      · have em : m = pv.length := by omega
        rw [em, List.getElem?_append_right (Nat.le_refl _), Nat.sub_self] at hm
        cases hm
        exact I.plt c (List.mem_of_getElem? hi)
theorem ah_run {p : Int} {n : Nat} {rows : List (List Int)} (hp : p ∈ primes) (h : ∀ r ∈ rows, Ltr p n r) : ∀ j, j ≤ n → ∃ pv, Iv p n rows j (run p rows j) pv ∧ Ah (run p rows j).2 pv
  | 0, _ => ⟨[], iv_zero h, ⟨fun i r c hi => (nomatch hi), fun i l c d hi => (nomatch hi)⟩⟩
  | j + 1, hj => by
    obtain ⟨pv, I, A⟩ := ah_run hp h j (by omega)
    exact ah_step hp (by omega) I A
/-- a reduced matrix -/
structure Rr (p : Int) (n : Nat) (rs : List (List Int)) (pv : List Nat) : Prop where
  piv : Piv p n rs pv
  ah : Ah rs pv
theorem red_rr {p : Int} {n : Nat} {rows : List (List Int)} (hp : p ∈ primes) (h : ∀ r ∈ rows, Ltr p n r) : ∃ pv, Rr p n (red p rows) pv ∧ (∀ r ∈ red p rows, Span p n rows r) ∧ ∀ r ∈ rows, Span p n (red p rows) r := by
  obtain ⟨pv, I, A⟩ := ah_run hp h n (Nat.le_refl n)
  rw [red_run h]
  have hz : ∀ t ∈ (run p rows n).1, t = zer n := fun t ht => row_ext (I.left t ht).1 zer_len fun k hk => by rw [I.low t ht k hk, zer_at]
  refine ⟨pv, ⟨⟨I.done, I.len, I.plt, I.one⟩, A⟩, fun r hr => I.to r (.inr hr), fun r hr => ?_⟩
  refine span_sub (fun u hu => ?_) (I.of r hr)
  rcases List.mem_append.mp hu with q | q
  · rw [hz u q]
    exact span_lin.1
  · exact span_mem q
/-- rows with own places: a row's own letters -/
theorem sv_row {p : Int} {n : Nat} {rs : List (List Int)} {pv : List Nat} (P : Piv p n rs pv) {r : List Int} (hr : r ∈ rs) : Sv p n rs pv r := by
  refine ⟨P.ltr r hr, fun k hk2 => ?_⟩
  obtain ⟨i, hi⟩ := List.getElem?_of_mem hr
  have e : pvs pv r = (List.range rs.length).map fun l => if i = l then 1 else 0 := by
    refine List.ext_getElem (by unfold pvs; rw [List.length_map, List.length_map, List.length_range, P.len]) fun l g1 g2 => ?_
    unfold pvs at g1 ⊢
    rw [List.length_map] at g1
    rw [List.getElem_map, List.getElem_map, List.getElem_range]
    exact P.one i l r _ hi (List.getElem?_eq_getElem g1)
  have key : ∀ (rs : List (List Int)) (i : Nat) (r : List Int), rs[i]? = some r → csum k rs ((List.range rs.length).map fun l => if i = l then 1 else 0) = at0 r k := by
    intro rs
    induction rs with
    | nil => intro i r hi; cases hi
    | cons t rs ih =>
      intro i r hi
      rw [List.length_cons, List.range_succ_eq_map, List.map_cons, List.map_map]
      show csum k rs ((List.range rs.length).map fun l => if i = l + 1 then 1 else 0) + (if i = 0 then 1 else 0) * at0 t k = at0 r k
      cases i with
      | zero =>
        cases hi
        rw [if_pos rfl, Int.one_mul]
        have : ((List.range rs.length).map fun l => if 0 = l + 1 then (1 : Int) else 0) = (List.range rs.length).map fun _ => 0 := List.map_congr_left fun l _ => if_neg (by omega)
        rw [this]
        have q := csum_zer (k := k) (rs := rs) (pv := List.range rs.length)
        rw [q, Int.zero_add]
      | succ i =>
        rw [if_neg (by omega), Int.zero_mul, Int.add_zero]
        have : ((List.range rs.length).map fun l => if i + 1 = l + 1 then (1 : Int) else 0) = (List.range rs.length).map fun l => if i = l then 1 else 0 := List.map_congr_left fun l _ => by
          by_cases z : i = l
          · rw [if_pos z, if_pos (by omega)]
          · rw [if_neg z, if_neg (by omega)]
        rw [this]
        exact ih i r hi
  rw [e, key _ i r hi]
  exact Cg.rfl'
theorem sv_span {p : Int} {n : Nat} {rs : List (List Int)} {pv : List Nat} (hp : 0 < p) (P : Piv p n rs pv) {v : List Int} (h : Span p n rs v) : Sv p n rs pv v := h _ (sv_lin hp P.plt) fun r hr => sv_row P hr
/-- rising lists -/
def Inc (l : List Nat) : Prop := ∀ (i m c d : Nat), l[i]? = some c → l[m]? = some d → i < m → c < d
theorem Inc.tail {a : Nat} {l : List Nat} (h : Inc (a :: l)) : Inc l := fun i m c d hi hm him => h (i + 1) (m + 1) c d hi hm (by omega)
theorem Inc.head {a x : Nat} {l : List Nat} (h : Inc (a :: l)) (hx : x ∈ l) : a < x := by
  obtain ⟨i, hi⟩ := List.getElem?_of_mem hx
  exact h 0 (i + 1) a x rfl hi (by omega)
theorem sub_inc : ∀ {m l : List Nat}, Inc l → Inc m → (∀ x ∈ l, x ∈ m) → l.length ≤ m.length ∧ (l.length = m.length → l = m)
  | [], l, _, _, h => by
    cases l with
    | nil => exact ⟨Nat.le_refl _, fun _ => rfl⟩
    | cons a l => exact absurd (h a (List.mem_cons_self)) (by simp)
  | b :: m, [], _, _, _ => ⟨Nat.zero_le _, fun e => by cases e⟩
  | b :: m, a :: l, hl, hm, h => by
    by_cases e : a = b
    · subst e
      have := sub_inc (m := m) hl.tail hm.tail fun x hx => by
        rcases List.mem_cons.mp (h x (List.mem_cons_of_mem _ hx)) with q | q
        · exact absurd (hl.head hx) (by omega)
        · exact q
      refine ⟨by rw [List.length_cons, List.length_cons]; omega, fun q => ?_⟩
      rw [this.2 (Nat.succ.inj q)]
    · have ham : a ∈ m := by
        rcases List.mem_cons.mp (h a (List.mem_cons_self)) with q | q
        · exact absurd q e
        · exact q
      have hba := hm.head ham
      have := sub_inc (m := m) hl hm.tail fun x hx => by
        rcases List.mem_cons.mp (h x hx) with q | q
        · exfalso
          rcases List.mem_cons.mp hx with z | z
          · omega
          · have := hl.head z
            omega
        · exact q
      refine ⟨Nat.le_succ_of_le this.1, fun q => ?_⟩
      have q1 := this.1
      simp only [List.length_cons] at q q1
      omega
/-- a sum of products where all but some parts are 0 -/
theorem csum_null {k : Nat} : ∀ {rs : List (List Int)} {cs : List Int}, (∀ (i : Nat) (r : List Int) (c : Int), rs[i]? = some r → cs[i]? = some c → c = 0 ∨ at0 r k = 0) → csum k rs cs = 0
  | [], _, _ => by unfold csum; rfl
  | r :: rs, [], _ => by unfold csum; rfl
  | r :: rs, c :: cs, h => by
    unfold csum
    rw [csum_null fun i r c hr hc => h (i + 1) r c hr hc]
    rcases h 0 r c rfl rfl with e | e
    · rw [e, Int.zero_mul]
      rfl
    · rw [e, Int.mul_zero]
      rfl
/-- where a spanned row begins stands a lead -/
theorem lead_in {p : Int} {n c : Nat} {rs : List (List Int)} {pv : List Nat} {v : List Int} (hp : p ∈ primes) (R : Rr p n rs pv) (hv : Span p n rs v) (hc : c < n) (h0 : ∀ k, k < c → at0 v k = 0) (h1 : at0 v c = 1) : c ∈ pv := by
  by_cases hm : c ∈ pv
  · exact hm
  exfalso
  have p0 := prime_pos hp
  have p2 := fld_le hp
  have sv := sv_span p0 R.piv hv
  have := sv.2 c hc
  rw [h1, csum_null] at this
  · obtain ⟨t, e⟩ := this
    rw [Int.zero_add] at e
    have : p ∣ 1 := ⟨t, e⟩
    have := Int.le_of_dvd (by decide) this
    omega
  · intro i r d hr hd
    unfold pvs at hd
    rw [List.getElem?_map] at hd
    obtain ⟨x, hx, rfl⟩ := Option.map_eq_some_iff.mp hd
    rcases Nat.lt_trichotomy x c with q | q | q
    · exact .inl (h0 x q)
    · exact absurd (q ▸ List.mem_of_getElem? hx) hm
    · exact .inr (R.ah.ahead i r x hr hx c q)
theorem leads_sub {p : Int} {n : Nat} {rs rs' : List (List Int)} {pv pv' : List Nat} (hp : p ∈ primes) (R : Rr p n rs pv) (R' : Rr p n rs' pv') (h : ∀ r ∈ rs, Span p n rs' r) : ∀ c ∈ pv, c ∈ pv' := by
  intro c hc
  obtain ⟨i, hi⟩ := List.getElem?_of_mem hc
  have hil := (List.getElem?_eq_some_iff.mp hi).1
  rw [R.piv.len] at hil
  have hr : rs[i]? = some rs[i] := List.getElem?_eq_getElem hil
  refine lead_in hp R' (h _ (List.getElem_mem hil)) (R.piv.plt c hc) (R.ah.ahead i _ c hr hi) ?_
  rw [R.piv.one i i _ c hr hi, if_pos rfl]
/-- of as many rows, spanned: the same -/
theorem rr_len {p : Int} {n : Nat} {rs rs' : List (List Int)} {pv pv' : List Nat} (hp : p ∈ primes) (R : Rr p n rs pv) (R' : Rr p n rs' pv') (h : ∀ r ∈ rs, Span p n rs' r) : rs.length ≤ rs'.length ∧ (rs.length = rs'.length → rs = rs') := by
  have p0 := prime_pos hp
  have ss := sub_inc R.ah.inc R'.ah.inc (leads_sub hp R R' h)
  rw [R.piv.len, R'.piv.len] at ss
  refine ⟨ss.1, fun e => ?_⟩
  have ep := ss.2 e
  subst ep
  refine List.ext_getElem e fun i h1 h2 => ?_
  have g1 : rs[i]? = some rs[i] := List.getElem?_eq_getElem h1
  have g2 : rs'[i]? = some rs'[i] := List.getElem?_eq_getElem h2
  have q1 := sv_back p0 R'.piv (sv_span p0 R'.piv (h _ (List.getElem_mem h1)))
  have q2 := sv_back p0 R'.piv (sv_span p0 R'.piv (span_mem (List.getElem_mem h2)))
  rw [← q1, ← q2]
  congr 1
  refine List.map_congr_left fun c hc => ?_
  obtain ⟨l, hl⟩ := List.getElem?_of_mem hc
  rw [R.piv.one i l _ c g1 hl, R'.piv.one i l _ c g2 hl]
theorem rr_eq {p : Int} {n : Nat} {rs rs' : List (List Int)} {pv pv' : List Nat} (hp : p ∈ primes) (R : Rr p n rs pv) (R' : Rr p n rs' pv') (h : ∀ r ∈ rs, Span p n rs' r) (h' : ∀ r ∈ rs', Span p n rs r) : rs = rs' := by
  have a := rr_len hp R R' h
  have b := rr_len hp R' R h'
  exact a.2 (by omega)
/-- a further row that is spanned changes nothing; as many rows: it is spanned -/
theorem red_more {p : Int} {n : Nat} {rows : List (List Int)} {r : List Int} (hp : p ∈ primes) (h : ∀ t ∈ rows, Ltr p n t) (hr : Ltr p n r) : (Span p n rows r → red p (rows ++ [r]) = red p rows) ∧ ((red p (rows ++ [r])).length = (red p rows).length → Span p n rows r) := by
  have h2 : ∀ t ∈ rows ++ [r], Ltr p n t := fun t ht => by
    rcases List.mem_append.mp ht with q | q
    · exact h t q
    · rw [List.mem_singleton.mp q]
      exact hr
  obtain ⟨pv, R, a1, a2⟩ := red_rr hp h
  obtain ⟨pv2, R2, b1, b2⟩ := red_rr hp h2
  have up : ∀ t ∈ red p rows, Span p n (red p (rows ++ [r])) t := fun t ht => span_sub b2 (span_sub (fun u hu => span_mem (List.mem_append.mpr (.inl hu))) (a1 t ht))
  constructor
  · intro hs
    refine (rr_eq hp R R2 up fun t ht => ?_).symm
    refine span_sub a2 (span_sub (fun u hu => ?_) (b1 t ht))
    rcases List.mem_append.mp hu with q | q
    · exact span_mem q
    · rw [List.mem_singleton.mp q]
      exact hs
  · intro e
    have := (rr_len hp R R2 up).2 e.symm
    have hr2 := b2 r (List.mem_append.mpr (.inr (List.mem_singleton.mpr rfl)))
    rw [← this] at hr2
    exact span_sub a1 hr2
/-- reduced again it stays -/
theorem red_red {p : Int} {n : Nat} {rows : List (List Int)} (hp : p ∈ primes) (h : ∀ t ∈ rows, Ltr p n t) : red p (red p rows) = red p rows := by
  obtain ⟨pv, R, a1, a2⟩ := red_rr hp h
  obtain ⟨pv2, R2, b1, b2⟩ := red_rr hp R.piv.ltr
  exact rr_eq hp R2 R b1 b2
end WU

set_option maxRecDepth 100000
set_option maxHeartbeats 4000000
namespace WU
open PySem PySem.Spec PyProof.Rows L2
/-- the product of two rows, as far as m -/
def dotn : Nat → List Int → List Int → Int
  | 0, _, _ => 0
  | m + 1, x, v => dotn m x v + at0 x m * at0 v m
theorem dotn_congr {x y u v : List Int} : ∀ {m : Nat}, (∀ k, k < m → at0 x k * at0 u k = at0 y k * at0 v k) → dotn m x u = dotn m y v
  | 0, _ => rfl
  | m + 1, h => by
    unfold dotn
    rw [dotn_congr fun k hk => h k (by omega), h m (by omega)]
theorem dotn_comm {x u : List Int} (m : Nat) : dotn m x u = dotn m u x := dotn_congr fun k _ => Int.mul_comm _ _
theorem dotn_two {x u : List Int} {c d : Nat} {a b : Int} : ∀ {m : Nat}, (∀ k, k < m → at0 x k * at0 u k = (if k = c then a else 0) + (if k = d then b else 0)) → dotn m x u = (if c < m then a else 0) + (if d < m then b else 0)
  | 0, _ => by
    unfold dotn
    rw [if_neg (by omega), if_neg (by omega)]
    rfl
  | m + 1, h => by
    unfold dotn
    rw [dotn_two fun k hk => h k (by omega), h m (by omega)]
    by_cases e : c < m
    · rw [if_pos e, if_pos (show c < m + 1 by omega), if_neg (show ¬ m = c by omega)]
      by_cases f : d < m
      · rw [if_pos f, if_pos (show d < m + 1 by omega), if_neg (show ¬ m = d by omega)]
        omega
      · rw [if_neg f]
        by_cases g : m = d
        · rw [if_pos g, if_pos (show d < m + 1 by omega)]
          omega
        · rw [if_neg g, if_neg (show ¬ d < m + 1 by omega)]
          omega
    · rw [if_neg e]
      by_cases e2 : m = c
      · rw [if_pos e2, if_pos (show c < m + 1 by omega)]
        by_cases f : d < m
        · rw [if_pos f, if_pos (show d < m + 1 by omega), if_neg (show ¬ m = d by omega)]
          omega
        · rw [if_neg f]
          by_cases g : m = d
          · rw [if_pos g, if_pos (show d < m + 1 by omega)]
            omega
          · rw [if_neg g, if_neg (show ¬ d < m + 1 by omega)]
            omega
      · rw [if_neg e2, if_neg (show ¬ c < m + 1 by omega)]
        by_cases f : d < m
        · rw [if_pos f, if_pos (show d < m + 1 by omega), if_neg (show ¬ m = d by omega)]
          omega
        · rw [if_neg f]
          by_cases g : m = d
          · rw [if_pos g, if_pos (show d < m + 1 by omega)]
            omega
          · rw [if_neg g, if_neg (show ¬ d < m + 1 by omega)]
            omega
theorem dotn_one {x u : List Int} {c : Nat} {a : Int} {m : Nat} (h : ∀ k, k < m → at0 x k * at0 u k = if k = c then a else 0) : dotn m x u = if c < m then a else 0 := by
  have := dotn_two (x := x) (u := u) (c := c) (d := c) (a := a) (b := 0) (m := m) fun k hk => by
    rw [h k hk]
    split <;> omega
  rw [this]
  split <;> omega
theorem dotn_null {x u : List Int} {m : Nat} (h : ∀ k, k < m → at0 x k * at0 u k = 0) : dotn m x u = 0 := by
  have := dotn_one (x := x) (u := u) (c := 0) (a := 0) (m := m) fun k hk => by
    rw [h k hk]
    split <;> rfl
  rw [this]
  split <;> rfl
theorem dotn_addv {p c : Int} {n : Nat} {x u v : List Int} (hu : u.length = n) (hv : v.length = n) : ∀ {m : Nat}, m ≤ n → Cg p (dotn m x (addv p u c v)) (dotn m x u + c * dotn m x v)
  | 0, _ => by
    unfold dotn
    rw [Int.mul_zero]
    exact Cg.rfl'
  | m + 1, h => by
    unfold dotn
    rw [addv_at hu hv (by omega)]
    have c1 := (dotn_addv (p := p) (c := c) (x := x) hu hv (m := m) (by omega)).add ((Cg.fm (p := p) (at0 u m + c * at0 v m)).mul (at0 x m))
    have e : dotn m x u + c * dotn m x v + at0 x m * (at0 u m + c * at0 v m) = dotn m x u + at0 x m * at0 u m + c * (dotn m x v + at0 x m * at0 v m) := by
      rw [Int.mul_add, Int.mul_add, ← Int.mul_assoc, ← Int.mul_assoc, Int.mul_comm (at0 x m) c]
      omega
    rw [e] at c1
    exact c1
theorem dotn_zer {n m : Nat} {x : List Int} : dotn m x (zer n) = 0 := dotn_null fun k _ => by rw [zer_at, Int.mul_zero]
/-- rows to which the product with x is what stands at the last place -/
theorem phi_lin {p : Int} {m : Nat} {x : List Int} (hp : 0 < p) : Lin p (m + 1) fun v => Ltr p (m + 1) v ∧ Cg p (dotn m x v) (at0 v m) := by
  refine ⟨⟨zer_ltr hp, ?_⟩, fun u r c hu hr => ⟨addv_ltr hp hu.1.1 hr.1.1, ?_⟩⟩
  · rw [dotn_zer, zer_at]
    exact Cg.rfl'
  · have h1 := dotn_addv (p := p) (c := c) (x := x) hu.1.1 hr.1.1 (m := m) (by omega)
    refine h1.trans ((hu.2.add (hr.2.mul c)).trans ?_)
    rw [addv_at hu.1.1 hr.1.1 (by omega)]
    exact (Cg.fm _).symm
/-- rows to which the product with x is 0 -/
theorem ker_lin {p : Int} {n : Nat} {x : List Int} (hp : 0 < p) : Lin p n fun v => Ltr p n v ∧ Cg p (dotn n x v) 0 := by
  refine ⟨⟨zer_ltr hp, ?_⟩, fun u r c hu hr => ⟨addv_ltr hp hu.1.1 hr.1.1, ?_⟩⟩
  · rw [dotn_zer]
    exact Cg.rfl'
  · have h1 := dotn_addv (p := p) (c := c) (x := x) hu.1.1 hr.1.1 (m := n) (Nat.le_refl n)
    refine h1.trans ((hu.2.add (hr.2.mul c)).trans ?_)
    rw [Int.mul_zero]
    exact Cg.rfl'
/-- a column, and the equations -/
def colm (A : List (List Int)) (k : Nat) : List Int := A.map fun r => at0 r k
def eqn (A : List (List Int)) (b : List Int) (k : Nat) : List Int := colm A k ++ [at0 b k]
def eqs (A : List (List Int)) (b : List Int) (n : Nat) : List (List Int) := (List.range n).map (eqn A b)
theorem colm_len {A : List (List Int)} {k : Nat} : (colm A k).length = A.length := List.length_map _
theorem colm_at {A : List (List Int)} {k i : Nat} {r : List Int} (h : A[i]? = some r) : at0 (colm A k) i = at0 r k := by
  have hi := (List.getElem?_eq_some_iff.mp h).1
  have he := (List.getElem?_eq_some_iff.mp h).2
  rw [at0_lt (by rw [colm_len]; exact hi)]
  unfold colm
  rw [List.getElem_map, he]
theorem eqn_len {A : List (List Int)} {b : List Int} {k : Nat} : (eqn A b k).length = A.length + 1 := by
  unfold eqn
  rw [List.length_append, colm_len]
  rfl
theorem eqn_at {A : List (List Int)} {b : List Int} {k i : Nat} (h : i < A.length) : at0 (eqn A b k) i = at0 (colm A k) i := by
  unfold eqn at0
  rw [List.getD_eq_getElem?_getD, List.getElem?_append_left (by rw [colm_len]; exact h), ← List.getD_eq_getElem?_getD]
theorem eqn_last {A : List (List Int)} {b : List Int} {k : Nat} : at0 (eqn A b k) A.length = at0 b k := by
  unfold eqn at0
  rw [List.getD_eq_getElem?_getD, List.getElem?_append_right (by rw [colm_len]; exact Nat.le_refl _), colm_len, Nat.sub_self]
  rfl
theorem eqn_ltr {p : Int} {n : Nat} {A : List (List Int)} {b : List Int} {k : Nat} (hA : ∀ r ∈ A, Ltr p n r) (hb : Ltr p n b) (hk : k < n) : Ltr p (A.length + 1) (eqn A b k) := by
  refine ⟨eqn_len, fun x hx => ?_⟩
  unfold eqn colm at hx
  rcases List.mem_append.mp hx with q | q
  · obtain ⟨r, hr, rfl⟩ := List.mem_map.mp q
    exact (hA r hr).bd hk
  · rw [List.mem_singleton.mp q]
    exact hb.bd hk
theorem eqs_ltr {p : Int} {n : Nat} {A : List (List Int)} {b : List Int} (hA : ∀ r ∈ A, Ltr p n r) (hb : Ltr p n b) : ∀ r ∈ eqs A b n, Ltr p (A.length + 1) r := by
  intro r hr
  obtain ⟨k, hk, rfl⟩ := List.mem_map.mp hr
  exact eqn_ltr hA hb (List.mem_range.mp hk)
/-- x solves -/
def Slv (p : Int) (n : Nat) (A : List (List Int)) (b x : List Int) : Prop := ∀ k, k < n → Cg p (dotn A.length x (colm A k)) (at0 b k)
def addz (u : List Int) (c : Int) (v : List Int) : List Int := List.zipWith (fun a b => a + c * b) u v
theorem addz_at {c : Int} {m k : Nat} {u v : List Int} (hu : u.length = m) (hv : v.length = m) (hk : k < m) : at0 (addz u c v) k = at0 u k + c * at0 v k := by
  have hl : (addz u c v).length = m := by unfold addz; rw [List.length_zipWith, hu, hv, Nat.min_self]
  rw [at0_lt (by omega), at0_lt (r := u) (by omega), at0_lt (r := v) (by omega)]
  unfold addz
  rw [List.getElem_zipWith]
theorem dotn_addz {c : Int} {m : Nat} {u v y : List Int} (hu : u.length = m) (hv : v.length = m) : ∀ {t : Nat}, t ≤ m → dotn t (addz u c v) y = dotn t u y + c * dotn t v y
  | 0, _ => by
    unfold dotn
    rw [Int.mul_zero]
    rfl
  | t + 1, h => by
    unfold dotn
    rw [dotn_addz hu hv (by omega), addz_at hu hv (by omega), Int.add_mul, Int.mul_add, Int.mul_assoc]
    omega
def unt (m i : Nat) : List Int := (zer m).set i 1
theorem unt_len {m i : Nat} : (unt m i).length = m := by unfold unt; rw [List.length_set, zer_len]
theorem at0_set {l : List Int} {i k : Nat} {a : Int} (hi : i < l.length) : at0 (l.set i a) k = if k = i then a else at0 l k := by
  unfold at0
  rw [List.getD_eq_getElem?_getD, List.getElem?_set, List.getD_eq_getElem?_getD]
  by_cases e : i = k
  · rw [if_pos e, if_pos hi, if_pos e.symm]
    rfl
  · rw [if_neg e, if_neg (fun z => e z.symm)]
theorem unt_at {m i k : Nat} (hi : i < m) : at0 (unt m i) k = if k = i then 1 else 0 := by
  unfold unt
  rw [at0_set (by rw [zer_len]; exact hi), zer_at]
theorem slv_of {p : Int} {n : Nat} {A : List (List Int)} {b : List Int} (hp : 0 < p) (hA : ∀ r ∈ A, Ltr p n r) (h : Span p n A b) : ∃ x, x.length = A.length ∧ Slv p n A b x := by
  have : Ltr p n b ∧ ∃ x, x.length = A.length ∧ Slv p n A b x := by
    refine h (fun b => Ltr p n b ∧ ∃ x, x.length = A.length ∧ Slv p n A b x) ⟨⟨zer_ltr hp, zer A.length, zer_len, fun k hk => ?_⟩, ?_⟩ ?_
    · rw [dotn_comm, dotn_zer, zer_at]
      exact Cg.rfl'
    · rintro u r c ⟨hu, x, lx, hx⟩ ⟨hr, y, ly, hy⟩
      refine ⟨addv_ltr hp hu.1 hr.1, addz x c y, by unfold addz; rw [List.length_zipWith, lx, ly, Nat.min_self], fun k hk => ?_⟩
      rw [dotn_addz lx ly (Nat.le_refl _), addv_at hu.1 hr.1 hk]
      exact ((hx k hk).add ((hy k hk).mul c)).trans (Cg.fm _).symm
    · intro r hr
      obtain ⟨i, hi⟩ := List.getElem?_of_mem hr
      have hil := (List.getElem?_eq_some_iff.mp hi).1
      refine ⟨hA r hr, unt A.length i, unt_len, fun k hk => ?_⟩
      rw [dotn_one (c := i) (a := at0 r k), if_pos hil]
      · exact Cg.rfl'
      · intro k2 hk2
        rw [unt_at hil]
        by_cases e : k2 = i
        · rw [if_pos e, if_pos e, e, colm_at hi, Int.one_mul]
        · rw [if_neg e, if_neg e, Int.zero_mul]
  exact this.2
theorem slv_phi {p : Int} {n : Nat} {A : List (List Int)} {b x : List Int} (hA : ∀ r ∈ A, Ltr p n r) (hb : Ltr p n b) (h : Slv p n A b x) : ∀ v ∈ eqs A b n, Ltr p (A.length + 1) v ∧ Cg p (dotn A.length x v) (at0 v A.length) := by
  intro v hv
  refine ⟨eqs_ltr hA hb v hv, ?_⟩
  obtain ⟨k, hk, rfl⟩ := List.mem_map.mp hv
  rw [eqn_last, dotn_congr (v := colm A k) (y := x) fun i hi => by rw [eqn_at hi]]
  exact h k (List.mem_range.mp hk)
/-- spanned: no equation 0 = 1 -/
theorem cons_of {p : Int} {n : Nat} {A : List (List Int)} {b : List Int} {pv : List Nat} (hp : p ∈ primes) (hA : ∀ r ∈ A, Ltr p n r) (hb : Ltr p n b) (R : Rr p (A.length + 1) (red p (eqs A b n)) pv) (h : Span p n A b) : A.length ∉ pv := by
  intro hm
  have p0 := prime_pos hp
  have p2 := fld_le hp
  obtain ⟨x, lx, hx⟩ := slv_of p0 hA h
  obtain ⟨pv', R', a1, a2⟩ := red_rr hp (eqs_ltr hA hb)
  obtain ⟨i, hi⟩ := List.getElem?_of_mem hm
  have hil := (List.getElem?_eq_some_iff.mp hi).1
  rw [R.piv.len] at hil
  have hr : (red p (eqs A b n))[i]? = some (red p (eqs A b n))[i] := List.getElem?_eq_getElem hil
  have ph := (a1 _ (List.getElem_mem hil)) _ (phi_lin (x := x) p0) (slv_phi hA hb hx)
  have e1 := R.piv.one i i _ _ hr hi
  rw [if_pos rfl] at e1
  have e0 := R.ah.ahead i _ _ hr hi
  have z : dotn A.length x (red p (eqs A b n))[i] = 0 := dotn_null fun k hk => by rw [e0 k hk, Int.mul_zero]
  have := ph.2
  rw [z, e1] at this
  obtain ⟨t, e⟩ := this
  have : p ∣ 1 := ⟨-t, by rw [Int.mul_neg]; omega⟩
  have := Int.le_of_dvd (by decide) this
  omega
/-- values put at places, one behind the other -/
structure SetP (x0 : List Int) (pv : List Nat) (val : Nat → Int) (t : Nat) (x : List Int) : Prop where
  len : x.length = x0.length
  put : ∀ l c, l < t → pv[l]? = some c → at0 x c = val l
  old : ∀ k, (∀ l, l < t → pv[l]? ≠ some k) → at0 x k = at0 x0 k
theorem setP_zero {x0 : List Int} {pv : List Nat} {val : Nat → Int} : SetP x0 pv val 0 x0 := ⟨rfl, fun l c h => absurd h (by omega), fun _ _ => rfl⟩
theorem setP_step {x0 x : List Int} {pv : List Nat} {val : Nat → Int} {t c : Nat} (hi : Inc pv) (h : SetP x0 pv val t x) (hc : pv[t]? = some c) (hl : c < x0.length) : SetP x0 pv val (t + 1) (x.set c (val t)) := by
  have hl2 : c < x.length := by rw [h.len]; exact hl
  refine ⟨by rw [List.length_set, h.len], fun l d hlt hd => ?_, fun k hk => ?_⟩
  · rw [at0_set hl2]
    by_cases e : d = c
    · rw [if_pos e]
      subst e
      by_cases e2 : l = t
      · rw [e2]
      · have := hi l t d d hd hc (by omega)
        omega
    · rw [if_neg e]
      refine h.put l d ?_ hd
      by_cases e2 : l = t
      · rw [e2, hc] at hd
        exact absurd (Option.some.inj hd).symm e
      · omega
  · rw [at0_set hl2, if_neg (fun e => hk t (by omega) (by rw [e]; exact hc))]
    exact h.old k fun l hlt => hk l (by omega)
/-- the solution that is told -/
theorem sol_slv {p : Int} {n : Nat} {A : List (List Int)} {b x : List Int} {pv : List Nat} (hp : p ∈ primes) (hA : ∀ r ∈ A, Ltr p n r) (hb : Ltr p n b) (R : Rr p (A.length + 1) (red p (eqs A b n)) pv) (hm : A.length ∉ pv)
    (hx : SetP (zer A.length) pv (fun l => at0 ((red p (eqs A b n)).getD l []) A.length) (red p (eqs A b n)).length x) : Slv p n A b x ∧ Ltr p A.length x := by
  have p0 := prime_pos hp
  obtain ⟨pv', R', a1, a2⟩ := red_rr hp (eqs_ltr hA hb)
  have lt : ∀ (l c : Nat), pv[l]? = some c → l < (red p (eqs A b n)).length ∧ c < A.length := fun l c h => by
    have h1 := (List.getElem?_eq_some_iff.mp h).1
    have h2 := R.piv.plt c (List.mem_of_getElem? h)
    refine ⟨by rw [← R.piv.len]; exact h1, ?_⟩
    by_cases e : c = A.length
    · exact absurd (e ▸ List.mem_of_getElem? h) hm
    · omega
  have gd : ∀ (l : Nat) (h : l < (red p (eqs A b n)).length), (red p (eqs A b n)).getD l [] = (red p (eqs A b n))[l] := fun l h => by rw [List.getD_eq_getElem?_getD, List.getElem?_eq_getElem h]; rfl
  have ph : ∀ v ∈ red p (eqs A b n), Ltr p (A.length + 1) v ∧ Cg p (dotn A.length x v) (at0 v A.length) := by
    intro v hv
    refine ⟨R.piv.ltr v hv, ?_⟩
    obtain ⟨i, hi⟩ := List.getElem?_of_mem hv
    have hil := (List.getElem?_eq_some_iff.mp hi).1
    obtain ⟨c, hc⟩ : ∃ c, pv[i]? = some c := ⟨_, List.getElem?_eq_getElem (by rw [R.piv.len]; exact hil)⟩
    have hcm := (lt i c hc).2
    rw [dotn_one (c := c) (a := at0 v A.length), if_pos hcm]
    · exact Cg.rfl'
    · intro k hk
      by_cases e : k = c
      · rw [if_pos e, e, hx.put i c hil hc, R.piv.one i i v c hi hc, if_pos rfl, Int.mul_one]
        show at0 ((red p (eqs A b n)).getD i []) A.length = _
        rw [gd i hil]
        have := (List.getElem?_eq_some_iff.mp hi).2
        rw [this]
      · rw [if_neg e]
        by_cases hk2 : ∃ l : Nat, pv[l]? = some k
        · obtain ⟨l, hl⟩ := hk2
          rw [R.piv.one i l v k hi hl, if_neg (fun z => e (by rw [z, hl] at hc; exact Option.some.inj hc)), Int.mul_zero]
        · rw [hx.old k (fun l _ z => hk2 ⟨l, z⟩), zer_at, Int.zero_mul]
  constructor
  · intro k hk
    have hm2 : eqn A b k ∈ eqs A b n := List.mem_map.mpr ⟨k, List.mem_range.mpr hk, rfl⟩
    have := (a2 _ hm2) _ (phi_lin (x := x) p0) ph
    have q := this.2
    rw [eqn_last, dotn_congr (v := colm A k) (y := x) fun i hi => by rw [eqn_at hi]] at q
    exact q
  · refine ltr_of (by rw [hx.len, zer_len]) fun k hk => ?_
    by_cases hk2 : ∃ l : Nat, pv[l]? = some k
    · obtain ⟨l, hl⟩ := hk2
      have hl2 := (lt l k hl).1
      rw [hx.put l k hl2 hl]
      show 0 ≤ at0 ((red p (eqs A b n)).getD l []) A.length ∧ _
      rw [gd l hl2]
      exact (R.piv.ltr _ (List.getElem_mem hl2)).bd (by omega)
    · rw [hx.old k (fun l _ z => hk2 ⟨l, z⟩), zer_at]
      omega
/-- the rows times letters, added up -/
def lsum (p : Int) (n : Nat) (A : List (List Int)) (x : List Int) : Nat → List Int
  | 0 => zer n
  | t + 1 => addv p (lsum p n A x t) (at0 x t) (A.getD t [])
theorem lsum_at {p : Int} {n k : Nat} {A : List (List Int)} {x : List Int} (hp : 0 < p) (hA : ∀ r ∈ A, Ltr p n r) (hk : k < n) : ∀ t, t ≤ A.length → Ltr p n (lsum p n A x t) ∧ Cg p (at0 (lsum p n A x t) k) (dotn t x (colm A k))
  | 0, _ => ⟨zer_ltr hp, by
    show Cg p (at0 (zer n) k) 0
    rw [zer_at]
    exact Cg.rfl'⟩
  | t + 1, ht => by
    obtain ⟨i1, i2⟩ := lsum_at hp hA hk (x := x) t (by omega)
    have hr : A[t]? = some (A[t]'(by omega)) := List.getElem?_eq_getElem (by omega)
    have gd : A.getD t [] = A[t]'(by omega) := by rw [List.getD_eq_getElem?_getD, hr]; rfl
    have hrL := hA _ (List.getElem_mem (show t < A.length by omega))
    show Ltr p n (addv p (lsum p n A x t) (at0 x t) (A.getD t [])) ∧ Cg p (at0 (addv p (lsum p n A x t) (at0 x t) (A.getD t [])) k) (dotn t x (colm A k) + at0 x t * at0 (colm A k) t)
    rw [gd]
    refine ⟨addv_ltr hp i1.1 hrL.1, ?_⟩
    rw [addv_at i1.1 hrL.1 hk, colm_at hr]
    exact (Cg.fm _).trans (i2.add Cg.rfl')
theorem lsum_ltr {p : Int} {n : Nat} {A : List (List Int)} {x : List Int} (hp : 0 < p) (hA : ∀ r ∈ A, Ltr p n r) : ∀ t, t ≤ A.length → Ltr p n (lsum p n A x t)
  | 0, _ => zer_ltr hp
  | t + 1, ht => by
    have hr : A[t]? = some (A[t]'(by omega)) := List.getElem?_eq_getElem (by omega)
    have gd : A.getD t [] = A[t]'(by omega) := by rw [List.getD_eq_getElem?_getD, hr]; rfl
    show Ltr p n (addv p (lsum p n A x t) (at0 x t) (A.getD t []))
    rw [gd]
    exact addv_ltr hp (lsum_ltr hp hA t (by omega)).1 (hA _ (List.getElem_mem (show t < A.length by omega))).1
theorem lsum_span {p : Int} {n : Nat} {A : List (List Int)} {x : List Int} (hA : ∀ r ∈ A, Ltr p n r) : ∀ t, t ≤ A.length → Span p n A (lsum p n A x t)
  | 0, _ => span_lin.1
  | t + 1, ht => by
    have hr : A[t]? = some (A[t]'(by omega)) := List.getElem?_eq_getElem (by omega)
    have gd : A.getD t [] = A[t]'(by omega) := by rw [List.getD_eq_getElem?_getD, hr]; rfl
    show Span p n A (addv p (lsum p n A x t) (at0 x t) (A.getD t []))
    rw [gd]
    exact span_lin.2 _ _ _ (lsum_span hA t (by omega)) (span_mem (List.getElem_mem (show t < A.length by omega)))
theorem lsum_eq {p : Int} {n : Nat} {A : List (List Int)} {b x : List Int} (hp : 0 < p) (hA : ∀ r ∈ A, Ltr p n r) (hb : Ltr p n b) (h : Slv p n A b x) : lsum p n A x A.length = b := by
  have l := lsum_ltr (x := x) hp hA A.length (Nat.le_refl _)
  exact row_ext l.1 hb.1 fun k hk => Cg.eq ((lsum_at hp hA hk A.length (Nat.le_refl _)).2.trans (h k hk)) (l.bd hk) (hb.bd hk)
/-- not spanned: an equation 0 = 1 -/
theorem cons_not {p : Int} {n : Nat} {A : List (List Int)} {b : List Int} {pv : List Nat} (hp : p ∈ primes) (hA : ∀ r ∈ A, Ltr p n r) (hb : Ltr p n b) (R : Rr p (A.length + 1) (red p (eqs A b n)) pv) (h : ¬ Span p n A b) : A.length ∈ pv := by
  by_cases hm : A.length ∈ pv
  · exact hm
  exfalso
  have p0 := prime_pos hp
  -- the told solution is there
  have lt : ∀ (l c : Nat), pv[l]? = some c → c < A.length := fun l c h => by
    have h2 := R.piv.plt c (List.mem_of_getElem? h)
    by_cases e : c = A.length
    · exact absurd (e ▸ List.mem_of_getElem? h) hm
    · omega
  have ex : ∀ t, t ≤ pv.length → ∃ x, SetP (zer A.length) pv (fun l => at0 ((red p (eqs A b n)).getD l []) A.length) t x := by
    intro t
    induction t with
    | zero => exact fun _ => ⟨_, setP_zero⟩
    | succ t ih =>
      intro ht
      obtain ⟨x, hx⟩ := ih (by omega)
      have hc : pv[t]? = some (pv[t]'(by omega)) := List.getElem?_eq_getElem (by omega)
      exact ⟨_, setP_step R.ah.inc hx hc (by rw [zer_len]; exact lt t _ hc)⟩
  obtain ⟨x, hx⟩ := ex pv.length (Nat.le_refl _)
  rw [R.piv.len] at hx
  have s := sol_slv hp hA hb R hm hx
  exact h (by rw [← lsum_eq p0 hA hb s.1]; exact lsum_span hA _ (Nat.le_refl _))
end WU

set_option maxRecDepth 100000
set_option maxHeartbeats 4000000
namespace WU
open PySem PySem.Spec PyProof.Rows L2
/-- the places that are no leads -/
def free (n : Nat) (pv : List Nat) : List Nat := (List.range n).filter fun k => decide (k ∉ pv)
theorem free_mem {n : Nat} {pv : List Nat} {k : Nat} : k ∈ free n pv ↔ k < n ∧ k ∉ pv := by
  unfold free
  rw [List.mem_filter, List.mem_range]
  constructor
  · rintro ⟨a, b⟩
    exact ⟨a, of_decide_eq_true b⟩
  · rintro ⟨a, b⟩
    exact ⟨a, decide_eq_true b⟩
theorem inc_of_pairwise : ∀ {l : List Nat}, l.Pairwise (· < ·) → Inc l
  | [], _ => fun i m c d hi => by cases hi
  | a :: l, h => by
    rw [List.pairwise_cons] at h
    intro i m c d hi hm him
    cases m with
    | zero => omega
    | succ m =>
      cases i with
      | zero =>
        cases hi
        exact h.1 d (List.mem_of_getElem? (show l[m]? = some d from hm))
      | succ i => exact inc_of_pairwise h.2 i m c d hi hm (by omega)
theorem inc_filter {q : Nat → Bool} {n : Nat} : Inc ((List.range n).filter q) := inc_of_pairwise (List.Pairwise.filter q List.pairwise_lt_range)
theorem inc_nodup {l : List Nat} (h : Inc l) {i m c : Nat} (hi : l[i]? = some c) (hm : l[m]? = some c) : i = m := by
  rcases Nat.lt_trichotomy i m with e | e | e
  · exact absurd (h i m c c hi hm e) (by omega)
  · exact e
  · exact absurd (h m i c c hm hi e) (by omega)
theorem free_len {n : Nat} {pv : List Nat} (hi : Inc pv) (hl : ∀ c ∈ pv, c < n) : (free n pv).length + pv.length = n := by
  have e : pv = (List.range n).filter fun k => decide (k ∈ pv) := by
    have h1 := sub_inc (l := pv) (m := (List.range n).filter fun k => decide (k ∈ pv)) hi inc_filter fun x hx => List.mem_filter.mpr ⟨List.mem_range.mpr (hl x hx), decide_eq_true hx⟩
    have h2 := sub_inc (l := (List.range n).filter fun k => decide (k ∈ pv)) (m := pv) inc_filter hi fun x hx => of_decide_eq_true (List.mem_filter.mp hx).2
    exact h1.2 (by omega)
  have h3 : ∀ l : List Nat, (l.filter fun k => decide (k ∉ pv)).length + (l.filter fun k => decide (k ∈ pv)).length = l.length := by
    intro l
    induction l with
    | nil => rfl
    | cons a l ih =>
      rw [List.filter_cons, List.filter_cons]
      by_cases q : a ∈ pv
      · rw [if_neg (by simpa using q), if_pos (by simpa using q), List.length_cons, List.length_cons]
        omega
      · rw [if_pos (by simpa using q), if_neg (by simpa using q), List.length_cons, List.length_cons]
        omega
  have h4 := h3 (List.range n)
  rw [← e, List.length_range] at h4
  exact h4
/-- as many as the rank, where each has its own place -/
theorem piv_span {p : Int} {n : Nat} {rs : List (List Int)} {pv : List Nat} (hp : 0 < p) (P : Piv p n rs pv) {v : List Int} : Span p n rs v ↔ v ∈ (allc p.toNat rs.length).map (cmb p n rs) := by
  have ep : ((p.toNat : Nat) : Int) = p := by omega
  rw [List.mem_map]
  constructor
  · intro h
    have sv := sv_span hp P h
    refine ⟨pvs pv v, allc_mem.mpr ⟨by unfold pvs; rw [List.length_map, P.len], fun c hc => ?_⟩, sv_back hp P sv⟩
    unfold pvs at hc
    obtain ⟨d, hd, rfl⟩ := List.mem_map.mp hc
    rw [ep]
    exact sv.1.bd (P.plt d hd)
  · rintro ⟨cs, _, rfl⟩
    exact cmb_span fun r hr => span_mem hr
theorem piv_nodup {p : Int} {n : Nat} {rs : List (List Int)} {pv : List Nat} (hp : 0 < p) (P : Piv p n rs pv) : ((allc p.toNat rs.length).map (cmb p n rs)).Nodup := by
  have ep : ((p.toNat : Nat) : Int) = p := by omega
  refine nodup_map' (fun a ha b hb e => ?_) (allc_nodup _)
  obtain ⟨a1, a2⟩ := allc_mem.mp ha
  obtain ⟨b1, b2⟩ := allc_mem.mp hb
  rw [ep] at a2 b2
  rw [← sv_of hp P a1 a2, ← sv_of hp P b1 b2, e]
theorem red_len {p : Int} {n : Nat} {rs : List (List Int)} {pv : List Nat} (hp : p ∈ primes) (P : Piv p n rs pv) : (red p rs).length = rs.length := by
  have p0 := prime_pos hp
  have p2 := fld_le hp
  obtain ⟨pv2, R, a1, a2⟩ := red_rr hp P.ltr
  have := nodup_len (piv_nodup p0 R.piv) (piv_nodup p0 P) fun v => by
    rw [← piv_span p0 R.piv, ← piv_span p0 P]
    exact ⟨fun h => span_sub a1 h, fun h => span_sub a2 h⟩
  rw [List.length_map, List.length_map, allc_len, allc_len] at this
  rcases Nat.lt_trichotomy (red p rs).length rs.length with e | e | e
  · exact absurd this (Nat.ne_of_lt (Nat.pow_lt_pow_right (by omega) e))
  · exact e
  · exact absurd this (Nat.ne_of_gt (Nat.pow_lt_pow_right (by omega) e))
/-- one row that all others are 0 with -/
def zval (p : Int) (L : List (List Int)) (f l : Nat) : Int := (-(at0 (L.getD l []) f)).fmod p
def ZR (p : Int) (n : Nat) (L : List (List Int)) (pv : List Nat) (f : Nat) (z : List Int) : Prop := SetP (unt n f) pv (zval p L f) L.length z
theorem zr_at {p : Int} {n f : Nat} {L : List (List Int)} {pv : List Nat} {z : List Int} (R : Rr p n L pv) (hf : f ∈ free n pv) (h : ZR p n L pv f z) : z.length = n ∧ (∀ k, k < n → k ∉ pv → at0 z k = if k = f then 1 else 0) ∧ ∀ l c, pv[l]? = some c → at0 z c = zval p L f l := by
  obtain ⟨f1, f2⟩ := free_mem.mp hf
  refine ⟨by rw [h.len, unt_len], fun k hk hn => ?_, fun l c hc => ?_⟩
  · rw [h.old k fun l _ e => hn (List.mem_of_getElem? e), unt_at f1]
  · refine h.put l c ?_ hc
    rw [← R.piv.len]
    exact (List.getElem?_eq_some_iff.mp hc).1
theorem zr_ltr {p : Int} {n f : Nat} {L : List (List Int)} {pv : List Nat} {z : List Int} (hp : p ∈ primes) (R : Rr p n L pv) (hf : f ∈ free n pv) (h : ZR p n L pv f z) : Ltr p n z := by
  obtain ⟨a, b, c⟩ := zr_at R hf h
  have p2 := fld_le hp
  refine ltr_of a fun k hk => ?_
  by_cases q : k ∈ pv
  · obtain ⟨l, hl⟩ := List.getElem?_of_mem q
    rw [c l k hl]
    exact fm_bd _ (by omega)
  · rw [b k hk q]
    split <;> omega
theorem zr_ker {p : Int} {n f : Nat} {rows : List (List Int)} {pv : List Nat} {z : List Int} (hp : p ∈ primes) (hA : ∀ r ∈ rows, Ltr p n r) (R : Rr p n (red p rows) pv) (hf : f ∈ free n pv) (h : ZR p n (red p rows) pv f z) : ∀ u ∈ rows, Cg p (dotn n z u) 0 := by
  have p0 := prime_pos hp
  obtain ⟨a, b, c⟩ := zr_at R hf h
  obtain ⟨f1, f2⟩ := free_mem.mp hf
  obtain ⟨pv', R', a1, a2⟩ := red_rr hp hA
  have key : ∀ v ∈ red p rows, Ltr p n v ∧ Cg p (dotn n z v) 0 := by
    intro v hv
    refine ⟨R.piv.ltr v hv, ?_⟩
    obtain ⟨i, hi⟩ := List.getElem?_of_mem hv
    have hil := (List.getElem?_eq_some_iff.mp hi).1
    obtain ⟨d, hd⟩ : ∃ d, pv[i]? = some d := ⟨_, List.getElem?_eq_getElem (by rw [R.piv.len]; exact hil)⟩
    have hdn := R.piv.plt d (List.mem_of_getElem? hd)
    have gd : (red p rows).getD i [] = v := by rw [List.getD_eq_getElem?_getD, hi]; rfl
    have zd : at0 z d = zval p (red p rows) f i := c i d hd
    rw [dotn_two (c := f) (d := d) (a := at0 v f) (b := zval p (red p rows) f i), if_pos f1, if_pos hdn]
    · unfold zval
      rw [gd]
      have := (Cg.rfl' (p := p) (a := at0 v f)).add (Cg.fm (p := p) (-(at0 v f)))
      rw [show at0 v f + -(at0 v f) = 0 by omega] at this
      exact this
    · intro k hk
      by_cases q : k ∈ pv
      · obtain ⟨l, hl⟩ := List.getElem?_of_mem q
        have nf : ¬ k = f := fun e => f2 (e ▸ q)
        rw [if_neg nf, R.piv.one i l v k hi hl]
        by_cases e : i = l
        · subst e
          rw [hd] at hl
          have ek := Option.some.inj hl
          rw [if_pos rfl, if_pos ek.symm, ← ek, zd]
          omega
        · rw [if_neg e, if_neg (fun z2 => e (by rw [z2] at hl; exact inc_nodup R.ah.inc hd hl)), Int.mul_zero]
          rfl
      · have nd : ¬ k = d := fun e => q (e ▸ List.mem_of_getElem? hd)
        rw [b k hk q, if_neg nd]
        by_cases e : k = f
        · rw [if_pos e, if_pos e, e]
          omega
        · rw [if_neg e, if_neg e]
          omega
  intro u hu
  exact ((a2 u hu) _ (ker_lin (x := z) p0) key).2
/-- the rows for all free places -/
theorem zr_piv {p : Int} {n : Nat} {L Z : List (List Int)} {pv : List Nat} (hp : p ∈ primes) (R : Rr p n L pv) (hl : Z.length = (free n pv).length) (h : ∀ (i : Nat) (f : Nat) (z : List Int), (free n pv)[i]? = some f → Z[i]? = some z → ZR p n L pv f z) : Piv p n Z (free n pv) := by
  have ofZ : ∀ (i : Nat) z, Z[i]? = some z → ∃ f, (free n pv)[i]? = some f ∧ f ∈ free n pv ∧ ZR p n L pv f z := fun i z hz => by
    have hi := (List.getElem?_eq_some_iff.mp hz).1
    have hf : (free n pv)[i]? = some (free n pv)[i] := List.getElem?_eq_getElem (by omega)
    exact ⟨_, hf, List.mem_of_getElem? hf, h i _ z hf hz⟩
  refine ⟨fun z hz => ?_, hl.symm, fun c hc => (free_mem.mp hc).1, fun i l z c hi hc => ?_⟩
  · obtain ⟨i, hi⟩ := List.getElem?_of_mem hz
    obtain ⟨f, hf, hm, hz2⟩ := ofZ i z hi
    exact zr_ltr hp R hm hz2
  · obtain ⟨f, hf, hm, hz2⟩ := ofZ i z hi
    obtain ⟨c1, c2⟩ := free_mem.mp (List.mem_of_getElem? hc)
    rw [(zr_at R hm hz2).2.1 c c1 c2]
    have inc : Inc (free n pv) := inc_filter
    by_cases e : i = l
    · subst e
      rw [hf] at hc
      rw [if_pos rfl, if_pos (Option.some.inj hc).symm]
    · rw [if_neg e, if_neg (fun q => e (inc_nodup inc hf (by rw [← q]; exact hc)))]
/-- what zero_rows tells -/
theorem zero_ok {p : Int} {n : Nat} {rows Z : List (List Int)} {pv : List Nat} (hp : p ∈ primes) (hA : ∀ r ∈ rows, Ltr p n r) (R : Rr p n (red p rows) pv) (hl : Z.length = (free n pv).length) (h : ∀ (i : Nat) (f : Nat) (z : List Int), (free n pv)[i]? = some f → Z[i]? = some z → ZR p n (red p rows) pv f z) :
    (∀ z ∈ Z, Ltr p n z) ∧ (∀ r ∈ red p Z, Ltr p n r) ∧ red p (red p Z) = red p Z ∧ (∀ r ∈ red p Z, ∀ u ∈ rows, Cg p (dotn n r u) 0) ∧ (red p Z).length + (red p rows).length = n := by
  have p0 := prime_pos hp
  have P := zr_piv hp R hl h
  obtain ⟨pv2, R2, a1, a2⟩ := red_rr hp P.ltr
  refine ⟨P.ltr, R2.piv.ltr, red_red hp P.ltr, fun r hr u hu => ?_, ?_⟩
  · have := (a1 r hr) _ (ker_lin (x := u) p0) fun z hz => ?_
    · rw [dotn_comm]
      exact this.2
    · obtain ⟨i, hi⟩ := List.getElem?_of_mem hz
      have hil := (List.getElem?_eq_some_iff.mp hi).1
      have hf : (free n pv)[i]? = some (free n pv)[i] := List.getElem?_eq_getElem (by omega)
      refine ⟨P.ltr z hz, ?_⟩
      rw [dotn_comm]
      exact zr_ker hp hA R (List.mem_of_getElem? hf) (h i _ z hf hi) u hu
  · rw [red_len hp P, hl, ← R.piv.len]
    exact free_len R.ah.inc R.piv.plt
end WU

set_option maxRecDepth 100000
set_option maxHeartbeats 8000000
namespace WU
open PySem PySem.Spec PyProof.Rows L2
/-! ### t.index(z) of ints -/
theorem flat_ints (ys : List Int) : (ys.map V.int).all flatV = true := by
  rw [List.all_map]
  exact List.all_eq_true.mpr fun _ _ => rfl
def rIxI (K : PySem.W.Frag) : V → List V → Hp → VK → Prop := fun x xs H Q => ∃ p, ∃ ys : List Int, ∃ z j, x = .ref p ∧ xs = [.int z] ∧ SqT K H p (ys.map V.int) ∧ ys[j]? = some z ∧ (∀ m, m < j → ys[m]? ≠ some z) ∧ Q (.int (j : Nat)) H
section
variable {X : Cx}
/-- what stands at a place of a tuple of ints -/
theorem int_item {ys : List Int} {its : List Value} (r : Vals (ys.map V.int) its) {k : Nat} (hk : k < its.toArray.size) : ∃ y tk, ys[k]? = some y ∧ its.toArray[k] = Value.int y tk := by
  have lk : k < its.length := by simpa using hk
  have ly : k < ys.length := by
    have := r.length
    rw [List.length_map] at this
    omega
  obtain ⟨v, hv, tk, ev⟩ := r.get (i := k) (x := .int ys[k]) (by rw [List.getElem?_map, List.getElem?_eq_getElem ly]; rfl)
  refine ⟨_, tk, List.getElem?_eq_getElem ly, ?_⟩
  rw [List.getElem?_eq_getElem lk] at hv
  rw [List.getElem_toArray, Option.some.inj hv, ← ev]
theorem mt_tupIx : MtR X "tuple.index" (rIxI X.K) := by
  intro pn st sg HH self args sv avs QQ inv rself rargs ⟨c, ys, z, j, e1, e2, hseq, hat, hfirst, hQ⟩
  subst e1 e2
  cases rself
  obtain ⟨_, rfl, tk, rfl⟩ := vals1 rargs
  obtain ⟨its, rel, ⟨⟨oc, od, ot, osl⟩, hobj, hcls, num, hdata⟩, _⟩ := inv.tuple hseq
  simp only at hcls hdata
  subst hcls hdata
  have lj : j < its.toArray.size := by
    have h1 := (List.getElem?_eq_some_iff.mp hat).1
    have h2 := rel.length
    rw [List.length_map] at h2
    rw [List.size_toArray]
    omega
  have yes : eqU (.int z) its.toArray[j] = true := by
    obtain ⟨y, t2, hy, ey⟩ := int_item rel lj
    cases hat.symm.trans hy
    rw [ey]
    exact (show (z == z) = true from beq_self_eq_true z)
  have no : ∀ k (hk : k < its.toArray.size), k < j → eqU (.int z) its.toArray[k] = false := fun k hk hkj => by
    obtain ⟨y, t2, hy, ey⟩ := int_item rel hk
    rw [ey]
    refine beq_eq_false_iff_ne.mpr (fun eq => hfirst k hkj ?_)
    rw [hy]
    exact congrArg some eq
  refine call_meets PySem.F.slot_tuple_index ⟨_, hobj, rfl⟩ PySem.F.entry_tuple_index (PySem.F.args_tuple_index_2 _ _) (TI.tuple_indexAt c its.toArray num od osl _ (eqU (.int z)) j lj yes no) ⟨hobj, ?_, ⟨.int (j : Nat), HH, inv.tok _, ⟨_, rfl⟩, hQ⟩⟩
  exact fun it hit => mem_eqAt (x := .int z) ⟨tk, rfl⟩ rfl rel (flat_ints ys) it (by simpa using hit)
theorem mt_tupIxK {K : PySem.W.Frag} (hK : X.K = K := by rfl) : MtR X "tuple.index" (rIxI K) := hK ▸ mt_tupIx
end
/-! ### zip of a tuple and a list -/
def ItzM (K : PySem.W.Frag) (a b : Addr) : It :=
  ⟨fun i H => ∃ (xs ys : List V) (x y : V), SqT K H a xs ∧ SqL K H b ys ∧ xs[i]? = some x ∧ ys[i]? = some y,
    fun i H v H' => ∃ T x y, v = .ref T ∧ H T = none ∧ H' = upd H T (.tup [x, y]) ∧ (∀ xs, SqT K H a xs → xs[i]? = some x) ∧ ∀ ys, SqL K H b ys → ys[i]? = some y,
    fun i H => ∃ xs ys : List V, SqT K H a xs ∧ SqL K H b ys ∧ i ≤ xs.length ∧ i ≤ ys.length ∧ (i = xs.length ∨ i = ys.length)⟩
theorem not_two {x y z : Addr} (h1 : x ≠ y) (h2 : x ≠ z) : x ∉ [y, z] := fun h => by
  rw [List.mem_cons, List.mem_singleton] at h
  exact h.elim h1 h2
theorem zsep {z TI TO i1 i2 a b : Addr} (D : ZipApart z TI TO i1 i2 a b) : ZipSep2 z TI TO i1 i2 [i1, a] [i2, b] where
  TIz := D.TIz
  TOz := D.TOz
  TITO := D.TITO
  TIi1 := D.TIi1
  TIi2 := D.TIi2
  mem1 := List.mem_cons_self
  mem2 := List.mem_cons_self
  zf1 := not_two D.i1z.symm D.l1z.symm
  zf2 := not_two D.i2z.symm D.l2z.symm
  Tf1 := not_two D.TOi1 D.l1TO.symm
  Tf2 := not_two D.TOi2 D.l2TO.symm
  sep1_2 := not_two D.i12 D.l2i1.symm
  sep2_1 := not_two D.i12.symm D.l1i2.symm
/-- how the zip of a tuple and a list stands ahead of its k-th turn -/
structure ZSt (z TI TO i1 i2 a b : Addr) (k : Nat) (hp : Heap) : Prop where
  zip : IsZip hp z TI TO .none
  its : IsPair hp TI (.ref i1) (.ref i2)
  out : ∃ x y, IsPair hp TO x y
  fst : hp.IsTupleIter i1 a k
  snd : hp.IsListIter i2 b k
theorem five {z TI TO i1 i2 c : Addr} (h : c ∈ [z, TI, TO, i1, i2]) : c = z ∨ c = TI ∨ c = TO ∨ c = i1 ∨ c = i2 := by
  simpa only [List.mem_cons, List.not_mem_nil, or_false] using h
theorem ZSt.lt {z TI TO i1 i2 a b : Addr} {k : Nat} {hp : Heap} (S : ZSt z TI TO i1 i2 a b k hp) {c : Addr} (h : c ∈ [z, TI, TO, i1, i2]) : c < hp.objs.size := by
  obtain ⟨_, _, ho⟩ := S.out
  obtain ⟨_, h4, _⟩ := S.fst
  obtain ⟨_, h5, _⟩ := S.snd
  rcases five h with q | q | q | q | q <;> rw [q]
  · exact Heap.lt_size S.zip
  · exact Heap.lt_size S.its
  · exact Heap.lt_size ho
  · exact Heap.lt_size h4
  · exact Heap.lt_size h5
theorem turn_zipM {P : Program} {w : World} {K : PySem.W.Frag} {elts : List Expr} {kk : Nat} {tpos : Pos} {a b z TI TO i1 i2 : Addr} (D : ZipApart z TI TO i1 i2 a b) : Turn P w K (.Tuple elts kk tpos) (ItzM K a b) [z, TI, TO, i1, i2] z (ZSt z TI TO i1 i2 a b) where
  mem := List.mem_cons_self
  obj := fun k hp S c hc => by
    obtain ⟨_, _, ho⟩ := S.out
    obtain ⟨o4, h4, _, d4⟩ := S.fst
    obtain ⟨o5, h5, _, d5⟩ := S.snd
    rcases five hc with q | q | q | q | q <;> subst q
    · exact ⟨_, S.zip, fun v => by intro e; cases e⟩
    · exact ⟨_, S.its, fun v => by intro e; cases e⟩
    · exact ⟨_, ho, fun v => by intro e; cases e⟩
    · exact ⟨o4, h4, fun v e => by rw [d4] at e; cases e⟩
    · exact ⟨o5, h5, fun v e => by rw [d5] at e; cases e⟩
  keep := fun k hp hp' S same => by
    obtain ⟨x, y, ho⟩ := S.out
    exact ⟨same _ List.mem_cons_self _ S.zip, same TI (by simp) _ S.its, ⟨x, y, same TO (by simp) _ ho⟩, S.fst.at fun ob => same i1 (by simp) ob, S.snd.at fun ob => same i2 (by simp) ob⟩
  item := by
    intro X eP ew eK calm k pn st sg HH EE inv fp S go
    subst eP ew eK
    obtain ⟨xs, ys, x, y, sx, sy, gx, gy⟩ := go
    obtain ⟨us, rx, px, _⟩ := inv.tuple sx
    obtain ⟨vs, ry, py, _⟩ := inv.list sy
    obtain ⟨ux, hux, rux⟩ := rx.get gx
    obtain ⟨uy, huy, ruy⟩ := ry.get gy
    obtain ⟨_, _, ho⟩ := S.out
    have nh := inv.ok.hd calm
    have D1 := Draws.tuple (prog := X.prog) (w := X.w) (A := X.A.in1) nh i1 a D.l1i1 us.toArray
    have D2 := Draws.list (prog := X.prog) (w := X.w) (A := X.A.in1) nh i2 b D.l2i2 vs.toArray
    have lx : k < us.toArray.size := by rw [List.size_toArray]; exact (List.getElem?_eq_some_iff.mp hux).1
    have ly : k < vs.toArray.size := by rw [List.size_toArray]; exact (List.getElem?_eq_some_iff.mp huy).1
    have zl := S.lt (c := z) List.mem_cons_self
    refine wpAny_pyNext_zipD2_item (zsep D) D1 D2 S.zip S.its ho ⟨S.fst, px⟩ ⟨S.snd, py.isList⟩ lx ly ?_
    intro v1 v2 h1 tk q1 q2 z1 o1 f1 g1 new1 _ rest
    have q1' : us[k]? = some v1 := by simpa using q1
    have q2' : vs[k]? = some v2 := by simpa using q2
    cases hux.symm.trans q1'
    cases huy.symm.trans q2'
    refine ⟨_, rfl, wpAny_letOwnedTupleGo_zip (s := { st with heap := h1, toks := tk }) z1 fun h2 z2 but => ?_⟩
    have tup2 : h2.get? st.heap.objs.size = some { cls := .type "tuple", data := .seq #[ux, uy] } := (but.2 _ (Nat.ne_of_gt zl)).trans new1
    have out : ∀ c o, c ∉ [z, TI, TO, i1, i2] → st.heap.get? c = some o → h2.get? c = some o := fun c o nc ec => by
      have nz : c ≠ z := fun q => nc (by rw [q]; simp)
      have nO : c ≠ TO := fun q => nc (by rw [q]; simp)
      have n1 : c ≠ i1 := fun q => nc (by rw [q]; simp)
      have n2 : c ≠ i2 := fun q => nc (by rw [q]; simp)
      exact (but.2 c nz).trans (rest c o nz nO n1 n2 ec)
    have J : Inv X pn sg (upd HH st.heap.objs.size (.tup [x, y])) { st with heap := h2, toks := tk } :=
      inv.turnedNew (t' := tk) (ch := [z, TI, TO, i1, i2]) out fp (Nat.le_refl _) ⟨by show 2 ≤ sizeLine; decide, [ux, uy], .cons rux (.cons ruy .nil), ⟨_, tup2, rfl, _, rfl⟩⟩
    refine ⟨.ref st.heap.objs.size, _, J, rfl, ⟨_, x, y, rfl, inv.hok.fresh (Nat.le_refl _), rfl, fun l hl => ?_, fun l hl => ?_⟩, ⟨z2, ?_, ⟨ux, uy, ?_⟩, ?_, ?_⟩, fun c hc => ?_⟩
    · rw [inv.tuple_inj hl sx]
      exact gx
    · rw [inv.list_inj hl sy]
      exact gy
    · have e := rest TI _ D.TIz D.TITO D.TIi1 D.TIi2 S.its
      exact (but.2 TI D.TIz).trans e
    · exact (but.2 TO D.TOz).trans o1
    · exact f1.1.at fun ob eo => (but.2 i1 D.i1z).trans eo
    · exact g1.1.at fun ob eo => (but.2 i2 D.i2z).trans eo
    · rw [upd_ne (Nat.ne_of_lt (S.lt hc))]
      exact (fp c hc).1
  done := by
    intro X eP ew eK calm k pn st sg HH EE inv fp S go
    subst eP ew eK
    obtain ⟨xs, ys, sx, sy, l1, l2, fin⟩ := go
    obtain ⟨us, rx, px, _⟩ := inv.tuple sx
    obtain ⟨vs, ry, py, _⟩ := inv.list sy
    obtain ⟨_, _, ho⟩ := S.out
    have nh := inv.ok.hd calm
    have D1 := Draws.tuple (prog := X.prog) (w := X.w) (A := X.A.in1) nh i1 a D.l1i1 us.toArray
    have D2 := Draws.list (prog := X.prog) (w := X.w) (A := X.A.in1) nh i2 b D.l2i2 vs.toArray
    have m1 : us.toArray.size = xs.length := by rw [List.size_toArray, ← rx.length]
    have m2 : vs.toArray.size = ys.length := by rw [List.size_toArray, ← ry.length]
    refine wpAny_pyNext_zipD2_end (zsep D) D1 D2 S.zip S.its ho ⟨S.fst, px⟩ ⟨S.snd, py.isList⟩ (by omega) (by omega) (by omega) fun h1 tk rest => ⟨rfl, ?_⟩
    refine inv.turnedL (t' := tk) (ch := [z, TI, TO, i1, i2]) (fun c o nc ec => ?_) fp
    refine rest c o (fun q => nc ?_) (fun q => nc ?_) (fun q => nc ?_) (fun q => nc ?_) ec <;> rw [q] <;> simp
  self := fun _ _ _ _ _ S go => wpAny_pyIter_zip S.zip go
def iZipM (K : PySem.W.Frag) (ta : TA) : TI := fun σ H R => ta σ H fun vs H1 => ∃ a b xs ys, vs = [.ref a, .ref b] ∧ ((SqT K H1 a xs ∧ SqL K H1 b ys ∧ R (ItzM K a b) H1) ∨ (SqT K H1 a xs ∧ SqT K H1 b ys ∧ R (RZ.ItzT K a b) H1))
theorem pi_zipM {X : Cx} {e e2 : Expr} {ta : TA} {p pos tpos : Pos} {elts : List Expr} {kk : Nat} (hg : Gl X "zip") (hm : X.mg "zip" = none) (ha : PA X [e, e2] ta) (hs : starEach [e, e2] X.env = (false, eval e X.env) :: starEach [e2] X.env := by rfl)
    (hpl : (backTo pos (starEach [e2] X.env)).any (·.1) = false := by rfl) : PI X (.Tuple elts kk tpos) (.Call (.Name "zip" p) [e, e2] [] pos) (iZipM X.K ta) := by
  constructor
  intro pn st sg HH R inv h
  have args := ha.run pos pn st sg HH _ inv h
  refine Call_ (ld_blt inv hg hm boot_zip (callWith_type1 (thn args fun us s1 ⟨ws, H1, J, rel, a, b, xs, ys, ew, q⟩ => ?_) hs hpl))
  subst ew
  obtain ⟨u1, u2, rfl, ra, rb⟩ := Vals.two rel
  cases ra
  cases rb
  have young : ∀ c ∈ [s1.heap.objs.size + 4, s1.heap.objs.size + 2, s1.heap.objs.size + 3, s1.heap.objs.size, s1.heap.objs.size + 1], FpOk X pn H1 c := fun c hc => by
    have up : (s1.heap.objs.size : Nat) ≤ c := by
      rcases five hc with q | q | q | q | q <;> rw [q]
      · exact Nat.le_add_right _ 4
      · exact Nat.le_add_right _ 2
      · exact Nat.le_add_right _ 3
      · exact Nat.le_refl _
      · exact Nat.le_add_right _ 1
    exact J.fpOk up (J.hok.fresh up)
  rcases q with ⟨sx, sy, q⟩ | ⟨sx, sy, q⟩
  · obtain ⟨vx, _, px, _⟩ := J.tuple sx
    obtain ⟨vy, _, py, _⟩ := J.list sy
    have la : a < s1.heap.objs.size := px.lt
    refine zip_begins2 (begins_tuple a vx.toArray) (begins_list b vy.toArray) px py.isList fun h' hz hI hO f g _ kept => wpAny_pyIter_zip hz ?_
    refine ⟨s1.heap.objs.size + 4, _, _, _, H1, rfl, J.kept (t' := s1.toks) kept, turn_zipM (PySem.W.ktu_apart s1.heap.objs.size a b la py.lt), ?_, young, q⟩
    exact ⟨hz, hI, ⟨_, _, hO⟩, ⟨_, f, rfl, rfl⟩, ⟨_, g, rfl, rfl⟩⟩
  · obtain ⟨vx, _, px, _⟩ := J.tuple sx
    obtain ⟨vy, _, py, _⟩ := J.tuple sy
    refine RZ.call_zipT (show s1.heap.IsTuple a vx.toArray from px) (show s1.heap.IsTuple b vy.toArray from py) fun h' hz hI hO f g _ kept => wpAny_pyIter_zip hz ?_
    exact ⟨s1.heap.objs.size + 4, _, _, _, H1, rfl, J.kept (t' := s1.toks) kept, RZ.turn_zipT (PySem.W.ktu_apart s1.heap.objs.size a b px.lt py.lt), ⟨hz, hI, ⟨_, _, hO⟩, f, g⟩, young, q⟩
theorem pi_zipMK {X : Cx} {K : PySem.W.Frag} {e e2 : Expr} {ta : TA} {p pos tpos : Pos} {elts : List Expr} {kk : Nat} (hg : Gl X "zip") (hm : X.mg "zip" = none) (ha : PA X [e, e2] ta)
    (hs : starEach [e, e2] X.env = (false, eval e X.env) :: starEach [e2] X.env := by rfl) (hpl : (backTo pos (starEach [e2] X.env)).any (·.1) = false := by rfl) (hK : X.K = K := by rfl) :
    PI X (.Tuple elts kk tpos) (.Call (.Name "zip" p) [e, e2] [] pos) (iZipM K ta) := hK ▸ pi_zipM hg hm ha hs hpl
theorem walk_zipM {K : PySem.W.Frag} {a b : Addr} {xs ys : List V} {n : Nat} (l1 : xs.length = n) (l2 : ys.length = n) : Walk (ItzM K a b) n (fun H => SqT K H a xs ∧ SqL K H b ys) (YPair (fun i => xs[i]?) (fun i => ys[i]?)) where
  goes := fun i _ hi ⟨sx, sy⟩ => ⟨xs, ys, xs[i]'(by omega), ys[i]'(by omega), sx, sy, List.getElem?_eq_getElem _, List.getElem?_eq_getElem _⟩
  stops := fun _ ⟨sx, sy⟩ => ⟨xs, ys, sx, sy, Nat.le_of_eq l1.symm, Nat.le_of_eq l2.symm, .inl l1.symm⟩
  yields := fun _ _ _ _ _ ⟨sx, sy⟩ ⟨T, x, y, e, new, eH, fx, fy⟩ => ⟨T, x, y, e, new, eH, fx xs sx, fy ys sy⟩
theorem rd_same {H H' : Hp} {c : Addr} {u : HO} (s : Same H H') (h : Rd H c u) : Rd H' c u := h.imp (s _ _) fun ⟨o, e⟩ => ⟨o, s _ _ e⟩
/-- a sequence that is there, of whichever kind -/
def SqO (H : Hp) (a : Addr) (xs : List V) : Prop := H a = some (.lst xs) ∨ Rd H a (.tup xs)
theorem SqO.same {H H' : Hp} {a : Addr} {xs : List V} (h : SqO H a xs) (s : Same H H') : SqO H' a xs := h.imp (s _ _) (rd_same s)
/-! ### tuples that are made new -/
def rTupN (K : PySem.W.Frag) : List V → Hp → VK → Prop := fun xs H Q => ∃ p ys, xs = [.ref p] ∧ SqL K H p ys ∧ ∀ l o, H l = none → o.dict = none → Q (.ref l) (upd H l (.frz o (.tup ys)))
section
variable {X : Cx}
theorem tup_new : CallR X (.type "tuple") (rTupN X.K) := by
  intro pn st sg HH args avs QQ inv rel ⟨c, ys, ea, hseq, hQ⟩
  subst ea
  obtain ⟨_, rfl, ra⟩ := vals1 rel
  cases ra
  obtain ⟨us, ru, pl, small⟩ := inv.list hseq
  refine call_tuple_list pl.isList ?_ (by have := ru.length; simp only [List.size_toArray]; omega)
  intro h1 kept
  have J := inv.kept (t' := st.toks) kept
  have ob : ObjOk X.prog X.w (upd HH h1.objs.size (.frz { cls := .type "tuple", data := .seq us.toArray } (.tup ys))) (h1.push { cls := .type "tuple", data := .seq us.toArray }) h1.objs.size (.frz { cls := .type "tuple", data := .seq us.toArray } (.tup ys)) :=
    ⟨Heap.get?_push_size _ rfl, small, us, ru, IsTup.new _ _⟩
  exact ⟨.ref h1.objs.size, _, J.laid (t' := st.toks) (fun c o ec => Heap.get?_push_of_some _ ec) (Nat.le_refl _) ob, rfl, hQ _ _ (J.hok.fresh (Nat.le_refl _)) rfl⟩
theorem tup_newK {K : PySem.W.Frag} (hK : X.K = K := by rfl) : CallR X (.type "tuple") (rTupN K) := hK ▸ tup_new
/-- o.m(..), o a tuple that was made new -/
def tBN (r : V → List V → Hp → VK → Prop) (to : TE) (t : TA) : TE := fun σ H Q => to σ H fun x H1 => (∃ c o xs, x = .ref c ∧ H1 c = some (.frz o (.tup xs)) ∧ o.dict = none) ∧ t σ H1 fun vs H2 => r x vs H2 Q
variable {o e : Expr} {es : List Expr} {to : TE} {t : TA} {name : Str} {apos cpos : Pos} {id : String} {r : V → List V → Hp → VK → Prop}
theorem pe_bmN (pa : PlainAttrs "tuple") (slot : Slot "tuple" name id) (hty : typeOf (.builtin id) = pure (.type "method_descriptor")) (hm : MtR X id r) (ho : PE X o to) (ha : PA X (e :: es) t)
    (hbase : attributeBase o name X.env (eval o X.env) = eval o X.env := by rfl) (hfew : ((backTo cpos (starEach (e :: es) X.env)).all (fun x => !x.1) && (backToKw cpos (keywordEach [] X.env)).all (fun x => x.1.isSome) && decide ((e :: es).length + ([] : List Keyword).length + (if ([] : List Keyword).isEmpty then 0 else 1) < 30)) = true := by rfl)
    (hline : (apos.endLine == cpos.line) = true := by rfl)
    (hs : starEach (e :: es) X.env = (false, eval e X.env) :: starEach es X.env := by rfl)
    (hplain : (backTo cpos (starEach es X.env)).any (·.1) = false := by rfl) : PE X (.Call (.Attribute o name apos) (e :: es) [] cpos) (tBN r to t) := by
  constructor
  intro pn st sg HH QQ inv h
  refine wpAny_Call_method_late hbase hfew hline rfl (thn (ho.run pn st sg HH _ inv h) ?_)
  rintro v s1 ⟨x, H1, J, rv, ⟨c, ob, xs, rfl, eo, ed⟩, q⟩
  cases rv
  obtain ⟨here, _, us, _, o2, ho2, hc2, _⟩ := (show ObjOk X.prog X.w H1 s1.heap c (.frz ob (.tup xs)) from J.hok c _ eo)
  refine ⟨"tuple", id, pa, slot, hty, ⟨o2, ho2, hc2⟩, (fun a ea => ?_), ?_⟩
  · cases ea
    exact ⟨ob, here, ed⟩
  have run := ha.run cpos pn s1 sg H1 _ J q
  rw [hs] at run ⊢
  refine Calls.callWith_builtin ?_ (Calls.evalArgs_plain ?_)
  · exact (Bool.false_or _).trans hplain
  · exact thn run fun us2 s2 ⟨ws, H2, J2, rel, q2⟩ => hm pn s2 sg H2 (.ref c) ws _ us2 QQ J2 rfl rel q2
end
end WU

set_option maxRecDepth 100000
set_option maxHeartbeats 8000000
namespace WU
open PySem PySem.Spec PyProof.Rows L2
/-! ### lists that are built turn by turn -/
theorem paired_mono {α β : Type} {F G : α → β → Prop} (f : ∀ a b, F a b → G a b) : ∀ {l : List α} {m : List β}, Paired F l m → Paired G l m
  | _, _, .nil => .nil
  | _, _, .cons h t => .cons (f _ _ h) (paired_mono f t)
theorem paired_len {α β : Type} {F : α → β → Prop} : ∀ {l : List α} {m : List β}, Paired F l m → l.length = m.length
  | _, _, .nil => rfl
  | _, _, .cons _ t => congrArg Nat.succ (paired_len t)
theorem paired_at {α β : Type} {F : α → β → Prop} : ∀ {l : List α} {m : List β} {i : Nat} {x : α}, Paired F l m → l[i]? = some x → ∃ y, m[i]? = some y ∧ F x y
  | _, _, _, _, .nil, e => by cases e
  | _, _, 0, _, .cons h _, e => by
    cases e
    exact ⟨_, rfl, h⟩
  | _, _, i + 1, _, .cons _ t, e => paired_at (i := i) t e
theorem paired_of {α β : Type} {F : α → β → Prop} : ∀ {l : List α} {m : List β} {i : Nat} {y : β}, Paired F l m → m[i]? = some y → ∃ x, l[i]? = some x ∧ F x y
  | _, _, _, _, .nil, e => by cases e
  | _, _, 0, _, .cons h _, e => by
    cases e
    exact ⟨_, rfl, h⟩
  | _, _, i + 1, _, .cons _ t, e => paired_of (i := i) t e
theorem paired_app {α β : Type} {F : α → β → Prop} : ∀ {l l' : List α} {m m' : List β}, Paired F l m → Paired F l' m' → Paired F (l ++ l') (m ++ m')
  | _, _, _, _, .nil, t => t
  | _, _, _, _, .cons h s, t => .cons h (paired_app s t)
theorem paired_take {α β : Type} {F : α → β → Prop} : ∀ {l : List α} {m : List β} (k : Nat), Paired F l m → Paired F (l.take k) (m.take k)
  | _, _, _, .nil => by rw [List.take_nil, List.take_nil]; exact .nil
  | _, _, 0, _ => .nil
  | _, _, k + 1, .cons h t => .cons h (paired_take k t)
theorem paired_drop {α β : Type} {F : α → β → Prop} : ∀ {l : List α} {m : List β} (k : Nat), Paired F l m → Paired F (l.drop k) (m.drop k)
  | _, _, _, .nil => by rw [List.drop_nil, List.drop_nil]; exact .nil
  | _, _, 0, h => h
  | _, _, k + 1, .cons _ t => paired_drop k t
/-- the relation stays where all but one other object stays -/
def Stab {α : Type} (F : Hp → V → α → Prop) : Prop := ∀ (D : Addr) (H H' : Hp) (y : V) (z : α), (∀ b o, b ≠ D → H b = some o → H' b = some o) → y ≠ .ref D → F H y z → F H' y z
theorem Stab.same {α : Type} {F : Hp → V → α → Prop} (st : Stab F) {H H' : Hp} {y : V} {z : α} (s : Same H H') {p : Addr} (n : y ≠ .ref p) (f : F H y z) : F H' y z := st p H H' y z (fun b o _ e => s b o e) n f
structure Bld {α : Type} (F : Hp → V → α → Prop) (H1 : Hp) (D : Addr) (zs : List α) (H : Hp) : Prop where
  same : Same H1 H
  ex : ∃ ys, H D = some (.lst ys) ∧ Paired (fun y z => F H y z ∧ y ≠ .ref D) ys zs
section
variable {α : Type} {F : Hp → V → α → Prop} {H1 H H' : Hp} {D : Addr} {zs : List α}
theorem Bld.start (hD : H1 D = none) : Bld F H1 D [] (upd H1 D (.lst [])) := ⟨same_new hD, [], upd_same, .nil⟩
theorem Bld.skip (b : Bld F H1 D zs H) (st : Stab F) (s : Same H H') : Bld F H1 D zs H' := by
  obtain ⟨s1, ys, e, p⟩ := b
  exact ⟨s1.trans s, ys, s _ _ e, paired_mono (fun y z q => ⟨st.same s q.2 q.1, q.2⟩) p⟩
theorem Bld.put {y : V} {z : α} (b : Bld F H1 D zs H) (st : Stab F) (hD : H1 D = none) (s : Same H H') (f : F H' y z) (ny : y ≠ .ref D) (hl : zs.length < sizeLine) :
    ∃ acc, H' D = some (.lst acc) ∧ acc.length < sizeLine ∧ Bld F H1 D (zs ++ [z]) (upd H' D (.lst (acc ++ [y]))) := by
  obtain ⟨s1, ys, e, p⟩ := b.skip st s
  refine ⟨ys, e, by rw [paired_len p]; exact hl, fun b o h => ?_, ys ++ [y], upd_same, ?_⟩
  · rw [upd_ne (ne_of_none h hD)]
    exact s1 _ _ h
  · have k : ∀ b o, b ≠ D → H' b = some o → upd H' D (.lst (ys ++ [y])) b = some o := fun b o n h => by rw [upd_ne n]; exact h
    exact paired_app (paired_mono (fun y z q => ⟨st D _ _ _ _ k q.2 q.1, q.2⟩) p) (.cons ⟨st D _ _ _ _ k ny f, ny⟩ .nil)
theorem Bld.fin (b : Bld F H1 D zs H) : Same H1 H ∧ ∃ ys, H D = some (.lst ys) ∧ Paired (F H) ys zs := by
  obtain ⟨s1, ys, e, p⟩ := b
  exact ⟨s1, ys, e, paired_mono (fun _ _ q => q.1) p⟩
end
/-- numbers as they are -/
def FI : Hp → V → Int → Prop := fun _ y z => y = .int z
theorem stab_FI : Stab FI := fun _ _ _ _ _ _ _ f => f
def FB : Hp → V → Bool → Prop := fun _ y z => y = .bl z
theorem stab_FB : Stab FB := fun _ _ _ _ _ _ _ f => f
theorem fi_map {H : Hp} : ∀ {ys : List V} {zs : List Int}, Paired (FI H) ys zs → ys = zs.map V.int
  | _, _, .nil => rfl
  | _, _, .cons h t => by
    rw [List.map_cons, fi_map t]
    congr 1
theorem fb_map {H : Hp} : ∀ {ys : List V} {zs : List Bool}, Paired (FB H) ys zs → ys = zs.map V.bl
  | _, _, .nil => rfl
  | _, _, .cons h t => by
    rw [List.map_cons, fb_map t]
    congr 1
/-- a row: a tuple of ints that is there -/
def FT : Hp → V → List Int → Prop := fun H y z => ∃ c, y = .ref c ∧ Rd H c (.tup (z.map V.int))
theorem sqT {K : PySem.W.Frag} {H : Hp} {c : Addr} {xs : List V} (h : Rd H c (.tup xs)) : SqT K H c xs := .inl h
theorem stab_FT : Stab FT := fun D H H' y z k n ⟨c, e, h⟩ => ⟨c, e, h.imp (k _ _ (fun q => n (by rw [e, q]))) fun ⟨o, h⟩ => ⟨o, k _ _ (fun q => n (by rw [e, q])) h⟩⟩
theorem FT.same {H H' : Hp} {y : V} {z : List Int} (h : FT H y z) (s : Same H H') : FT H' y z := by
  obtain ⟨c, e, h⟩ := h
  exact ⟨c, e, rd_same s h⟩
theorem rd_ne {H : Hp} {c D : Addr} {u : HO} (h : Rd H c u) (n : H D = none) : c ≠ D := by
  intro q
  subst q
  rcases h with h | ⟨o, h⟩ <;> rw [h] at n <;> cases n
theorem rd_neL {H : Hp} {c D : Addr} {xs ys : List V} (h : Rd H c (.tup ys)) (n : H D = some (.lst xs)) : c ≠ D := by
  intro q
  subst q
  rcases h with h | ⟨o, h⟩ <;> rw [h] at n <;> cases n
theorem FT.ne {H : Hp} {y : V} {z : List Int} {D : Addr} (h : FT H y z) (n : H D = none) : y ≠ .ref D := by
  obtain ⟨c, rfl, h⟩ := h
  exact fun q => rd_ne h n (V.ref.inj q)
theorem FT.neL {H : Hp} {y : V} {z : List Int} {D : Addr} {xs : List V} (h : FT H y z) (n : H D = some (.lst xs)) : y ≠ .ref D := by
  obtain ⟨c, rfl, h⟩ := h
  exact fun q => rd_neL h n (V.ref.inj q)
theorem FT.new {H : Hp} {p : Addr} {z : List Int} : FT (upd H p (.tup (z.map V.int))) (.ref p) z := ⟨p, rfl, .inl upd_same⟩
/-- a row that was made new: a tuple without a dict -/
def FN : Hp → V → List Int → Prop := fun H y z => ∃ c o, y = .ref c ∧ H c = some (.frz o (.tup (z.map V.int))) ∧ o.dict = none
theorem FN.ft {H : Hp} {y : V} {z : List Int} (h : FN H y z) : FT H y z := by
  obtain ⟨c, o, e, h, _⟩ := h
  exact ⟨c, e, .inr ⟨o, h⟩⟩
theorem stab_FN : Stab FN := fun D H H' y z k n ⟨c, o, e, h, d⟩ => ⟨c, o, e, k _ _ (fun q => n (by rw [e, q])) h, d⟩
theorem FN.same {H H' : Hp} {y : V} {z : List Int} (h : FN H y z) (s : Same H H') : FN H' y z := by
  obtain ⟨c, o, e, h, d⟩ := h
  exact ⟨c, o, e, s _ _ h, d⟩
theorem FN.new {H : Hp} {p : Addr} {o : Obj} {z : List Int} (d : o.dict = none) : FN (upd H p (.frz o (.tup (z.map V.int)))) (.ref p) z := ⟨p, o, rfl, upd_same, d⟩
/-- what is told of rows: as tuples, or as tuples that were made new -/
structure Good (F : Hp → V → List Int → Prop) : Prop where
  stab : Stab F
  same : ∀ {H H' y z}, F H y z → Same H H' → F H' y z
  ofN : ∀ {H y z}, FN H y z → F H y z
  toT : ∀ {H y z}, F H y z → FT H y z
theorem good_T : Good FT := ⟨stab_FT, FT.same, FN.ft, id⟩
theorem good_N : Good FN := ⟨stab_FN, FN.same, id, FN.ft⟩
/-- a tuple of rows -/
def MT (H : Hp) (v : V) (rows : List (List Int)) : Prop := ∃ a ts, v = .ref a ∧ H a = some (.tup ts) ∧ Paired (FT H) ts rows
theorem MT.same {H H' : Hp} {v : V} {rows : List (List Int)} (h : MT H v rows) (s : Same H H') : MT H' v rows := by
  obtain ⟨a, ts, e, h, p⟩ := h
  exact ⟨a, ts, e, s _ _ h, paired_mono (fun _ _ q => q.same s) p⟩
/-- a row as a plain tuple -/
def FQ : Hp → V → List Int → Prop := fun H y z => ∃ c, y = .ref c ∧ H c = some (.tup (z.map V.int))
theorem stab_FQ : Stab FQ := fun D H H' y z k n ⟨c, e, h⟩ => ⟨c, e, k _ _ (fun q => n (by rw [e, q])) h⟩
theorem FQ.same {H H' : Hp} {y : V} {z : List Int} (h : FQ H y z) (s : Same H H') : FQ H' y z := by
  obtain ⟨c, e, h⟩ := h
  exact ⟨c, e, s _ _ h⟩
theorem FQ.ft {H : Hp} {y : V} {z : List Int} (h : FQ H y z) : FT H y z := by
  obtain ⟨c, e, h⟩ := h
  exact ⟨c, e, .inl h⟩
theorem FQ.ne {H : Hp} {y : V} {z : List Int} {D : Addr} (h : FQ H y z) (n : H D = none) : y ≠ .ref D := h.ft.ne n
theorem FQ.neL {H : Hp} {y : V} {z : List Int} {D : Addr} {xs : List V} (h : FQ H y z) (n : H D = some (.lst xs)) : y ≠ .ref D := h.ft.neL n
theorem FQ.new {H : Hp} {p : Addr} {z : List Int} : FQ (upd H p (.tup (z.map V.int))) (.ref p) z := ⟨p, rfl, upd_same⟩
def MQ (H : Hp) (v : V) (rows : List (List Int)) : Prop := ∃ a ts, v = .ref a ∧ H a = some (.tup ts) ∧ Paired (FQ H) ts rows
theorem MQ.same {H H' : Hp} {v : V} {rows : List (List Int)} (h : MQ H v rows) (s : Same H H') : MQ H' v rows := by
  obtain ⟨a, ts, e, h, p⟩ := h
  exact ⟨a, ts, e, s _ _ h, paired_mono (fun _ _ q => q.same s) p⟩
theorem MQ.mt {H : Hp} {v : V} {rows : List (List Int)} (h : MQ H v rows) : MT H v rows := by
  obtain ⟨a, ts, e, h, p⟩ := h
  exact ⟨a, ts, e, h, paired_mono (fun _ _ q => q.ft) p⟩
/-- a tuple of rows that were made new -/
def MN (H : Hp) (v : V) (rows : List (List Int)) : Prop := ∃ a ts, v = .ref a ∧ H a = some (.tup ts) ∧ Paired (FN H) ts rows
theorem MN.same {H H' : Hp} {v : V} {rows : List (List Int)} (h : MN H v rows) (s : Same H H') : MN H' v rows := by
  obtain ⟨a, ts, e, h, p⟩ := h
  exact ⟨a, ts, e, s _ _ h, paired_mono (fun _ _ q => q.same s) p⟩
theorem MN.mt {H : Hp} {v : V} {rows : List (List Int)} (h : MN H v rows) : MT H v rows := by
  obtain ⟨a, ts, e, h, p⟩ := h
  exact ⟨a, ts, e, h, paired_mono (fun _ _ q => q.ft) p⟩
/-! ### as data -/
def rowP (r : List Int) : PyData := .tuple (r.map PyData.int)
def MD (rows : List (List Int)) : PyData := .tuple (rows.map rowP)
theorem FT.dp {K : PySem.W.Frag} {H : Hp} {y : V} {z : List Int} (h : FT H y z) : Dp K H y (rowP z) := by
  obtain ⟨c, rfl, h⟩ := h
  exact .tup (sqT h) (dps_ints z)
theorem fts_dp {K : PySem.W.Frag} {H : Hp} : ∀ {ys : List V} {zs : List (List Int)}, Paired (FT H) ys zs → DpAll K H ys (zs.map rowP)
  | _, _, .nil => .nil
  | _, _, .cons h t => .cons h.dp (fts_dp t)
theorem MT.dp {K : PySem.W.Frag} {H : Hp} {v : V} {rows : List (List Int)} (h : MT H v rows) : Dp K H v (MD rows) := by
  obtain ⟨a, ts, rfl, h, p⟩ := h
  exact .tup (SqT.of h) (fts_dp p)
def rowD (p n : Int) : PyData → Bool
  | .tuple ds => letsD p n (.tuple ds)
  | _ => false
def matD (p n : Int) : PyData → Bool
  | .tuple ds => ds.all (rowD p n)
  | _ => false
def membs : PyData → List PyData
  | .tuple ds => ds
  | .list ds => ds
  | _ => []
def widD : PyData → Int
  | .tuple (.tuple ds :: _) => ds.length
  | _ => 0
def smallM (d : PyData) : Prop := smallD d ∧ ∀ r ∈ membs d, smallD r
theorem row_lets {p : Int} {n : Nat} {r : List Int} : rowD p n (rowP r) = true ↔ Ltr p n r := by
  show (decide (((r.map PyData.int).length : Int) = (n : Int)) && (r.map PyData.int).all (belD p)) = true ↔ _
  rw [Bool.and_eq_true, List.length_map, List.all_map, List.all_eq_true]
  constructor
  · rintro ⟨h1, h2⟩
    refine ⟨by have := of_decide_eq_true h1; omega, fun i hi => ?_⟩
    have := h2 i hi
    have e : (decide (0 ≤ i) && decide (i < p)) = true := this
    obtain ⟨a, b⟩ := and2 e
    exact ⟨of_decide_eq_true a, of_decide_eq_true b⟩
  · rintro ⟨h1, h2⟩
    refine ⟨decide_eq_true (by omega), fun i hi => ?_⟩
    obtain ⟨a, b⟩ := h2 i hi
    show (decide (0 ≤ i) && decide (i < p)) = true
    rw [decide_eq_true a, decide_eq_true b]
    rfl
theorem mat_rows {p : Int} {n : Nat} {rows : List (List Int)} (h : ∀ r ∈ rows, Ltr p n r) : matD p n (MD rows) = true := by
  show (rows.map rowP).all (rowD p n) = true
  rw [List.all_map, List.all_eq_true]
  exact fun r hr => row_lets.mpr (h r hr)
theorem wid_rows {p : Int} {n : Nat} {rows : List (List Int)} (h : ∀ r ∈ rows, Ltr p n r) : matD p (widD (MD rows)) (MD rows) = true := by
  cases rows with
  | nil => rfl
  | cons r t =>
    have : widD (MD (r :: t)) = (n : Int) := by
      show (((r.map PyData.int).length : Nat) : Int) = _
      rw [List.length_map, (h r (List.mem_cons_self)).1]
    rw [this]
    exact mat_rows h
theorem small_rows {p : Int} {n : Nat} {rows : List (List Int)} (h : ∀ r ∈ rows, Ltr p n r) (hn : n ≤ 200) (hm : rows.length ≤ 200) : smallM (MD rows) := by
  refine ⟨by show (rows.map rowP).length ≤ 200; rw [List.length_map]; exact hm, fun r hr => ?_⟩
  obtain ⟨t, ht, rfl⟩ := List.mem_map.mp (show r ∈ rows.map rowP from hr)
  show (t.map PyData.int).length ≤ 200
  rw [List.length_map, (h t ht).1]
  exact hn
end WU

set_option maxRecDepth 100000
set_option maxHeartbeats 8000000
namespace WU
open PySem PySem.Spec PyProof.Rows L2
structure Blt4 (mg : Str → Option Value) : Prop extends Blt3 mg where
  any : mg "any" = none
  zip : mg "zip" = none
  max : mg "max" = none
  min : mg "min" = none
section
variable {P : Program} {w : World} {K : PySem.W.Frag} {mg : Str → Option Value} {base : Heap} {S : Addr}
def isTup : PyData → Bool
  | .tuple _ => true
  | _ => false
theorem kit_tup {d : PyData} (nd : ∀ kvs, d ≠ .dict kvs) : PySem.W.kitOne K (.type (tyName d)) (.type "tuple") = some (isTup d) := by
  cases d with
  | none => exact kit_ty (show kitB "NoneType" "tuple" = some false by decide +kernel)
  | bool b => exact kit_ty (show kitB "bool" "tuple" = some false by decide +kernel)
  | int i => exact kit_ty (show kitB "int" "tuple" = some false by decide +kernel)
  | str x => exact kit_ty (show kitB "str" "tuple" = some false by decide +kernel)
  | list xs => exact kit_ty (show kitB "list" "tuple" = some false by decide +kernel)
  | tuple xs => exact kit_ty (show kitB "tuple" "tuple" = some true by decide +kernel)
  | dict kvs => exact absurd rfl (nd kvs)
def spRow (K : PySem.W.Frag) : Sp := fun vs H Q _ => ∃ (p n : Int) (v : V) (d : PyData), vs = [v, .int p, .int n] ∧ Dp K H v d ∧ smallD d ∧ ∀ H', Same H H' → Q (.bl (rowD p n d)) H'
theorem scRow : FnScope ["value", "p", "columns"] ["value", "p", "columns"] (defScope s_is_row) := ⟨rfl, rfl, rfl, by decide +kernel, rfl, by decide +kernel, by decide +kernel⟩
theorem ok_row {f f1 : Addr} {fd fd1 : FuncData} (F : FnS K "_is_row" s_is_row f fd) (B : Blt4 mg) (CL : Cal P w K mg base 4 "are_letters" f1 fd1 ["p", "count", "value"] (spLets K)) : FnOk P w K mg base (L2.CX P w) 5 f fd ["value", "p", "columns"] (spRow K) := by
  refine F.ok scRow (fun vs H Q E h => ?_) (fun cdv A outer s H vs Q E hr h => ?_)
  · obtain ⟨p, n, v, d, rfl, _⟩ := h
    rfl
  · obtain ⟨p, n, v, d, rfl, hd, hz, k⟩ := h
    refine ⟨_, (pss_one (ps_ret (pe_and (pe_callB call_isi (by rfl) B.isi (by decide +kernel) (pa_cons (pv 0) (pa_cons (pe_bltn (v := .ty "tuple") (by rfl) B.tuple (by decide +kernel) rfl) pa_nil))) (pe_one (pe_cal CL hr (pa_cons (pv 1) (pa_cons (pv 2) (pa_cons (pv 0) pa_nil))) passU))))), ?_⟩
    refine ⟨_, rfl, _, _, _, _, _, rfl, .ty "tuple", dp_ty hd, kit_tup (dp_nodict hd), _, rfl, ?_⟩
    cases hi : isTup d with
    | false =>
      refine iteF ?_
      have := k H (Same.refl H)
      cases d <;> first | exact this | cases hi
    | true =>
      refine iteT ⟨_, rfl, _, rfl, _, rfl, p, n, v, d, rfl, hd, hz, fun H' s1 => ?_⟩
      have := k H' s1
      cases d <;> first | exact this | cases hi
def spMat (K : PySem.W.Frag) : Sp := fun vs H Q _ => ∃ (p n : Int) (v : V) (d : PyData), vs = [v, .int p, .int n] ∧ Dp K H v d ∧ smallM d ∧ ∀ H', Same H H' → Q (.bl (matD p n d)) H'
theorem scMat : FnScope ["value", "p", "columns", "row"] ["value", "p", "columns"] (defScope s_is_matrix) := ⟨rfl, rfl, rfl, by decide +kernel, rfl, by decide +kernel, by decide +kernel⟩
theorem ok_mat {f f1 : Addr} {fd fd1 : FuncData} (F : FnS K "is_matrix" s_is_matrix f fd) (B : Blt4 mg) (CR : Cal P w K mg base 5 "_is_row" f1 fd1 ["value", "p", "columns"] (spRow K)) : FnOk P w K mg base (L2.CX P w) 6 f fd ["value", "p", "columns"] (spMat K) := by
  refine F.ok scMat (fun vs H Q E h => ?_) (fun cdv A outer s H vs Q E hr h => ?_)
  · obtain ⟨p, n, v, d, rfl, _⟩ := h
    rfl
  · obtain ⟨p, n, v, d, rfl, hd, hz, k⟩ := h
    have nd := scMat.nd
    refine ⟨_, (pss_one (ps_ret (pe_and (pe_callB call_isi (by rfl) B.isi (by decide +kernel) (pa_cons (pv 0) (pa_cons (pe_bltn (v := .ty "tuple") (by rfl) B.tuple (by decide +kernel) rfl) pa_nil))) (pe_one (pe_callB (cr_all rfl) (by rfl) B.all (by decide +kernel) (pa_cons (pe_lc (own := [("row", 3)]) (g := gName 3) (by rfl) nd (pi_tup (pv 0)) (blkOk_by (own := [("row", 3)]) (N := ["value", "p", "columns", "row"]) (sc := defScope s_is_matrix) (by decide +kernel)) (fun _ _ _ _ _ => (pg_name (i := 3) nd rfl (Or.inl rfl))) (fun _ _ _ _ _ => pts_nil) (fun _ _ _ _ _ => (pe_cal CR hr (pa_cons (pv 3) (pa_cons (pv 1) (pa_cons (pv 2) pa_nil))) passU))) pa_nil)))))), ?_⟩
    refine ⟨_, rfl, _, _, _, _, _, rfl, .ty "tuple", dp_ty hd, kit_tup (dp_nodict hd), _, rfl, ?_⟩
    cases hi : isTup d with
    | false =>
      refine iteF ?_
      have := k H (Same.refl H)
      cases d <;> first | exact this | cases hi
    | true =>
      refine iteT ?_
      cases hd with
      | tup hs ha =>
        rename_i a xs ds
        refine ⟨_, rfl, a, rfl, ⟨_, hs⟩, fun D hD => lc_tup (K := K) (a := a) (xs := xs) (fun i H' => Bld FB H D ((ds.take i).map (rowD p n)) H') (Bld.start hD) (fun i H' _ b => sqT_same hs b.same) ?_ ?_⟩
        · rintro i x H' hx b
          obtain ⟨e, he, hy⟩ := dps_at ha hx
          have hl : i < ds.length := (List.getElem?_eq_some_iff.mp he).1
          have hz1 : ds.length ≤ 200 := hz.1
          refine ⟨rfl, _, rfl, _, rfl, _, rfl, p, n, x, e, rfl, dp_same b.same hy, hz.2 e (List.mem_of_getElem? he), fun H2 s2 => ?_⟩
          have r := b.put (y := .bl (rowD p n e)) (z := rowD p n e) stab_FB hD s2 rfl (by intro z; cases z) (by rw [List.length_map, List.length_take]; exact small1000 (by omega))
          rw [List.take_succ, he, List.map_append]
          exact r
        · intro H' b
          obtain ⟨s1, ys, eD, py⟩ := b.fin
          rw [dps_len ha, List.take_length] at py
          have ey := fb_map py
          subst ey
          refine ⟨D, ds.map (rowD p n), rfl, SqL.of eD, ?_⟩
          have ea : (ds.map (rowD p n)).all id = ds.all (rowD p n) := by rw [List.all_map]; rfl
          rw [ea]
          exact k H' s1
      | _ => cases hi
def spWid (K : PySem.W.Frag) : Sp := fun vs H Q _ => ∃ (v : V) (d : PyData), vs = [v] ∧ Dp K H v d ∧ Q (.int (widD d)) H
theorem scWid : FnScope ["rows"] ["rows"] (defScope s_width_of_rows) := ⟨rfl, rfl, rfl, by decide +kernel, rfl, by decide +kernel, by decide +kernel⟩
theorem ok_wid {f : Addr} {fd : FuncData} (F : FnS K "width_of_rows" s_width_of_rows f fd) (B : Blt4 mg) : FnOk P w K mg base (L2.CX P w) 1 f fd ["rows"] (spWid K) := by
  refine F.ok scWid (fun vs H Q E h => ?_) (fun cdv A outer s H vs Q E hr h => ?_)
  · obtain ⟨v, d, rfl, _⟩ := h
    rfl
  · obtain ⟨v, d, rfl, hd, k⟩ := h
    refine ⟨_, (pss_cons (ps_if (PW.pt (pw_and (pt_val (pe_callB call_isi (by rfl) B.isi (by decide +kernel) (pa_cons (pv 0) (pa_cons (pe_bltn (v := .ty "tuple") (by rfl) B.tuple (by decide +kernel) rfl) pa_nil)))) (pw_and (pt_cmpR op_gt (pe_callB call_len_seq (by rfl) B.len (by decide +kernel) (pa_cons (pv 0) pa_nil)) pe_int (nomark _)) (pw_and1 (pt_val (pe_callB call_isi (by rfl) B.isi (by decide +kernel) (pa_cons (pe_ix ix_tup (pv 0) pe_int (fun _ _ => rfl)) (pa_cons (pe_bltn (v := .ty "tuple") (by rfl) B.tuple (by decide +kernel) rfl) pa_nil)))))))) (pss_one (ps_ret (pe_callB call_len_seq (by rfl) B.len (by decide +kernel) (pa_cons (pe_ix ix_tup (pv 0) pe_int (fun _ _ => rfl)) pa_nil)))) pss_nil)
      (pss_one (ps_ret pe_int))), ?_⟩
    refine ⟨_, rfl, _, _, _, _, _, rfl, .ty "tuple", dp_ty hd, kit_tup (dp_nodict hd), _, rfl, ?_⟩
    cases hd with
    | tup hs ha =>
      rename_i a xs ds
      refine iteT ⟨_, rfl, a, xs, rfl, .inr hs, _, _, rfl, rfl, _, rfl, ?_⟩
      cases ha with
      | nil => exact iteFb (decide_eq_false (by decide)) (iteF k)
      | cons h1 h2 =>
        rename_i x xs e ds
        refine iteTb (decide_eq_true (by show ((0 : Int) < ((x :: xs).length : Nat)); rw [List.length_cons]; omega)) ?_
        refine ⟨_, rfl, a, _, _, x, rfl, rfl, hs, atI_nat (j := 0) rfl, _, _, _, _, _, rfl, .ty "tuple", dp_ty h1, kit_tup (dp_nodict h1), _, rfl, ?_⟩
        cases h1 with
        | tup hs1 ha1 =>
          rename_i c ys es
          refine iteT ⟨_, rfl, a, _, _, _, rfl, rfl, hs, atI_nat (j := 0) rfl, c, ys, rfl, .inr hs1, ?_⟩
          rw [dps_len ha1]
          exact k
        | _ => exact iteF k
    | _ => exact iteF k
end
end WU

set_option maxRecDepth 100000
set_option maxHeartbeats 8000000
namespace WU
open PySem PySem.Spec PyProof.Rows L2
section
variable {P : Program} {w : World} {K : PySem.W.Frag} {mg : Str → Option Value} {base : Heap} {S : Addr}
theorem errs_same {C : Addr} {f : Str} {v : V} {H H' : Hp} {E : XK} (h : Errs C f v H E) (s : Same H H') : Errs C f v H' E := fun d H2 s2 n hd => h d H2 (s.trans s2) (s.free n) hd
/-- check_matrix(p, rows) -/
def spChk (K : PySem.W.Frag) : Sp := fun vs H Q E => ∃ (v u : V), vs = [v, u] ∧ Ty3 K H v ∧ (isFld v = false → Errs (He.ga K "InvalidNumber") "value" v H E) ∧
  ∀ p, v = .int p → isFld v = true → ∃ d, Dp K H u d ∧ smallM d ∧ (matD p (widD d) d = false → Errs (He.ga K "InvalidMatrix") "value" u H E) ∧ (matD p (widD d) d = true → ∀ H', Same H H' → Q .non H')
theorem scChk : FnScope ["p", "rows"] ["p", "rows"] (defScope s_check_matrix) := ⟨rfl, rfl, rfl, by decide +kernel, rfl, by decide +kernel, by decide +kernel⟩
theorem ok_chk {f f1 f2 f3 : Addr} {fd fd1 fd2 fd3 fdI : FuncData} (F : FnS K "check_matrix" s_check_matrix f fd) (CF : Cal P w K mg base 3 "check_field" f1 fd1 ["p"] (spCheck K)) (CM : Cal P w K mg base 6 "is_matrix" f2 fd2 ["value", "p", "columns"] (spMat K))
    (CW : Cal P w K mg base 1 "width_of_rows" f3 fd3 ["rows"] (spWid K)) (T : Exc1 K mg "InvalidMatrix" "value")
    (FI : FnOk P w K mg base (L2.CX P w) 1 (He.ma K (He.ga K "InvalidMatrix") "__init__") fdI ["self", "value"] (spInit1 K (He.ga K "InvalidMatrix") "value")) (bI : Binds K fdI ["self", "value"] []) :
    FnOk P w K mg base (L2.CX P w) 7 f fd ["p", "rows"] (spChk K) := by
  refine F.ok scChk (fun vs H Q E h => ?_) (fun cdv A outer s H vs Q E hr h => ?_)
  · obtain ⟨v, u, rfl, _⟩ := h
    rfl
  · obtain ⟨v, u, rfl, hv, kF, kk⟩ := h
    refine ⟨_, (pss_cons (ps_expr (pe_cal (E := E) CF (hr.mono (by decide)) (pa_cons (pv 0) pa_nil) (passes_call (takes_of rfl rfl rfl rfl) (fun _ _ _ _ h => h))))
      (pss_one (ps_if (pt_not (pt_val (pe_cal CM (hr.mono (by decide)) (pa_cons (pv 1) (pa_cons (pv 0) (pa_cons (pe_cal CW (hr.mono (by decide)) (pa_cons (pv 1) pa_nil) passU) pa_nil))) passU))) (pss_one (ps_raise1 rfl (takes_of rfl rfl rfl rfl) T FI bI (hr.mono (by decide)) (pa_cons (pv 1) pa_nil))) pss_nil))), ?_⟩
    refine ⟨_, rfl, v, rfl, hv, fun e => ?_, kF⟩
    cases v with
    | int p =>
      obtain ⟨d, hd, hz, kN, kY⟩ := kk p rfl e
      refine ⟨_, rfl, _, rfl, _, rfl, u, d, rfl, hd, p, widD d, u, d, rfl, hd, hz, fun H1 s1 => ⟨_, rfl, ?_⟩⟩
      cases em : matD p (widD d) d with
      | true => exact iteF (kY em H1 s1)
      | false => exact iteT ⟨_, rfl, u, rfl, errs_same (kN em) s1⟩
    | _ => cases e
/-- _less(p, row, factor, lead) -/
def spLess : Sp := fun vs H Q _ => ∃ (p f : Int) (n : Nat) (v u : V) (r l : List Int), vs = [.int p, v, .int f, u] ∧ FT H v r ∧ FT H u l ∧ p ∈ primes ∧ 0 ≤ f ∧ f < p ∧ r.length = n ∧ l.length = n ∧ n ≤ 200 ∧ (∀ x ∈ l, 0 ≤ x ∧ x < p) ∧
  ∀ y H', Same H H' → FN H' y (less p r f l) → Q y H'
theorem walk_zipT {a b : Addr} {xs ys : List V} {n : Nat} (hn : n = min xs.length ys.length) : Walk (RZ.ItzT K a b) n (fun H => SqT K H a xs ∧ SqT K H b ys) (YPair (fun i => xs[i]?) (fun i => ys[i]?)) where
  goes := fun i _ hi ⟨sx, sy⟩ => ⟨xs, ys, xs[i]'(by omega), ys[i]'(by omega), sx, sy, List.getElem?_eq_getElem _, List.getElem?_eq_getElem _⟩
  stops := fun _ ⟨sx, sy⟩ => ⟨xs, ys, sx, sy, by omega⟩
  yields := fun _ _ _ _ _ ⟨sx, sy⟩ ⟨T, x, y, e, new, eH, fx, fy⟩ => ⟨T, x, y, e, new, eH, fx xs sx, fy ys sy⟩
theorem take_map_at (n : Nat) {r : List Int} {i : Nat} (hi : i < r.length) : (r.map V.int)[i]? = some (.int (at0 r i)) := by
  rw [List.getElem?_map, at0_some hi]
  rfl
theorem take_at0 {r : List Int} {i : Nat} (hi : i < r.length) : r.take (i + 1) = r.take i ++ [at0 r i] := by
  rw [List.take_succ, at0_some hi]
  rfl
end
end WU

set_option maxRecDepth 100000
set_option maxHeartbeats 8000000
namespace WU
open PySem PySem.Spec PyProof.Rows L2
section
variable {P : Program} {w : World} {K : PySem.W.Frag} {mg : Str → Option Value} {base : Heap} {S : Addr}
/-- _led_by_one(p, row, column) -/
def spLed : Sp := fun vs H Q _ => ∃ (p : Int) (n j : Nat) (v : V) (r : List Int), vs = [.int p, v, .int j] ∧ FT H v r ∧ p ∈ primes ∧ Ltr p n r ∧ n ≤ 200 ∧ j < n ∧ hot j r = true ∧ ∀ y H', Same H H' → FN H' y (led p r j) → Q y H'
theorem isBel_in {p a : Int} (h0 : 0 ≤ a) (h1 : a < p) : isBel p (.int a) = true := by
  show (decide (0 ≤ a) && decide (a < p)) = true
  rw [decide_eq_true h0, decide_eq_true h1]
  rfl
theorem iteND {c : Prop} [Decidable c] {A B : Prop} (h1 : ¬ c → A) (h2 : c → B) : if (!decide c) = true then A else B := by
  by_cases h : c
  · rw [decide_eq_true h]
    exact iteF (h2 h)
  · rw [decide_eq_false h]
    exact iteT (h1 h)
/-- a list of rows -/
def LX (F : Hp → V → List Int → Prop) (H : Hp) (v : V) (rows : List (List Int)) : Prop := ∃ a ts, v = .ref a ∧ H a = some (.lst ts) ∧ Paired (F H) ts rows
abbrev LT := LX FT
abbrev LN := LX FN
theorem LX.same {F : Hp → V → List Int → Prop} (g : Good F) {H H' : Hp} {v : V} {rows : List (List Int)} (h : LX F H v rows) (s : Same H H') : LX F H' v rows := by
  obtain ⟨a, ts, e, h, p⟩ := h
  exact ⟨a, ts, e, s _ _ h, paired_mono (fun _ _ q => g.same q s) p⟩
/-- _cleared(p, rows, lead, column) -/
def spClr : Sp := fun vs H Q _ => ∃ (F : Hp → V → List Int → Prop) (p : Int) (n j : Nat) (v u : V) (rows : List (List Int)) (l : List Int), vs = [.int p, v, u, .int j] ∧ Good F ∧ LX F H v rows ∧ FT H u l ∧ p ∈ primes ∧ (∀ r ∈ rows, Ltr p n r) ∧ Ltr p n l ∧ n ≤ 200 ∧ rows.length ≤ 200 ∧ j < n ∧
  ∀ y H', Same H H' → LX F H' y (rows.map (clr p l j)) → Q y H'
end
end WU

set_option maxRecDepth 100000
set_option maxHeartbeats 8000000
namespace WU
open PySem PySem.Spec PyProof.Rows L2
theorem take_filter {q : List Int → Bool} {rows : List (List Int)} {i : Nat} {r : List Int} (h : rows[i]? = some r) : (rows.take (i + 1)).filter q = (rows.take i).filter q ++ (if q r = true then [r] else []) := by
  rw [List.take_succ, h, List.filter_append]
  congr 1
  show List.filter q [r] = _
  rw [List.filter_cons]
  split <;> rfl
theorem filter_le {q : List Int → Bool} {rows : List (List Int)} {i : Nat} (h : rows.length ≤ 200) : ((rows.take i).filter q).length < sizeLine :=
  small1000 (Nat.le_trans (List.length_filter_le _ _) (by rw [List.length_take]; omega))
/-- lists built by a test, item by item -/
theorem bld_if {H1 H H' : Hp} {D : Addr} {q : List Int → Bool} {rows : List (List Int)} {i : Nat} {r : List Int} {y : V} (b : Bld FT H1 D ((rows.take i).filter q) H) (h : rows[i]? = some r) (hD : H1 D = none) (s : Same H H') (f : FT H' y r) (ny : y ≠ .ref D) (hl : rows.length ≤ 200) (e : q r = true) :
    ∃ acc, H' D = some (.lst acc) ∧ acc.length < sizeLine ∧ Bld FT H1 D ((rows.take (i + 1)).filter q) (upd H' D (.lst (acc ++ [y]))) := by
  rw [take_filter h, if_pos e]
  exact b.put stab_FT hD s f ny (filter_le hl)
theorem bld_not {H1 H H' : Hp} {D : Addr} {q : List Int → Bool} {rows : List (List Int)} {i : Nat} {r : List Int} (b : Bld FT H1 D ((rows.take i).filter q) H) (h : rows[i]? = some r) (s : Same H H') (e : q r = false) : Bld FT H1 D ((rows.take (i + 1)).filter q) H' := by
  rw [take_filter h, if_neg (by rw [e]; decide), List.append_nil]
  exact b.skip stab_FT s
section
variable {P : Program} {w : World} {K : PySem.W.Frag} {mg : Str → Option Value} {base : Heap} {S : Addr}
/-- rows in a list or a tuple -/
def SR (H : Hp) (v : V) (rows : List (List Int)) : Prop := ∃ a ts, v = .ref a ∧ SqO H a ts ∧ Paired (FT H) ts rows
theorem SR.same {H H' : Hp} {v : V} {rows : List (List Int)} (h : SR H v rows) (s : Same H H') : SR H' v rows := by
  obtain ⟨a, ts, e, h, p⟩ := h
  exact ⟨a, ts, e, h.same s, paired_mono (fun _ _ q => q.same s) p⟩
theorem MT.sr {H : Hp} {v : V} {rows : List (List Int)} (h : MT H v rows) : SR H v rows := by
  obtain ⟨a, ts, e, h, p⟩ := h
  exact ⟨a, ts, e, .inr (.inl h), p⟩
theorem LT.sr {H : Hp} {v : V} {rows : List (List Int)} (h : LT H v rows) : SR H v rows := by
  obtain ⟨a, ts, e, h, p⟩ := h
  exact ⟨a, ts, e, .inl h, p⟩
/-- _reduced(p, rows) -/
def spRed : Sp := fun vs H Q _ => ∃ (p : Int) (n : Nat) (v : V) (rows : List (List Int)), vs = [.int p, v] ∧ SR H v rows ∧ p ∈ primes ∧ (∀ r ∈ rows, Ltr p n r) ∧ n ≤ 200 ∧ rows.length ≤ 200 ∧ ∀ y H', Same H H' → MN H' y (red p rows) → Q y H'
theorem stp_len {p : Int} {j : Nat} {s : List (List Int) × List (List Int)} : (stp p j s).1.length + (stp p j s).2.length = s.1.length + s.2.length := by
  unfold stp
  split
  · rfl
  · rename_i k e
    obtain ⟨a, r, b, ea, hk, _, _⟩ := find_hot e
    rw [List.length_map, List.length_append, List.length_map, ea, ← hk, erase_mid, List.length_append, List.length_append]
    simp
    omega
theorem run_len {p : Int} {rows : List (List Int)} : ∀ j, (run p rows j).1.length + (run p rows j).2.length = rows.length
  | 0 => rfl
  | j + 1 => by
    show (stp p j (run p rows j)).1.length + (stp p j (run p rows j)).2.length = _
    rw [stp_len, run_len j]
end
end WU

set_option maxRecDepth 100000
set_option maxHeartbeats 8000000
namespace WU
open PySem PySem.Spec PyProof.Rows L2
/-- a statement whose next state is told more loosely -/
def tWk (t : TS) : TS := fun D σ H => ∃ P : L2.St → Hp → Prop, t { D with nx := P } σ H ∧ ∀ σ1 H1, P σ1 H1 → D.nx σ1 H1
theorem ps_wk {X : Cx} {st : Stmt} {t : TS} (h : PS X st t) : PS X st (tWk t) := by
  refine ⟨fun pins s σ H D I ⟨P, q, k⟩ => thn (h.run pins s σ H { D with nx := P } I q) fun f s1 z => ?_⟩
  cases f with
  | next =>
    obtain ⟨σ', H', I', z⟩ := z
    exact ⟨σ', H', I', k _ _ z⟩
  | ret v => exact z
  | brk => exact z
  | cont => exact z
theorem FQ.keep {H H' : Hp} {a d : Addr} {y : V} {z : List Int} (h : FQ H y z) (hH : HandAt H a d) (k : Keep a H H') : FQ H' y z := by
  obtain ⟨c, e, h⟩ := h
  obtain ⟨ds, i0, z1, _⟩ := hH
  exact ⟨c, e, k _ _ (ne_of h z1 (by intro z; cases z)) h⟩
theorem FQ.but {H H' : Hp} {D : Addr} {xs : List V} {y : V} {z : List Int} (h : FQ H y z) (e : H D = some (.lst xs)) (k : ∀ b o, b ≠ D → H b = some o → H' b = some o) : FQ H' y z :=
  stab_FQ D H H' y z k (h.neL e) h
theorem lst_ne {H : Hp} {a d R : Addr} {ls : List Int} (hH : HandAt H a d) (h : H R = some (.lst (ls.map V.int))) : R ≠ a := by
  obtain ⟨ds, i0, z1, z2, _⟩ := hH
  intro q
  subst q
  rw [z1] at h
  have := HO.lst.inj (Option.some.inj h)
  cases ls with
  | nil => cases this
  | cons x t => cases (List.cons.inj this).1
theorem cut_to {xs : List V} {k : Nat} (hk : k ≤ xs.length) : cutV xs none (some (k : Int)) = xs.take k := by
  unfold cutV
  rw [HT.sIx_none, HT.sIx_nat, List.drop_zero, Nat.sub_zero, Nat.min_eq_left hk]
theorem cut_from {xs : List V} {k : Nat} (hk : k ≤ xs.length) : cutV xs (some (k : Int)) none = xs.drop k := by
  unfold cutV
  rw [HT.sIx_none, HT.sIx_nat, Nat.min_eq_left hk]
  exact List.take_of_length_le (by rw [List.length_drop]; omega)
theorem slA_is {K : PySem.W.Frag} {H : Hp} {a : Addr} {xs : List V} {lo hi : Option Int} {Q : VK} (h : H a = some (.tup xs)) (k : ∀ r H', Same H H' → H' r = some (.tup (cutV xs lo hi)) → Q (.ref r) H') : rSlA K (.ref a) lo hi H Q := by
  refine ⟨a, xs, rfl, SqT.of h, fun hw => ?_, fun _ r hr => k r _ (same_new hr) upd_same⟩
  have e : cutV xs lo hi = xs := by
    unfold cutV
    rw [hw.1, hw.2, List.drop_zero, Nat.sub_zero, List.take_length]
  exact k a H (Same.refl H) (by rw [e]; exact h)
theorem FT.keep {H H' : Hp} {a d : Addr} {y : V} {z : List Int} (h : FT H y z) (hH : HandAt H a d) (k : Keep a H H') : FT H' y z := by
  obtain ⟨c, e, h⟩ := h
  obtain ⟨ds, i0, z1, _⟩ := hH
  rcases h with h | ⟨o, h⟩
  · exact ⟨c, e, .inl (k _ _ (ne_of h z1 (by intro z; cases z)) h)⟩
  · exact ⟨c, e, .inr ⟨o, k _ _ (ne_of h z1 (by intro z; cases z)) h⟩⟩
def Lets (p : Int) (ls : List Int) : Prop := ∀ x ∈ ls, 0 ≤ x ∧ x < p
section
variable {P : Program} {w : World} {K : PySem.W.Frag} {mg : Str → Option Value} {base : Heap} {S : Addr}
def spLM : Sp := fun vs H Q _ => ∃ (a d : Addr) (p : Int) (m n : Nat), vs = [.ref a, .int p, .int m, .int n] ∧ HandAt H a d ∧ p ∈ primes ∧ m ≤ 100 ∧ n ≤ 100 ∧
  ∀ v rows H', MQ H' v rows → rows.length = m → (∀ r ∈ rows, Ltr p n r) → HandAt H' a d → Keep a H H' → Q v H'
theorem rep_one {x : V} : ∀ n : Nat, (List.replicate n [x]).flatten = List.replicate n x
  | 0 => rfl
  | n + 1 => by
    rw [List.replicate_succ, List.flatten_cons, rep_one n, List.replicate_succ]
    rfl
theorem rep_int (n : Nat) : (List.replicate n [V.int 0]).flatten = (List.replicate n (0 : Int)).map V.int := by
  rw [rep_one, List.map_replicate]
theorem rep_lets {p : Int} (hp : 0 < p) (n : Nat) : Lets p (List.replicate n 0) := fun x hx => by
  rw [(List.mem_replicate.mp hx).2]
  omega
theorem take_lets {p : Int} {ls : List Int} {n : Nat} (h : Lets p ls) (hn : n ≤ ls.length) : Ltr p n (ls.take n) :=
  ⟨by rw [List.length_take]; omega, fun x hx => h x (List.mem_of_mem_take hx)⟩
/-- the rows that stand in the list L -/
def Rws (p : Int) (n : Nat) (L : Addr) (i : Nat) (H : Hp) : Prop := ∃ ts rs, H L = some (.lst ts) ∧ Paired (FQ H) ts rs ∧ rs.length = i ∧ ∀ r ∈ rs, Ltr p n r
theorem Rws.keep {p : Int} {n i : Nat} {L a d : Addr} {H H' : Hp} (h : Rws p n L i H) (ne : L ≠ a) (hH : HandAt H a d) (k : Keep a H H') : Rws p n L i H' := by
  obtain ⟨ts, rs, e, q, l, z⟩ := h
  exact ⟨ts, rs, k _ _ ne e, paired_mono (fun _ _ f => f.keep hH k) q, l, z⟩
end
end WU

set_option maxRecDepth 100000
set_option maxHeartbeats 8000000
namespace WU
open PySem PySem.Spec PyProof.Rows L2
def retLc : Stmt → Scope
  | .Return (some (.Call _ (.ListComp _ _ sc _ :: _) _ _)) _ => sc
  | st => defScope st
theorem map_take_succ {α β : Type} {f : α → β} {l : List α} {i : Nat} {x : α} (h : l[i]? = some x) : (l.take (i + 1)).map f = (l.take i).map f ++ [f x] := by
  rw [List.take_succ, h, List.map_append]
  rfl
theorem map_range_succ {β : Type} {f : Nat → β} {i : Nat} : (List.range (i + 1)).map f = (List.range i).map f ++ [f i] := by
  rw [List.range_succ, List.map_append]
  rfl
theorem ref_new {H : Hp} {D q : Addr} {o : HO} (e : H D = some o) (hq : H q = none) : V.ref q ≠ V.ref D := fun z => by
  cases z
  rw [e] at hq
  cases hq
/-- ints that are places -/
def nV (ks : List Nat) : List V := ks.map fun (k : Nat) => V.int (k : Int)
theorem nV_at {ks : List Nat} {j : Nat} {y : V} (h : (nV ks)[j]? = some y) : ∃ k, ks[j]? = some k ∧ y = .int (k : Int) := by
  unfold nV at h
  rw [List.getElem?_map] at h
  obtain ⟨k, hk, rfl⟩ := Option.map_eq_some_iff.mp h
  exact ⟨k, hk, rfl⟩
theorem nV_len {ks : List Nat} : (nV ks).length = ks.length := List.length_map _
section
variable {P : Program} {w : World} {K : PySem.W.Frag} {mg : Str → Option Value} {base : Heap} {S : Addr}
/-- columns_at(rows, places) -/
def spCA : Sp := fun vs H Q _ => ∃ (v : V) (u : Addr) (rows : List (List Int)) (n : Nat) (ks : List Nat), vs = [v, .ref u] ∧ MT H v rows ∧ H u = some (.lst (nV ks)) ∧ (∀ r ∈ rows, r.length = n) ∧ (∀ k ∈ ks, k < n) ∧ rows.length ≤ 200 ∧ ks.length ≤ 200 ∧
  ∀ y H', Same H H' → MT H' y (rows.map fun r => ks.map (at0 r)) → Q y H'
/-- turned_rows(rows, columns) -/
def spTR : Sp := fun vs H Q _ => ∃ (v : V) (rows : List (List Int)) (n : Nat), vs = [v, .int n] ∧ MT H v rows ∧ (∀ r ∈ rows, r.length = n) ∧ rows.length ≤ 200 ∧ n ≤ 200 ∧
  ∀ y H', Same H H' → MT H' y ((List.range n).map (colm rows)) → Q y H'
/-- leads_of(reduced) -/
def nI (ks : List Nat) : List Int := ks.map fun (k : Nat) => (k : Int)
def spLO : Sp := fun vs H Q _ => ∃ (v : V) (p : Int) (L : List (List Int)) (n : Nat) (qs : List Nat), vs = [v] ∧ MN H v L ∧ Rr p n L qs ∧ L.length ≤ 400 ∧ ∀ y H', Same H H' → FT H' y (nI qs) → Q y H'
end
end WU

set_option maxRecDepth 100000
set_option maxHeartbeats 8000000
namespace WU
open PySem PySem.Spec PyProof.Rows L2
structure Blt5 (mg : Str → Option Value) : Prop extends Blt4 mg where
  sum : mg "sum" = none
theorem sum_dotn {r ls : List Int} : ∀ n, ((List.range n).map fun k => at0 r k * at0 ls k).sum = dotn n r ls
  | 0 => rfl
  | n + 1 => by
    rw [map_range_succ, List.sum_append, sum_dotn n]
    show dotn n r ls + (at0 r n * at0 ls n + 0) = _
    rw [Int.add_zero]
    rfl
section
variable {P : Program} {w : World} {K : PySem.W.Frag} {mg : Str → Option Value} {base : Heap} {S : Addr}
/-- _products(p, rows, letters) -/
def spPr : Sp := fun vs H Q _ => ∃ (p : Int) (n : Nat) (v : V) (u : Addr) (rows : List (List Int)) (ls : List Int), vs = [.int p, v, .ref u] ∧ MT H v rows ∧ SqO H u (ls.map V.int) ∧ p ∈ primes ∧ (∀ r ∈ rows, Ltr p n r) ∧ ls.length = n ∧ n ≤ 200 ∧ rows.length ≤ 200 ∧
  ∀ y H', Same H H' → FT H' y (rows.map fun r => (dotn n r ls).fmod p) → Q y H'
theorem scPr : FnScope ["p", "rows", "letters", "row", "a", "b"] ["p", "rows", "letters"] (defScope s_u_products) := ⟨rfl, rfl, rfl, by decide +kernel, rfl, by decide +kernel, by decide +kernel⟩
theorem ok_Pr {f : Addr} {fd : FuncData} (F : FnS K "_products" s_u_products f fd) (B : Blt5 mg) : FnOk P w K mg base (L2.CX P w) 1 f fd ["p", "rows", "letters"] spPr := by
  refine F.ok scPr (fun vs H Q E h => ?_) (fun cdv A outer s H vs Q E hr h => ?_)
  · obtain ⟨p, n, v, u, rows, ls, rfl, _⟩ := h
    rfl
  · obtain ⟨p, n, v, u, rows, ls, rfl, ⟨a, ts, rfl, ha, hts⟩, hu, hp, hR, hl, hn, hm, k⟩ := h
    have nd := scPr.nd
    have hb := fld_le hp
    refine ⟨_, (pss_one (ps_ret (pe_callTy (tup_ofK (K := K)) (by rfl) B.tuple (by decide +kernel) (pa_cons (pe_lc (own := [("row", 3)]) (g := gName 3) (by rfl) nd (pi_tupK (K := K) (pv 1)) (blkOk_by (own := [("row", 3)]) (N := ["p", "rows", "letters", "row", "a", "b"]) (sc := defScope s_u_products) (by decide +kernel)) (fun _ _ _ _ _ => (pg_name (i := 3) nd rfl (Or.inl rfl))) (fun _ _ _ _ _ => pts_nil) (fun _ _ _ _ _ => (pe_op op_modN (pe_callB (cr_sumK (K := K) rfl) (by rfl) B.sum (by decide +kernel) (pa_cons (pe_lc (own := [("a", 4), ("b", 5)]) (g := gTup K 2 (gCons (gName 4) (gCons (gName 5) gNil))) (by rfl) nd (pi_zipMK (K := K) (by rfl) B.zip (pa_cons (pv 3) (pa_cons (pv 2) pa_nil))) (blkOk_by (own := [("a", 4), ("b", 5)]) (N := ["p", "rows", "letters", "row", "a", "b"]) (sc := relS (retLc ((defBody s_u_products).getD 0 (.Pass ⟨0, 0, 0, 0⟩))) (defScope s_u_products)) (by decide +kernel)) (fun _ _ _ _ _ => (pg_tupK (K := K) <| pg_tup rfl (pgs_cons (pg_name (i := 4) nd rfl (Or.inl rfl)) (pgs_cons (pg_name (i := 5) nd rfl (Or.inl rfl)) pgs_nil)))) (fun _ _ _ _ _ => pts_nil) (fun _ _ _ _ _ => (pe_op op_mul (pv 4) (pv 5)))) pa_nil)) (pv 0)))) pa_nil)))), ?_⟩
    refine ⟨_, rfl, a, rfl, ⟨_, SqT.of ha⟩, fun D hD => lc_tup (K := K) (a := a) (xs := ts) (fun i H' => Bld FI H D ((rows.take i).map fun r => (dotn n r ls).fmod p) H') (Bld.start hD) (fun i H' _ b => SqT.of (b.same _ _ ha)) ?_ ?_⟩
    · intro i x H1 hx b
      obtain ⟨r, hr0, hxr⟩ := paired_at hts hx
      obtain ⟨c, rfl, hc⟩ := hxr.same b.same
      have hrL := hR r (List.mem_of_getElem? hr0)
      have lr : (r.map V.int).length = n := by rw [List.length_map, hrL.1]
      have ll : (ls.map V.int).length = n := by rw [List.length_map, hl]
      refine ⟨rfl, _, rfl, _, rfl, c, u, r.map V.int, ls.map V.int, rfl, ?_⟩
      rcases hu.same b.same with hu1 | hu1
      · refine .inl ⟨sqT hc, SqL.of hu1, fun D2 hD2 => lc_it (walk_zipM lr ll) (fun j H' => Bld FI H1 D2 ((List.range j).map fun k => at0 r k * at0 ls k) H') (Bld.start hD2) (fun j H' _ b2 => ⟨sqT (rd_same b2.same hc), SqL.of (b2.same _ _ hu1)⟩) ?_ ?_⟩
        · rintro j x H2 H3 hj b2 ⟨T, x1, x2, rfl, hT, rfl, g1, g2⟩
          cases (take_map_at n (r := r) (i := j) (by rw [hrL.1]; exact hj)).symm.trans g1
          cases (take_map_at n (r := ls) (i := j) (by rw [hl]; exact hj)).symm.trans g2
          have bj := hrL.bd hj
          refine ⟨T, _, rfl, SqT.of upd_same, rfl, _, _, rfl, _, _, rfl, rfl, rfl, ?_⟩
          refine ⟨_, rfl, _, rfl, _, _, rfl, rfl, .inl ⟨by omega, by omega⟩, ?_⟩
          rw [map_range_succ]
          exact b2.put (y := .int (at0 r j * at0 ls j)) (z := at0 r j * at0 ls j) stab_FI hD2 (same_new hT) rfl (by intro z; cases z) (by rw [List.length_map, List.length_range]; exact small1000 (by omega))
        · intro H2 b2
          obtain ⟨s2, ys, eD, py⟩ := b2.fin
          rw [fi_map py] at eD
          refine ⟨D2, _, rfl, SqL.of eD, _, rfl, _, p, rfl, rfl, by omega, ?_⟩
          rw [sum_dotn, map_take_succ hr0]
          exact b.put (y := .int ((dotn n r ls).fmod p)) (z := (dotn n r ls).fmod p) stab_FI hD s2 rfl (by intro z; cases z) (by rw [List.length_map, List.length_take]; exact small1000 (by omega))
      · refine .inr ⟨sqT hc, sqT hu1, fun D2 hD2 => lc_it (walk_zipT (n := n) (by rw [lr, ll]; exact (Nat.min_self n).symm)) (fun j H' => Bld FI H1 D2 ((List.range j).map fun k => at0 r k * at0 ls k) H') (Bld.start hD2) (fun j H' _ b2 => ⟨sqT (rd_same b2.same hc), sqT (rd_same b2.same hu1)⟩) ?_ ?_⟩
        · rintro j x H2 H3 hj b2 ⟨T, x1, x2, rfl, hT, rfl, g1, g2⟩
          cases (take_map_at n (r := r) (i := j) (by rw [hrL.1]; exact hj)).symm.trans g1
          cases (take_map_at n (r := ls) (i := j) (by rw [hl]; exact hj)).symm.trans g2
          have bj := hrL.bd hj
          refine ⟨T, _, rfl, SqT.of upd_same, rfl, _, _, rfl, _, _, rfl, rfl, rfl, ?_⟩
          refine ⟨_, rfl, _, rfl, _, _, rfl, rfl, .inl ⟨by omega, by omega⟩, ?_⟩
          rw [map_range_succ]
          exact b2.put (y := .int (at0 r j * at0 ls j)) (z := at0 r j * at0 ls j) stab_FI hD2 (same_new hT) rfl (by intro z; cases z) (by rw [List.length_map, List.length_range]; exact small1000 (by omega))
        · intro H2 b2
          obtain ⟨s2, ys, eD, py⟩ := b2.fin
          rw [fi_map py] at eD
          refine ⟨D2, _, rfl, SqL.of eD, _, rfl, _, p, rfl, rfl, by omega, ?_⟩
          rw [sum_dotn, map_take_succ hr0]
          exact b.put (y := .int ((dotn n r ls).fmod p)) (z := (dotn n r ls).fmod p) stab_FI hD s2 rfl (by intro z; cases z) (by rw [List.length_map, List.length_take]; exact small1000 (by omega))
    · intro H1 b
      obtain ⟨s1, ys, eD, py⟩ := b.fin
      rw [paired_len hts, List.take_length] at py
      rw [fi_map py] at eD
      exact ⟨D, _, rfl, .inl ⟨SqL.of eD, fun q hq => k _ _ (s1.trans (same_new hq)) FT.new⟩⟩
/-- _zero_row(p, leading, leads, columns, free) -/
def spZR : Sp := fun vs H Q _ => ∃ (p : Int) (n f : Nat) (v l : V) (L : List (List Int)) (pvs : List Nat), vs = [.int p, v, l, .int n, .int f] ∧ MT H v L ∧ FT H l (nI pvs) ∧ p ∈ primes ∧ Rr p n L pvs ∧ f ∈ free n pvs ∧ n ≤ 200 ∧ L.length ≤ 400 ∧
  ∀ y z H', Same H H' → ZR p n L pvs f z → FT H' y z → Q y H'
theorem nI_at {ks : List Nat} {j : Nat} {y : V} (h : ((nI ks).map V.int)[j]? = some y) : ∃ k, ks[j]? = some k ∧ y = .int (k : Int) := by
  unfold nI at h
  rw [List.map_map, List.getElem?_map] at h
  obtain ⟨k, hk, rfl⟩ := Option.map_eq_some_iff.mp h
  exact ⟨k, hk, rfl⟩
theorem nI_len {ks : List Nat} : (nI ks).length = ks.length := List.length_map _
end
end WU

set_option maxRecDepth 100000
set_option maxHeartbeats 8000000
namespace WU
open PySem PySem.Spec PyProof.Rows L2
/-! ### books -/
def TB (H : Hp) (r : V) (b : List Int) : Prop := ∃ c, r = .ref c ∧ H c = some (.tup (b.map V.int))
def SB (H : Hp) (r : V) (b : List Int) : Prop := ∃ c, r = .ref c ∧ (H c = some (.lst (b.map V.int)) ∨ H c = some (.tup (b.map V.int)))
theorem TB.sb {H : Hp} {r : V} {b : List Int} (h : TB H r b) : SB H r b := by
  obtain ⟨c, e, h⟩ := h
  exact ⟨c, e, .inr h⟩
theorem TB.same {H H' : Hp} {r : V} {b : List Int} (h : TB H r b) (s : Same H H') : TB H' r b := by
  obtain ⟨c, e, h⟩ := h
  exact ⟨c, e, s _ _ h⟩
theorem SB.same {H H' : Hp} {r : V} {b : List Int} (h : SB H r b) (s : Same H H') : SB H' r b := by
  obtain ⟨c, e, h⟩ := h
  exact ⟨c, e, h.imp (s _ _) (s _ _)⟩
/-- a row of letters -/
structure LGood (p : Int) (n : Nat) (bs : List (List Int)) : Prop where
  ne : bs ≠ []
  pos : 0 < n
  le : n ≤ 100
  cnt : bs.length ≤ 100
  all : ∀ b ∈ bs, Ltr p n b
theorem lets_of {p : Int} {n : Nat} {b : List Int} (h : Ltr p n b) : letsD p n (.tuple (b.map PyData.int)) = true ∧ letsD p n (.list (b.map PyData.int)) = true := by
  have e : (decide (((b.map PyData.int).length : Int) = n) && (b.map PyData.int).all (belD p)) = true := by
    rw [List.length_map, h.1, decide_eq_true rfl, Bool.true_and, List.all_map]
    refine List.all_eq_true.mpr fun i hi => ?_
    obtain ⟨h1, h2⟩ := h.2 i hi
    show (decide (0 ≤ i) && decide (i < p)) = true
    rw [decide_eq_true h1, decide_eq_true h2]
    rfl
  exact ⟨e, e⟩
theorem sb_dp {K : PySem.W.Frag} {H : Hp} {r : V} {b : List Int} {p : Int} {n : Nat} (h : SB H r b) (g : Ltr p n b) (hn : n ≤ 100) : ∃ d, Dp K H r d ∧ smallD d ∧ letsD p n d = true ∧ isSeq d = true ∧ ∃ c, r = .ref c ∧ (SqL K H c (b.map V.int) ∨ SqT K H c (b.map V.int)) := by
  obtain ⟨c, rfl, h | h⟩ := h
  · refine ⟨.list (b.map PyData.int), .lst (SqL.of h) (dps_ints b), ?_, (lets_of g).2, rfl, c, rfl, .inl (SqL.of h)⟩
    show (b.map PyData.int).length ≤ 200
    rw [List.length_map, g.1]
    omega
  · refine ⟨.tuple (b.map PyData.int), .tup (SqT.of h) (dps_ints b), ?_, (lets_of g).1, rfl, c, rfl, .inr (SqT.of h)⟩
    show (b.map PyData.int).length ≤ 200
    rw [List.length_map, g.1]
    omega
/-- a walk over a tuple that stands -/
theorem wTup {K : PySem.W.Frag} {a : Addr} {xs : List V} {H0 : Hp} {Qd : Hp → Prop} {B : V → Hp → (Hp → Prop) → Prop} (Pv : Nat → Hp → Prop) (h0 : Pv 0 H0) (hl : ∀ i H, Pv i H → SqT K H a xs)
    (hs : ∀ i x H, xs[i]? = some x → Pv i H → B x H (Pv (i + 1))) (hd : ∀ H, Pv xs.length H → Qd H) :
    ∃ W : Nat → Nat → Hp → Prop, (∃ m, W 0 m H0) ∧ ∀ i m H, W i m H → ((Itt K a).stop i H ∧ Qd H) ∨
      ((Itt K a).go i H ∧ ∃ Nx : Hp → Prop, (∀ H', Nx H' → ∃ m', m' < m ∧ W (i + 1) m' H') ∧ ∀ x H', (Itt K a).yld i H x H' → B x H' Nx) := by
  refine ⟨fun i m H => m + i = xs.length ∧ Pv i H, ⟨xs.length, rfl, h0⟩, fun i m H h => ?_⟩
  obtain ⟨hm, pv⟩ := h
  have q := hl i H pv
  cases m with
  | zero =>
    have e : i = xs.length := by omega
    subst e
    exact .inl ⟨⟨xs, q, Nat.le_refl _⟩, hd H pv⟩
  | succ m =>
    have hi : i < xs.length := by omega
    refine .inr ⟨⟨xs, xs[i], q, List.getElem?_eq_getElem hi⟩, Pv (i + 1), fun H' p' => ⟨m, Nat.lt_succ_self m, by omega, p'⟩, fun x H' y => ?_⟩
    obtain ⟨e, y⟩ := y
    subst e
    exact hs i x _ (y xs q) pv
section
variable {P : Program} {w : World} {K : PySem.W.Frag} {mg : Str → Option Value} {base : Heap} {L : Addr}
/-- letters_of(books): all books are tuples -/
def spLet (K : PySem.W.Frag) : Sp := fun vs H Q _ => ∃ (a : Addr) (rs : List V) (bs : List (List Int)) (n : Nat), vs = [.ref a] ∧ SqT K H a rs ∧ Paired (TB H) rs bs ∧ bs.length ≤ 100 ∧ (∀ b ∈ bs, b.length = n) ∧ n ≤ 100 ∧
  ∀ r H', Same H H' → H' r = some (.tup (bs.flatten.map V.int)) → Q (.ref r) H'
theorem scLO : FnScope ["books", "book", "letter"] ["books"] (defScope s_letters_of) := ⟨rfl, rfl, rfl, by decide +kernel, rfl, by decide +kernel, by decide +kernel⟩
theorem flat_len : ∀ {bs : List (List Int)} {n : Nat}, (∀ b ∈ bs, b.length = n) → bs.flatten.length = bs.length * n
  | [], n, _ => by simp
  | b :: bs, n, h => by
    rw [List.flatten_cons, List.length_append, h b (List.mem_cons_self ..), flat_len fun c hc => h c (List.mem_cons_of_mem _ hc), List.length_cons, Nat.succ_mul]
    omega
theorem ok_LO {f : Addr} {fd : FuncData} (F : FnS K "letters_of" s_letters_of f fd) (B : Blt3 mg) : FnOk P w K mg base (L2.CX P w) 1 f fd ["books"] (spLet K) := by
  refine F.ok scLO (fun vs H Q E h => ?_) (fun cdv A outer s H vs Q E hr h => ?_)
  · obtain ⟨a, rs, bs, n, rfl, _⟩ := h
    rfl
  · obtain ⟨a, rs, bs, n, rfl, hT, hP, hc, hb, hn, k⟩ := h
    have nd := scLO.nd
    refine ⟨_, (pss_one (ps_ret (pe_callTy call_tuple_of (by rfl) B.tuple (by decide +kernel) (pa_cons (pe_lc2 (wi1 := iTup K (tVar 1)) (own := [("book", 1), ("letter", 2)]) (vs1 := [2]) (g := gName 1) (g1 := gName 2) (by rfl) nd (pi_tup (pv 0)) (blkOk_by (own := [("book", 1), ("letter", 2)]) (N := ["books", "book", "letter"]) (sc := defScope s_letters_of) (by decide +kernel)) (by decide) (fun _ _ _ _ _ => pg_name (i := 1) nd rfl (Or.inl rfl)) (fun _ _ _ _ _ => pts_nil) (fun _ _ _ _ _ => pi_tup (pv 1)) (fun _ _ _ _ _ => pg_name (i := 2) nd rfl (Or.inl rfl)) (fun _ _ _ _ _ => pts_nil) (fun _ _ _ _ _ => pv 2)) pa_nil)))), ?_⟩
    refine ⟨_, rfl, a, rfl, ⟨_, hT⟩, fun D hD => wTup (K := K) (a := a) (xs := rs) (fun i H' => Same H H' ∧ H' D = some (.lst ((bs.take i).flatten.map V.int))) ⟨same_new hD, upd_same⟩ (fun i H' z => sqT_same hT z.1) ?_ ?_⟩
    · rintro i x H1 hi ⟨s1, e⟩
      obtain ⟨b, hbi, c, rfl, ec⟩ := paired_at hP hi
      have hb1 : b.length = n := hb b (List.mem_of_getElem? hbi)
      have hi2 : i < bs.length := (List.getElem?_eq_some_iff.mp hbi).1
      have ect := s1 _ _ ec
      have hcD : c ≠ D := ne_of_none ec hD
      have fl : ∀ j, ((bs.take i).flatten ++ b.take j).length ≤ 100 * 100 := fun j => by
        rw [List.length_append, flat_len (n := n) fun d hd => hb d (List.mem_of_mem_take hd), List.length_take, List.length_take]
        have h1 : min i bs.length * n ≤ 99 * 100 := Nat.mul_le_mul (by omega) hn
        omega
      refine ⟨rfl, _, rfl, c, rfl, ⟨_, SqT.of ect⟩, wTup (K := K) (a := c) (xs := b.map V.int) (fun j H' => Same H H' ∧ H' D = some (.lst (((bs.take i).flatten ++ b.take j).map V.int))) ⟨s1, by rw [e, List.take_zero, List.append_nil]⟩ (fun j H' z => SqT.of (z.1 _ _ ec)) ?_ ?_⟩
      · rintro j x H2 hj ⟨s2, e2⟩
        obtain ⟨z, hz, rfl⟩ : ∃ z, b[j]? = some z ∧ x = V.int z := by
          rw [List.getElem?_map] at hj
          cases q : b[j]? with
          | none => rw [q] at hj; cases hj
          | some z => rw [q] at hj; exact ⟨z, rfl, (Option.some.inj hj).symm⟩
        refine ⟨rfl, _, rfl, _, e2, ?_, fun d o hd => by rw [upd_ne (ne_of_none hd hD)]; exact s2 d o hd, ?_⟩
        · rw [List.length_map]
          have := fl j
          exact Nat.lt_of_le_of_lt this (by decide)
        · rw [upd_same, List.take_succ, hz, ← List.append_assoc, List.map_append (l₂ := (some z).toList)]
          rfl
      · rintro H2 ⟨s2, e2⟩
        refine ⟨s2, ?_⟩
        rw [e2, List.length_map, List.take_length, List.take_succ, hbi]
        simp
    · rintro H1 ⟨s1, e⟩
      rw [paired_len hP, List.take_length] at e
      refine ⟨D, _, rfl, .inl ⟨SqL.of e, fun l hl => k l _ (s1.trans (same_new hl)) upd_same⟩⟩
def rLenS (K : PySem.W.Frag) : List V → Hp → VK → Prop := fun xs H Q => ∃ p ys, xs = [V.ref p] ∧ (SqL K H p ys ∨ SqT K H p ys) ∧ Q (.int ys.length) H
/-- are_books of what are books -/
def spAB (K : PySem.W.Frag) : Sp := fun vs H Q _ => ∃ (p : Int) (a : Addr) (rs : List V) (bs : List (List Int)) (n : Nat), vs = [.int p, .ref a] ∧ (SqL K H a rs ∨ SqT K H a rs) ∧ Paired (SB H) rs bs ∧ LGood p n bs ∧ ∀ H', Same H H' → Q (.bl true) H'
theorem scAB : FnScope ["p", "value", "book"] ["p", "value"] (defScope s_are_books) := ⟨rfl, rfl, rfl, by decide +kernel, rfl, by decide +kernel, by decide +kernel⟩
theorem ok_AB {f f1 f2 : Addr} {fd fd1 fd2 : FuncData} (F : FnS K "are_books" s_are_books f fd) (B : Blt3 mg) (CS : Cal P w K mg base 1 "is_sequence" f1 fd1 ["value"] (spSeq K)) (CL : Cal P w K mg base 4 "are_letters" f2 fd2 ["p", "count", "value"] (spLets K)) :
    FnOk P w K mg base (L2.CX P w) 5 f fd ["p", "value"] (spAB K) := by
  refine F.ok scAB (fun vs H Q E h => ?_) (fun cdv A outer s H vs Q E hr h => ?_)
  · obtain ⟨p, a, rs, bs, n, rfl, _⟩ := h
    rfl
  · obtain ⟨p, a, rs, bs, n, rfl, hx, hP, g, k⟩ := h
    have nd := scAB.nd
    have hr1 := hr.mono (show 1 ≤ 4 by decide)
    refine ⟨_, (pss_cons (ps_if (PW.pt (pw_or (pt_not (pt_val (pe_cal CS hr1 (pa_cons (pv 1) pa_nil) passU))) (pw_or1 (pt_cmpR op_eq (pe_callB call_len_seq (by rfl) B.len (by decide +kernel) (pa_cons (pv 1) pa_nil)) pe_int (nomark _))))) (pss_one (ps_ret pe_bl)) pss_nil)
      (pss_cons (ps_if (PW.pt (pw_or (pt_not (pt_val (pe_cal CS hr1 (pa_cons (pe_ix ix_seq (pv 1) pe_int (fun _ _ => rfl)) pa_nil) passU))) (pw_or1 (pt_cmpR op_eq (pe_callB call_len_seq (by rfl) B.len (by decide +kernel) (pa_cons (pe_ix ix_seq (pv 1) pe_int (fun _ _ => rfl)) pa_nil)) pe_int (nomark _))))) (pss_one (ps_ret pe_bl)) pss_nil)
      (pss_one (ps_ret (pe_callB (cr_all rfl) (by rfl) B.all (by decide +kernel) (pa_cons (pe_lc (te := tCall (spLets K) [] E0 (tCons (tVar 0) (tCons (tCB (rLenS K) (tCons (tOp (rIx K) (tVar 1) (tC (.int 0))) tNil)) (tCons (tVar 2) tNil)))) (own := [("book", 2)]) (g := gName 2) (by rfl) nd (pi_seq (pv 1)) (blkOk_by (own := [("book", 2)]) (N := ["p", "value", "book"]) (sc := defScope s_are_books) (by decide +kernel)) (fun _ _ _ _ _ => pg_name (i := 2) nd rfl (Or.inl rfl)) (fun _ _ _ _ _ => pts_nil) (fun _ _ _ _ _ => (pe_cal CL hr (pa_cons (pv 0) (pa_cons (pe_callB call_len_seq (by rfl) B.len (by decide +kernel) (pa_cons (pe_ix ix_seq (pv 1) pe_int (fun _ _ => rfl)) pa_nil)) (pa_cons (pv 2) pa_nil))) passU))) pa_nil)))))), ?_⟩
    obtain ⟨r0, rs', er⟩ : ∃ r0 rs', rs = r0 :: rs' := by
      cases rs with
      | nil =>
        cases hP
        exact absurd rfl g.ne
      | cons r0 rs' => exact ⟨r0, rs', rfl⟩
    have e0 : rs[0]? = some r0 := by rw [er]; rfl
    obtain ⟨b0, hb0, sb0⟩ := paired_at hP e0
    have g0 := g.all b0 (List.mem_of_getElem? hb0)
    have eln := paired_len hP
    have hlen : 0 < rs.length := by rw [er, List.length_cons]; omega
    -- the value is a sequence
    obtain ⟨dv, hdv, sv⟩ : ∃ d, Dp K H (.ref a) d ∧ isSeq d = true := by
      have all : ∀ {rs : List V} {bs : List (List Int)}, Paired (SB H) rs bs → ∃ ds, DpAll K H rs ds := by
        intro rs bs h
        induction h with
        | nil => exact ⟨[], .nil⟩
        | cons h _ ih =>
          obtain ⟨ds, ih⟩ := ih
          obtain ⟨c, rfl, h | h⟩ := h
          · exact ⟨_, .cons (.lst (SqL.of h) (dps_ints _)) ih⟩
          · exact ⟨_, .cons (.tup (SqT.of h) (dps_ints _)) ih⟩
      obtain ⟨ds, hds⟩ := all hP
      rcases hx with h | h
      · exact ⟨.list ds, .lst h hds, rfl⟩
      · exact ⟨.tuple ds, .tup h hds, rfl⟩
    have ixs : ∀ {H' : Hp} {Q' : VK}, Same H H' → Q' r0 H' → rIx K (.ref a) (.int 0) H' Q' := fun {H' Q'} s' q => by
      have ea : atI rs (0 : Int) = some r0 := atI_nat (j := 0) e0
      rcases hx with h | h
      · exact .inl ⟨a, rs, 0, r0, rfl, rfl, sqL_same h s', ea, q⟩
      · exact .inr (.inl ⟨a, rs, 0, r0, rfl, rfl, sqT_same h s', ea, q⟩)
    have hxs : ∀ {H' : Hp}, Same H H' → SqL K H' a rs ∨ SqT K H' a rs := fun s' => hx.imp (fun h => sqL_same h s') fun h => sqT_same h s'
    refine ⟨_, rfl, .ref a, dv, rfl, hdv, fun H1 s1 => ⟨_, rfl, ?_⟩⟩
    rw [sv]
    refine iteF ⟨_, rfl, a, rs, rfl, hxs s1, rfl, _, rfl, iteFb (decide_eq_false fun z => absurd (V.int.inj z) (by omega)) ?_⟩
    obtain ⟨d0, hd0, sm0, l0, q0, c0, ec0, hc0⟩ := sb_dp (K := K) (sb0.same s1) g0 g.le
    refine ⟨_, rfl, ixs s1 ⟨r0, d0, rfl, hd0, fun H2 s2 => ⟨_, rfl, ?_⟩⟩⟩
    rw [q0]
    have s12 := s1.trans s2
    have hc2 : SqL K H2 c0 (b0.map V.int) ∨ SqT K H2 c0 (b0.map V.int) := hc0.imp (fun h => sqL_same h s2) fun h => sqT_same h s2
    have hl0 : (b0.map V.int).length = n := by rw [List.length_map]; exact g0.1
    have hpos := g.pos
    refine iteF ⟨_, rfl, ixs s12 ⟨c0, _, by rw [ec0], hc2, rfl, _, rfl, iteFb (decide_eq_false fun z => absurd (V.int.inj z) (by omega)) ?_⟩⟩
    have turn : ∀ (D : Addr), H2 D = none → ∀ (i : Nat) (y : V) (H3 : Hp), rs[i]? = some y → Same H2 H3 ∧ H3 D = some (.lst ((List.replicate i true).map V.bl)) →
        (tCall (spLets K) [] E0 (tCons (tVar 0) (tCons (tCB (rLenS K) (tCons (tOp (rIx K) (tVar 1) (tC (.int 0))) tNil)) (tCons (tVar 2) tNil)))) [some (.int p), some (.ref a), some y] H3
          fun z H4 => ∃ acc, H4 D = some (.lst acc) ∧ acc.length < sizeLine ∧ Same H2 (upd H4 D (.lst (acc ++ [z]))) ∧ upd H4 D (.lst (acc ++ [z])) D = some (.lst ((List.replicate (i + 1) true).map V.bl)) := by
      rintro D hD i y H3 hi ⟨s3, eD⟩
      obtain ⟨b, hb, sb⟩ := paired_at hP hi
      have gb := g.all b (List.mem_of_getElem? hb)
      have hi2 : i < bs.length := (List.getElem?_eq_some_iff.mp hb).1
      have s13 := s12.trans s3
      obtain ⟨d, hd, sm, ld, _, _, _, _⟩ := sb_dp (K := K) (sb.same s13) gb g.le
      have hc3 : SqL K H3 c0 (b0.map V.int) ∨ SqT K H3 c0 (b0.map V.int) := hc2.imp (fun h => sqL_same h s3) fun h => sqT_same h s3
      refine ⟨_, rfl, _, rfl, ixs s13 ⟨c0, _, by rw [ec0], hc3, ?_⟩⟩
      rw [hl0]
      refine ⟨_, rfl, p, n, y, d, rfl, hd, sm, fun H4 s4 => ?_⟩
      rw [ld]
      refine ⟨_, s4 _ _ eD, ?_, fun c o hc => ?_, ?_⟩
      · rw [List.length_map, List.length_replicate]
        have := g.cnt
        exact small1000 (by omega)
      · rw [upd_ne (ne_of_none hc hD)]
        exact s4 _ _ (s3 _ _ hc)
      · rw [upd_same, List.replicate_succ', List.map_append]
        rfl
    have fin : ∀ (D : Addr) (H3 : Hp), Same H2 H3 → H3 D = some (.lst ((List.replicate rs.length true).map V.bl)) → rAll K [.ref D] H3 Q := fun D H3 s3 eD => by
      refine ⟨D, _, rfl, SqL.of eD, ?_⟩
      have e : (List.replicate rs.length true).all id = true := by
        refine List.all_eq_true.mpr fun x hx => ?_
        rw [List.eq_of_mem_replicate hx]
        rfl
      rw [e]
      exact k H3 (s12.trans s3)
    have st0 : ∀ D, H2 D = none → Same H2 (upd H2 D (.lst [])) ∧ upd H2 D (.lst []) D = some (.lst ((List.replicate 0 true).map V.bl)) := fun D hD => ⟨same_new hD, upd_same⟩
    refine ⟨_, rfl, a, rfl, ?_⟩
    rcases hxs s12 with h | h
    · exact .inl ⟨⟨_, h⟩, fun D hD => lc_list (K := K) (a := a) (xs := rs) (fun i H3 => Same H2 H3 ∧ H3 D = some (.lst ((List.replicate i true).map V.bl))) (st0 D hD) (fun i H3 _ z => sqL_same h z.1)
        (fun i y H3 hi z => ⟨rfl, turn D hD i y H3 hi z⟩) (fun H3 z => fin D H3 z.1 z.2)⟩
    · exact .inr ⟨⟨_, h⟩, fun D hD => lc_tup (K := K) (a := a) (xs := rs) (fun i H3 => Same H2 H3 ∧ H3 D = some (.lst ((List.replicate i true).map V.bl))) (st0 D hD) (fun i H3 _ z => sqT_same h z.1)
        (fun i y H3 hi z => ⟨rfl, turn D hD i y H3 hi z⟩) (fun H3 z => fin D H3 z.1 z.2)⟩
end
end WU

set_option maxRecDepth 100000
set_option maxHeartbeats 8000000
namespace WU
open PySem PySem.Spec PyProof.Rows L2
/-- the attributes of a Library -/
def lf (p : Int) (a : Addr) (nb nl : Int) (tl : Addr) : List (Str × V) :=
  putF "letters" (.ref tl) (putF "book_length" (.int nl) (putF "book_count" (.int nb) (putF "books" (.ref a) (putF "p" (.int p) []))))
theorem lf_p {p : Int} {a : Addr} {nb nl : Int} {tl : Addr} : (lf p a nb nl tl).lookup ("p" : Str) = some (.int p) := by
  unfold lf
  rw [lookup_putF, if_neg (by decide +kernel), lookup_putF, if_neg (by decide +kernel), lookup_putF, if_neg (by decide +kernel), lookup_putF, if_neg (by decide +kernel), lookup_putF, if_pos rfl]
theorem lf_books {p : Int} {a : Addr} {nb nl : Int} {tl : Addr} : (lf p a nb nl tl).lookup ("books" : Str) = some (.ref a) := by
  unfold lf
  rw [lookup_putF, if_neg (by decide +kernel), lookup_putF, if_neg (by decide +kernel), lookup_putF, if_neg (by decide +kernel), lookup_putF, if_pos rfl]
theorem lf_count {p : Int} {a : Addr} {nb nl : Int} {tl : Addr} : (lf p a nb nl tl).lookup ("book_count" : Str) = some (.int nb) := by
  unfold lf
  rw [lookup_putF, if_neg (by decide +kernel), lookup_putF, if_neg (by decide +kernel), lookup_putF, if_pos rfl]
theorem lf_length {p : Int} {a : Addr} {nb nl : Int} {tl : Addr} : (lf p a nb nl tl).lookup ("book_length" : Str) = some (.int nl) := by
  unfold lf
  rw [lookup_putF, if_neg (by decide +kernel), lookup_putF, if_pos rfl]
theorem lf_letters {p : Int} {a : Addr} {nb nl : Int} {tl : Addr} : (lf p a nb nl tl).lookup ("letters" : Str) = some (.ref tl) := by
  unfold lf
  rw [lookup_putF, if_pos rfl]
theorem lf_no {p : Int} {a : Addr} {nb nl : Int} {tl : Addr} {m : Str} (h1 : ¬ m = "letters") (h2 : ¬ m = "book_length") (h3 : ¬ m = "book_count") (h4 : ¬ m = "books") (h5 : ¬ m = "p") : (lf p a nb nl tl).lookup m = none := by
  unfold lf
  rw [lookup_putF, if_neg h1, lookup_putF, if_neg h2, lookup_putF, if_neg h3, lookup_putF, if_neg h4, lookup_putF, if_neg h5]
  rfl
/-- a Library stands at x -/
def LibAt (L : Addr) (H : Hp) (x : Addr) (p : Int) (n : Nat) (bs : List (List Int)) : Prop := ∃ (dx a tl : Addr) (rs : List V), H x = some (.ins L dx (lf p a bs.length n tl)) ∧ H a = some (.tup rs) ∧ Paired (TB H) rs bs ∧ H tl = some (.tup (bs.flatten.map V.int))
theorem LibAt.same {L : Addr} {H H' : Hp} {x : Addr} {p : Int} {n : Nat} {bs : List (List Int)} (h : LibAt L H x p n bs) (s : Same H H') : LibAt L H' x p n bs := by
  obtain ⟨dx, a, tl, rs, h1, h2, h3, h4⟩ := h
  exact ⟨dx, a, tl, rs, s _ _ h1, s _ _ h2, paired_mono (fun _ _ h => h.same s) h3, s _ _ h4⟩
theorem SB.keep {H H' : Hp} {x : Addr} {L dx : Addr} {fs : List (Str × V)} {r : V} {b : List Int} (hx : H x = some (.ins L dx fs)) (h : SB H r b) (k : Keep x H H') : SB H' r b := by
  obtain ⟨c, e, h | h⟩ := h
  · exact ⟨c, e, .inl (k _ _ (ne_of h hx (by intro z; cases z)) h)⟩
  · exact ⟨c, e, .inr (k _ _ (ne_of h hx (by intro z; cases z)) h)⟩
theorem TB.keep {H H' : Hp} {x : Addr} {L dx : Addr} {fs : List (Str × V)} {r : V} {b : List Int} (hx : H x = some (.ins L dx fs)) (h : TB H r b) (k : Keep x H H') : TB H' r b := by
  obtain ⟨c, e, h⟩ := h
  exact ⟨c, e, k _ _ (ne_of h hx (by intro z; cases z)) h⟩
theorem keep_upd {x : Addr} {o : HO} {H : Hp} : Keep x H (upd H x o) := fun b u hb e => by rw [upd_ne hb]; exact e
section
variable {P : Program} {w : World} {K : PySem.W.Frag} {mg : Str → Option Value} {base : Heap} {L : Addr}
/-- what is asked of the class Library, at L -/
structure LibC (K : PySem.W.Frag) (mg : Str → Option Value) (L : Addr) : Prop where
  g : mg "Library" = some (.ref L)
  cl : Cls K L
  nP : NoAttr K L "p"
  nB : NoAttr K L "books"
  nC : NoAttr K L "book_count"
  nL : NoAttr K L "book_length"
  nT : NoAttr K L "letters"
  ha : PySem.W.findIn K (.ref L) "__class__" = some (some (.builtin "object.__class__"))
  hn : PySem.W.specialIn K (.builtin "object.__class__") "__get__" = some (some (.builtin "getset_descriptor.__get__"))
  htk : PySem.W.takesIn K (.builtin "object.__class__") = some true
  hm : PySem.W.mroIn K L (.type "object") = some true
  kS : PySem.W.kitOne K (.ref L) (.ref L) = some true
def rTupOf (K : PySem.W.Frag) : List V → Hp → VK → Prop := fun xs H Q => ∃ p ys, xs = [V.ref p] ∧ ((SqL K H p ys ∧ ∀ l, H l = none → Q (.ref l) (upd H l (.tup ys))) ∨ (SqT K H p ys ∧ Q (.ref p) H))
def spLbI (K : PySem.W.Frag) (L : Addr) : Sp := fun vs H Q _ => ∃ (x dx a : Addr) (p : Int) (rs : List V) (bs : List (List Int)) (n : Nat), vs = [.ref x, .int p, .ref a] ∧ H x = some (.ins L dx []) ∧ p ∈ primes ∧ (H a = some (.lst rs) ∨ H a = some (.tup rs)) ∧ Paired (SB H) rs bs ∧ LGood p n bs ∧
  ∀ H', LibAt L H' x p n bs → Keep x H H' → Q .non H'
theorem scLI : FnScope ["self", "p", "books", "book"] ["self", "p", "books"] (defScope sLibrary_init) := ⟨rfl, rfl, rfl, by decide +kernel, rfl, by decide +kernel, by decide +kernel⟩
theorem ok_LI {f f1 f2 f3 : Addr} {fd fd1 fd2 fd3 : FuncData} (F : FunD K "__init__" "Library.__init__" (defArgs sLibrary_init) (defBody sLibrary_init) (defScope sLibrary_init) [] [] f fd) (B : Blt3 mg) (C : LibC K mg L) (CF : Cal P w K mg base 3 "check_field" f1 fd1 ["p"] (spCheck K))
    (CB : Cal P w K mg base 5 "are_books" f2 fd2 ["p", "value"] (spAB K)) (CO : Cal P w K mg base 1 "letters_of" f3 fd3 ["books"] (spLet K)) : FnOk P w K mg base (L2.CX P w) 6 f fd ["self", "p", "books"] (spLbI K L) := by
  refine F.ok scLI (fun vs H Q E h => ?_) (fun cdv A outer s H vs Q E hr h => ?_)
  · obtain ⟨x, dx, a, p, rs, bs, n, rfl, _⟩ := h
    rfl
  · obtain ⟨x, dx, a, p, rs, bs, n, rfl, hx0, hp, hx, hP, g, k⟩ := h
    have nd := scLI.nd
    have hr1 := hr.mono (show 1 ≤ 5 by decide)
    have hr3 := hr.mono (show 3 ≤ 5 by decide)
    refine ⟨_, (pss_cons (ps_expr (pe_cal CF hr3 (pa_cons (pv 1) pa_nil) passU))
      (pss_cons (ps_if (pt_not (pt_val (pe_cal CB hr (pa_cons (pv 1) (pa_cons (pv 2) pa_nil)) passU))) (pss_one ps_never) pss_nil)
      (pss_cons (ps_fld (pv 0) (pv 1) rfl)
      (pss_cons (ps_fld (pv 0) (pe_callTy call_tuple_of (by rfl) B.tuple (by decide +kernel) (pa_cons (pe_lc (te := tCB (rTupOf K) (tCons (tVar 3) tNil)) (own := [("book", 3)]) (g := gName 3) (by rfl) nd (pi_seq (pv 2)) (blkOk_by (own := [("book", 3)]) (N := ["self", "p", "books", "book"]) (sc := defScope sLibrary_init) (by decide +kernel)) (fun _ _ _ _ _ => pg_name (i := 3) nd rfl (Or.inl rfl)) (fun _ _ _ _ _ => pts_nil) (fun _ _ _ _ _ => (pe_callTy call_tuple_of (by rfl) B.tuple (by decide +kernel) (pa_cons (pv 3) pa_nil)))) pa_nil)) rfl)
      (pss_cons (ps_fld (pv 0) (pe_callB call_len_seq (by rfl) B.len (by decide +kernel) (pa_cons (pe_fld (pv 0) rfl) pa_nil)) rfl)
      (pss_cons (ps_fld (pv 0) (pe_callB call_len_seq (by rfl) B.len (by decide +kernel) (pa_cons (pe_ix ix_tup (pe_fld (pv 0) rfl) pe_int (fun _ _ => rfl)) pa_nil)) rfl)
      (pss_one (ps_fld (pv 0) (pe_cal CO hr1 (pa_cons (pe_fld (pv 0) rfl) pa_nil) passU) rfl)))))))), ?_⟩
    refine ⟨_, rfl, .int p, rfl, ty3_int p, fun _ => ⟨_, rfl, _, rfl, p, a, rs, bs, n, rfl, hx.imp SqL.of SqT.of, hP, g, fun H1 s1 => ⟨_, rfl, iteF ?_⟩⟩, fun e => by rw [mem_fld hp] at e; cases e⟩
    have hx1 := s1 _ _ hx0
    refine ⟨_, rfl, _, rfl, x, L, dx, [], rfl, hx1, C.cl, C.nP, (by show 0 < 1000; decide), ?_⟩
    generalize h2 : upd H1 x (.ins L dx (putF "p" (.int p) [])) = H2
    have k2 : Keep x H1 H2 := by rw [← h2]; exact keep_upd
    have e2 : H2 x = some (.ins L dx (putF "p" (.int p) [])) := by rw [← h2]; exact upd_same
    have nax : a ≠ x := by
      rcases hx with h | h
      · exact ne_of h hx0 (by intro z; cases z)
      · exact ne_of h hx0 (by intro z; cases z)
    have ha2 : H2 a = some (.lst rs) ∨ H2 a = some (.tup rs) := hx.imp (fun h => k2 _ _ nax (s1 _ _ h)) fun h => k2 _ _ nax (s1 _ _ h)
    have hP2 : Paired (SB H2) rs bs := paired_mono (fun _ _ h => (h.same s1).keep hx1 k2) hP
    have cnt := g.cnt
    have turn : ∀ (D : Addr), H2 D = none → ∀ (i : Nat) (y : V) (H3 : Hp), rs[i]? = some y → (Same H2 H3 ∧ ∃ ts, H3 D = some (.lst ts) ∧ Paired (TB H3) ts (bs.take i)) →
        (tCB (rTupOf K) (tCons (tVar 3) tNil)) [some (.ref x), some (.int p), some (.ref a), some y] H3
          fun z H4 => ∃ acc, H4 D = some (.lst acc) ∧ acc.length < sizeLine ∧ Same H2 (upd H4 D (.lst (acc ++ [z]))) ∧ ∃ ts, upd H4 D (.lst (acc ++ [z])) D = some (.lst ts) ∧ Paired (TB (upd H4 D (.lst (acc ++ [z])))) ts (bs.take (i + 1)) := by
      rintro D hD i y H3 hi ⟨s3, ts, eD, hts⟩
      obtain ⟨b, hb, sb⟩ := paired_at hP2 hi
      have hi2 : i < bs.length := (List.getElem?_eq_some_iff.mp hb).1
      have tl : ts.length < sizeLine := by
        rw [paired_len hts, List.length_take]
        exact small1000 (by omega)
      have et : bs.take (i + 1) = bs.take i ++ [b] := by rw [List.take_succ, hb]; rfl
      have tbD : ∀ {H' : Hp} {o : HO} {r : V} {b : List Int} {ts0 : List V}, H' D = some (.lst ts0) → TB H' r b → TB (upd H' D o) r b := fun hl h => by
        obtain ⟨c, e, h⟩ := h
        exact ⟨c, e, by rw [upd_ne (ne_of h hl (by intro z; cases z))]; exact h⟩
      obtain ⟨c, rfl, h | h⟩ := sb.same s3
      · refine ⟨_, rfl, c, _, rfl, .inl ⟨SqL.of h, fun l hl => ?_⟩⟩
        have eD4 : upd H3 l (.tup (b.map V.int)) D = some (.lst ts) := by rw [upd_ne (ne_of_none eD hl)]; exact eD
        refine ⟨_, eD4, tl, fun d o hd => ?_, ts ++ [.ref l], upd_same, ?_⟩
        · rw [upd_ne (ne_of_none hd hD), upd_ne (ne_of_none (s3 _ _ hd) hl)]
          exact s3 _ _ hd
        · rw [et]
          exact paired_app (paired_mono (fun _ _ q => tbD eD4 (q.same (same_new hl))) hts) (.cons (tbD eD4 ⟨l, rfl, upd_same⟩) .nil)
      · refine ⟨_, rfl, c, _, rfl, .inr ⟨SqT.of h, ?_⟩⟩
        refine ⟨_, eD, tl, fun d o hd => ?_, ts ++ [.ref c], upd_same, ?_⟩
        · rw [upd_ne (ne_of_none hd hD)]
          exact s3 _ _ hd
        · rw [et]
          exact paired_app (paired_mono (fun _ _ q => tbD eD q) hts) (.cons (tbD eD ⟨c, rfl, h⟩) .nil)
    have st0 : ∀ D, H2 D = none → Same H2 (upd H2 D (.lst [])) ∧ ∃ ts, upd H2 D (.lst []) D = some (.lst ts) ∧ Paired (TB (upd H2 D (.lst []))) ts (bs.take 0) := fun D hD => ⟨same_new hD, [], upd_same, .nil⟩
    have eln := paired_len hP
    refine ⟨_, rfl, a, rfl, ?_⟩
    rcases ha2 with h | h
    refine .inl ⟨⟨_, SqL.of h⟩, fun D hD => lc_list (K := K) (a := a) (xs := rs) (fun i H3 => Same H2 H3 ∧ ∃ ts, H3 D = some (.lst ts) ∧ Paired (TB H3) ts (bs.take i)) (st0 D hD) (fun i H3 _ z => SqL.of (z.1 _ _ h))
        (fun i y H3 hi z => ⟨rfl, turn D hD i y H3 hi z⟩) ?_⟩
    rotate_left
    refine .inr ⟨⟨_, SqT.of h⟩, fun D hD => lc_tup (K := K) (a := a) (xs := rs) (fun i H3 => Same H2 H3 ∧ ∃ ts, H3 D = some (.lst ts) ∧ Paired (TB H3) ts (bs.take i)) (st0 D hD) (fun i H3 _ z => SqT.of (z.1 _ _ h))
        (fun i y H3 hi z => ⟨rfl, turn D hD i y H3 hi z⟩) ?_⟩
    all_goals
      rintro H3 ⟨s3, ts, eD, hts⟩
      rw [eln, List.take_length] at hts
      refine ⟨D, ts, rfl, .inl ⟨SqL.of eD, fun T hT => ?_⟩⟩
      have e3 := s3 _ _ e2
      have eT4 : upd H3 T (.tup ts) T = some (.tup ts) := upd_same
      have e4 : upd H3 T (.tup ts) x = some (.ins L dx (putF "p" (.int p) [])) := same_new hT _ _ e3
      have hts4 : Paired (TB (upd H3 T (.tup ts))) ts bs := paired_mono (fun _ _ q => q.same (same_new hT)) hts
      have k4 : Keep x H2 (upd H3 T (.tup ts)) := Keep.of (s3.trans (same_new hT))
      generalize h4 : upd H3 T (.tup ts) = H4 at eT4 e4 hts4 k4 ⊢
      have nTx : T ≠ x := ne_of eT4 e4 (by intro z; cases z)
      refine ⟨_, rfl, x, L, dx, _, rfl, e4, C.cl, C.nB, (by show 1 < 1000; decide), ?_⟩
      have k5 : Keep x H4 (upd H4 x (.ins L dx (putF "books" (.ref T) (putF "p" (.int p) [])))) := keep_upd
      have e5 : upd H4 x (.ins L dx (putF "books" (.ref T) (putF "p" (.int p) []))) x = some (.ins L dx (putF "books" (.ref T) (putF "p" (.int p) []))) := upd_same
      generalize upd H4 x (.ins L dx (putF "books" (.ref T) (putF "p" (.int p) []))) = H5 at k5 e5 ⊢
      have eT5 := k5 _ _ nTx eT4
      have lb5 : (putF "books" (.ref T) (putF "p" (.int p) []) : List (Str × V)).lookup ("books" : Str) = some (.ref T) := by rw [lookup_putF, if_pos rfl]
      refine ⟨_, rfl, x, L, dx, _, _, rfl, e5, C.cl, C.nB, lb5, T, ts, rfl, .inr (SqT.of eT5), _, rfl, x, L, dx, _, rfl, e5, C.cl, C.nC, (by show 2 < 1000; decide), ?_⟩
      rw [paired_len hts4]
      have k6 : Keep x H5 (upd H5 x (.ins L dx (putF "book_count" (.int (bs.length : Int)) (putF "books" (.ref T) (putF "p" (.int p) []))))) := keep_upd
      have e6 : upd H5 x (.ins L dx (putF "book_count" (.int (bs.length : Int)) (putF "books" (.ref T) (putF "p" (.int p) [])))) x = some (.ins L dx (putF "book_count" (.int (bs.length : Int)) (putF "books" (.ref T) (putF "p" (.int p) [])))) := upd_same
      generalize upd H5 x (.ins L dx (putF "book_count" (.int (bs.length : Int)) (putF "books" (.ref T) (putF "p" (.int p) [])))) = H6 at k6 e6 ⊢
      have eT6 := k6 _ _ nTx eT5
      have lb6 : (putF "book_count" (.int (bs.length : Int)) (putF "books" (.ref T) (putF "p" (.int p) [])) : List (Str × V)).lookup ("books" : Str) = some (.ref T) := by rw [lookup_putF, if_neg (by decide +kernel), lb5]
      have k46 : Keep x H4 H6 := k5.trans k6
      have hts6 : Paired (TB H6) ts bs := paired_mono (fun _ _ q => q.keep e4 k46) hts4
      obtain ⟨b0, hb0⟩ : ∃ b0, bs[0]? = some b0 := by
        cases e : bs with
        | nil => exact absurd e g.ne
        | cons b0 _ => exact ⟨b0, rfl⟩
      obtain ⟨r0, hr0, c0, er0, ec0⟩ := paired_of hts6 hb0
      have g0 := g.all b0 (List.mem_of_getElem? hb0)
      refine ⟨_, rfl, x, L, dx, _, _, rfl, e6, C.cl, C.nB, lb6, T, ts, 0, r0, rfl, rfl, SqT.of eT6, atI_nat (j := 0) hr0, c0, _, by rw [er0], .inr (SqT.of ec0), _, rfl, x, L, dx, _, rfl, e6, C.cl, C.nL, (by show 3 < 1000; decide), ?_⟩
      rw [List.length_map, g0.1]
      have k7 : Keep x H6 (upd H6 x (.ins L dx (putF "book_length" (.int (n : Int)) (putF "book_count" (.int (bs.length : Int)) (putF "books" (.ref T) (putF "p" (.int p) [])))))) := keep_upd
      have e7 : upd H6 x (.ins L dx (putF "book_length" (.int (n : Int)) (putF "book_count" (.int (bs.length : Int)) (putF "books" (.ref T) (putF "p" (.int p) []))))) x = some (.ins L dx (putF "book_length" (.int (n : Int)) (putF "book_count" (.int (bs.length : Int)) (putF "books" (.ref T) (putF "p" (.int p) []))))) := upd_same
      generalize upd H6 x (.ins L dx (putF "book_length" (.int (n : Int)) (putF "book_count" (.int (bs.length : Int)) (putF "books" (.ref T) (putF "p" (.int p) []))))) = H7 at k7 e7 ⊢
      have eT7 := k7 _ _ nTx eT6
      have hts7 : Paired (TB H7) ts bs := paired_mono (fun _ _ q => q.keep e6 k7) hts6
      have lb7 : (putF "book_length" (.int (n : Int)) (putF "book_count" (.int (bs.length : Int)) (putF "books" (.ref T) (putF "p" (.int p) []))) : List (Str × V)).lookup ("books" : Str) = some (.ref T) := by rw [lookup_putF, if_neg (by decide +kernel), lb6]
      refine ⟨_, rfl, x, L, dx, _, _, rfl, e7, C.cl, C.nB, lb7, T, ts, bs, n, rfl, SqT.of eT7, hts7, cnt, fun b hb => (g.all b hb).1, g.le, fun tl H8 s8 etl => ?_⟩
      have e8 := s8 _ _ e7
      have ntx : tl ≠ x := ne_of etl e8 (by intro z; cases z)
      refine ⟨_, rfl, x, L, dx, _, rfl, e8, C.cl, C.nT, (by show 4 < 1000; decide), ?_⟩
      have k9 : Keep x H8 (upd H8 x (.ins L dx (lf p T bs.length n tl))) := keep_upd
      refine k _ ⟨dx, T, tl, ts, upd_same, ?_, ?_, ?_⟩ ?_
      · exact k9 _ _ nTx (s8 _ _ eT7)
      · exact paired_mono (fun _ _ q => (q.same s8).keep e8 k9) hts7
      · exact k9 _ _ ntx etl
      · exact (Keep.of s1).trans (k2.trans (k4.trans (k46.trans (k7.trans ((Keep.of s8).trans k9)))))
end
end WU

set_option maxRecDepth 100000
set_option maxHeartbeats 8000000
namespace WU
open PySem PySem.Spec PyProof.Rows L2
/-! ### data of tuples alone, and frames that keep all tuples -/
def TK (H H' : Hp) : Prop := ∀ c xs, H c = some (.tup xs) → H' c = some (.tup xs)
theorem TK.refl {H : Hp} : TK H H := fun _ _ h => h
theorem TK.trans {H H1 H2 : Hp} (x : TK H H1) (y : TK H1 H2) : TK H H2 := fun c xs h => y c xs (x c xs h)
theorem TK.of {H H' : Hp} (s : Same H H') : TK H H' := fun c xs h => s _ _ h
theorem TK.keep {H H' : Hp} {a : Addr} {o : HO} (k : Keep a H H') (e : H a = some o) (n : ∀ xs, o ≠ .tup xs) : TK H H' := fun c xs h => k c _ (fun z => by rw [z, e] at h; exact n xs (Option.some.inj h)) h
theorem TK.put {H : Hp} {a : Addr} {o u : HO} (e : H a = some o) (n : ∀ xs, o ≠ .tup xs) : TK H (upd H a u) := fun c xs h => by
  rw [upd_ne fun z => by rw [z, e] at h; exact n xs (Option.some.inj h)]
  exact h
theorem TK.new {H : Hp} {a : Addr} {u : HO} (e : H a = none) : TK H (upd H a u) := .of (same_new e)
def Stb {α : Type} (F : Hp → V → α → Prop) : Prop := ∀ (H H' : Hp) (v : V) (z : α), TK H H' → F H v z → F H' v z
def TF {α : Type} (F : Hp → V → α → Prop) : Hp → V → List α → Prop := fun H v l => ∃ c xs, v = .ref c ∧ H c = some (.tup xs) ∧ Paired (F H) xs l
theorem stb_TF {α : Type} {F : Hp → V → α → Prop} (st : Stb F) : Stb (TF F) := fun H H' v z k ⟨c, xs, e, h, p⟩ => ⟨c, xs, e, k _ _ h, paired_mono (fun _ _ q => st _ _ _ _ k q) p⟩
theorem stb_FI : Stb FI := fun _ _ _ _ _ h => h
/-- rows, matrices, rows of matrices, .. -/
abbrev T1 := TF FI
abbrev T2 := TF T1
abbrev T3 := TF T2
abbrev T4 := TF T3
theorem stb1 : Stb T1 := stb_TF stb_FI
theorem stb2 : Stb T2 := stb_TF stb1
theorem stb3 : Stb T3 := stb_TF stb2
theorem stb4 : Stb T4 := stb_TF stb3
theorem T1.ft {H : Hp} {v : V} {r : List Int} (h : T1 H v r) : FT H v r := by
  obtain ⟨c, xs, e, h, p⟩ := h
  rw [fi_map p] at h
  exact ⟨c, e, .inl h⟩
theorem T1.mk {H : Hp} {c : Addr} {r : List Int} (h : H c = some (.tup (r.map V.int))) : T1 H (.ref c) r := ⟨c, _, rfl, h, by
  clear h
  induction r with
  | nil => exact .nil
  | cons x r ih => exact .cons rfl ih⟩
theorem T2.mt {H : Hp} {v : V} {m : List (List Int)} (h : T2 H v m) : MT H v m := by
  obtain ⟨c, xs, e, h, p⟩ := h
  exact ⟨c, xs, e, h, paired_mono (fun _ _ q => q.ft) p⟩
/-- the data of such -/
def Dt (K : PySem.W.Frag) {α : Type} (F : Hp → V → α → Prop) (d : α → PyData) : Prop := ∀ H v z, F H v z → Dp K H v (d z)
theorem dt_all {K : PySem.W.Frag} {α : Type} {F : Hp → V → α → Prop} {d : α → PyData} (h : Dt K F d) {H : Hp} : ∀ {xs : List V} {l : List α}, Paired (F H) xs l → DpAll K H xs (l.map d)
  | _, _, .nil => .nil
  | _, _, .cons x t => .cons (h _ _ _ x) (dt_all h t)
theorem dt_TF {K : PySem.W.Frag} {α : Type} {F : Hp → V → α → Prop} {d : α → PyData} (h : Dt K F d) : Dt K (TF F) fun l => .tuple (l.map d) := fun H v l ⟨c, xs, e, hc, p⟩ => e ▸ .tup (SqT.of hc) (dt_all h p)
theorem dt_FI {K : PySem.W.Frag} : Dt K FI PyData.int := fun H v z e => by
  have e : v = .int z := e
  rw [e]
  exact .int z
def d1 (r : List Int) : PyData := .tuple (r.map PyData.int)
def d2 (m : List (List Int)) : PyData := .tuple (m.map d1)
def d3 (q : List (List (List Int))) : PyData := .tuple (q.map d2)
theorem dt1 {K : PySem.W.Frag} : Dt K T1 d1 := dt_TF dt_FI
theorem dt2 {K : PySem.W.Frag} : Dt K T2 d2 := dt_TF dt1
theorem dt3 {K : PySem.W.Frag} : Dt K T3 d3 := dt_TF dt2
/-- a list that is built of such, whatever else changes -/
def Bd {α : Type} (F : Hp → V → α → Prop) (D : Addr) (zs : List α) (H : Hp) : Prop := ∃ ys, H D = some (.lst ys) ∧ Paired (F H) ys zs
theorem Bd.start {α : Type} {F : Hp → V → α → Prop} {D : Addr} {H : Hp} : Bd F D [] (upd H D (.lst [])) := ⟨[], upd_same, .nil⟩
theorem Bd.skip {α : Type} {F : Hp → V → α → Prop} {D : Addr} {zs : List α} {H H' : Hp} (b : Bd F D zs H) (st : Stb F) (k : TK H H') (e : ∀ ys, H D = some (.lst ys) → H' D = some (.lst ys)) : Bd F D zs H' := by
  obtain ⟨ys, h, p⟩ := b
  exact ⟨ys, e _ h, paired_mono (fun _ _ q => st _ _ _ _ k q) p⟩
theorem Bd.put {α : Type} {F : Hp → V → α → Prop} {D : Addr} {zs : List α} {z : α} {y : V} {H : Hp} (b : Bd F D zs H) (st : Stb F) (f : F H y z) (hl : zs.length < sizeLine) :
    ∃ acc, H D = some (.lst acc) ∧ acc.length < sizeLine ∧ Bd F D (zs ++ [z]) (upd H D (.lst (acc ++ [y]))) ∧ TK H (upd H D (.lst (acc ++ [y]))) := by
  obtain ⟨ys, h, p⟩ := b
  have k : TK H (upd H D (.lst (ys ++ [y]))) := TK.put h fun xs z => nomatch z
  exact ⟨ys, h, by rw [paired_len p]; exact hl, ⟨ys ++ [y], upd_same, paired_app (paired_mono (fun _ _ q => st _ _ _ _ k q) p) (.cons (st _ _ _ _ k f) .nil)⟩, k⟩
/-- what was built, as a tuple -/
theorem Bd.tup {α : Type} {F : Hp → V → α → Prop} {D : Addr} {zs : List α} {H : Hp} (b : Bd F D zs H) (st : Stb F) : ∃ ys, H D = some (.lst ys) ∧ ∀ T, H T = none → TF F (upd H T (.tup ys)) (.ref T) zs := by
  obtain ⟨ys, h, p⟩ := b
  exact ⟨ys, h, fun T hT => ⟨T, ys, rfl, upd_same, paired_mono (fun _ _ q => st _ _ _ _ (TK.new hT) q) p⟩⟩
/-! ### < of data -/
def rLtD (K : PySem.W.Frag) : R2 := fun x y H Q => ∃ d e, Dp K H x d ∧ Dp K H y e ∧ PySem.W.alike d e = true ∧ d ≠ .none ∧ d.depth ≤ 60 ∧ Q (.bl (PySem.W.dataLt d e)) H
section
variable {X : Cx} {K : PySem.W.Frag}
theorem op_ltD0 (hu : X.A.units + 64 < cLine) : OpR X (compareOp .Lt) (rLtD X.K) := by
  intro pins s σ H x y v u Q I rx ry h
  obtain ⟨d, e, hd, he, al, nn, dp, q⟩ := h
  obtain ⟨as, r1⟩ := Dp.reads I d x v hd rx
  obtain ⟨bs, r2⟩ := Dp.reads I e y u he ry
  exact PySem.W.lt_data r1 r2 al nn (by omega) ⟨.bl _, H, I, rfl, q⟩
theorem op_ltD (hu : X.A.units + 64 < cLine) (hK : X.K = K := by rfl) : OpR X (compareOp .Lt) (rLtD K) := hK ▸ op_ltD0 hu
end
end WU

set_option maxRecDepth 100000
set_option maxHeartbeats 8000000
namespace WU
open PySem PySem.Spec PyProof.Rows L2
/-! ### the order of matrices -/
theorem eqvAll_ints : ∀ a b : List Int, PyData.eqvAll (a.map PyData.int) (b.map PyData.int) = true → a = b
  | [], [], _ => rfl
  | [], _ :: _, h => by simp [PyData.eqvAll] at h
  | _ :: _, [], h => by simp [PyData.eqvAll] at h
  | x :: a, y :: b, h => by
    simp only [List.map_cons, PyData.eqvAll, PyData.eqv, Bool.and_eq_true] at h
    have := eqvAll_ints a b h.2
    simp_all
theorem eqvAll_rows : ∀ a b : List (List Int), PyData.eqvAll (a.map d1) (b.map d1) = true → a = b
  | [], [], _ => rfl
  | [], _ :: _, h => by simp [PyData.eqvAll] at h
  | _ :: _, [], h => by simp [PyData.eqvAll] at h
  | x :: a, y :: b, h => by
    simp only [List.map_cons, PyData.eqvAll, d1, PyData.eqv, Bool.and_eq_true] at h
    rw [eqvAll_ints x y h.1, eqvAll_rows a b h.2]
theorem eqv_d2 {a b : List (List Int)} (h : PyData.eqv (d2 a) (d2 b) = true) : a = b := eqvAll_rows a b (by simpa [d2, PyData.eqv] using h)
theorem alikeI : ∀ a b : List Int, PySem.W.alikeAll (a.map PyData.int) (b.map PyData.int) = true
  | [], _ => by simp [PySem.W.alikeAll]
  | _ :: _, [] => by simp [PySem.W.alikeAll]
  | x :: a, y :: b => by
    simp only [List.map_cons, PySem.W.alikeAll, PySem.W.alike, Bool.true_and]
    exact alikeI a b
theorem alikeR : ∀ a b : List (List Int), PySem.W.alikeAll (a.map d1) (b.map d1) = true
  | [], _ => by simp [PySem.W.alikeAll]
  | _ :: _, [] => by simp [PySem.W.alikeAll]
  | x :: a, y :: b => by
    simp only [List.map_cons, PySem.W.alikeAll, d1, PySem.W.alike, Bool.and_eq_true]
    exact ⟨alikeI x y, alikeR a b⟩
theorem alike2 (a b : List (List Int)) : PySem.W.alike (d2 a) (d2 b) = true := by
  show PySem.W.alike (.tuple _) (.tuple _) = true
  rw [PySem.W.alike]
  exact alikeR a b
theorem depthI : ∀ a : List Int, PyData.depthAll (a.map PyData.int) ≤ 1
  | [] => by simp [PyData.depthAll]
  | x :: a => by
    have := depthI a
    simp only [List.map_cons, PyData.depthAll, PyData.depth]
    omega
theorem depthR : ∀ a : List (List Int), PyData.depthAll (a.map d1) ≤ 3
  | [] => by simp [PyData.depthAll]
  | x :: a => by
    have := depthR a
    have := depthI x
    simp only [List.map_cons, PyData.depthAll, d1, PyData.depth]
    omega
theorem depth2 (a : List (List Int)) : (d2 a).depth ≤ 60 := by
  have := depthR a
  show (PyData.tuple _).depth ≤ 60
  rw [PyData.depth]
  omega
/-- below, as Python says -/
def ltM (a b : List (List Int)) : Bool := PySem.W.dataLt (d2 a) (d2 b)
theorem ltM_irr (a : List (List Int)) : ltM a a = false := PyProof.Rows.lex_irrefl _
theorem ltM_tr {a b c : List (List Int)} (h : ltM a b = true) (k : ltM b c = true) : ltM a c = true := PyProof.Rows.lex_trans _ _ _ h k
theorem ltM_tot {a b : List (List Int)} (h : ltM a b = false) (k : ltM b a = false) : a = b := by
  have e := PyProof.Rows.lex_total (O := PyProof.Rows.itemOrd) _ _ h k
  refine eqv_d2 ?_
  cases q : PyData.eqv (d2 a) (d2 b) with
  | true => rfl
  | false =>
    exfalso
    have z := (PySem.W.toks_eqv (d2 a) (d2 b) (alike2 a b)).2 q [Sum.inl 0] [Sum.inl 1]
    rw [e, PySem.W.lex_pre] at z
    rw [PyProof.Rows.lex_irrefl] at z
    revert z
    decide
/-- rising, one by one -/
def Ris : List (List (List Int)) → Prop
  | [] => True
  | [_] => True
  | a :: b :: r => ltM a b = true ∧ Ris (b :: r)
theorem ris_at : ∀ {l : List (List (List Int))} {i : Nat} {a b : List (List Int)}, Ris l → l[i]? = some a → l[i + 1]? = some b → ltM a b = true
  | [], i, _, _, _, h, _ => by simp at h
  | [x], i, _, _, _, _, h => by simp at h
  | x :: y :: r, 0, a, b, h, h1, h2 => by
    cases h1
    cases h2
    exact h.1
  | x :: y :: r, i + 1, a, b, h, h1, h2 => ris_at (l := y :: r) (i := i) h.2 h1 h2
theorem cut1 (xs : List V) : cutV xs (some 1) none = xs.drop 1 := by
  cases xs with
  | nil => rfl
  | cons x t =>
    have e1 : HT.sIx (x :: t).length 0 (some 1) = 1 := by
      show min (1 : Int).toNat (t.length + 1) = 1
      show min 1 (t.length + 1) = 1
      omega
    unfold cutV
    rw [e1, HT.sIx_none]
    show t.take (t.length + 1 - 1) = t
    rw [Nat.add_sub_cancel, List.take_length]
section
variable {X : Cx} {K : PySem.W.Frag}
theorem zipAK {e e2 : Expr} {ta : TA} {p pos tpos : Pos} {elts : List Expr} {kk : Nat} (hg : Gl X "zip") (hm : X.mg "zip" = none) (ha : PA X [e, e2] ta)
    (hs : starEach [e, e2] X.env = (false, eval e X.env) :: starEach [e2] X.env := by rfl) (hpl : (backTo pos (starEach [e2] X.env)).any (·.1) = false := by rfl) (hK : X.K = K := by rfl) :
    PI X (.Tuple elts kk tpos) (.Call (.Name "zip" p) [e, e2] [] pos) (RZ.iZipA K ta) := hK ▸ RZ.pi_zipA hg hm ha hs hpl
end
section
variable {P : Program} {w : World} {K : PySem.W.Frag} {mg : Str → Option Value} {base : Heap} {S : Addr}
/-- is_rising(numbers): matrices that rise -/
def spRi : Sp := fun vs H Q _ => ∃ v qs, vs = [v] ∧ T3 H v qs ∧ Ris qs ∧ qs.length ≤ 900 ∧ ∀ H', Same H H' → Q (.bl true) H'
theorem scRi : FnScope ["numbers", "one", "other"] ["numbers"] (defScope s_is_rising) := ⟨rfl, rfl, rfl, by decide +kernel, rfl, by decide +kernel, by decide +kernel⟩
theorem ok_Ri {f : Addr} {fd : FuncData} (F : FnS K "is_rising" s_is_rising f fd) (B : Blt4 mg) : FnOk P w K mg base (L2.CX P w) 1 f fd ["numbers"] spRi := by
  refine F.ok scRi (fun vs H Q E h => ?_) (fun cdv A outer s H vs Q E hr h => ?_)
  · obtain ⟨v, qs, rfl, _⟩ := h
    rfl
  · obtain ⟨v, qs, rfl, ⟨a, xs, rfl, ha, hP⟩, hR, hl, kk⟩ := h
    have nd := scRi.nd
    have hu := hr.units
    have el := paired_len hP
    refine ⟨_, (pss_one (ps_ret (pe_callB (cr_allK (K := K) rfl) (by rfl) B.all (by decide +kernel) (pa_cons (pe_lc (own := [("one", 1), ("other", 2)]) (g := (gTup K 2 (gCons (gName 1) (gCons (gName 2) gNil)))) (by rfl) nd (zipAK (K := K) (by rfl) B.zip (pa_cons (pv 0) (pa_cons (pe_slice (sl_tupAK (K := K)) (pv 0) (po_some pe_int) po_none) pa_nil))) (blkOk_by (own := [("one", 1), ("other", 2)]) (N := ["numbers", "one", "other"]) (sc := defScope s_is_rising) (by decide +kernel)) (fun _ _ _ _ _ => (pg_tup rfl (pgs_cons (pg_name (i := 1) nd rfl (Or.inl rfl)) (pgs_cons (pg_name (i := 2) nd rfl (Or.inl rfl)) pgs_nil)))) (fun _ _ _ _ _ => pts_nil) (fun _ _ _ _ _ => (pe_cmpR (op_ltD (K := K) hu) (pv 1) (pv 2) (nomark _)))) pa_nil)))), ?_⟩
    refine ⟨_, rfl, _, rfl, 1, rfl, ?_⟩
    dsimp only [tNoPart]
    refine slA_is ha fun b H1 s1 hb => ?_
    rw [cut1] at hb
    refine ⟨a, b, xs, xs.drop 1, rfl, .inr ⟨SqT.of (s1 _ _ ha), SqT.of hb, fun D hD => lc_it (walk_zipT (n := xs.length - 1) (by rw [List.length_drop]; omega)) (fun i H' => Same H1 H' ∧ H' D = some (.lst ((List.replicate i true).map V.bl))) ⟨same_new hD, upd_same⟩ (fun i H' _ z => ⟨SqT.of (z.1 _ _ (s1 _ _ ha)), SqT.of (z.1 _ _ hb)⟩) ?_ ?_⟩⟩
    · rintro i x H2 H3 hi ⟨z1, z2⟩ ⟨T, x1, x2, rfl, hT, rfl, g1, g2⟩
      obtain ⟨y1, e1, f1⟩ := paired_at hP g1
      have g2 : (xs.drop 1)[i]? = some x2 := g2
      rw [List.getElem?_drop, Nat.add_comm 1 i] at g2
      obtain ⟨y2, e2, f2⟩ := paired_at hP g2
      have k3 : TK H (upd H2 T (.tup [x1, x2])) := (TK.of (s1.trans z1)).trans (TK.new hT)
      refine ⟨T, _, rfl, SqT.of upd_same, rfl, _, _, rfl, _, _, rfl, rfl, rfl, _, rfl, _, rfl, d2 y1, d2 y2, dt2 _ _ _ (stb2 _ _ _ _ k3 f1), dt2 _ _ _ (stb2 _ _ _ _ k3 f2), alike2 _ _, (by intro z; cases z), depth2 _, ?_⟩
      have elt : PySem.W.dataLt (d2 y1) (d2 y2) = true := ris_at hR e1 e2
      rw [elt]
      have nD : ∀ (c : Addr) (u : HO), H1 c = some u → c ≠ D := fun c u z => ne_of_none z hD
      have z2' : upd H2 T (.tup [x1, x2]) D = some (.lst ((List.replicate i true).map V.bl)) := same_new hT _ _ z2
      refine ⟨_, z2', by rw [List.length_map, List.length_replicate]; exact small1000 (by omega), fun c u z => ?_, ?_⟩
      · rw [upd_ne (nD c u z)]
        exact same_new hT _ _ (z1 _ _ z)
      · rw [upd_same, List.replicate_succ', List.map_append]
        rfl
    · rintro H2 ⟨z1, z2⟩
      refine ⟨D, _, rfl, SqL.of z2, ?_⟩
      rw [show ((List.replicate (xs.length - 1) true).all id) = true by simp]
      exact kk _ (s1.trans z1)
/-- is_positive(value) -/
def isPos : V → Bool
  | .int i => decide (0 < i)
  | _ => false
def spPo : Sp := fun vs H Q _ => ∃ i : Int, vs = [.int i] ∧ 0 < i ∧ Q (.bl true) H
theorem scPo : FnScope ["value"] ["value"] (defScope s_is_positive) := ⟨rfl, rfl, rfl, by decide +kernel, rfl, by decide +kernel, by decide +kernel⟩
theorem ok_Po {f f1 : Addr} {fd fd1 : FuncData} (F : FnS K "is_positive" s_is_positive f fd) (C0 : Cal P w K mg base 1 "is_integer" f1 fd1 ["value"] (spIsInt K)) : FnOk P w K mg base (L2.CX P w) 2 f fd ["value"] spPo := by
  refine F.ok scPo (fun vs H Q E h => ?_) (fun cdv A outer s H vs Q E hr h => ?_)
  · obtain ⟨i, rfl, _⟩ := h
    rfl
  · obtain ⟨i, rfl, hi, kk⟩ := h
    have nd := scPo.nd
    refine ⟨_, (pss_one (ps_ret (pe_and (pe_cal C0 (hr.mono (by decide)) (pa_cons (pv 0) pa_nil) passU) (pe_one (pe_cmpR op_gt (pv 0) pe_int (nomark _)))))), ?_⟩
    refine ⟨_, rfl, _, rfl, ty3_int i, _, rfl, iteT ⟨_, rfl, _, _, rfl, rfl, ?_⟩⟩
    show Q (.bl (decide (0 < i))) H
    rw [decide_eq_true hi]
    exact kk
end
end WU

set_option maxRecDepth 100000
set_option maxHeartbeats 8000000
namespace WU
open PySem PySem.Spec PyProof.Rows L2
section
variable {P : Program} {w : World} {K : PySem.W.Frag} {mg : Str → Option Value} {base : Heap} {S : Addr}
/-- check_sizes(p, book_length, book_count) that are right -/
def spSz : Sp := fun vs H Q _ => ∃ p n c : Int, vs = [.int p, .int n, .int c] ∧ p ∈ primes ∧ 0 < n ∧ 0 < c ∧ Q .non H
theorem sccheck_sizes : FnScope ["p", "book_length", "book_count"] ["p", "book_length", "book_count"] (defScope s_check_sizes) := ⟨rfl, rfl, rfl, by decide +kernel, rfl, by decide +kernel, by decide +kernel⟩
theorem ok_Sz {f f1 f2 : Addr} {fd fd1 fd2 : FuncData} (F : FnS K "check_sizes" s_check_sizes f fd) (C3 : Cal P w K mg base 2 "is_field" f1 fd1 ["p"] (spIsFld K)) (CPo : Cal P w K mg base 2 "is_positive" f2 fd2 ["value"] spPo) : FnOk P w K mg base (L2.CX P w) 3 f fd ["p", "book_length", "book_count"] spSz := by
  refine F.ok sccheck_sizes (fun vs H Q E h => ?_) (fun cdv A outer s H vs Q E hr h => ?_)
  · obtain ⟨p, n, c, rfl, _⟩ := h
    rfl
  · obtain ⟨p, n, c, rfl, hp, hn, hc, kk⟩ := h
    have nd := sccheck_sizes.nd
    refine ⟨_, (pss_cons (ps_if (pt_not (pt_val (pe_cal C3 (hr.mono (by decide)) (pa_cons (pv 0) pa_nil) passU))) (pss_one ps_never) pss_nil)
      (pss_cons (ps_if (pt_not (pt_val (pe_cal CPo (hr.mono (by decide)) (pa_cons (pv 1) pa_nil) passU))) (pss_one ps_never) pss_nil)
      (pss_one (ps_if (pt_not (pt_val (pe_cal CPo (hr.mono (by decide)) (pa_cons (pv 2) pa_nil) passU))) (pss_one ps_never) pss_nil)))), ?_⟩
    refine ⟨_, rfl, _, rfl, ty3_int p, _, rfl, ?_⟩
    rw [mem_fld hp]
    exact iteF ⟨_, rfl, n, rfl, hn, _, rfl, iteF ⟨_, rfl, c, rfl, hc, _, rfl, iteF kk⟩⟩
/-- members_of(value): of a tuple that is not empty -/
def spMe : Sp := fun vs H Q _ => ∃ (a : Addr) (xs : List V) (ds : List PyData) (K0 : PySem.W.Frag), vs = [.ref a] ∧ H a = some (.tup xs) ∧ Dp K0 H (.ref a) (.tuple ds) ∧ xs ≠ [] ∧ xs.length ≤ 900 ∧ ∀ l H', H' l = some (.lst xs) → Same H H' → Q (.ref l) H'
def spPs : Sp := fun vs H Q _ => ∃ (z : Str) (l : Addr) (n : Nat), vs = [.str z, .ref l] ∧ H l = some (.lst ((List.replicate n true).map V.bl)) ∧ Q .non H
theorem sccheck_places : FnScope ["part", "rights"] ["part", "rights"] (defScope s_check_places) := ⟨rfl, rfl, rfl, by decide +kernel, rfl, by decide +kernel, by decide +kernel⟩
theorem ok_Ps {f : Addr} {fd : FuncData} (F : FnS K "check_places" s_check_places f fd) : FnOk P w K mg base (L2.CX P w) 1 f fd ["part", "rights"] spPs := by
  refine F.ok sccheck_places (fun vs H Q E h => ?_) (fun cdv A outer s H vs Q E hr h => ?_)
  · obtain ⟨z, l, n, rfl, _⟩ := h
    rfl
  · obtain ⟨z, l, n, rfl, hl, kk⟩ := h
    have nd := sccheck_places.nd
    refine ⟨_, (pss_one (ps_if (pt_cmpR (op_inK (K := K)) pe_bl (pv 1) rfl) (pss_one ps_never) pss_nil)), ?_⟩
    refine ⟨_, rfl, l, _, rfl, .inl (SqL.of hl), rfl, by simp [flatV], _, rfl, ?_⟩
    rw [show (if false = true then !inV (.bl false) ((List.replicate n true).map V.bl) else inV (.bl false) ((List.replicate n true).map V.bl)) = false by
      rw [if_neg Bool.false_ne_true]
      clear hl
      induction n with
      | zero => rfl
      | succ n ih =>
        rw [List.replicate_succ, List.map_cons]
        unfold inV at ih ⊢
        rw [List.any_cons, ih]
        rfl]
    exact iteF kk
/-- kept_questions(questions): of tuples of tuples -/
def spKq {α : Type} (F : Hp → V → α → Prop) : Sp := fun vs H Q _ => ∃ v l, vs = [v] ∧ TF (TF F) H v l ∧ l.length ≤ 900 ∧ ∀ y H', Same H H' → TF (TF F) H' y l → Q y H'
theorem sckept_questions : FnScope ["questions", "asked"] ["questions"] (defScope s_kept_questions) := ⟨rfl, rfl, rfl, by decide +kernel, rfl, by decide +kernel, by decide +kernel⟩
theorem ok_Kq {α : Type} {G : Hp → V → α → Prop} (st : Stb G) {f : Addr} {fd : FuncData} (F : FnS K "kept_questions" s_kept_questions f fd) (B : Blt4 mg) : FnOk P w K mg base (L2.CX P w) 1 f fd ["questions"] (spKq G) := by
  refine F.ok sckept_questions (fun vs H Q E h => ?_) (fun cdv A outer s H vs Q E hr h => ?_)
  · obtain ⟨v, l, rfl, _⟩ := h
    rfl
  · obtain ⟨v, l, rfl, ⟨a, xs, rfl, ha, hP⟩, hl, kk⟩ := h
    have nd := sckept_questions.nd
    have el := paired_len hP
    refine ⟨_, (pss_one (ps_ret (pe_callTy (tup_ofK (K := K)) (by rfl) B.tuple (by decide +kernel) (pa_cons (pe_lc (own := [("asked", 1)]) (g := gName 1) (by rfl) nd (pi_tupK (K := K) (pv 0)) (blkOk_by (own := [("asked", 1)]) (N := ["questions", "asked"]) (sc := defScope s_kept_questions) (by decide +kernel)) (fun _ _ _ _ _ => (pg_name (i := 1) nd rfl (Or.inl rfl))) (fun _ _ _ _ _ => pts_nil) (fun _ _ _ _ _ => (pe_callTy (tup_ofK (K := K)) (by rfl) B.tuple (by decide +kernel) (pa_cons (pv 1) pa_nil)))) pa_nil)))), ?_⟩
    refine ⟨_, rfl, a, rfl, ⟨_, SqT.of ha⟩, fun D hD => lc_tup (K := K) (a := a) (xs := xs) (fun i H' => Same H H' ∧ Bd (TF G) D (l.take i) H') ⟨same_new hD, Bd.start⟩ (fun i H' _ z => SqT.of (z.1 _ _ ha)) ?_ ?_⟩
    · rintro i x H1 hx ⟨s1, b⟩
      obtain ⟨z, hz, c, ys, rfl, hc, hp⟩ := paired_at hP hx
      have s1c := s1 _ _ hc
      refine ⟨rfl, _, rfl, c, _, rfl, .inr ⟨SqT.of s1c, ?_⟩⟩
      obtain ⟨acc, ea, la, bb, kt⟩ := b.put (stb_TF st) (z := z) (y := .ref c) ⟨c, ys, rfl, s1c, paired_mono (fun _ _ q => st _ _ _ _ (TK.of s1) q) hp⟩ (by rw [List.length_take]; exact small1000 (by omega))
      refine ⟨acc, ea, la, fun b u hb => ?_, ?_⟩
      · rw [upd_ne (ne_of_none hb hD)]
        exact s1 _ _ hb
      · rw [List.take_succ, hz]
        exact bb
    · rintro H1 ⟨s1, b⟩
      rw [el, List.take_length] at b
      obtain ⟨ys, e, ft⟩ := b.tup (stb_TF st)
      exact ⟨D, _, rfl, .inl ⟨SqL.of e, fun T hT => kk _ _ (s1.trans (same_new hT)) (ft T hT)⟩⟩
/-- draws: pairs of a weight and asks -/
def TD : Hp → V → Int × List (List Int) → Prop := fun H v d => ∃ c y, v = .ref c ∧ H c = some (.tup [.int d.1, y]) ∧ T2 H y d.2
theorem stb_TD : Stb TD := fun H H' v d k ⟨c, y, e, h, t⟩ => ⟨c, y, e, k _ _ h, stb2 _ _ _ _ k t⟩
def spWt : Sp := fun vs H Q _ => ∃ v l, vs = [v] ∧ TF TD H v l ∧ l.length ≤ 900 ∧ ∀ H', Same H H' → Q (.int (l.map (·.1)).sum) H'
theorem scweight_of : FnScope ["draws", "weight", "_"] ["draws"] (defScope s_weight_of) := ⟨rfl, rfl, rfl, by decide +kernel, rfl, by decide +kernel, by decide +kernel⟩
theorem ok_Wt {f : Addr} {fd : FuncData} (F : FnS K "weight_of" s_weight_of f fd) (B : Blt5 mg) : FnOk P w K mg base (L2.CX P w) 1 f fd ["draws"] spWt := by
  refine F.ok scweight_of (fun vs H Q E h => ?_) (fun cdv A outer s H vs Q E hr h => ?_)
  · obtain ⟨v, l, rfl, _⟩ := h
    rfl
  · obtain ⟨v, l, rfl, ⟨a, xs, rfl, ha, hP⟩, hl, kk⟩ := h
    have nd := scweight_of.nd
    have el := paired_len hP
    refine ⟨_, (pss_one (ps_ret (pe_callB (cr_sumK (K := K) rfl) (by rfl) B.sum (by decide +kernel) (pa_cons (pe_lc (own := [("weight", 1), ("_", 2)]) (g := (gTup K 2 (gCons (gName 1) (gCons (gName 2) gNil)))) (by rfl) nd (pi_tupK (K := K) (pv 0)) (blkOk_by (own := [("weight", 1), ("_", 2)]) (N := ["draws", "weight", "_"]) (sc := defScope s_weight_of) (by decide +kernel)) (fun _ _ _ _ _ => (pg_tup rfl (pgs_cons (pg_name (i := 1) nd rfl (Or.inl rfl)) (pgs_cons (pg_name (i := 2) nd rfl (Or.inl rfl)) pgs_nil)))) (fun _ _ _ _ _ => pts_nil) (fun _ _ _ _ _ => (pv 1))) pa_nil)))), ?_⟩
    refine ⟨_, rfl, a, rfl, ⟨_, SqT.of ha⟩, fun D hD => lc_tup (K := K) (a := a) (xs := xs) (fun i H' => Same H H' ∧ H' D = some (.lst (((l.map (·.1)).take i).map V.int))) ⟨same_new hD, upd_same⟩ (fun i H' _ z => SqT.of (z.1 _ _ ha)) ?_ ?_⟩
    · rintro i x H1 hx ⟨s1, e1⟩
      obtain ⟨⟨wt, ak⟩, hz, c, y, rfl, hc, hy⟩ := paired_at hP hx
      refine ⟨c, _, rfl, SqT.of (s1 _ _ hc), rfl, _, _, rfl, _, _, rfl, rfl, rfl, _, rfl, _, e1, ?_, fun b u hb => ?_, ?_⟩
      · rw [List.length_map, List.length_take, List.length_map]
        exact small1000 (by omega)
      · rw [upd_ne (ne_of_none hb hD)]
        exact s1 _ _ hb
      · rw [upd_same, List.take_succ, List.getElem?_map, hz, List.map_append]
        rfl
    · rintro H1 ⟨s1, e1⟩
      rw [el, show l.length = (l.map (·.1)).length by rw [List.length_map], List.take_length] at e1
      exact ⟨D, _, rfl, SqL.of e1, kk _ s1⟩
end
end WU

set_option maxRecDepth 100000
set_option maxHeartbeats 8000000
namespace WU
open PySem PySem.Spec PyProof.Rows L2
theorem bl_put {H H' : Hp} {D : Addr} {i : Nat} (s : Same H H') (e : H' D = some (.lst ((List.replicate i true).map V.bl))) (hD : H D = none) (hi : i ≤ 1000) :
    ∃ acc, H' D = some (.lst acc) ∧ acc.length < sizeLine ∧ Same H (upd H' D (.lst (acc ++ [.bl true]))) ∧ upd H' D (.lst (acc ++ [.bl true])) D = some (.lst ((List.replicate (i + 1) true).map V.bl)) := by
  refine ⟨_, e, by rw [List.length_map, List.length_replicate]; exact small1000 hi, fun b u hb => ?_, ?_⟩
  · rw [upd_ne (ne_of_none hb hD)]
    exact s _ _ hb
  · rw [upd_same, List.replicate_succ', List.map_append]
    rfl
theorem bl_all (n : Nat) : ((List.replicate n true).all id) = true := by simp
theorem tup_at {K : PySem.W.Frag} {H : Hp} {c : Addr} {xs : List V} {i : Nat} {v : V} {Q : VK} (h : H c = some (.tup xs)) (e : xs[i]? = some v) (q : Q v H) : rIxT K (.ref c) (.int (i : Int)) H Q := ⟨c, xs, (i : Int), v, rfl, rfl, SqT.of h, atI_nat e, q⟩
def dD (d : Int × List (List Int)) : PyData := .tuple [.int d.1, d2 d.2]
theorem dtD {K : PySem.W.Frag} : Dt K TD dD := fun H v d ⟨c, y, e, h, t⟩ => e ▸ .tup (SqT.of h) (.cons (.int d.1) (.cons (dt2 _ _ _ t) .nil))
section
variable {P : Program} {w : World} {K : PySem.W.Frag} {mg : Str → Option Value} {base : Heap} {S : Addr}
/-- members_of(value): of a tuple that is not empty -/
def spMb (K : PySem.W.Frag) : Sp := fun vs H Q _ => ∃ (a : Addr) (xs : List V) (ds : List PyData), vs = [.ref a] ∧ H a = some (.tup xs) ∧ Dp K H (.ref a) (.tuple ds) ∧ 0 < xs.length ∧ ∀ l H', H' l = some (.lst xs) → Same H H' → Q (.ref l) H'
theorem scmembers_of : FnScope ["value"] ["value"] (defScope s_members_of) := ⟨rfl, rfl, rfl, by decide +kernel, rfl, by decide +kernel, by decide +kernel⟩
theorem ok_Mb {f f1 : Addr} {fd fd1 : FuncData} (F : FnS K "members_of" s_members_of f fd) (B : Blt4 mg) (CSq : Cal P w K mg base 1 "is_sequence" f1 fd1 ["value"] (spSeq K)) : FnOk P w K mg base (L2.CX P w) 2 f fd ["value"] (spMb K) := by
  refine F.ok scmembers_of (fun vs H Q E h => ?_) (fun cdv A outer s H vs Q E hr h => ?_)
  · obtain ⟨a, xs, ds, rfl, _⟩ := h
    rfl
  · obtain ⟨a, xs, ds, rfl, ha, hd, hl, kk⟩ := h
    have nd := scmembers_of.nd
    refine ⟨_, (pss_one (ps_ret (pe_ifExp (PW.pt (pw_and (pt_val (pe_cal CSq (hr.mono (by decide)) (pa_cons (pv 0) pa_nil) passU)) (pw_and1 (pt_cmpR op_gt (pe_callB (len_seqK (K := K)) (by rfl) B.len (by decide +kernel) (pa_cons (pv 0) pa_nil)) pe_int (nomark _))))) (pe_callTy (list_ofK (K := K)) (by rfl) B.lst (by decide +kernel) (pa_cons (pv 0) pa_nil)) (pe_lst (pa_cons pe_non pa_nil))))), ?_⟩
    refine ⟨_, rfl, _, _, rfl, hd, fun H1 s1 => ⟨_, rfl, iteT ?_⟩⟩
    refine ⟨_, rfl, a, _, rfl, .inr (SqT.of (s1 _ _ ha)), _, _, rfl, rfl, _, rfl, iteTb (decide_eq_true (by omega)) ?_⟩
    exact ⟨_, rfl, a, _, rfl, .inr (SqT.of (s1 _ _ ha)), fun l hq => kk l _ upd_same (s1.trans (same_new hq))⟩
/-- the questions of a house are right -/
def Qok (p : Int) (n : Nat) (qs : List (List (List Int))) : Prop := Ris qs ∧ qs.length ≤ 900 ∧ n ≤ 200 ∧ ∀ m ∈ qs, m.length ≤ 200 ∧ ∀ r ∈ m, Ltr p n r
def spQu : Sp := fun vs H Q _ => ∃ (p : Int) (n : Nat) (v : V) (qs : List (List (List Int))), vs = [.int p, .int n, v] ∧ T3 H v qs ∧ Qok p n qs ∧ ∀ H', Same H H' → Q (.bl true) H'
theorem scare_questions : FnScope ["p", "columns", "value", "question"] ["p", "columns", "value"] (defScope s_are_questions) := ⟨rfl, rfl, rfl, by decide +kernel, rfl, by decide +kernel, by decide +kernel⟩
theorem ok_Qu {f f1 f2 f3 : Addr} {fd fd1 fd2 fd3 : FuncData} (F : FnS K "_are_questions" s_are_questions f fd) (B : Blt4 mg) (CSq : Cal P w K mg base 1 "is_sequence" f1 fd1 ["value"] (spSeq K)) (CMt : Cal P w K mg base 6 "is_matrix" f2 fd2 ["value", "p", "columns"] (spMat K)) (CRi : Cal P w K mg base 1 "is_rising" f3 fd3 ["numbers"] spRi) :
    FnOk P w K mg base (L2.CX P w) 7 f fd ["p", "columns", "value"] spQu := by
  refine F.ok scare_questions (fun vs H Q E h => ?_) (fun cdv A outer s H vs Q E hr h => ?_)
  · obtain ⟨p, n, v, qs, rfl, _⟩ := h
    rfl
  · obtain ⟨p, n, v, qs, rfl, hT, ⟨hR, hl, hn, hq⟩, kk⟩ := h
    have nd := scare_questions.nd
    obtain ⟨a, xs, rfl, ha, hP⟩ := id hT
    have el := paired_len hP
    refine ⟨_, (pss_one (ps_ret (pe_and (pe_cal CSq (hr.mono (by decide)) (pa_cons (pv 2) pa_nil) passU) (pe_and (pe_callB (cr_allK (K := K) rfl) (by rfl) B.all (by decide +kernel) (pa_cons (pe_lc (own := [("question", 3)]) (g := gName 3) (by rfl) nd (pi_tupK (K := K) (pv 2)) (blkOk_by (own := [("question", 3)]) (N := ["p", "columns", "value", "question"]) (sc := defScope s_are_questions) (by decide +kernel)) (fun _ _ _ _ _ => (pg_name (i := 3) nd rfl (Or.inl rfl))) (fun _ _ _ _ _ => pts_nil) (fun _ _ _ _ _ => (pe_cal CMt (hr.mono (by decide)) (pa_cons (pv 3) (pa_cons (pv 0) (pa_cons (pv 1) pa_nil))) passU))) pa_nil)) (pe_one (pe_cal CRi (hr.mono (by decide)) (pa_cons (pv 2) pa_nil) passU)))))), ?_⟩
    refine ⟨_, rfl, _, d3 qs, rfl, dt3 _ _ _ hT, fun H1 s1 => ⟨_, rfl, iteT ?_⟩⟩
    refine ⟨_, rfl, a, rfl, ⟨_, SqT.of (s1 _ _ ha)⟩, fun D hD => lc_tup (K := K) (a := a) (xs := xs) (fun i H' => Same H1 H' ∧ H' D = some (.lst ((List.replicate i true).map V.bl))) ⟨same_new hD, upd_same⟩ (fun i H' _ z => SqT.of (z.1 _ _ (s1 _ _ ha))) ?_ ?_⟩
    · rintro i x H2 hx ⟨z1, z2⟩
      obtain ⟨m, hm, fm⟩ := paired_at hP hx
      have mo := hq m (List.mem_of_getElem? hm)
      have fm2 : T2 H2 x m := stb2 _ _ _ _ (TK.of (s1.trans z1)) fm
      refine ⟨rfl, _, rfl, _, rfl, _, rfl, p, n, x, MD m, rfl, fm2.mt.dp, small_rows mo.2 hn mo.1, fun H3 s3 => ?_⟩
      rw [mat_rows mo.2]
      have hil : i < xs.length := (List.getElem?_eq_some_iff.mp hx).1
      exact bl_put (z1.trans s3) (s3 _ _ z2) hD (by omega)
    · rintro H2 ⟨z1, z2⟩
      refine ⟨D, _, rfl, SqL.of z2, ?_⟩
      rw [bl_all]
      exact ⟨_, rfl, iteT ⟨_, rfl, _, qs, rfl, stb3 _ _ _ _ (TK.of (s1.trans z1)) hT, hR, hl, fun H3 s3 => kk _ ((s1.trans z1).trans s3)⟩⟩
/-- _is_framed(value, book_count, house_count) of a draw that is -/
def spFr : Sp := fun vs H Q _ => ∃ (v : V) (wt : Int) (ak : List (List Int)) (n m : Nat), vs = [v, .int n, .int m] ∧ TD H v (wt, ak) ∧ 0 < wt ∧ ak.length = n ∧ (∀ r ∈ ak, r.length = m) ∧ n ≤ 900 ∧ ∀ H', Same H H' → Q (.bl true) H'
theorem scis_framed : FnScope ["value", "book_count", "house_count", "asks", "asked"] ["value", "book_count", "house_count"] (defScope s_is_framed) := ⟨rfl, rfl, rfl, by decide +kernel, rfl, by decide +kernel, by decide +kernel⟩
theorem ok_Fr {f f1 f2 : Addr} {fd fd1 fd2 : FuncData} (F : FnS K "_is_framed" s_is_framed f fd) (B : Blt4 mg) (CSq : Cal P w K mg base 1 "is_sequence" f1 fd1 ["value"] (spSeq K)) (CPo : Cal P w K mg base 2 "is_positive" f2 fd2 ["value"] spPo) :
    FnOk P w K mg base (L2.CX P w) 3 f fd ["value", "book_count", "house_count"] spFr := by
  refine F.ok scis_framed (fun vs H Q E h => ?_) (fun cdv A outer s H vs Q E hr h => ?_)
  · obtain ⟨v, wt, ak, n, m, rfl, _⟩ := h
    rfl
  · obtain ⟨v, wt, ak, n, m, rfl, hT, hw, hn, hm, hl, kk⟩ := h
    have nd := scis_framed.nd
    obtain ⟨c, y, rfl, hc, hy⟩ := id hT
    obtain ⟨b, xs, rfl, hb, hP⟩ := id hy
    have el : xs.length = ak.length := paired_len hP
    refine ⟨_, (pss_cons (ps_if (PW.pt (pw_or (pt_not (pt_val (pe_cal CSq (hr.mono (by decide)) (pa_cons (pv 0) pa_nil) passU))) (pw_or (pt_cmpR op_ne (pe_callB (len_seqK (K := K)) (by rfl) B.len (by decide +kernel) (pa_cons (pv 0) pa_nil)) pe_int (nomark _)) (pw_or1 (pt_not (pt_val (pe_cal CPo (hr.mono (by decide)) (pa_cons (pe_ix (ix_tupK (K := K)) (pv 0) pe_int (fun _ _ => rfl)) pa_nil) passU))))))) (pss_one (ps_ret pe_bl)) pss_nil)
      (pss_cons (ps_set (i := 3) nd rfl (Or.inl rfl) (pe_ix (ix_tupK (K := K)) (pv 0) pe_int (fun _ _ => rfl)))
      (pss_cons (ps_if (PW.pt (pw_or (pt_not (pt_val (pe_cal CSq (hr.mono (by decide)) (pa_cons (pv 3) pa_nil) passU))) (pw_or1 (pt_cmpR op_ne (pe_callB (len_seqK (K := K)) (by rfl) B.len (by decide +kernel) (pa_cons (pv 3) pa_nil)) (pv 1) (nomark _))))) (pss_one (ps_ret pe_bl)) pss_nil)
      (pss_one (ps_ret (pe_callB (cr_allK (K := K) rfl) (by rfl) B.all (by decide +kernel) (pa_cons (pe_lc (own := [("asked", 4)]) (g := gName 4) (by rfl) nd (pi_tupK (K := K) (pv 3)) (blkOk_by (own := [("asked", 4)]) (N := ["value", "book_count", "house_count", "asks", "asked"]) (sc := defScope s_is_framed) (by decide +kernel)) (fun _ _ _ _ _ => (pg_name (i := 4) nd rfl (Or.inl rfl))) (fun _ _ _ _ _ => pts_nil) (fun _ _ _ _ _ => (pe_and (pe_cal CSq (hr.mono (by decide)) (pa_cons (pv 4) pa_nil) passU) (pe_one (pe_cmpR op_eq (pe_callB (len_seqK (K := K)) (by rfl) B.len (by decide +kernel) (pa_cons (pv 4) pa_nil)) (pv 2) (nomark _)))))) pa_nil))))))), ?_⟩
    refine ⟨_, rfl, _, _, rfl, dtD _ _ _ hT, fun H1 s1 => ⟨_, rfl, iteF ?_⟩⟩
    refine ⟨_, rfl, c, _, rfl, .inr (SqT.of (s1 _ _ hc)), rfl, _, rfl, iteFb rfl ?_⟩
    refine ⟨_, rfl, tup_at (i := 0) (s1 _ _ hc) rfl ⟨wt, rfl, hw, _, rfl, iteF ?_⟩⟩
    refine ⟨_, rfl, tup_at (i := 1) (s1 _ _ hc) rfl ?_⟩
    refine ⟨_, rfl, _, d2 ak, rfl, dt2 _ _ _ (stb2 _ _ _ _ (TK.of s1) hy), fun H2 s2 => ⟨_, rfl, iteF ?_⟩⟩
    have s2 := s1.trans s2
    refine ⟨_, rfl, b, _, rfl, .inr (SqT.of (s2 _ _ hb)), _, rfl, rfl, _, rfl, iteFb (by rw [decide_eq_true (congrArg (fun k : Nat => V.int k) (el.trans hn))]; rfl) ?_⟩
    refine ⟨_, rfl, b, rfl, ⟨_, SqT.of (s2 _ _ hb)⟩, fun D hD => lc_tup (K := K) (a := b) (xs := xs) (fun i H' => Same H2 H' ∧ H' D = some (.lst ((List.replicate i true).map V.bl))) ⟨same_new hD, upd_same⟩ (fun i H' _ z => SqT.of (z.1 _ _ (s2 _ _ hb))) ?_ ?_⟩
    · rintro i x H3 hx ⟨z1, z2⟩
      obtain ⟨r, hr1, fr⟩ := paired_at hP hx
      have fr3 : T1 H3 x r := stb1 _ _ _ _ (TK.of (s2.trans z1)) fr
      have rl := hm r (List.mem_of_getElem? hr1)
      have hil : i < xs.length := (List.getElem?_eq_some_iff.mp hx).1
      refine ⟨rfl, _, rfl, x, d1 r, rfl, dt1 _ _ _ fr3, fun H4 s4 => ⟨_, rfl, iteT ?_⟩⟩
      obtain ⟨e, ys, rfl, he, hp⟩ := stb1 _ _ _ _ (TK.of s4) fr3
      refine ⟨_, rfl, e, _, rfl, .inr (SqT.of he), _, rfl, rfl, ?_⟩
      rw [paired_len hp, rl, decide_eq_true rfl]
      exact bl_put (z1.trans s4) (s4 _ _ z2) hD (by omega)
    · rintro H3 ⟨z1, z2⟩
      refine ⟨D, _, rfl, SqL.of z2, ?_⟩
      rw [bl_all]
      exact kk _ (s2.trans z1)
end
end WU

set_option maxRecDepth 100000
set_option maxHeartbeats 8000000
namespace WU
open PySem PySem.Spec PyProof.Rows L2
/-- the inner walk of a comprehension -/
theorem wIt {J : It} {n : Nat} {G : Hp → Prop} {Y : Nat → Hp → V → Hp → Prop} (w : Walk J n G Y) {H0 : Hp} {Qd : Hp → Prop} {B : V → Hp → (Hp → Prop) → Prop} (Pv : Nat → Hp → Prop) (h0 : Pv 0 H0) (hG : ∀ i H, i ≤ n → Pv i H → G H)
    (hs : ∀ i x H H', i < n → Pv i H → Y i H x H' → B x H' (Pv (i + 1))) (hd : ∀ H, Pv n H → Qd H) :
    ∃ W : Nat → Nat → Hp → Prop, (∃ m, W 0 m H0) ∧ ∀ i m H, W i m H → (J.stop i H ∧ Qd H) ∨ (J.go i H ∧ ∃ Nx : Hp → Prop, (∀ H', Nx H' → ∃ m', m' < m ∧ W (i + 1) m' H') ∧ ∀ x H', J.yld i H x H' → B x H' Nx) := by
  refine ⟨fun i m H => m = n - i ∧ i ≤ n ∧ Pv i H, ⟨n, by simp, Nat.zero_le _, h0⟩, ?_⟩
  rintro i m H ⟨rfl, hi, p⟩
  have q := hG i H hi p
  by_cases hlt : i < n
  · exact .inr ⟨w.goes i H hlt q, Pv (i + 1), fun H' p' => ⟨n - (i + 1), by omega, rfl, hlt, p'⟩, fun x H' y => hs i x H H' hlt p (w.yields i H x H' hlt q y)⟩
  · have e : i = n := by omega
    subst e
    exact .inl ⟨w.stops H q, hd H p⟩
/-- a right draw -/
def Dok (n : Nat) (counts : List Int) (d : Int × List (List Int)) : Prop := 0 < d.1 ∧ d.2.length = n ∧ n * counts.length ≤ 900 ∧ n ≤ 900 ∧ ∀ r ∈ d.2, r.length = counts.length ∧ ∀ j, j < counts.length → 0 ≤ at0 r j ∧ at0 r j < at0 counts j
section
variable {P : Program} {w : World} {K : PySem.W.Frag} {mg : Str → Option Value} {base : Heap} {S : Addr}
/-- is_draw(value, book_count, counts) of one -/
def spIdr : Sp := fun vs H Q _ => ∃ (v : V) (d : Int × List (List Int)) (n : Nat) (cl : Addr) (counts : List Int), vs = [v, .int n, .ref cl] ∧ TD H v d ∧ H cl = some (.lst (counts.map V.int)) ∧ Dok n counts d ∧ ∀ H', Same H H' → Q (.bl true) H'
theorem scIdr : FnScope ["value", "book_count", "counts", "asked", "number", "count"] ["value", "book_count", "counts"] (defScope s_is_draw) := ⟨rfl, rfl, rfl, by decide +kernel, rfl, by decide +kernel, by decide +kernel⟩
theorem ok_Idr {f f1 f2 : Addr} {fd fd1 fd2 : FuncData} (F : FnS K "is_draw" s_is_draw f fd) (B : Blt4 mg) (CFr : Cal P w K mg base 3 "_is_framed" f1 fd1 ["value", "book_count", "house_count"] spFr) (C2 : Cal P w K mg base 3 "is_below" f2 fd2 ["value", "limit"] (spIsBel K)) :
    FnOk P w K mg base (L2.CX P w) 4 f fd ["value", "book_count", "counts"] spIdr := by
  refine F.ok scIdr (fun vs H Q E h => ?_) (fun cdv A outer s H vs Q E hr h => ?_)
  · obtain ⟨v, d, n, cl, counts, rfl, _⟩ := h
    rfl
  · obtain ⟨v, ⟨wt, ak⟩, n, cl, counts, rfl, hT, hcl, ⟨hw, hn, hnm, hn9, hr1⟩, kk⟩ := h
    have nd := scIdr.nd
    obtain ⟨c, y, rfl, hc, hy⟩ := id hT
    obtain ⟨b, xs, rfl, hb, hP⟩ := id hy
    have el : xs.length = ak.length := paired_len hP
    have hn : ak.length = n := hn
    have lc : (counts.map V.int).length = counts.length := List.length_map _
    refine ⟨_, (pss_cons (ps_if (pt_not (pt_val (pe_cal CFr (hr.mono (by decide)) (pa_cons (pv 0) (pa_cons (pv 1) (pa_cons (pe_callB (len_seqK (K := K)) (by rfl) B.len (by decide +kernel) (pa_cons (pv 2) pa_nil)) pa_nil))) passU))) (pss_one (ps_ret pe_bl)) pss_nil)
      (pss_one (ps_ret (pe_callB (cr_allK (K := K) rfl) (by rfl) B.all (by decide +kernel) (pa_cons (pe_lc2 (wi1 := iZipM K (tCons (tVar 3) (tCons (tVar 2) tNil))) (te := tCall (spIsBel K) [] E0 (tCons (tVar 4) (tCons (tVar 5) tNil))) (own := [("asked", 3), ("number", 4), ("count", 5)]) (vs1 := [4, 5]) (g := gName 3) (g1 := gTup K 2 (gCons (gName 4) (gCons (gName 5) gNil))) (by rfl) nd (pi_tupK (K := K) (pe_ix (ix_tupK (K := K)) (pv 0) pe_int (fun _ _ => rfl))) (blkOk_by (own := [("asked", 3), ("number", 4), ("count", 5)]) (N := ["value", "book_count", "counts", "asked", "number", "count"]) (sc := defScope s_is_draw) (by decide +kernel)) (by decide) (fun _ _ _ _ _ => pg_name (i := 3) nd rfl (Or.inl rfl)) (fun _ _ _ _ _ => pts_nil) (fun _ _ _ _ _ => pi_zipMK (K := K) (by rfl) B.zip (pa_cons (pv 3) (pa_cons (pv 2) pa_nil))) (fun _ _ _ _ _ => pg_tupK (K := K) (pg_tup rfl (pgs_cons (pg_name (i := 4) nd rfl (Or.inl rfl)) (pgs_cons (pg_name (i := 5) nd rfl (Or.inl rfl)) pgs_nil)))) (fun _ _ _ _ _ => pts_nil) (fun _ _ _ _ _ => (pe_cal C2 (hr.mono (by decide)) (pa_cons (pv 4) (pa_cons (pv 5) pa_nil)) passU))) pa_nil))))), ?_⟩
    refine ⟨_, rfl, _, rfl, _, rfl, cl, _, rfl, .inl (SqL.of hcl), _, wt, ak, n, (counts.map V.int).length, rfl, hT, hw, hn, fun r hr => by rw [lc]; exact (hr1 r hr).1, hn9, fun H1 s1 => ⟨_, rfl, iteF ?_⟩⟩
    have hb1 := s1 _ _ hb
    refine ⟨_, rfl, c, _, (1 : Int), .ref b, rfl, rfl, SqT.of (s1 _ _ hc), rfl, b, rfl, ⟨_, SqT.of hb1⟩, fun D hD => wTup (K := K) (a := b) (xs := xs) (fun i H' => Same H1 H' ∧ H' D = some (.lst ((List.replicate (i * counts.length) true).map V.bl))) ⟨same_new hD, by rw [Nat.zero_mul]; exact upd_same⟩ (fun i H' z => SqT.of (z.1 _ _ hb1)) ?_ ?_⟩
    · rintro i x H2 hx ⟨z1, z2⟩
      obtain ⟨r, hri, fr⟩ := paired_at hP hx
      obtain ⟨rl, rb⟩ := hr1 r (List.mem_of_getElem? hri)
      have hil : i < ak.length := (List.getElem?_eq_some_iff.mp hri).1
      have mul : i * counts.length + counts.length ≤ n * counts.length := by
        have := Nat.mul_le_mul_right counts.length (show i + 1 ≤ n by omega)
        rw [Nat.succ_mul] at this
        exact this
      obtain ⟨e, ys, rfl, he, hp⟩ := fr
      have eys := fi_map hp
      subst eys
      refine ⟨rfl, _, rfl, _, rfl, e, cl, _, _, rfl, .inl ⟨SqT.of ((s1.trans z1) _ _ he), SqL.of ((s1.trans z1) _ _ hcl), wIt (walk_zipM (n := counts.length) (by rw [List.length_map]; exact rl) (by rw [List.length_map])) (fun j H' => Same H1 H' ∧ H' D = some (.lst ((List.replicate (i * counts.length + j) true).map V.bl))) ⟨z1, z2⟩ (fun j H' _ z => ⟨SqT.of ((s1.trans z.1) _ _ he), SqL.of ((s1.trans z.1) _ _ hcl)⟩) ?_ ?_⟩⟩
      · rintro j x H3 H4 hj ⟨q1, q3⟩ ⟨T, x1, x2, rfl, hT4, rfl, g1, g2⟩
        cases (take_map_at counts.length (r := r) (i := j) (by omega)).symm.trans g1
        cases (take_map_at counts.length (r := counts) (i := j) hj).symm.trans g2
        have bb := rb j hj
        refine ⟨T, _, rfl, SqT.of upd_same, rfl, _, _, rfl, _, _, rfl, rfl, rfl, _, rfl, _, rfl, _, _, rfl, ty3_int _, ?_⟩
        rw [show isBel (at0 counts j) (.int (at0 r j)) = true by
          show (decide (0 ≤ at0 r j) && decide (at0 r j < at0 counts j)) = true
          rw [decide_eq_true bb.1, decide_eq_true bb.2]
          rfl]
        exact bl_put (i := i * counts.length + j) (q1.trans (same_new hT4)) (same_new hT4 _ _ q3) hD (by omega)
      · rintro H3 ⟨q1, q3⟩
        rw [← Nat.succ_mul] at q3
        exact ⟨q1, q3⟩
    · rintro H2 ⟨z1, z2⟩
      refine ⟨D, _, rfl, SqL.of z2, ?_⟩
      rw [bl_all]
      exact kk _ (s1.trans z1)
end
end WU

set_option maxRecDepth 100000
set_option maxHeartbeats 8000000
namespace WU
open PySem PySem.Spec PyProof.Rows L2
def lens {α : Type} (l : List (List α)) : List Int := l.map fun q => (q.length : Int)
theorem lens_len {α : Type} (l : List (List α)) : (lens l).length = l.length := List.length_map _
section
variable {P : Program} {w : World} {K : PySem.W.Frag} {mg : Str → Option Value} {base : Heap} {S : Addr}
/-- check_draws(book_count, questions, draws) of right ones -/
def spCd : Sp := fun vs H Q _ => ∃ (n : Nat) (qv dv : V) (qss : List (List (List (List Int)))) (ds : List (Int × List (List Int))), vs = [.int n, qv, dv] ∧ T4 H qv qss ∧ TF TD H dv ds ∧ 0 < ds.length ∧ ds.length ≤ 900 ∧ qss.length ≤ 900 ∧ (∀ d ∈ ds, Dok n (lens qss) d) ∧ ∀ H', Same H H' → Q .non H'
theorem sccheck_draws : FnScope ["book_count", "questions", "draws", "counts", "asked", "draw"] ["book_count", "questions", "draws"] (defScope s_check_draws) := ⟨rfl, rfl, rfl, by decide +kernel, rfl, by decide +kernel, by decide +kernel⟩
theorem ok_Cd {f f1 f2 f3 : Addr} {fd fd1 fd2 fd3 : FuncData} (F : FnS K "check_draws" s_check_draws f fd) (B : Blt4 mg) (CPl : Cal P w K mg base 1 "check_places" f1 fd1 ["part", "rights"] spPs) (CMe : Cal P w K mg base 2 "members_of" f2 fd2 ["value"] (spMb K)) (CDr : Cal P w K mg base 4 "is_draw" f3 fd3 ["value", "book_count", "counts"] spIdr) :
    FnOk P w K mg base (L2.CX P w) 5 f fd ["book_count", "questions", "draws"] spCd := by
  refine F.ok sccheck_draws (fun vs H Q E h => ?_) (fun cdv A outer s H vs Q E hr h => ?_)
  · obtain ⟨n, qv, dv, qss, ds, rfl, _⟩ := h
    rfl
  · obtain ⟨n, qv, dv, qss, ds, rfl, hQ, hD0, d0, d9, q9, ok, kk⟩ := h
    have nd := sccheck_draws.nd
    obtain ⟨a, xs, rfl, ha, hP⟩ := id hQ
    obtain ⟨b, ys, rfl, hb, hP2⟩ := id hD0
    have el := paired_len hP
    have el2 := paired_len hP2
    refine ⟨_, (pss_cons (ps_set (i := 3) nd rfl (Or.inr rfl) (pe_lc (own := [("asked", 4)]) (g := gName 4) (by rfl) nd (pi_tupK (K := K) (pv 1)) (blkOk_by (own := [("asked", 4)]) (N := ["book_count", "questions", "draws", "counts", "asked", "draw"]) (sc := defScope s_check_draws) (by decide +kernel)) (fun _ _ _ _ _ => (pg_name (i := 4) nd rfl (Or.inl rfl))) (fun _ _ _ _ _ => pts_nil) (fun _ _ _ _ _ => (pe_callB (len_seqK (K := K)) (by rfl) B.len (by decide +kernel) (pa_cons (pv 4) pa_nil)))))
      (pss_one (ps_expr (pe_cal CPl (hr.mono (by decide)) (pa_cons pe_str (pa_cons (pe_lc (own := [("draw", 5)]) (g := gName 5) (by rfl) nd (pi_listK (K := K) (pe_cal CMe (hr.mono (by decide)) (pa_cons (pv 2) pa_nil) passU)) (blkOk_by (own := [("draw", 5)]) (N := ["book_count", "questions", "draws", "counts", "asked", "draw"]) (sc := defScope s_check_draws) (by decide +kernel)) (fun _ _ _ _ _ => (pg_name (i := 5) nd rfl (Or.inl rfl))) (fun _ _ _ _ _ => pts_nil) (fun _ _ _ _ _ => (pe_cal CDr (hr.mono (by decide)) (pa_cons (pv 5) (pa_cons (pv 0) (pa_cons (pv 3) pa_nil))) passU))) pa_nil)) passU)))), ?_⟩
    refine ⟨_, rfl, a, rfl, ⟨_, SqT.of ha⟩, fun D hD => lc_tup (K := K) (a := a) (xs := xs) (fun i H' => Same H H' ∧ H' D = some (.lst (((lens qss).take i).map V.int))) ⟨same_new hD, upd_same⟩ (fun i H' _ z => SqT.of (z.1 _ _ ha)) ?_ ?_⟩
    · rintro i x H1 hx ⟨s1, e1⟩
      obtain ⟨q, hq, c, zs, rfl, hc, hp⟩ := paired_at hP hx
      refine ⟨rfl, _, rfl, c, _, rfl, .inr (SqT.of (s1 _ _ hc)), _, e1, ?_, fun bq u hbq => ?_, ?_⟩
      · rw [List.length_map, List.length_take, lens_len]
        exact small1000 (by omega)
      · rw [upd_ne (ne_of_none hbq hD)]
        exact s1 _ _ hbq
      · rw [upd_same, List.take_succ, show (lens qss)[i]? = some (q.length : Int) by unfold lens; rw [List.getElem?_map, hq]; rfl, List.map_append, paired_len hp]
        rfl
    · rintro H1 ⟨s1, e1⟩
      rw [el, show qss.length = (lens qss).length by rw [lens_len], List.take_length] at e1
      refine ⟨_, rfl, b, ys, _, rfl, s1 _ _ hb, dt_TF dtD _ _ _ (stb_TF stb_TD _ _ _ _ (TK.of s1) hD0), by omega, fun l H2 hl s2 => ?_⟩
      have s12 := s1.trans s2
      refine ⟨l, rfl, ⟨_, SqL.of hl⟩, fun D2 hD2 => lc_list (K := K) (a := l) (xs := ys) (fun i H' => Same H2 H' ∧ H' D2 = some (.lst ((List.replicate i true).map V.bl))) ⟨same_new hD2, upd_same⟩ (fun i H' _ z => SqL.of (z.1 _ _ hl)) ?_ ?_⟩
      · rintro i x H3 hx ⟨z1, z2⟩
        obtain ⟨d, hd, fd'⟩ := paired_at hP2 hx
        have hil : i < ys.length := (List.getElem?_eq_some_iff.mp hx).1
        exact ⟨rfl, _, rfl, _, rfl, _, rfl, x, d, n, D, lens qss, rfl, stb_TD _ _ _ _ (TK.of (s12.trans z1)) fd', z1 _ _ (s2 _ _ e1), ok d (List.mem_of_getElem? hd), fun H4 s4 => bl_put (z1.trans s4) (s4 _ _ z2) hD2 (by omega)⟩
      · rintro H3 ⟨z1, z2⟩
        exact ⟨_, D2, _, rfl, z2, kk _ (s12.trans z1)⟩
/-- kept_draws(draws) -/
def spKd2 : Sp := fun vs H Q _ => ∃ v ds, vs = [v] ∧ TF TD H v ds ∧ ds.length ≤ 900 ∧ (∀ d ∈ ds, d.2.length ≤ 900) ∧ ∀ y H', Same H H' → TF TD H' y ds → Q y H'
theorem sckept_draws : FnScope ["draws", "weight", "asks", "asked"] ["draws"] (defScope s_kept_draws) := ⟨rfl, rfl, rfl, by decide +kernel, rfl, by decide +kernel, by decide +kernel⟩
theorem ok_Kd2 {f : Addr} {fd : FuncData} (F : FnS K "kept_draws" s_kept_draws f fd) (B : Blt4 mg) : FnOk P w K mg base (L2.CX P w) 1 f fd ["draws"] spKd2 := by
  refine F.ok sckept_draws (fun vs H Q E h => ?_) (fun cdv A outer s H vs Q E hr h => ?_)
  · obtain ⟨v, ds, rfl, _⟩ := h
    rfl
  · obtain ⟨v, ds, rfl, ⟨a, xs, rfl, ha, hP⟩, hl, ha9, kk⟩ := h
    have nd := sckept_draws.nd
    have el := paired_len hP
    refine ⟨_, (pss_one (ps_ret (pe_callTy (tup_ofK (K := K)) (by rfl) B.tuple (by decide +kernel) (pa_cons (pe_lc (own := [("weight", 1), ("asks", 2)]) (g := (gTup K 2 (gCons (gName 1) (gCons (gName 2) gNil)))) (by rfl) nd (pi_tupK (K := K) (pv 0)) (blkOk_by (own := [("weight", 1), ("asks", 2)]) (N := ["draws", "weight", "asks", "asked"]) (sc := defScope s_kept_draws) (by decide +kernel)) (fun _ _ _ _ _ => (pg_tup rfl (pgs_cons (pg_name (i := 1) nd rfl (Or.inl rfl)) (pgs_cons (pg_name (i := 2) nd rfl (Or.inl rfl)) pgs_nil)))) (fun _ _ _ _ _ => pts_nil) (fun _ _ _ _ _ => (pe_tup (pa_cons (pv 1) (pa_cons (pe_callTy (tup_ofK (K := K)) (by rfl) B.tuple (by decide +kernel) (pa_cons (pe_lc (own := [("asked", 3)]) (g := gName 3) (by rfl) nd (pi_tupK (K := K) (pv 2)) (blkOk_by (own := [("asked", 3)]) (N := ["draws", "weight", "asks", "asked"]) (sc := relS (retLc ((defBody s_kept_draws).getD 0 (.Pass ⟨0, 0, 0, 0⟩))) (defScope s_kept_draws)) (by decide +kernel)) (fun _ _ _ _ _ => (pg_name (i := 3) nd rfl (Or.inl rfl))) (fun _ _ _ _ _ => pts_nil) (fun _ _ _ _ _ => (pe_callTy (tup_ofK (K := K)) (by rfl) B.tuple (by decide +kernel) (pa_cons (pv 3) pa_nil)))) pa_nil)) pa_nil))))) pa_nil)))), ?_⟩
    refine ⟨_, rfl, a, rfl, ⟨_, SqT.of ha⟩, fun D hD => lc_tup (K := K) (a := a) (xs := xs) (fun i H' => Same H H' ∧ Bd TD D (ds.take i) H') ⟨same_new hD, Bd.start⟩ (fun i H' _ z => SqT.of (z.1 _ _ ha)) ?_ ?_⟩
    · rintro i x H1 hx ⟨s1, b⟩
      obtain ⟨⟨wt, ak⟩, hd, c, y, rfl, hc, hy⟩ := paired_at hP hx
      have a9 := ha9 _ (List.mem_of_getElem? hd)
      obtain ⟨e, ys, rfl, he, hp⟩ := id hy
      have el2 : ys.length = ak.length := paired_len hp
      have hil : i < xs.length := (List.getElem?_eq_some_iff.mp hx).1
      refine ⟨c, _, rfl, SqT.of (s1 _ _ hc), rfl, _, _, rfl, _, _, rfl, rfl, rfl, _, rfl, ?_⟩
      refine ⟨_, rfl, e, rfl, ⟨_, SqT.of (s1 _ _ he)⟩, fun D2 hD2 => lc_tup (K := K) (a := e) (xs := ys) (fun j H' => Same H1 H' ∧ Bd T1 D2 (ak.take j) H') ⟨same_new hD2, Bd.start⟩ (fun j H' _ z => SqT.of (z.1 _ _ (s1 _ _ he))) ?_ ?_⟩
      · rintro j x H2 hx2 ⟨s2, b2⟩
        obtain ⟨r, hr2, g, zs, rfl, hg, hpz⟩ := paired_at hp hx2
        have hjl : j < ys.length := (List.getElem?_eq_some_iff.mp hx2).1
        have hg2 := (s1.trans s2) _ _ hg
        refine ⟨rfl, _, rfl, g, _, rfl, .inr ⟨SqT.of hg2, ?_⟩⟩
        obtain ⟨acc, e1, e2, e3, e4⟩ := b2.put stb1 (z := r) (y := .ref g) ⟨g, zs, rfl, hg2, paired_mono (fun _ _ q => q) hpz⟩ (by rw [List.length_take]; exact small1000 (by show min j ak.length ≤ 1000; have : ak.length ≤ 900 := a9; omega))
        refine ⟨acc, e1, e2, fun bq u hbq => ?_, ?_⟩
        · rw [upd_ne (ne_of_none hbq hD2)]
          exact s2 _ _ hbq
        · rw [List.take_succ, hr2]
          exact e3
      · rintro H2 ⟨s2, b2⟩
        rw [el2, List.take_length] at b2
        obtain ⟨zs, ez, ft⟩ := b2.tup stb1
        refine ⟨D2, _, rfl, .inl ⟨SqL.of ez, fun T hT => ?_⟩⟩
        have t2 := ft T hT
        have s3 := s2.trans (same_new (o := .tup zs) hT)
        generalize upd H2 T (.tup zs) = H3 at t2 s3 ⊢
        refine ⟨(by show 2 ≤ sizeLine; decide), fun p hp3 => ?_⟩
        have s4 := s3.trans (same_new (o := .tup [.int wt, .ref T]) hp3)
        have fp : TD (upd H3 p (.tup [.int wt, .ref T])) (.ref p) (wt, ak) := ⟨p, _, rfl, upd_same, stb2 _ _ _ _ (TK.new hp3) t2⟩
        have b4 : Bd TD D (ds.take i) (upd H3 p (.tup [.int wt, .ref T])) := b.skip stb_TD (TK.of s4) fun ys h => s4 _ _ h
        obtain ⟨acc, e1, e2, e3, e4⟩ := b4.put stb_TD fp (by rw [List.length_take]; exact small1000 (by omega))
        refine ⟨acc, e1, e2, fun bq u hbq => ?_, ?_⟩
        · rw [upd_ne (ne_of_none hbq hD)]
          exact s4 _ _ (s1 _ _ hbq)
        · rw [List.take_succ, hd]
          exact e3
    · rintro H1 ⟨s1, b⟩
      rw [el, List.take_length] at b
      obtain ⟨ys, e, ft⟩ := b.tup stb_TD
      exact ⟨D, _, rfl, .inl ⟨SqL.of e, fun T hT => kk _ _ (s1.trans (same_new hT)) (ft T hT)⟩⟩
end
end WU

set_option maxRecDepth 100000
set_option maxHeartbeats 8000000
namespace WU
open PySem PySem.Spec PyProof.Rows L2
/-- the attributes of a Plan -/
def pf (p n c h : Int) (qv dv : V) (wt : Int) : List (Str × V) :=
  putF "weight" (.int wt) (putF "draws" dv (putF "questions" qv (putF "house_count" (.int h) (putF "book_count" (.int c) (putF "book_length" (.int n) (putF "p" (.int p) []))))))
theorem pf_p {p n c h : Int} {qv dv : V} {wt : Int} : (pf p n c h qv dv wt).lookup ("p" : Str) = some (.int p) := by
  unfold pf
  rw [lookup_putF, if_neg (by decide +kernel), lookup_putF, if_neg (by decide +kernel), lookup_putF, if_neg (by decide +kernel), lookup_putF, if_neg (by decide +kernel), lookup_putF, if_neg (by decide +kernel), lookup_putF, if_neg (by decide +kernel), lookup_putF, if_pos rfl]
theorem pf_book_length {p n c h : Int} {qv dv : V} {wt : Int} : (pf p n c h qv dv wt).lookup ("book_length" : Str) = some (.int n) := by
  unfold pf
  rw [lookup_putF, if_neg (by decide +kernel), lookup_putF, if_neg (by decide +kernel), lookup_putF, if_neg (by decide +kernel), lookup_putF, if_neg (by decide +kernel), lookup_putF, if_neg (by decide +kernel), lookup_putF, if_pos rfl]
theorem pf_book_count {p n c h : Int} {qv dv : V} {wt : Int} : (pf p n c h qv dv wt).lookup ("book_count" : Str) = some (.int c) := by
  unfold pf
  rw [lookup_putF, if_neg (by decide +kernel), lookup_putF, if_neg (by decide +kernel), lookup_putF, if_neg (by decide +kernel), lookup_putF, if_neg (by decide +kernel), lookup_putF, if_pos rfl]
theorem pf_house_count {p n c h : Int} {qv dv : V} {wt : Int} : (pf p n c h qv dv wt).lookup ("house_count" : Str) = some (.int h) := by
  unfold pf
  rw [lookup_putF, if_neg (by decide +kernel), lookup_putF, if_neg (by decide +kernel), lookup_putF, if_neg (by decide +kernel), lookup_putF, if_pos rfl]
theorem pf_questions {p n c h : Int} {qv dv : V} {wt : Int} : (pf p n c h qv dv wt).lookup ("questions" : Str) = some qv := by
  unfold pf
  rw [lookup_putF, if_neg (by decide +kernel), lookup_putF, if_neg (by decide +kernel), lookup_putF, if_pos rfl]
theorem pf_draws {p n c h : Int} {qv dv : V} {wt : Int} : (pf p n c h qv dv wt).lookup ("draws" : Str) = some dv := by
  unfold pf
  rw [lookup_putF, if_neg (by decide +kernel), lookup_putF, if_pos rfl]
theorem pf_weight {p n c h : Int} {qv dv : V} {wt : Int} : (pf p n c h qv dv wt).lookup ("weight" : Str) = some (.int wt) := by
  unfold pf
  rw [lookup_putF, if_pos rfl]
/-- a Plan stands at x -/
def PlAt (L : Addr) (H : Hp) (x : Addr) (p : Int) (n c : Nat) (qss : List (List (List (List Int)))) (ds : List (Int × List (List Int))) : Prop := ∃ (dx : Addr) (qv dv : V), H x = some (.ins L dx (pf p n c qss.length qv dv (ds.map (·.1)).sum)) ∧ T4 H qv qss ∧ TF TD H dv ds
/-- what is asked of the class Plan, at L -/
structure PlC (K : PySem.W.Frag) (mg : Str → Option Value) (L : Addr) : Prop where
  g : mg "Plan" = some (.ref L)
  cl : Cls K L
  nP : NoAttr K L "p"
  nL : NoAttr K L "book_length"
  nC : NoAttr K L "book_count"
  nH : NoAttr K L "house_count"
  nQ : NoAttr K L "questions"
  nD : NoAttr K L "draws"
  nW : NoAttr K L "weight"
/-- the parts of a right plan -/
structure Pok (p : Int) (n c : Nat) (qss : List (List (List (List Int)))) (ds : List (Int × List (List Int))) : Prop where
  hp : p ∈ primes
  n0 : 0 < n
  c0 : 0 < c
  nc : n * c ≤ 200
  q0 : 0 < qss.length
  q9 : qss.length ≤ 900
  qok : ∀ qs ∈ qss, Qok p (n * c) qs
  d0 : 0 < ds.length
  d9 : ds.length ≤ 900
  dok : ∀ d ∈ ds, Dok c (lens qss) d
section
variable {P : Program} {w : World} {K : PySem.W.Frag} {mg : Str → Option Value} {base : Heap} {L : Addr}
def spPI (L : Addr) : Sp := fun vs H Q _ => ∃ (x dx : Addr) (p : Int) (n c : Nat) (qv dv : V) (qss : List (List (List (List Int)))) (ds : List (Int × List (List Int))), vs = [.ref x, .int p, .int n, .int c, qv, dv] ∧ H x = some (.ins L dx []) ∧ T4 H qv qss ∧ TF TD H dv ds ∧ Pok p n c qss ds ∧
  ∀ H', PlAt L H' x p n c qss ds → Keep x H H' → Q .non H'
theorem scPlan_init : FnScope ["self", "p", "book_length", "book_count", "questions", "draws", "columns", "asked"] ["self", "p", "book_length", "book_count", "questions", "draws"] (defScope sPlan_init) := ⟨rfl, rfl, rfl, by decide +kernel, rfl, by decide +kernel, by decide +kernel⟩
theorem ok_PI {f f1 f2 f3 f4 f5 f6 f7 f8 : Addr} {fd fd1 fd2 fd3 fd4 fd5 fd6 fd7 fd8 : FuncData} (F : FunD K "__init__" "Plan.__init__" (defArgs sPlan_init) (defBody sPlan_init) (defScope sPlan_init) [] [] f fd) (B : Blt5 mg) (C : PlC K mg L)
    (CSz : Cal P w K mg base 3 "check_sizes" f1 fd1 ["p", "book_length", "book_count"] spSz) (CPs : Cal P w K mg base 1 "check_places" f2 fd2 ["part", "rights"] spPs) (CMe : Cal P w K mg base 2 "members_of" f3 fd3 ["value"] (spMb K)) (CQu : Cal P w K mg base 7 "_are_questions" f4 fd4 ["p", "columns", "value"] spQu)
    (CCd : Cal P w K mg base 5 "check_draws" f5 fd5 ["book_count", "questions", "draws"] spCd) (CKq : Cal P w K mg base 1 "kept_questions" f6 fd6 ["questions"] (spKq T2)) (CKd : Cal P w K mg base 1 "kept_draws" f7 fd7 ["draws"] spKd2) (CWt : Cal P w K mg base 1 "weight_of" f8 fd8 ["draws"] spWt) :
    FnOk P w K mg base (L2.CX P w) 8 f fd ["self", "p", "book_length", "book_count", "questions", "draws"] (spPI L) := by
  refine F.ok scPlan_init (fun vs H Q E h => ?_) (fun cdv A outer s H vs Q E hr h => ?_)
  · obtain ⟨x, dx, p, n, c, qv, dv, qss, ds, rfl, _⟩ := h
    rfl
  · obtain ⟨x, dx, p, n, c, qv, dv, qss, ds, rfl, hx0, hQ, hDs, ⟨hp, n0, c0, nc, q0, q9, qok, d0, d9, dok⟩, kk⟩ := h
    have nd := scPlan_init.nd
    have n2 : n ≤ 200 := Nat.le_trans (Nat.le_mul_of_pos_right n c0) nc
    have c2 : c ≤ 200 := Nat.le_trans (Nat.le_mul_of_pos_left c n0) nc
    obtain ⟨a, xs, eqv, ha, hP⟩ := id hQ
    have el := paired_len hP
    subst eqv
    refine ⟨_, (pss_cons (ps_expr (pe_cal CSz (hr.mono (by decide)) (pa_cons (pv 1) (pa_cons (pv 2) (pa_cons (pv 3) pa_nil))) passU))
      (pss_cons (ps_set (i := 6) nd rfl (Or.inr rfl) (pe_op op_mul (pv 2) (pv 3)))
      (pss_cons (ps_expr (pe_cal CPs (hr.mono (by decide)) (pa_cons pe_str (pa_cons (pe_lc (own := [("asked", 7)]) (g := gName 7) (by rfl) nd (pi_listK (K := K) (pe_cal CMe (hr.mono (by decide)) (pa_cons (pv 4) pa_nil) passU)) (blkOk_by (own := [("asked", 7)]) (N := ["self", "p", "book_length", "book_count", "questions", "draws", "columns", "asked"]) (sc := defScope sPlan_init) (by decide +kernel)) (fun _ _ _ _ _ => (pg_name (i := 7) nd rfl (Or.inl rfl))) (fun _ _ _ _ _ => pts_nil) (fun _ _ _ _ _ => (pe_cal CQu (hr.mono (by decide)) (pa_cons (pv 1) (pa_cons (pv 6) (pa_cons (pv 7) pa_nil))) passU))) pa_nil)) passU))
      (pss_cons (ps_expr (pe_cal CCd (hr.mono (by decide)) (pa_cons (pv 3) (pa_cons (pv 4) (pa_cons (pv 5) pa_nil))) passU))
      (pss_cons (ps_fld (pv 0) (pv 1) rfl)
      (pss_cons (ps_fld (pv 0) (pv 2) rfl)
      (pss_cons (ps_fld (pv 0) (pv 3) rfl)
      (pss_cons (ps_fld (pv 0) (pe_callB (len_seqK (K := K)) (by rfl) B.len (by decide +kernel) (pa_cons (pv 4) pa_nil)) rfl)
      (pss_cons (ps_fld (pv 0) (pe_cal CKq (hr.mono (by decide)) (pa_cons (pv 4) pa_nil) passU) rfl)
      (pss_cons (ps_fld (pv 0) (pe_cal CKd (hr.mono (by decide)) (pa_cons (pv 5) pa_nil) passU) rfl)
      (pss_one (ps_fld (pv 0) (pe_cal CWt (hr.mono (by decide)) (pa_cons (pv 5) pa_nil) passU) rfl)))))))))))), ?_⟩
    refine ⟨_, rfl, _, rfl, _, rfl, p, n, c, rfl, hp, by omega, by omega, ?_⟩
    refine ⟨_, rfl, _, rfl, _, _, rfl, rfl, .inl ⟨by omega, by omega⟩, ?_⟩
    dsimp only
    rw [show ((n : Int) * (c : Int)) = ((n * c : Nat) : Int) from (Int.natCast_mul n c).symm]
    refine ⟨_, rfl, a, xs, _, rfl, ha, dt_TF dt3 _ _ _ hQ, by omega, fun l H1 hl s1 => ?_⟩
    refine ⟨l, rfl, ⟨_, SqL.of hl⟩, fun D hD => lc_list (K := K) (a := l) (xs := xs) (fun i H' => Same H1 H' ∧ H' D = some (.lst ((List.replicate i true).map V.bl))) ⟨same_new hD, upd_same⟩ (fun i H' _ z => SqL.of (z.1 _ _ hl)) ?_ ?_⟩
    · rintro i y H2 hy ⟨z1, z2⟩
      obtain ⟨qs, hqs, fq⟩ := paired_at hP hy
      have hil : i < xs.length := (List.getElem?_eq_some_iff.mp hy).1
      exact ⟨rfl, _, rfl, _, rfl, _, rfl, p, n * c, y, qs, rfl, stb3 _ _ _ _ (TK.of (s1.trans z1)) fq, qok qs (List.mem_of_getElem? hqs), fun H3 s3 => bl_put (z1.trans s3) (s3 _ _ z2) hD (by omega)⟩
    · rintro H2 ⟨z1, z2⟩
      have s2 := s1.trans z1
      refine ⟨_, D, _, rfl, z2, ?_⟩
      refine ⟨_, rfl, _, rfl, _, rfl, c, .ref a, dv, qss, ds, rfl, stb4 _ _ _ _ (TK.of s2) hQ, stb_TF stb_TD _ _ _ _ (TK.of s2) hDs, d0, d9, q9, dok, fun G0 s3 => ?_⟩
      have s3 := s2.trans s3
      have kp : Keep x H G0 := Keep.of s3
      have tk : TK H G0 := TK.of s3
      have hx := s3 _ _ hx0
      refine ⟨_, rfl, _, rfl, x, L, dx, _, rfl, hx, C.cl, C.nP, (by show 0 < 1000; decide), ?_⟩
      have kp := kp.trans (keep_upd (x := x) (o := .ins L dx (putF "p" (.int p) [])) (H := G0))
      have tk := tk.trans (TK.put (u := .ins L dx (putF "p" (.int p) [])) hx fun xs z => nomatch z)
      have hx : upd G0 x (.ins L dx (putF "p" (.int p) [])) x = some (.ins L dx (putF "p" (.int p) [])) := upd_same
      generalize upd G0 x (.ins L dx (putF "p" (.int p) [])) = G1 at kp tk hx ⊢
      refine ⟨_, rfl, _, rfl, x, L, dx, _, rfl, hx, C.cl, C.nL, (by show 1 < 1000; decide), ?_⟩
      have kp := kp.trans (keep_upd (x := x) (o := .ins L dx (putF "book_length" (.int (n : Int)) (putF "p" (.int p) []))) (H := G1))
      have tk := tk.trans (TK.put (u := .ins L dx (putF "book_length" (.int (n : Int)) (putF "p" (.int p) []))) hx fun xs z => nomatch z)
      have hx : upd G1 x (.ins L dx (putF "book_length" (.int (n : Int)) (putF "p" (.int p) []))) x = some (.ins L dx (putF "book_length" (.int (n : Int)) (putF "p" (.int p) []))) := upd_same
      generalize upd G1 x (.ins L dx (putF "book_length" (.int (n : Int)) (putF "p" (.int p) []))) = G2 at kp tk hx ⊢
      refine ⟨_, rfl, _, rfl, x, L, dx, _, rfl, hx, C.cl, C.nC, (by show 2 < 1000; decide), ?_⟩
      have kp := kp.trans (keep_upd (x := x) (o := .ins L dx (putF "book_count" (.int (c : Int)) (putF "book_length" (.int (n : Int)) (putF "p" (.int p) [])))) (H := G2))
      have tk := tk.trans (TK.put (u := .ins L dx (putF "book_count" (.int (c : Int)) (putF "book_length" (.int (n : Int)) (putF "p" (.int p) [])))) hx fun xs z => nomatch z)
      have hx : upd G2 x (.ins L dx (putF "book_count" (.int (c : Int)) (putF "book_length" (.int (n : Int)) (putF "p" (.int p) [])))) x = some (.ins L dx (putF "book_count" (.int (c : Int)) (putF "book_length" (.int (n : Int)) (putF "p" (.int p) [])))) := upd_same
      generalize upd G2 x (.ins L dx (putF "book_count" (.int (c : Int)) (putF "book_length" (.int (n : Int)) (putF "p" (.int p) [])))) = G3 at kp tk hx ⊢
      refine ⟨_, rfl, a, _, rfl, .inr (SqT.of (tk _ _ ha)), _, rfl, x, L, dx, _, rfl, hx, C.cl, C.nH, (by show 3 < 1000; decide), ?_⟩
      rw [el]
      have kp := kp.trans (keep_upd (x := x) (o := .ins L dx (putF "house_count" (.int (qss.length : Int)) (putF "book_count" (.int (c : Int)) (putF "book_length" (.int (n : Int)) (putF "p" (.int p) []))))) (H := G3))
      have tk := tk.trans (TK.put (u := .ins L dx (putF "house_count" (.int (qss.length : Int)) (putF "book_count" (.int (c : Int)) (putF "book_length" (.int (n : Int)) (putF "p" (.int p) []))))) hx fun xs z => nomatch z)
      have hx : upd G3 x (.ins L dx (putF "house_count" (.int (qss.length : Int)) (putF "book_count" (.int (c : Int)) (putF "book_length" (.int (n : Int)) (putF "p" (.int p) []))))) x = some (.ins L dx (putF "house_count" (.int (qss.length : Int)) (putF "book_count" (.int (c : Int)) (putF "book_length" (.int (n : Int)) (putF "p" (.int p) []))))) := upd_same
      generalize upd G3 x (.ins L dx (putF "house_count" (.int (qss.length : Int)) (putF "book_count" (.int (c : Int)) (putF "book_length" (.int (n : Int)) (putF "p" (.int p) []))))) = G4 at kp tk hx ⊢
      refine ⟨_, rfl, .ref a, qss, rfl, stb4 _ _ _ _ tk hQ, by omega, fun qv2 I1 si hq2 => ?_⟩
      have hx := si _ _ hx
      have tk := tk.trans (TK.of si)
      have kp := kp.trans (Keep.of si)
      refine ⟨_, rfl, x, L, dx, _, rfl, hx, C.cl, C.nQ, (by show 4 < 1000; decide), ?_⟩
      have kp := kp.trans (keep_upd (x := x) (o := .ins L dx (putF "questions" qv2 (putF "house_count" (.int (qss.length : Int)) (putF "book_count" (.int (c : Int)) (putF "book_length" (.int (n : Int)) (putF "p" (.int p) [])))))) (H := I1))
      have tk := tk.trans (TK.put (u := .ins L dx (putF "questions" qv2 (putF "house_count" (.int (qss.length : Int)) (putF "book_count" (.int (c : Int)) (putF "book_length" (.int (n : Int)) (putF "p" (.int p) [])))))) hx fun xs z => nomatch z)
      have hq2 := stb4 _ _ _ _ (TK.put (u := .ins L dx (putF "questions" qv2 (putF "house_count" (.int (qss.length : Int)) (putF "book_count" (.int (c : Int)) (putF "book_length" (.int (n : Int)) (putF "p" (.int p) [])))))) hx fun xs z => nomatch z) hq2
      have hx : upd I1 x (.ins L dx (putF "questions" qv2 (putF "house_count" (.int (qss.length : Int)) (putF "book_count" (.int (c : Int)) (putF "book_length" (.int (n : Int)) (putF "p" (.int p) [])))))) x = some (.ins L dx (putF "questions" qv2 (putF "house_count" (.int (qss.length : Int)) (putF "book_count" (.int (c : Int)) (putF "book_length" (.int (n : Int)) (putF "p" (.int p) [])))))) := upd_same
      generalize upd I1 x (.ins L dx (putF "questions" qv2 (putF "house_count" (.int (qss.length : Int)) (putF "book_count" (.int (c : Int)) (putF "book_length" (.int (n : Int)) (putF "p" (.int p) [])))))) = G5 at kp tk hx hq2 ⊢
      refine ⟨_, rfl, dv, ds, rfl, stb_TF stb_TD _ _ _ _ tk hDs, by omega, fun d hd => by have := (dok d hd).2.2.2.1; have := (dok d hd).2.1; omega, fun dv2 I2 si hd2 => ?_⟩
      have hx := si _ _ hx
      have tk := tk.trans (TK.of si)
      have kp := kp.trans (Keep.of si)
      have hq2 := stb4 _ _ _ _ (TK.of si) hq2
      refine ⟨_, rfl, x, L, dx, _, rfl, hx, C.cl, C.nD, (by show 5 < 1000; decide), ?_⟩
      have kp := kp.trans (keep_upd (x := x) (o := .ins L dx (putF "draws" dv2 (putF "questions" qv2 (putF "house_count" (.int (qss.length : Int)) (putF "book_count" (.int (c : Int)) (putF "book_length" (.int (n : Int)) (putF "p" (.int p) []))))))) (H := I2))
      have tk := tk.trans (TK.put (u := .ins L dx (putF "draws" dv2 (putF "questions" qv2 (putF "house_count" (.int (qss.length : Int)) (putF "book_count" (.int (c : Int)) (putF "book_length" (.int (n : Int)) (putF "p" (.int p) []))))))) hx fun xs z => nomatch z)
      have hq2 := stb4 _ _ _ _ (TK.put (u := .ins L dx (putF "draws" dv2 (putF "questions" qv2 (putF "house_count" (.int (qss.length : Int)) (putF "book_count" (.int (c : Int)) (putF "book_length" (.int (n : Int)) (putF "p" (.int p) []))))))) hx fun xs z => nomatch z) hq2
      have hd2 := stb_TF stb_TD _ _ _ _ (TK.put (u := .ins L dx (putF "draws" dv2 (putF "questions" qv2 (putF "house_count" (.int (qss.length : Int)) (putF "book_count" (.int (c : Int)) (putF "book_length" (.int (n : Int)) (putF "p" (.int p) []))))))) hx fun xs z => nomatch z) hd2
      have hx : upd I2 x (.ins L dx (putF "draws" dv2 (putF "questions" qv2 (putF "house_count" (.int (qss.length : Int)) (putF "book_count" (.int (c : Int)) (putF "book_length" (.int (n : Int)) (putF "p" (.int p) []))))))) x = some (.ins L dx (putF "draws" dv2 (putF "questions" qv2 (putF "house_count" (.int (qss.length : Int)) (putF "book_count" (.int (c : Int)) (putF "book_length" (.int (n : Int)) (putF "p" (.int p) []))))))) := upd_same
      generalize upd I2 x (.ins L dx (putF "draws" dv2 (putF "questions" qv2 (putF "house_count" (.int (qss.length : Int)) (putF "book_count" (.int (c : Int)) (putF "book_length" (.int (n : Int)) (putF "p" (.int p) []))))))) = G6 at kp tk hx hq2 hd2 ⊢
      refine ⟨_, rfl, dv, ds, rfl, stb_TF stb_TD _ _ _ _ tk hDs, by omega, fun I3 si => ?_⟩
      have hx := si _ _ hx
      have kp := kp.trans (Keep.of si)
      have hq2 := stb4 _ _ _ _ (TK.of si) hq2
      have hd2 := stb_TF stb_TD _ _ _ _ (TK.of si) hd2
      refine ⟨_, rfl, x, L, dx, _, rfl, hx, C.cl, C.nW, (by show 6 < 1000; decide), ?_⟩
      exact kk _ ⟨dx, qv2, dv2, upd_same, stb4 _ _ _ _ (TK.put hx fun xs z => nomatch z) hq2, stb_TF stb_TD _ _ _ _ (TK.put hx fun xs z => nomatch z) hd2⟩ (kp.trans keep_upd)
end
end WU

set_option maxRecDepth 100000
set_option maxHeartbeats 8000000
namespace WU
open PySem PySem.Spec PyProof.Rows L2
theorem bel_at {n : Int} {v : V} (h : isBel n v = true) : ∃ i : Nat, v = .int (i : Int) ∧ (i : Int) < n := by
  cases v with
  | int i =>
    have h : (decide (0 ≤ i) && decide (i < n)) = true := h
    rw [Bool.and_eq_true] at h
    have h1 := of_decide_eq_true h.1
    have h2 := of_decide_eq_true h.2
    exact ⟨i.toNat, by rw [Int.toNat_of_nonneg h1], by omega⟩
  | _ => cases h
section
variable {P : Program} {w : World} {K : PySem.W.Frag} {mg : Str → Option Value} {base : Heap} {L LL : Addr}
/-- check_wish(plan, wish) -/
def spCW (K : PySem.W.Frag) (L : Addr) : Sp := fun vs H Q E => ∃ (x : Addr) (u : V) (p : Int) (n c : Nat) (qss : List (List (List (List Int)))) (ds : List (Int × List (List Int))), vs = [.ref x, u] ∧ PlAt L H x p n c qss ds ∧ Ty3 K H u ∧ (isBel (c : Int) u = true → Q .non H) ∧ (isBel (c : Int) u = false → Errs (He.ga K "InvalidNumber") "value" u H E)
theorem sccheck_wish : FnScope ["plan", "wish"] ["plan", "wish"] (defScope s_check_wish) := ⟨rfl, rfl, rfl, by decide +kernel, rfl, by decide +kernel, by decide +kernel⟩
theorem ok_CW {f f1 : Addr} {fd fd1 fdI : FuncData} (F : FnS K "check_wish" s_check_wish f fd) (C : PlC K mg L) (C2 : Cal P w K mg base 3 "is_below" f1 fd1 ["value", "limit"] (spIsBel K)) (T : Exc1 K mg "InvalidNumber" "value")
    (FI : FnOk P w K mg base (L2.CX P w) 1 (He.ma K (He.ga K "InvalidNumber") "__init__") fdI ["self", "value"] (spInit1 K (He.ga K "InvalidNumber") "value")) (bI : Binds K fdI ["self", "value"] []) : FnOk P w K mg base (L2.CX P w) 4 f fd ["plan", "wish"] (spCW K L) := by
  refine F.ok sccheck_wish (fun vs H Q E h => ?_) (fun cdv A outer s H vs Q E hr h => ?_)
  · obtain ⟨x, u, p, n, c, qss, ds, rfl, _⟩ := h
    rfl
  · obtain ⟨x, u, p, n, c, qss, ds, rfl, ⟨dx, qv, dv, hx, hq, hd⟩, hu, kY, kN⟩ := h
    have nd := sccheck_wish.nd
    refine ⟨_, (pss_one (ps_if (pt_not (pt_val (pe_cal C2 (hr.mono (by decide)) (pa_cons (pv 1) (pa_cons (pe_fld (pv 0) rfl) pa_nil)) passU))) (pss_one (ps_raise1 rfl (takes_of rfl rfl rfl rfl) T FI bI (hr.mono (by decide)) (pa_cons (pv 1) pa_nil))) pss_nil)), ?_⟩
    refine ⟨_, rfl, _, rfl, x, L, dx, _, _, rfl, hx, C.cl, C.nC, pf_book_count, _, _, rfl, hu, _, rfl, ?_⟩
    cases e : isBel (c : Int) u with
    | true => exact iteF (kY e)
    | false => exact iteT ⟨_, rfl, u, rfl, kN e⟩
/-- check_ask(plan, wish, draw) -/
def spCAs (K : PySem.W.Frag) (L : Addr) : Sp := fun vs H Q E => ∃ (x : Addr) (u t : V) (p : Int) (n c : Nat) (qss : List (List (List (List Int)))) (ds : List (Int × List (List Int))), vs = [.ref x, u, t] ∧ PlAt L H x p n c qss ds ∧ Ty3 K H u ∧ Ty3 K H t ∧
  (isBel (c : Int) u = false → Errs (He.ga K "InvalidNumber") "value" u H E) ∧ (isBel (c : Int) u = true → (isBel (ds.length : Int) t = false → Errs (He.ga K "InvalidNumber") "value" t H E) ∧ (isBel (ds.length : Int) t = true → Q .non H))
theorem sccheck_ask : FnScope ["plan", "wish", "draw"] ["plan", "wish", "draw"] (defScope s_check_ask) := ⟨rfl, rfl, rfl, by decide +kernel, rfl, by decide +kernel, by decide +kernel⟩
theorem ok_CA {f f1 f2 : Addr} {fd fd1 fd2 fdI : FuncData} (F : FnS K "check_ask" s_check_ask f fd) (B : Blt4 mg) (C : PlC K mg L) (C2 : Cal P w K mg base 3 "is_below" f1 fd1 ["value", "limit"] (spIsBel K)) (CWi : Cal P w K mg base 4 "check_wish" f2 fd2 ["plan", "wish"] (spCW K L)) (T : Exc1 K mg "InvalidNumber" "value")
    (FI : FnOk P w K mg base (L2.CX P w) 1 (He.ma K (He.ga K "InvalidNumber") "__init__") fdI ["self", "value"] (spInit1 K (He.ga K "InvalidNumber") "value")) (bI : Binds K fdI ["self", "value"] []) : FnOk P w K mg base (L2.CX P w) 5 f fd ["plan", "wish", "draw"] (spCAs K L) := by
  refine F.ok sccheck_ask (fun vs H Q E h => ?_) (fun cdv A outer s H vs Q E hr h => ?_)
  · obtain ⟨x, u, t, p, n, c, qss, ds, rfl, _⟩ := h
    rfl
  · obtain ⟨x, u, t, p, n, c, qss, ds, rfl, hpl, hu, ht, kU, kT⟩ := h
    have nd := sccheck_ask.nd
    refine ⟨_, (pss_cons (ps_expr (pe_cal (E := E) CWi (hr.mono (by decide)) (pa_cons (pv 0) (pa_cons (pv 1) pa_nil)) (passes_call (takes_of rfl rfl rfl rfl) (fun _ _ _ _ h => h))))
      (pss_one (ps_if (pt_not (pt_val (pe_cal C2 (hr.mono (by decide)) (pa_cons (pv 2) (pa_cons (pe_callB (len_seqK (K := K)) (by rfl) B.len (by decide +kernel) (pa_cons (pe_fld (pv 0) rfl) pa_nil)) pa_nil)) passU))) (pss_one (ps_raise1 rfl (takes_of rfl rfl rfl rfl) T FI bI (hr.mono (by decide)) (pa_cons (pv 2) pa_nil))) pss_nil))), ?_⟩
    refine ⟨_, rfl, _, rfl, x, u, p, n, c, qss, ds, rfl, hpl, hu, fun eu => ?_, kU⟩
    obtain ⟨dx, qv, dv, hx, hq, dc, dxs, rfl, hdc, hdp⟩ := hpl
    refine ⟨_, rfl, _, rfl, x, L, dx, _, _, rfl, hx, C.cl, C.nD, pf_draws, dc, _, rfl, .inr (SqT.of hdc), _, _, rfl, ht, _, rfl, ?_⟩
    rw [paired_len hdp]
    cases e : isBel (ds.length : Int) t with
    | true => exact iteF ((kT eu).2 e)
    | false => exact iteT ⟨_, rfl, t, rfl, (kT eu).1 e⟩
/-- check_question(plan, house, question) -/
def spCQ (K : PySem.W.Frag) (L : Addr) : Sp := fun vs H Q E => ∃ (x : Addr) (u t : V) (p : Int) (n c : Nat) (qss : List (List (List (List Int)))) (ds : List (Int × List (List Int))), vs = [.ref x, u, t] ∧ PlAt L H x p n c qss ds ∧ Ty3 K H u ∧ Ty3 K H t ∧
  (isBel (qss.length : Int) u = false → Errs (He.ga K "InvalidNumber") "value" u H E) ∧ ∀ (h : Nat) (qs : List (List (List Int))), u = .int (h : Int) → qss[h]? = some qs → (isBel (qs.length : Int) t = false → Errs (He.ga K "InvalidNumber") "value" t H E) ∧ (isBel (qs.length : Int) t = true → Q .non H)
theorem sccheck_question : FnScope ["plan", "house", "question"] ["plan", "house", "question"] (defScope s_check_question) := ⟨rfl, rfl, rfl, by decide +kernel, rfl, by decide +kernel, by decide +kernel⟩
theorem ok_CQ {f f1 : Addr} {fd fd1 fdI : FuncData} (F : FnS K "check_question" s_check_question f fd) (B : Blt4 mg) (C : PlC K mg L) (C2 : Cal P w K mg base 3 "is_below" f1 fd1 ["value", "limit"] (spIsBel K)) (T : Exc1 K mg "InvalidNumber" "value")
    (FI : FnOk P w K mg base (L2.CX P w) 1 (He.ma K (He.ga K "InvalidNumber") "__init__") fdI ["self", "value"] (spInit1 K (He.ga K "InvalidNumber") "value")) (bI : Binds K fdI ["self", "value"] []) : FnOk P w K mg base (L2.CX P w) 4 f fd ["plan", "house", "question"] (spCQ K L) := by
  refine F.ok sccheck_question (fun vs H Q E h => ?_) (fun cdv A outer s H vs Q E hr h => ?_)
  · obtain ⟨x, u, t, p, n, c, qss, ds, rfl, _⟩ := h
    rfl
  · obtain ⟨x, u, t, p, n, c, qss, ds, rfl, ⟨dx, qv, dv, hx, ⟨qa, qxs, rfl, hqa, hqp⟩, hd⟩, hu, ht, kU, kT⟩ := h
    have nd := sccheck_question.nd
    refine ⟨_, (pss_cons (ps_if (pt_not (pt_val (pe_cal C2 (hr.mono (by decide)) (pa_cons (pv 1) (pa_cons (pe_fld (pv 0) rfl) pa_nil)) passU))) (pss_one (ps_raise1 rfl (takes_of rfl rfl rfl rfl) T FI bI (hr.mono (by decide)) (pa_cons (pv 1) pa_nil))) pss_nil)
      (pss_one (ps_if (pt_not (pt_val (pe_cal C2 (hr.mono (by decide)) (pa_cons (pv 2) (pa_cons (pe_callB (len_seqK (K := K)) (by rfl) B.len (by decide +kernel) (pa_cons (pe_ix (ix_tupK (K := K)) (pe_fld (pv 0) rfl) (pv 1) (fun _ _ => rfl)) pa_nil)) pa_nil)) passU))) (pss_one (ps_raise1 rfl (takes_of rfl rfl rfl rfl) T FI bI (hr.mono (by decide)) (pa_cons (pv 2) pa_nil))) pss_nil))), ?_⟩
    refine ⟨_, rfl, _, rfl, x, L, dx, _, _, rfl, hx, C.cl, C.nH, pf_house_count, _, _, rfl, hu, _, rfl, ?_⟩
    cases e : isBel (qss.length : Int) u with
    | false => exact iteT ⟨_, rfl, u, rfl, kU e⟩
    | true =>
      obtain ⟨h, rfl, hl⟩ := bel_at e
      have hl : h < qss.length := by omega
      have eq := List.getElem?_eq_getElem hl
      obtain ⟨y, hy, qc, zs, rfl, hqc, hz⟩ := paired_of hqp eq
      refine iteF ⟨_, rfl, _, rfl, x, L, dx, _, _, rfl, hx, C.cl, C.nQ, pf_questions, _, rfl, qa, _, _, _, rfl, rfl, SqT.of hqa, atI_nat hy, qc, _, rfl, .inr (SqT.of hqc), _, _, rfl, ht, _, rfl, ?_⟩
      rw [paired_len hz]
      cases e2 : isBel ((qss[h]).length : Int) t with
      | true => exact iteF ((kT h _ rfl eq).2 e2)
      | false => exact iteT ⟨_, rfl, t, rfl, (kT h _ rfl eq).1 e2⟩
/-- check_library(plan, library) -/
def spCL (K : PySem.W.Frag) (L LL : Addr) : Sp := fun vs H Q E => ∃ (x : Addr) (u : V) (p : Int) (n c : Nat) (qss : List (List (List (List Int)))) (ds : List (Int × List (List Int))), vs = [.ref x, u] ∧ PlAt L H x p n c qss ds ∧
  ((∃ t, TyX K H u t ∧ PySem.W.kitOne K t (.ref LL) = some false ∧ Errs (He.ga K "InvalidLibrary") "value" u H E) ∨
   ∃ (a : Addr) (p' : Int) (n' : Nat) (bs : List (List Int)), u = .ref a ∧ LibAt LL H a p' n' bs ∧ (p' = p ∧ bs.length = c ∧ n' = n → Q .non H) ∧ (¬ (p' = p ∧ bs.length = c ∧ n' = n) → Errs (He.ga K "InvalidLibrary") "value" u H E))
theorem sccheck_library : FnScope ["plan", "library"] ["plan", "library"] (defScope s_check_library) := ⟨rfl, rfl, rfl, by decide +kernel, rfl, by decide +kernel, by decide +kernel⟩
theorem ok_CL {f : Addr} {fd fdI : FuncData} (F : FnS K "check_library" s_check_library f fd) (B : Blt4 mg) (C : PlC K mg L) (CL : LibC K mg LL) (TL : Exc1 K mg "InvalidLibrary" "value")
    (FL : FnOk P w K mg base (L2.CX P w) 1 (He.ma K (He.ga K "InvalidLibrary") "__init__") fdI ["self", "value"] (spInit1 K (He.ga K "InvalidLibrary") "value")) (bL : Binds K fdI ["self", "value"] []) : FnOk P w K mg base (L2.CX P w) 3 f fd ["plan", "library"] (spCL K L LL) := by
  refine F.ok sccheck_library (fun vs H Q E h => ?_) (fun cdv A outer s H vs Q E hr h => ?_)
  · obtain ⟨x, u, p, n, c, qss, ds, rfl, _⟩ := h
    rfl
  · obtain ⟨x, u, p, n, c, qss, ds, rfl, ⟨dx, qv, dv, hx, hq, hd⟩, hu⟩ := h
    have nd := sccheck_library.nd
    refine ⟨_, (pss_cons (ps_if (PW.pt (pw_or (pt_not (pt_val (pe_callB (isiK (K := K)) (by rfl) B.isi (by decide +kernel) (pa_cons (pv 1) (pa_cons (pe_glob (v := .ref LL) rfl CL.g rfl) pa_nil))))) (pw_or1 (pt_cmpR op_ne (pe_fld (pv 1) rfl) (pe_fld (pv 0) rfl) (nomark _))))) (pss_one (ps_raise1 rfl (takes_of rfl rfl rfl rfl) TL FL bL (hr.mono (by decide)) (pa_cons (pv 1) pa_nil))) pss_nil)
      (pss_one (ps_if (PW.pt (pw_or (pt_cmpR op_ne (pe_fld (pv 1) rfl) (pe_fld (pv 0) rfl) (nomark _)) (pw_or1 (pt_cmpR op_ne (pe_fld (pv 1) rfl) (pe_fld (pv 0) rfl) (nomark _))))) (pss_one (ps_raise1 rfl (takes_of rfl rfl rfl rfl) TL FL bL (hr.mono (by decide)) (pa_cons (pv 1) pa_nil))) pss_nil))), ?_⟩
    rcases hu with ⟨t, ty, kf, kE⟩ | ⟨a, p', n', bs, rfl, ⟨dl, ba, tl, rs, ha, hba, hbp, htl⟩, kY, kN⟩
    · exact ⟨_, rfl, _, _, _, _, _, rfl, .own LL, ty, kf, _, rfl, iteT ⟨_, rfl, u, rfl, kE⟩⟩
    · refine ⟨_, rfl, _, _, _, _, _, rfl, .own LL, .base (.ins ha CL.cl CL.ha CL.hn CL.htk CL.hm), CL.kS, _, rfl, iteF ?_⟩
      by_cases h1 : p' = p
      · subst h1
        refine ⟨_, rfl, a, LL, dl, _, _, rfl, ha, CL.cl, CL.nP, lf_p, _, rfl, x, L, dx, _, _, rfl, hx, C.cl, C.nP, pf_p, rfl, _, rfl, iteFb (by rw [decide_eq_true rfl]; rfl) ?_⟩
        by_cases h2 : bs.length = c
        · subst h2
          refine ⟨_, rfl, a, LL, dl, _, _, rfl, ha, CL.cl, CL.nC, lf_count, _, rfl, x, L, dx, _, _, rfl, hx, C.cl, C.nC, pf_book_count, rfl, _, rfl, iteFb (by rw [decide_eq_true rfl]; rfl) ?_⟩
          by_cases h3 : n' = n
          · subst h3
            exact ⟨_, rfl, a, LL, dl, _, _, rfl, ha, CL.cl, CL.nL, lf_length, _, rfl, x, L, dx, _, _, rfl, hx, C.cl, C.nL, pf_book_length, rfl, _, rfl, iteFb (by rw [decide_eq_true rfl]; rfl) (kY ⟨rfl, rfl, rfl⟩)⟩
          · exact ⟨_, rfl, a, LL, dl, _, _, rfl, ha, CL.cl, CL.nL, lf_length, _, rfl, x, L, dx, _, _, rfl, hx, C.cl, C.nL, pf_book_length, rfl, _, rfl, iteTb (by rw [decide_eq_false fun z => h3 (Int.natCast_inj.mp (V.int.inj z))]; rfl) ⟨_, rfl, _, rfl, kN fun z => h3 z.2.2⟩⟩
        · exact ⟨_, rfl, a, LL, dl, _, _, rfl, ha, CL.cl, CL.nC, lf_count, _, rfl, x, L, dx, _, _, rfl, hx, C.cl, C.nC, pf_book_count, rfl, _, rfl, iteTb (by rw [decide_eq_false fun z => h2 (Int.natCast_inj.mp (V.int.inj z))]; rfl) ⟨_, rfl, _, rfl, kN fun z => h2 z.2.1⟩⟩
      · exact ⟨_, rfl, a, LL, dl, _, _, rfl, ha, CL.cl, CL.nP, lf_p, _, rfl, x, L, dx, _, _, rfl, hx, C.cl, C.nP, pf_p, rfl, _, rfl, iteTb (by rw [decide_eq_false fun z => h1 (V.int.inj z)]; rfl) ⟨_, rfl, _, rfl, kN fun z => h1 z.1⟩⟩
end
end WU

set_option maxRecDepth 100000
set_option maxHeartbeats 8000000
namespace WU
open PySem PySem.Spec PyProof.Rows L2
section
variable {P : Program} {w : World} {K : PySem.W.Frag} {mg : Str → Option Value} {base : Heap} {S : Addr}
/-- _products(p, rows, letters) -/
def spPr1 : Sp := fun vs H Q _ => ∃ (p : Int) (n : Nat) (v : V) (u : Addr) (rows : List (List Int)) (ls : List Int), vs = [.int p, v, .ref u] ∧ MT H v rows ∧ SqO H u (ls.map V.int) ∧ p ∈ primes ∧ (∀ r ∈ rows, Ltr p n r) ∧ ls.length = n ∧ n ≤ 200 ∧ rows.length ≤ 200 ∧
  ∀ y H', Same H H' → T1 H' y (rows.map fun r => (dotn n r ls).fmod p) → Q y H'
theorem ok_Pr1 {f : Addr} {fd : FuncData} (F : FnS K "_products" s_u_products f fd) (B : Blt5 mg) : FnOk P w K mg base (L2.CX P w) 1 f fd ["p", "rows", "letters"] spPr1 := by
  refine F.ok scPr (fun vs H Q E h => ?_) (fun cdv A outer s H vs Q E hr h => ?_)
  · obtain ⟨p, n, v, u, rows, ls, rfl, _⟩ := h
    rfl
  · obtain ⟨p, n, v, u, rows, ls, rfl, ⟨a, ts, rfl, ha, hts⟩, hu, hp, hR, hl, hn, hm, k⟩ := h
    have nd := scPr.nd
    have hb := fld_le hp
    refine ⟨_, (pss_one (ps_ret (pe_callTy (tup_ofK (K := K)) (by rfl) B.tuple (by decide +kernel) (pa_cons (pe_lc (own := [("row", 3)]) (g := gName 3) (by rfl) nd (pi_tupK (K := K) (pv 1)) (blkOk_by (own := [("row", 3)]) (N := ["p", "rows", "letters", "row", "a", "b"]) (sc := defScope s_u_products) (by decide +kernel)) (fun _ _ _ _ _ => (pg_name (i := 3) nd rfl (Or.inl rfl))) (fun _ _ _ _ _ => pts_nil) (fun _ _ _ _ _ => (pe_op op_modN (pe_callB (cr_sumK (K := K) rfl) (by rfl) B.sum (by decide +kernel) (pa_cons (pe_lc (own := [("a", 4), ("b", 5)]) (g := gTup K 2 (gCons (gName 4) (gCons (gName 5) gNil))) (by rfl) nd (pi_zipMK (K := K) (by rfl) B.zip (pa_cons (pv 3) (pa_cons (pv 2) pa_nil))) (blkOk_by (own := [("a", 4), ("b", 5)]) (N := ["p", "rows", "letters", "row", "a", "b"]) (sc := relS (retLc ((defBody s_u_products).getD 0 (.Pass ⟨0, 0, 0, 0⟩))) (defScope s_u_products)) (by decide +kernel)) (fun _ _ _ _ _ => (pg_tupK (K := K) <| pg_tup rfl (pgs_cons (pg_name (i := 4) nd rfl (Or.inl rfl)) (pgs_cons (pg_name (i := 5) nd rfl (Or.inl rfl)) pgs_nil)))) (fun _ _ _ _ _ => pts_nil) (fun _ _ _ _ _ => (pe_op op_mul (pv 4) (pv 5)))) pa_nil)) (pv 0)))) pa_nil)))), ?_⟩
    refine ⟨_, rfl, a, rfl, ⟨_, SqT.of ha⟩, fun D hD => lc_tup (K := K) (a := a) (xs := ts) (fun i H' => Bld FI H D ((rows.take i).map fun r => (dotn n r ls).fmod p) H') (Bld.start hD) (fun i H' _ b => SqT.of (b.same _ _ ha)) ?_ ?_⟩
    · intro i x H1 hx b
      obtain ⟨r, hr0, hxr⟩ := paired_at hts hx
      obtain ⟨c, rfl, hc⟩ := hxr.same b.same
      have hrL := hR r (List.mem_of_getElem? hr0)
      have lr : (r.map V.int).length = n := by rw [List.length_map, hrL.1]
      have ll : (ls.map V.int).length = n := by rw [List.length_map, hl]
      refine ⟨rfl, _, rfl, _, rfl, c, u, r.map V.int, ls.map V.int, rfl, ?_⟩
      rcases hu.same b.same with hu1 | hu1
      · refine .inl ⟨sqT hc, SqL.of hu1, fun D2 hD2 => lc_it (walk_zipM lr ll) (fun j H' => Bld FI H1 D2 ((List.range j).map fun k => at0 r k * at0 ls k) H') (Bld.start hD2) (fun j H' _ b2 => ⟨sqT (rd_same b2.same hc), SqL.of (b2.same _ _ hu1)⟩) ?_ ?_⟩
        · rintro j x H2 H3 hj b2 ⟨T, x1, x2, rfl, hT, rfl, g1, g2⟩
          cases (take_map_at n (r := r) (i := j) (by rw [hrL.1]; exact hj)).symm.trans g1
          cases (take_map_at n (r := ls) (i := j) (by rw [hl]; exact hj)).symm.trans g2
          have bj := hrL.bd hj
          refine ⟨T, _, rfl, SqT.of upd_same, rfl, _, _, rfl, _, _, rfl, rfl, rfl, ?_⟩
          refine ⟨_, rfl, _, rfl, _, _, rfl, rfl, .inl ⟨by omega, by omega⟩, ?_⟩
          rw [map_range_succ]
          exact b2.put (y := .int (at0 r j * at0 ls j)) (z := at0 r j * at0 ls j) stab_FI hD2 (same_new hT) rfl (by intro z; cases z) (by rw [List.length_map, List.length_range]; exact small1000 (by omega))
        · intro H2 b2
          obtain ⟨s2, ys, eD, py⟩ := b2.fin
          rw [fi_map py] at eD
          refine ⟨D2, _, rfl, SqL.of eD, _, rfl, _, p, rfl, rfl, by omega, ?_⟩
          rw [sum_dotn, map_take_succ hr0]
          exact b.put (y := .int ((dotn n r ls).fmod p)) (z := (dotn n r ls).fmod p) stab_FI hD s2 rfl (by intro z; cases z) (by rw [List.length_map, List.length_take]; exact small1000 (by omega))
      · refine .inr ⟨sqT hc, sqT hu1, fun D2 hD2 => lc_it (walk_zipT (n := n) (by rw [lr, ll]; exact (Nat.min_self n).symm)) (fun j H' => Bld FI H1 D2 ((List.range j).map fun k => at0 r k * at0 ls k) H') (Bld.start hD2) (fun j H' _ b2 => ⟨sqT (rd_same b2.same hc), sqT (rd_same b2.same hu1)⟩) ?_ ?_⟩
        · rintro j x H2 H3 hj b2 ⟨T, x1, x2, rfl, hT, rfl, g1, g2⟩
          cases (take_map_at n (r := r) (i := j) (by rw [hrL.1]; exact hj)).symm.trans g1
          cases (take_map_at n (r := ls) (i := j) (by rw [hl]; exact hj)).symm.trans g2
          have bj := hrL.bd hj
          refine ⟨T, _, rfl, SqT.of upd_same, rfl, _, _, rfl, _, _, rfl, rfl, rfl, ?_⟩
          refine ⟨_, rfl, _, rfl, _, _, rfl, rfl, .inl ⟨by omega, by omega⟩, ?_⟩
          rw [map_range_succ]
          exact b2.put (y := .int (at0 r j * at0 ls j)) (z := at0 r j * at0 ls j) stab_FI hD2 (same_new hT) rfl (by intro z; cases z) (by rw [List.length_map, List.length_range]; exact small1000 (by omega))
        · intro H2 b2
          obtain ⟨s2, ys, eD, py⟩ := b2.fin
          rw [fi_map py] at eD
          refine ⟨D2, _, rfl, SqL.of eD, _, rfl, _, p, rfl, rfl, by omega, ?_⟩
          rw [sum_dotn, map_take_succ hr0]
          exact b.put (y := .int ((dotn n r ls).fmod p)) (z := (dotn n r ls).fmod p) stab_FI hD s2 rfl (by intro z; cases z) (by rw [List.length_map, List.length_take]; exact small1000 (by omega))
    · intro H1 b
      obtain ⟨s1, ys, eD, py⟩ := b.fin
      rw [paired_len hts, List.take_length] at py
      rw [fi_map py] at eD
      exact ⟨D, _, rfl, .inl ⟨SqL.of eD, fun q hq => k _ _ (s1.trans (same_new hq)) (T1.mk upd_same)⟩⟩
end
section
variable {P : Program} {w : World} {K : PySem.W.Frag} {mg : Str → Option Value} {base : Heap} {L LL : Addr}
/-- products(p, rows, letters), all right -/
def spPx : Sp := fun vs H Q _ => ∃ (p : Int) (n : Nat) (v : V) (u : Addr) (rows : List (List Int)) (ls : List Int), vs = [.int p, v, .ref u] ∧ T2 H v rows ∧ H u = some (.tup (ls.map V.int)) ∧ p ∈ primes ∧ (∀ r ∈ rows, Ltr p n r) ∧ ls.length = n ∧ n ≤ 200 ∧ rows.length ≤ 200 ∧
  ∀ y H', Same H H' → T1 H' y (rows.map fun r => (dotn n r ls).fmod p) → Q y H'
theorem scPx : FnScope ["p", "rows", "letters"] ["p", "rows", "letters"] (defScope s_products) := ⟨rfl, rfl, rfl, by decide +kernel, rfl, by decide +kernel, by decide +kernel⟩
theorem ok_Px {f f1 f2 : Addr} {fd fd1 fd2 : FuncData} (F : FnS K "products" s_products f fd) (CM : Cal P w K mg base 7 "check_matrix" f1 fd1 ["p", "rows"] (spChk K)) (CP : Cal P w K mg base 1 "_products" f2 fd2 ["p", "rows", "letters"] spPr1) :
    FnOk P w K mg base (L2.CX P w) 8 f fd ["p", "rows", "letters"] spPx := by
  refine F.ok scPx (fun vs H Q E h => ?_) (fun cdv A outer s H vs Q E hr h => ?_)
  · obtain ⟨p, n, v, u, rows, ls, rfl, _⟩ := h
    rfl
  · obtain ⟨p, n, v, u, rows, ls, rfl, hT, hu, hp, hR, hl, hn, hm, kk⟩ := h
    refine ⟨_, (pss_cons (ps_expr (pe_cal CM (hr.mono (by decide)) (pa_cons (pv 0) (pa_cons (pv 1) pa_nil)) passU))
      (pss_one (ps_ret (pe_cal CP (hr.mono (by decide)) (pa_cons (pv 0) (pa_cons (pv 1) (pa_cons (pv 2) pa_nil))) passU)))), ?_⟩
    refine ⟨_, rfl, _, rfl, .int p, v, rfl, ty3_int p, (fun z => by rw [mem_fld hp] at z; cases z), fun p' ep _ => ?_⟩
    cases ep
    refine ⟨MD rows, hT.mt.dp, small_rows hR hn hm, fun e2 => (by rw [wid_rows hR] at e2; cases e2), fun _ H1 s1 => ?_⟩
    exact ⟨_, rfl, _, rfl, _, rfl, p, n, v, u, rows, ls, rfl, hT.mt.same s1, .inr (.inl (s1 _ _ hu)), hp, hR, hl, hn, hm, fun y H2 s2 hy => kk y H2 (s1.trans s2) hy⟩
/-- plan.asked(wish, draw) -/
def spAd (K : PySem.W.Frag) (L : Addr) : Sp := fun vs H Q E => ∃ (x : Addr) (u t : V) (p : Int) (n c : Nat) (qss : List (List (List (List Int)))) (ds : List (Int × List (List Int))), vs = [.ref x, u, t] ∧ PlAt L H x p n c qss ds ∧ Pok p n c qss ds ∧ Ty3 K H u ∧ Ty3 K H t ∧
  (isBel (c : Int) u = false → Errs (He.ga K "InvalidNumber") "value" u H E) ∧ (isBel (c : Int) u = true → (isBel (ds.length : Int) t = false → Errs (He.ga K "InvalidNumber") "value" t H E)) ∧
  ∀ (i j : Nat) (d : Int × List (List Int)) (r : List Int), u = .int (i : Int) → t = .int (j : Int) → ds[j]? = some d → d.2[i]? = some r → ∀ y, T1 H y r → Q y H
theorem scPlan_asked : FnScope ["self", "wish", "draw"] ["self", "wish", "draw"] (defScope sPlan_asked) := ⟨rfl, rfl, rfl, by decide +kernel, rfl, by decide +kernel, by decide +kernel⟩
theorem ok_Ad {f f1 : Addr} {fd fd1 : FuncData} (F : FunD K "asked" "Plan.asked" (defArgs sPlan_asked) (defBody sPlan_asked) (defScope sPlan_asked) [] [] f fd) (C : PlC K mg L) (CAs : Cal P w K mg base 5 "check_ask" f1 fd1 ["plan", "wish", "draw"] (spCAs K L)) :
    FnOk P w K mg base (L2.CX P w) 6 f fd ["self", "wish", "draw"] (spAd K L) := by
  refine F.ok scPlan_asked (fun vs H Q E h => ?_) (fun cdv A outer s H vs Q E hr h => ?_)
  · obtain ⟨x, u, t, p, n, c, qss, ds, rfl, _⟩ := h
    rfl
  · obtain ⟨x, u, t, p, n, c, qss, ds, rfl, hpl, ok, hu, ht, kU, kT, kk⟩ := h
    have nd := scPlan_asked.nd
    refine ⟨_, (pss_cons (ps_expr (pe_cal (E := E) CAs (hr.mono (by decide)) (pa_cons (pv 0) (pa_cons (pv 1) (pa_cons (pv 2) pa_nil))) (passes_call (takes_of rfl rfl rfl rfl) (fun _ _ _ _ h => h))))
      (pss_one (ps_ret (pe_ix (ix_tupK (K := K)) (pe_ix (ix_tupK (K := K)) (pe_ix (ix_tupK (K := K)) (pe_fld (pv 0) rfl) (pv 2) (fun _ _ => rfl)) pe_int (fun _ _ => rfl)) (pv 1) (fun _ _ => rfl))))), ?_⟩
    refine ⟨_, rfl, _, rfl, _, rfl, x, u, t, p, n, c, qss, ds, rfl, hpl, hu, ht, kU, fun eu => ⟨kT eu, fun et => ?_⟩⟩
    obtain ⟨i, rfl, hi⟩ := bel_at eu
    obtain ⟨j, rfl, hj⟩ := bel_at et
    obtain ⟨dx, qv, dv, hx, hq, da, dxs, rfl, hda, hdp⟩ := hpl
    have hj : j < ds.length := by omega
    have ed := List.getElem?_eq_getElem hj
    have dk := ok.dok _ (List.mem_of_getElem? ed)
    have hi : i < (ds[j]).2.length := by have := dk.2.1; omega
    have er := List.getElem?_eq_getElem hi
    obtain ⟨y, hy, dc, yv, rfl, hdc, ba, ys, rfl, hba, hbp⟩ := paired_of hdp ed
    obtain ⟨z, hz, fz⟩ := paired_of hbp er
    refine ⟨_, rfl, x, L, dx, _, _, rfl, hx, C.cl, C.nD, pf_draws, _, rfl, da, _, _, _, rfl, rfl, SqT.of hda, atI_nat hy, dc, _, (1 : Int), _, rfl, rfl, SqT.of hdc, rfl, _, rfl, ba, _, _, _, rfl, rfl, SqT.of hba, atI_nat hz, ?_⟩
    exact kk i j _ _ rfl rfl ed er z fz
end
end WU

set_option maxRecDepth 100000
set_option maxHeartbeats 8000000
namespace WU
open PySem PySem.Spec PyProof.Rows L2
section
variable {P : Program} {w : World} {K : PySem.W.Frag} {mg : Str → Option Value} {base : Heap} {L LL : Addr}
/-- the question of a house at k, where u and t name it -/
def QAt (qss : List (List (List (List Int)))) (u t : V) (m : List (List Int)) : Prop := ∃ (h k : Nat) (qs : List (List (List Int))), u = .int (h : Int) ∧ t = .int (k : Int) ∧ qss[h]? = some qs ∧ qs[k]? = some m
/-- where the numbers of a house and a question are wrong -/
def QErr (K : PySem.W.Frag) (qss : List (List (List (List Int)))) (u t : V) (H : Hp) (E : XK) : Prop :=
  (isBel (qss.length : Int) u = false → Errs (He.ga K "InvalidNumber") "value" u H E) ∧ ∀ (h : Nat) (qs : List (List (List Int))), u = .int (h : Int) → qss[h]? = some qs → isBel (qs.length : Int) t = false → Errs (He.ga K "InvalidNumber") "value" t H E
/-- plan.answer_size(house, question) -/
def spAz (K : PySem.W.Frag) (L : Addr) : Sp := fun vs H Q E => ∃ (x : Addr) (u t : V) (p : Int) (n c : Nat) (qss : List (List (List (List Int)))) (ds : List (Int × List (List Int))), vs = [.ref x, u, t] ∧ PlAt L H x p n c qss ds ∧ Ty3 K H u ∧ Ty3 K H t ∧ QErr K qss u t H E ∧ ∀ m, QAt qss u t m → Q (.int (m.length : Int)) H
theorem scPlan_answer_size : FnScope ["self", "house", "question"] ["self", "house", "question"] (defScope sPlan_answer_size) := ⟨rfl, rfl, rfl, by decide +kernel, rfl, by decide +kernel, by decide +kernel⟩
theorem ok_Az {f f1 : Addr} {fd fd1 : FuncData} (F : FunD K "answer_size" "Plan.answer_size" (defArgs sPlan_answer_size) (defBody sPlan_answer_size) (defScope sPlan_answer_size) [] [] f fd) (B : Blt4 mg) (C : PlC K mg L) (CQs : Cal P w K mg base 4 "check_question" f1 fd1 ["plan", "house", "question"] (spCQ K L)) :
    FnOk P w K mg base (L2.CX P w) 5 f fd ["self", "house", "question"] (spAz K L) := by
  refine F.ok scPlan_answer_size (fun vs H Q E h => ?_) (fun cdv A outer s H vs Q E hr h => ?_)
  · obtain ⟨x, u, t, p, n, c, qss, ds, rfl, _⟩ := h
    rfl
  · obtain ⟨x, u, t, p, n, c, qss, ds, rfl, hpl, hu, ht, ⟨kU, kT⟩, kk⟩ := h
    have nd := scPlan_answer_size.nd
    refine ⟨_, (pss_cons (ps_expr (pe_cal (E := E) CQs (hr.mono (by decide)) (pa_cons (pv 0) (pa_cons (pv 1) (pa_cons (pv 2) pa_nil))) (passes_call (takes_of rfl rfl rfl rfl) (fun _ _ _ _ h => h))))
      (pss_one (ps_ret (pe_callB (len_seqK (K := K)) (by rfl) B.len (by decide +kernel) (pa_cons (pe_ix (ix_tupK (K := K)) (pe_ix (ix_tupK (K := K)) (pe_fld (pv 0) rfl) (pv 1) (fun _ _ => rfl)) (pv 2) (fun _ _ => rfl)) pa_nil))))), ?_⟩
    refine ⟨_, rfl, _, rfl, _, rfl, x, u, t, p, n, c, qss, ds, rfl, hpl, hu, ht, kU, fun h qs eu eq => ⟨kT h qs eu eq, fun et => ?_⟩⟩
    subst eu
    obtain ⟨j, rfl, hj⟩ := bel_at et
    have hj : j < qs.length := by omega
    have em := List.getElem?_eq_getElem hj
    obtain ⟨dx, qv, dv, hx, ⟨qa, qxs, rfl, hqa, hqp⟩, hd⟩ := hpl
    obtain ⟨y, hy, qc, zs, rfl, hqc, hz⟩ := paired_of hqp eq
    obtain ⟨z, hz1, mc, rs, rfl, hmc, hr2⟩ := paired_of hz em
    refine ⟨_, rfl, x, L, dx, _, _, rfl, hx, C.cl, C.nQ, pf_questions, _, rfl, qa, _, _, _, rfl, rfl, SqT.of hqa, atI_nat hy, _, rfl, qc, _, _, _, rfl, rfl, SqT.of hqc, atI_nat hz1, mc, _, rfl, .inr (SqT.of hmc), ?_⟩
    rw [paired_len hr2]
    exact kk _ ⟨h, j, qs, rfl, rfl, eq, em⟩
/-- the answer of a question -/
def ans (p : Int) (k : Nat) (ls : List Int) (m : List (List Int)) : List Int := m.map fun r => (dotn k r ls).fmod p
/-- plan.answer(house, question, library) -/
def spAw (K : PySem.W.Frag) (L LL : Addr) : Sp := fun vs H Q E => ∃ (x : Addr) (u t l : V) (p : Int) (n c : Nat) (qss : List (List (List (List Int)))) (ds : List (Int × List (List Int))), vs = [.ref x, u, t, l] ∧ PlAt L H x p n c qss ds ∧ Pok p n c qss ds ∧ Ty3 K H u ∧ Ty3 K H t ∧ QErr K qss u t H E ∧ ∀ m, QAt qss u t m →
  ((∃ ty, TyX K H l ty ∧ PySem.W.kitOne K ty (.ref LL) = some false ∧ Errs (He.ga K "InvalidLibrary") "value" l H E) ∨
   ∃ (a : Addr) (p' : Int) (n' : Nat) (bs : List (List Int)), l = .ref a ∧ LibAt LL H a p' n' bs ∧ (∀ b ∈ bs, b.length = n') ∧ (¬ (p' = p ∧ bs.length = c ∧ n' = n) → Errs (He.ga K "InvalidLibrary") "value" l H E) ∧
     (p' = p ∧ bs.length = c ∧ n' = n → ∀ y H', Same H H' → T1 H' y (ans p (n * c) bs.flatten m) → Q y H'))
theorem scPlan_answer : FnScope ["self", "house", "question", "library"] ["self", "house", "question", "library"] (defScope sPlan_answer) := ⟨rfl, rfl, rfl, by decide +kernel, rfl, by decide +kernel, by decide +kernel⟩
theorem ok_Aw {f f1 f2 f3 : Addr} {fd fd1 fd2 fd3 : FuncData} (F : FunD K "answer" "Plan.answer" (defArgs sPlan_answer) (defBody sPlan_answer) (defScope sPlan_answer) [] [] f fd) (B : Blt4 mg) (C : PlC K mg L) (CL : LibC K mg LL) (CQs : Cal P w K mg base 4 "check_question" f1 fd1 ["plan", "house", "question"] (spCQ K L))
    (CLb : Cal P w K mg base 3 "check_library" f2 fd2 ["plan", "library"] (spCL K L LL)) (CPr : Cal P w K mg base 8 "products" f3 fd3 ["p", "rows", "letters"] spPx) : FnOk P w K mg base (L2.CX P w) 9 f fd ["self", "house", "question", "library"] (spAw K L LL) := by
  refine F.ok scPlan_answer (fun vs H Q E h => ?_) (fun cdv A outer s H vs Q E hr h => ?_)
  · obtain ⟨x, u, t, l, p, n, c, qss, ds, rfl, _⟩ := h
    rfl
  · obtain ⟨x, u, t, l, p, n, c, qss, ds, rfl, hpl, ok, hu, ht, ⟨kU, kT⟩, kk⟩ := h
    have nd := scPlan_answer.nd
    refine ⟨_, (pss_cons (ps_expr (pe_cal (E := E) CQs (hr.mono (by decide)) (pa_cons (pv 0) (pa_cons (pv 1) (pa_cons (pv 2) pa_nil))) (passes_call (takes_of rfl rfl rfl rfl) (fun _ _ _ _ h => h))))
      (pss_cons (ps_expr (pe_cal (E := E) CLb (hr.mono (by decide)) (pa_cons (pv 0) (pa_cons (pv 3) pa_nil)) (passes_call (takes_of rfl rfl rfl rfl) (fun _ _ _ _ h => h))))
      (pss_one (ps_ret (pe_cal CPr (hr.mono (by decide)) (pa_cons (pe_fld (pv 0) rfl) (pa_cons (pe_ix (ix_tupK (K := K)) (pe_ix (ix_tupK (K := K)) (pe_fld (pv 0) rfl) (pv 1) (fun _ _ => rfl)) (pv 2) (fun _ _ => rfl)) (pa_cons (pe_fld (pv 3) rfl) pa_nil))) passU))))), ?_⟩
    refine ⟨_, rfl, _, rfl, _, rfl, x, u, t, p, n, c, qss, ds, rfl, hpl, hu, ht, kU, fun h qs eu eq => ⟨kT h qs eu eq, fun et => ?_⟩⟩
    subst eu
    obtain ⟨j, rfl, hj⟩ := bel_at et
    have hj : j < qs.length := by omega
    have em := List.getElem?_eq_getElem hj
    have qo := ok.qok qs (List.mem_of_getElem? eq)
    have mo := qo.2.2.2 _ (List.mem_of_getElem? em)
    refine ⟨_, rfl, _, rfl, x, l, p, n, c, qss, ds, rfl, hpl, ?_⟩
    obtain ⟨dx, qv, dv, hx, ⟨qa, qxs, rfl, hqa, hqp⟩, hd⟩ := hpl
    obtain ⟨y, hy, qc, zs, rfl, hqc, hz⟩ := paired_of hqp eq
    obtain ⟨z, hz1, fz⟩ := paired_of hz em
    rcases kk _ ⟨h, j, qs, rfl, rfl, eq, em⟩ with ⟨ty, e1, e2, e3⟩ | ⟨a, p', n', bs, rfl, hl, hbn, kN, kY⟩
    · exact .inl ⟨ty, e1, e2, e3⟩
    · refine .inr ⟨a, p', n', bs, rfl, hl, fun hsame => ?_, kN⟩
      have kY := kY hsame
      obtain ⟨rfl, rfl, rfl⟩ := hsame
      obtain ⟨dl, ba, tl, rs, ha, hba, hbp, htl⟩ := hl
      refine ⟨_, rfl, x, L, dx, _, _, rfl, hx, C.cl, C.nP, pf_p, _, rfl, x, L, dx, _, _, rfl, hx, C.cl, C.nQ, pf_questions, _, rfl, qa, _, _, _, rfl, rfl, SqT.of hqa, atI_nat hy, _, rfl, qc, _, _, _, rfl, rfl, SqT.of hqc, atI_nat hz1, _, rfl, a, LL, dl, _, _, rfl, ha, CL.cl, CL.nT, lf_letters, ?_⟩
      refine ⟨p', n' * bs.length, _, tl, _, bs.flatten, rfl, fz, htl, ok.hp, mo.2, ?_, ok.nc, mo.1, fun y2 H2 s2 hy2 => kY y2 H2 s2 hy2⟩
      rw [flat_len hbn, Nat.mul_comm]
end
end WU

set_option maxRecDepth 100000
set_option maxHeartbeats 8000000
namespace WU
open PySem PySem.Spec PyProof.Rows L2
theorem big100k {n : Nat} (h : n ≤ 100000) : n < sizeLine := Nat.lt_of_le_of_lt h (by decide)
theorem flat_le {α : Type} {b : Nat} : ∀ {l : List (List α)}, (∀ m ∈ l, m.length ≤ b) → l.flatten.length ≤ l.length * b
  | [], _ => by simp
  | m :: l, h => by
    have h1 := h m List.mem_cons_self
    have h2 := flat_le (l := l) fun q hq => h q (List.mem_cons_of_mem _ hq)
    rw [List.flatten_cons, List.length_append, List.length_cons, Nat.succ_mul]
    omega
section
variable {P : Program} {w : World} {K : PySem.W.Frag} {mg : Str → Option Value} {base : Heap} {L LL : Addr}
/-- the houses as a tuple -/
def spHs (L : Addr) : Sp := fun vs H Q _ => ∃ (x : Addr) (p : Int) (n c : Nat) (qss : List (List (List (List Int)))) (ds : List (Int × List (List Int))), vs = [.ref x] ∧ PlAt L H x p n c qss ds ∧ qss.length ≤ 900 ∧ ∀ y H', Same H H' → T1 H' y ((List.range qss.length).map fun (k : Nat) => (k : Int)) → Q y H'
theorem scall_houses : FnScope ["plan"] ["plan"] (defScope s_all_houses) := ⟨rfl, rfl, rfl, by decide +kernel, rfl, by decide +kernel, by decide +kernel⟩
theorem ok_Hs {f : Addr} {fd : FuncData} (F : FnS K "all_houses" s_all_houses f fd) (B : Blt4 mg) (C : PlC K mg L) : FnOk P w K mg base (L2.CX P w) 1 f fd ["plan"] (spHs L) := by
  refine F.ok scall_houses (fun vs H Q E h => ?_) (fun cdv A outer s H vs Q E hr h => ?_)
  · obtain ⟨x, p, n, c, qss, ds, rfl, _⟩ := h
    rfl
  · obtain ⟨x, p, n, c, qss, ds, rfl, ⟨dx, qv, dv, hx, hq, hd⟩, h9, kk⟩ := h
    have nd := scall_houses.nd
    refine ⟨_, (pss_one (ps_ret (pe_tupRg rfl (by rfl) B.tuple (prg_1 (by rfl) B.range (pe_fld (pv 0) rfl))))), ?_⟩
    refine ⟨_, rfl, x, L, dx, _, _, rfl, hx, C.cl, C.nH, pf_house_count, _, rfl, ⟨by decide, by decide, by omega, by omega, by omega⟩, fun q hq => kk _ _ (same_new hq) ?_⟩
    have e : rgV 0 (qss.length : Int) = ((List.range qss.length).map fun (k : Nat) => (k : Int)).map V.int := by
      unfold rgV
      rw [List.map_map, Int.sub_zero, Int.toNat_natCast]
      refine List.map_congr_left fun i _ => ?_
      show V.int (0 + (i : Int)) = V.int (i : Int)
      rw [Int.zero_add]
    rw [e]
    exact T1.mk upd_same
/-- rows_asked(plan, houses, numbers): the rows of the questions ms -/
def Asks (qss : List (List (List (List Int)))) (hs ns : List Int) (ms : List (List (List Int))) : Prop := hs.length = ms.length ∧ ns.length = ms.length ∧ ms.length ≤ 400 ∧ (∀ m ∈ ms, m.length ≤ 200) ∧
  ∀ j m, ms[j]? = some m → ∃ (a b : Nat) (qs : List (List (List Int))), at0 hs j = (a : Int) ∧ at0 ns j = (b : Int) ∧ qss[a]? = some qs ∧ qs[b]? = some m
def spRo (L : Addr) : Sp := fun vs H Q _ => ∃ (x : Addr) (hv nv : V) (p : Int) (n c : Nat) (qss : List (List (List (List Int)))) (ds : List (Int × List (List Int))) (hs ns : List Int) (ms : List (List (List Int))), vs = [.ref x, hv, nv] ∧ PlAt L H x p n c qss ds ∧ T1 H hv hs ∧ T1 H nv ns ∧ Asks qss hs ns ms ∧
  ∀ y H', Same H H' → T2 H' y ms.flatten → Q y H'
theorem scRo : FnScope ["plan", "houses", "numbers", "house", "number", "row"] ["plan", "houses", "numbers"] (defScope s_rows_asked) := ⟨rfl, rfl, rfl, by decide +kernel, rfl, by decide +kernel, by decide +kernel⟩
theorem ok_Ro {f : Addr} {fd : FuncData} (F : FnS K "rows_asked" s_rows_asked f fd) (B : Blt4 mg) (C : PlC K mg L) : FnOk P w K mg base (L2.CX P w) 1 f fd ["plan", "houses", "numbers"] (spRo L) := by
  refine F.ok scRo (fun vs H Q E h => ?_) (fun cdv A outer s H vs Q E hr h => ?_)
  · obtain ⟨x, hv, nv, p, n, c, qss, ds, hs, ns, ms, rfl, _⟩ := h
    rfl
  · obtain ⟨x, hv, nv, p, n, c, qss, ds, hs, ns, ms, rfl, ⟨dx, qv, dv, hx, ⟨qa, qxs, rfl, hqa, hqp⟩, hd⟩, ⟨ha, hxs, rfl, hha, hhp⟩, ⟨na, nxs, rfl, hna, hnp⟩, ⟨l1, l2, l4, m2, ak⟩, kk⟩ := h
    have nd := scRo.nd
    have eh := fi_map hhp
    have en := fi_map hnp
    subst eh en
    refine ⟨_, (pss_one (ps_ret (pe_callTy (tup_ofK (K := K)) (by rfl) B.tuple (by decide +kernel) (pa_cons (pe_lc2 (wi := RZ.iZipA K (tCons (tVar 1) (tCons (tVar 2) tNil))) (wi1 := iTup K (tOp (rIxT K) (tOp (rIxT K) (tFld K (tVar 0) "questions") (tVar 3)) (tVar 4))) (te := tVar 5) (own := [("house", 3), ("number", 4), ("row", 5)]) (vs1 := [5]) (g := gTup K 2 (gCons (gName 3) (gCons (gName 4) gNil))) (g1 := gName 5) (by rfl) nd (zipAK (K := K) (by rfl) B.zip (pa_cons (pv 1) (pa_cons (pv 2) pa_nil))) (blkOk_by (own := [("house", 3), ("number", 4), ("row", 5)]) (N := ["plan", "houses", "numbers", "house", "number", "row"]) (sc := defScope s_rows_asked) (by decide +kernel)) (by decide) (fun _ _ _ _ _ => pg_tupK (K := K) (pg_tup rfl (pgs_cons (pg_name (i := 3) nd rfl (Or.inl rfl)) (pgs_cons (pg_name (i := 4) nd rfl (Or.inl rfl)) pgs_nil)))) (fun _ _ _ _ _ => pts_nil) (fun _ _ _ _ _ => pi_tupK (K := K) (pe_ix (ix_tupK (K := K)) (pe_ix (ix_tupK (K := K)) (pe_fldK (K := K) (pv 0) rfl) (pv 3) (fun _ _ => rfl)) (pv 4) (fun _ _ => rfl))) (fun _ _ _ _ _ => pg_name (i := 5) nd rfl (Or.inl rfl)) (fun _ _ _ _ _ => pts_nil) (fun _ _ _ _ _ => pv 5)) pa_nil)))), ?_⟩
    refine ⟨_, rfl, _, rfl, ha, na, _, _, rfl, .inr ⟨SqT.of hha, SqT.of hna, fun D hD => wIt (walk_zipT (n := ms.length) (by rw [List.length_map, List.length_map]; omega)) (fun i H' => Same H H' ∧ Bd T1 D (ms.take i).flatten H') ⟨same_new hD, Bd.start⟩ (fun i H' _ z => ⟨SqT.of (z.1 _ _ hha), SqT.of (z.1 _ _ hna)⟩) ?_ ?_⟩⟩
    · rintro i y H1 H2 hi ⟨s1, b1⟩ ⟨T, x1, x2, rfl, hT, rfl, g1, g2⟩
      cases (take_map_at hs.length (r := hs) (i := i) (by omega)).symm.trans g1
      cases (take_map_at ns.length (r := ns) (i := i) (by omega)).symm.trans g2
      have em := List.getElem?_eq_getElem hi
      obtain ⟨a, b, qs, e1, e2, e3, e4⟩ := ak i _ em
      rw [e1, e2]
      have s2 : Same H (upd H1 T (.tup [.int (a : Int), .int (b : Int)])) := s1.trans (same_new hT)
      have b2 : Bd T1 D (ms.take i).flatten (upd H1 T (.tup [.int (a : Int), .int (b : Int)])) := b1.skip stb1 (TK.new hT) fun ys h => same_new hT _ _ h
      have eT : upd H1 T (.tup [.int (a : Int), .int (b : Int)]) T = some (.tup [.int (a : Int), .int (b : Int)]) := upd_same
      generalize upd H1 T (.tup [.int (a : Int), .int (b : Int)]) = H2 at s2 b2 eT ⊢
      obtain ⟨z1, hz1, qc, zs, rfl, hqc, hz⟩ := paired_of hqp e3
      obtain ⟨z2, hz2, mc, rs, rfl, hmc, hr2⟩ := paired_of hz e4
      have fl : ∀ j, ((ms.take i).flatten ++ (ms[i]).take j).length ≤ 100000 := fun j => by
        have h1 := flat_le (l := ms.take i) (b := 200) fun q hq => m2 q (List.mem_of_mem_take hq)
        have h2 := m2 _ (List.getElem_mem hi)
        rw [List.length_take] at h1
        rw [List.length_append, List.length_take]
        have : min i ms.length * 200 ≤ 400 * 200 := Nat.mul_le_mul_right _ (by omega)
        omega
      refine ⟨T, _, rfl, SqT.of eT, rfl, _, _, rfl, _, _, rfl, rfl, rfl, ?_⟩
      refine ⟨_, rfl, x, L, dx, _, _, rfl, s2 _ _ hx, C.cl, C.nQ, pf_questions, _, rfl, qa, _, _, _, rfl, rfl, SqT.of (s2 _ _ hqa), atI_nat hz1, _, rfl, qc, _, _, _, rfl, rfl, SqT.of (s2 _ _ hqc), atI_nat hz2, mc, rfl, ⟨_, SqT.of (s2 _ _ hmc)⟩, ?_⟩
      refine wTup (K := K) (a := mc) (xs := rs) (fun j H' => Same H H' ∧ Bd T1 D ((ms.take i).flatten ++ (ms[i]).take j) H') ⟨s2, by rw [List.take_zero, List.append_nil]; exact b2⟩ (fun j H' z => SqT.of (z.1 _ _ hmc)) ?_ ?_
      · rintro j y H3 hy ⟨q1, q2⟩
        obtain ⟨r, hr3, fr⟩ := paired_at hr2 hy
        obtain ⟨acc, a1, a2, a3, a4⟩ := q2.put stb1 (stb1 _ _ _ _ (TK.of q1) fr) (big100k (fl j))
        refine ⟨rfl, _, rfl, acc, a1, a2, fun bq u hbq => ?_, ?_⟩
        · rw [upd_ne (ne_of_none hbq hD)]
          exact q1 _ _ hbq
        · rw [List.take_succ, hr3, ← List.append_assoc]
          exact a3
      · rintro H3 ⟨q1, q2⟩
        refine ⟨q1, ?_⟩
        rw [paired_len hr2, List.take_length] at q2
        rw [List.take_succ, em, List.flatten_append]
        simpa using q2
    · rintro H1 ⟨s1, b1⟩
      rw [List.take_length] at b1
      obtain ⟨ys, e, ft⟩ := b1.tup stb1
      exact ⟨D, _, rfl, .inl ⟨SqL.of e, fun T hT => kk _ _ (s1.trans (same_new hT)) (ft T hT)⟩⟩
end
end WU

set_option maxRecDepth 100000
set_option maxHeartbeats 8000000
namespace WU
open PySem PySem.Spec PyProof.Rows L2
theorem pf_no {p n c h : Int} {qv dv : V} {wt : Int} {m : Str} (h1 : ¬ m = "weight") (h2 : ¬ m = "draws") (h3 : ¬ m = "questions") (h4 : ¬ m = "house_count") (h5 : ¬ m = "book_count") (h6 : ¬ m = "book_length") (h7 : ¬ m = "p") : (pf p n c h qv dv wt).lookup m = none := by
  unfold pf
  rw [lookup_putF, if_neg h1, lookup_putF, if_neg h2, lookup_putF, if_neg h3, lookup_putF, if_neg h4, lookup_putF, if_neg h5, lookup_putF, if_neg h6, lookup_putF, if_neg h7]
  rfl
theorem PlAt.same {L : Addr} {H H' : Hp} {x : Addr} {p : Int} {n c : Nat} {qss : List (List (List (List Int)))} {ds : List (Int × List (List Int))} (h : PlAt L H x p n c qss ds) (s : Same H H') : PlAt L H' x p n c qss ds := by
  obtain ⟨dx, qv, dv, hx, hq, hd⟩ := h
  exact ⟨dx, qv, dv, s _ _ hx, stb4 _ _ _ _ (TK.of s) hq, stb_TF stb_TD _ _ _ _ (TK.of s) hd⟩
theorem ty3_same {K : PySem.W.Frag} {H H' : Hp} {v : V} (h : Ty3 K H v) (s : Same H H') : Ty3 K H' v := by
  obtain ⟨t, ht, h1, h2⟩ := h
  refine ⟨t, ?_, h1, h2⟩
  cases ht with
  | base b =>
    cases b with
    | non => exact .base .non
    | bl y => exact .base (.bl y)
    | int i => exact .base (.int i)
    | str y => exact .base (.str y)
    | flt y => exact .base (.flt y)
    | lst e => exact .base (.lst (s _ _ e))
    | frz e => exact .base (.frz (s _ _ e))
    | tup e => exact .base (.tup (s _ _ e))
    | dK e => exact .base (.dK (s _ _ e))
    | dT e => exact .base (.dT (s _ _ e))
    | ins e a b c d f => exact .base (.ins (s _ _ e) a b c d f)
  | byt b => exact .byt b
  | set e => exact .set (s _ _ e)
  | kList e c => exact .kList e c
  | kTuple e c => exact .kTuple e c
  | kDict e c => exact .kDict e c
  | fTuple e => exact .fTuple (s _ _ e)
  | fDict e => exact .fDict (s _ _ e)
theorem errs_sameN {C : Addr} {f : Str} {v : V} {H H' : Hp} {E : XK} (h : Errs C f v H E) (s : Same H H') : Errs C f v H' E := errs_same h s
section
variable {P : Program} {w : World} {K : PySem.W.Frag} {mg : Str → Option Value} {base : Heap} {L LL : Addr}
def hsL (k : Nat) : List Int := (List.range k).map fun (k : Nat) => (k : Int)
/-- plan.asked_rows(wish, draw) -/
def spAr (K : PySem.W.Frag) (L : Addr) : Sp := fun vs H Q E => ∃ (x : Addr) (u t : V) (p : Int) (n c : Nat) (qss : List (List (List (List Int)))) (ds : List (Int × List (List Int))), vs = [.ref x, u, t] ∧ PlAt L H x p n c qss ds ∧ Pok p n c qss ds ∧ (∀ H', Same H H' → Ty3 K H' u ∧ Ty3 K H' t) ∧
  (isBel (c : Int) u = false → Errs (He.ga K "InvalidNumber") "value" u H E) ∧ (isBel (c : Int) u = true → (isBel (ds.length : Int) t = false → Errs (He.ga K "InvalidNumber") "value" t H E)) ∧
  ∀ (i j : Nat) (d : Int × List (List Int)) (r : List Int), u = .int (i : Int) → t = .int (j : Int) → ds[j]? = some d → d.2[i]? = some r → ∃ ms, Asks qss (hsL qss.length) r ms ∧ ∀ y H', Same H H' → T2 H' y ms.flatten → Q y H'
theorem scPlan_asked_rows : FnScope ["self", "wish", "draw"] ["self", "wish", "draw"] (defScope sPlan_asked_rows) := ⟨rfl, rfl, rfl, by decide +kernel, rfl, by decide +kernel, by decide +kernel⟩
theorem ok_Ar {f f1 f2 f3 : Addr} {fd fd1 fd2 fd3 : FuncData} (F : FunD K "asked_rows" "Plan.asked_rows" (defArgs sPlan_asked_rows) (defBody sPlan_asked_rows) (defScope sPlan_asked_rows) [] [] f fd) (C : PlC K mg L) (CHs : Cal P w K mg base 1 "all_houses" f1 fd1 ["plan"] (spHs L)) (CRo : Cal P w K mg base 1 "rows_asked" f2 fd2 ["plan", "houses", "numbers"] (spRo L))
    (mA : Meth K L "asked" f3) (gA : FnOk P w K mg base (L2.CX P w) 6 f3 fd3 ["self", "wish", "draw"] (spAd K L)) (bA : L2.Binds K fd3 ["self", "wish", "draw"] []) : FnOk P w K mg base (L2.CX P w) 7 f fd ["self", "wish", "draw"] (spAr K L) := by
  refine F.ok scPlan_asked_rows (fun vs H Q E h => ?_) (fun cdv A outer s H vs Q E hr h => ?_)
  · obtain ⟨x, u, t, p, n, c, qss, ds, rfl, _⟩ := h
    rfl
  · obtain ⟨x, u, t, p, n, c, qss, ds, rfl, hpl, ok, hty, kU, kT, kk⟩ := h
    have nd := scPlan_asked_rows.nd
    refine ⟨_, (pss_one (ps_ret (pe_cal CRo (hr.mono (by decide)) (pa_cons (pv 0) (pa_cons (pe_cal CHs (hr.mono (by decide)) (pa_cons (pv 0) pa_nil) passU) (pa_cons (pe_meth (E := E) (pv 0) C.cl mA gA (hr.mono (by decide)) bA .nil (passes_call (takes_of rfl rfl rfl rfl) (fun _ _ _ _ h => h)) (pa_cons (pv 1) (pa_cons (pv 2) pa_nil))) pa_nil))) passU))), ?_⟩
    refine ⟨_, rfl, _, rfl, x, p, n, c, qss, ds, rfl, hpl, ok.q9, fun y1 H1 s1 h1 => ?_⟩
    have hpl1 := hpl.same s1
    obtain ⟨dx, qv, dv, hx, _, _⟩ := id hpl1
    refine ⟨_, rfl, x, dx, _, rfl, hx, pf_no (by decide +kernel) (by decide +kernel) (by decide +kernel) (by decide +kernel) (by decide +kernel) (by decide +kernel) (by decide +kernel), _, rfl, _, rfl, ?_⟩
    refine ⟨x, u, t, p, n, c, qss, ds, rfl, hpl1, ok, (hty _ s1).1, (hty _ s1).2, fun e => errs_sameN (kU e) s1, fun e e2 => errs_sameN (kT e e2) s1, fun i j d r e1 e2 e3 e4 y hy => ?_⟩
    obtain ⟨ms, ha, k2⟩ := kk i j d r e1 e2 e3 e4
    exact ⟨x, y1, y, p, n, c, qss, ds, _, r, ms, rfl, hpl1, h1, hy, ha, fun y3 H3 s3 h3 => k2 y3 H3 (s1.trans s3) h3⟩
end
end WU

set_option maxRecDepth 100000
set_option maxHeartbeats 4000000
namespace WU
open PySem PySem.Spec PyProof.Rows L2
open AutoSeq1 (wpAny_loadPart')
/-! ### enumerate of a tuple -/
theorem enum_newT (l : Addr) (items : Array Value) (n : Nat) (dct : Option Addr) (sl : Array (Option Value)) :
    Meets (Builtin.«enumerate.__new__» ⟨[.type "enumerate", .ref l], []⟩) (fun _ R s => s.heap.get? l = some { cls := .type "tuple", dict := dct, data := .seq items n, slots := sl } ∧
      R (.ok (.ret (.ref (s.heap.push { cls := .type "tuple_iterator", data := .fields #[.ref l, .int 0 0] }).objs.size)))
        { s with heap := (s.heap.push { cls := .type "tuple_iterator", data := .fields #[.ref l, .int 0 0] }).push { cls := .type "enumerate", data := .fields #[.none, .bool false, .ref s.heap.objs.size, rawInt 0, .none, .none] } }) :=
  .of_wp fun prog w A R s z => by
    obtain ⟨hp, g, d, tk, os⟩ := s
    obtain ⟨at_, fin⟩ := z
    have sub := sub_enumerate
    have tp : Heap.IsTuple (Shared.heap ⟨hp, g, d, tk, os⟩) l items := ⟨_, at_, rfl, n, rfl⟩
    wp_walk using wpAny_loadPart' at_
    refine wpAny_stack_any fun q => wpAny_pure ?_
    split
    · rename_i cl _ _ _ _ _
      cases (cl == Value.type "enumerate") <;> (wp_walk using wpAny_loadPart' at_, wpAny_pyIter_tuple tp; exact ⟨_, rfl, fin⟩)
    · wp_walk using wpAny_loadPart' at_, wpAny_pyIter_tuple tp
      exact ⟨_, rfl, fin⟩
end WU

set_option maxRecDepth 100000
set_option maxHeartbeats 4000000
namespace WU
open PySem PySem.Spec PyProof.Rows L2
section
variable {prog : Program} {w : World} {A : Around} {E : Value → Shared → Prop} {s : Shared}
theorem call_enumT {l : Addr} {items : Array Value} {Q : Value → Shared → Prop} (tp : s.heap.IsTuple l items)
    (go : ∀ h', IsEnum h' (s.heap.objs.size + 1) s.heap.objs.size 0 .none ∧ h'.IsTupleIter s.heap.objs.size l 0 ∧ (∀ b o, s.heap.get? b = some o → h'.get? b = some o) → Q (.ref (s.heap.objs.size + 1)) { s with heap := h' }) :
    wpAny (model prog w) A (call (.type "enumerate") [.ref l]) Q E s := by
  obtain ⟨⟨c, dct, dt, sl⟩, at_, hc, n, hd⟩ := tp
  obtain rfl : c = .type "tuple" := hc
  obtain rfl : dt = .seq items n := hd
  refine callType_new F.called_enumerate (by decide) (F.typeCall_enumerate_1 _) (F.newCall_enumerate_1 _) (fun ob => F.args_object_init_2 ob _) F.entry_enumerate_new (enum_newT l items n dct sl) ⟨at_, ?_⟩
  have z : (s.heap.push { cls := .type "tuple_iterator", data := .fields #[.ref l, .int 0 0] }).objs.size = s.heap.objs.size + 1 := Heap.size_push ..
  show _ ∧ _
  rw [z]
  have en : IsEnum ((s.heap.push { cls := .type "tuple_iterator", data := .fields #[.ref l, .int 0 0] }).push
      { cls := .type "enumerate", data := .fields #[.none, .bool false, .ref s.heap.objs.size, rawInt 0, .none, .none] }) (s.heap.objs.size + 1) s.heap.objs.size 0 .none := by
    have q := Heap.get?_push_size (s.heap.push { cls := .type "tuple_iterator", data := .fields #[.ref l, .int 0 0] })
      (o := { cls := .type "enumerate", data := .fields #[.none, .bool false, .ref s.heap.objs.size, rawInt 0, .none, .none] }) rfl
    rw [z] at q
    exact q
  exact ⟨⟨_, en, rfl⟩, go _ ⟨en, ⟨_, Heap.get?_push_of_some _ (Heap.get?_push_size _ rfl), rfl, rfl⟩, fun b o x => Heap.get?_push_of_some _ (Heap.get?_push_of_some _ x)⟩⟩
/-- what a tuple's iterator draws -/
theorem drawsT (hh : A.handled = none) {it t : Addr} {items : Array Value} (ne : it ≠ t) : Draws prog w A it [it, t] items.size (fun i x => items[i]? = some x) (fun i h => h.IsTupleIter it t i ∧ h.IsTuple t items) where
  live := fun i h ⟨⟨o, e, _⟩, _⟩ => ⟨o, e⟩
  frame := fun i h h' ⟨⟨o, e, r⟩, u, e2, r2⟩ k => ⟨⟨o, k it (by simp) o e, r⟩, u, k t (by simp) u e2, r2⟩
  item := fun i s Q E hi ⟨a, b⟩ q => PySem.wpAny_nextOf_tuple_item a b (x := items[i]) (Array.getElem?_eq_getElem hi) fun h' a' sb => q _ h' s.toks (Array.getElem?_eq_getElem hi) ⟨a', b.extBut sb.extBut ne.symm⟩ sb
  done := fun s Q E ⟨a, b⟩ q => PySem.wpAny_nextOf_tuple_end hh a b (Array.getElem?_eq_none (Nat.le_refl _)) q
end
/-- the tuple at a as it stands at each turn, each item in a new pair -/
def Itet (K : PySem.W.Frag) (a : Addr) : It :=
  ⟨fun i H => ∃ (xs : List V) (x : V), SqT K H a xs ∧ xs[i]? = some x, fun i H v H' => ∃ T x, v = .ref T ∧ H T = none ∧ H' = upd H T (.tup [.int (i : Nat), x]) ∧ ∀ xs, SqT K H a xs → xs[i]? = some x, fun i H => ∃ xs : List V, SqT K H a xs ∧ xs.length ≤ i⟩
end WU

set_option maxRecDepth 100000
set_option maxHeartbeats 4000000
namespace WU
open PySem PySem.Spec PyProof.Rows L2
theorem pyNext_enumT_end {prog : Program} {w : World} {A : Around} {E : Value → Shared → Prop} {s : Shared} {e it l : Addr} {i : Nat} {items : Array Value} {old : Value} {Q : Option Value → Shared → Prop} (hh : A.handled = none)
    (en : IsEnum s.heap e it i old) (hit : s.heap.IsTupleIter it l i) (tp : s.heap.IsTuple l items) (past : items[i]? = none) (q : ∀ h', Heap.ExtBut it s.heap h' → Q none { s with heap := h' }) : wpAny (model prog w) A (pyNext (.ref e)) Q E s := by
  have ty : s.TypeIs (.ref e) "enumerate" := ⟨_, en, rfl⟩
  unfold pyNext
  refine wpAny_bind (wpAny_attempt (wpAny_callSpecial?_slot (name := Str.ofString "__next__") ty F.slot_enumerate_next (wpAny_call_entry F.slot_enumerate_next ty F.entry_enumerate_next ?_ (F.args_enumerate_next_1 _))))
  show wpAny _ _ (field (.ref e) 2 >>= _) _ _ _
  refine wpAny_bind (wpAny_field en rfl (x := .ref it) rfl (wpAny_bind (PySem.wpAny_nextOf_tuple_end hh hit tp past fun h' x a b => ?_)))
  obtain ⟨o, ho, hc⟩ := b
  exact wpAny_bind (wpAny_isInstance (T := "StopIteration") (b := true) ⟨o, ho, hc⟩ isSubtype_stop (wpAny_pure (q _ a)))
theorem turn_enumT {P : Program} {w : World} {K : PySem.W.Frag} {elts : List Expr} {kk : Nat} {tpos : Pos} (a e it : Addr) :
    Turn P w K (.Tuple elts kk tpos) (Itet K a) [e, it] e (fun i h => (∃ old, IsEnum h e it ((i : Nat) : Int) old) ∧ h.IsTupleIter it a i ∧ e ≠ it) where
  mem := by simp
  obj := fun i h st b hb => by
    obtain ⟨⟨old, en⟩, ⟨o, ho, _, hd⟩, _⟩ := st
    rcases List.mem_cons.mp hb with z | z
    · rw [z]
      exact ⟨_, en, fun v q => nomatch q⟩
    · rw [List.mem_singleton.mp z]
      exact ⟨o, ho, fun v q => by rw [hd] at q; cases q⟩
  keep := fun i h h' ⟨⟨old, en⟩, hi, ne⟩ k => ⟨⟨old, k e (by simp) _ en⟩, hi.at fun o q => k it (by simp) o q, ne⟩
  item := by
    intro Y eP ew eK hc i pn st sg G E inv hf ⟨⟨old, en⟩, hit, ne⟩ ⟨xs, x, sq, gx⟩
    subst eP ew eK
    obtain ⟨us, rus, pus, _⟩ := inv.tuple sq
    obtain ⟨u, hu, ru⟩ := rus.get gx
    obtain ⟨ot, et, ct, nt, dt⟩ := id pus
    obtain ⟨oi, ei, ci, di⟩ := id hit
    have n1 : it ≠ a := fun z => by
      rw [z] at ei
      rw [Option.some.inj (ei.symm.trans et), ct] at ci
      exact absurd (Value.type.inj ci) (by decide)
    have n2 : e ≠ a := fun z => by
      rw [z] at en
      rw [Option.some.inj (et.symm.trans en)] at ct
      exact absurd (Value.type.inj ct) (by decide)
    have le : e < st.heap.objs.size := Heap.lt_size en
    have li : it < st.heap.objs.size := Heap.lt_size ei
    have hil : i < us.toArray.size := by
      have := (List.getElem?_eq_some_iff.mp hu).1
      simpa using this
    refine wpAny_pyNext_enum_itemD (drawsT (prog := Y.prog) (w := Y.w) (A := Y.A.in1) (items := us.toArray) (show Y.A.in1.handled = none from inv.ok.hd hc) n1) en ⟨hit, ot, et, ct, nt, dt⟩ hil ne (by simp [ne, n2]) fun y h' tk py ho hst hT hsz hk => ?_
    obtain rfl : y = u := by
      have q : us[i]? = some y := by simpa using py
      exact Option.some.inj (q.symm.trans hu)
    refine ⟨_, rfl, wpAny_letOwnedTupleGo_enum (s := { st with heap := h', toks := tk + 1 }) ho fun h2 he2 sb => ?_⟩
    have hT2 : h2.get? st.heap.objs.size = some { cls := .type "tuple", data := .seq #[.int i tk, y] } := (sb.2 _ (Nat.ne_of_gt le)).trans hT
    have nw : ObjOk Y.prog Y.w (upd G st.heap.objs.size (.tup [.int (i : Nat), x])) h2 st.heap.objs.size (.tup [.int (i : Nat), x]) := ⟨by show 2 ≤ sizeLine; decide, [.int i tk, y], .cons ⟨_, rfl⟩ (.cons ru .nil), ⟨_, hT2, rfl, _, rfl⟩⟩
    have J : Inv Y pn sg (upd G st.heap.objs.size (.tup [.int (i : Nat), x])) { st with heap := h2, toks := tk + 1 } :=
      inv.turnedNew (ch := [e, it]) (fun b ob hb q => (sb.2 b (fun z => hb (by simp [z]))).trans (hk b ob (fun z => hb (by simp [z])) (fun z => hb (by simp [z])) q)) hf (Nat.le_refl _) nw
    refine ⟨.ref st.heap.objs.size, _, J, rfl, ⟨_, x, rfl, inv.hok.fresh (Nat.le_refl _), rfl, fun ys hy => by rw [inv.tuple_inj hy sq]; exact gx⟩, ⟨⟨y, ?_⟩, hst.1.at fun o q => (sb.2 it (Ne.symm ne)).trans q, ne⟩, fun b hb => ?_⟩
    · rw [show ((i + 1 : Nat) : Int) = (i : Int) + 1 by omega]
      exact he2
    · have lb : b < st.heap.objs.size := by
        rcases List.mem_cons.mp hb with z | z
        · rw [z]; exact le
        · rw [List.mem_singleton.mp z]; exact li
      rw [upd_ne (Nat.ne_of_lt lb)]
      exact (hf b hb).1
  done := by
    intro Y eP ew eK hc i pn st sg G E inv hf ⟨⟨old, en⟩, hit, ne⟩ ⟨xs, sq, le⟩
    subst eP ew eK
    obtain ⟨us, rus, pus, _⟩ := inv.tuple sq
    obtain ⟨ot, et, ct, nt, dt⟩ := id pus
    obtain ⟨oi, ei, ci, di⟩ := id hit
    obtain ⟨f0, f1, f2, f3, f4, f5⟩ := hf it (by simp)
    have ln := rus.length
    refine pyNext_enumT_end (inv.ok.hd hc) en hit ⟨ot, et, ct, nt, dt⟩ (by simp; omega) fun h' eb => ⟨rfl, inv.turned (t' := st.toks) (fun b o hb q => eb b o hb q) f0 f1 f3 f4 f5⟩
  self := fun A i s Q E ⟨⟨_, en⟩, _⟩ q => wpAny_pyIter_enum en q
end WU

set_option maxRecDepth 100000
set_option maxHeartbeats 8000000
namespace WU
open PySem PySem.Spec PyProof.Rows L2
def iEnumT (K : PySem.W.Frag) (ta : TA) : TI := fun σ H R => ta σ H fun vs H1 => ∃ a xs, vs = [.ref a] ∧ SqT K H1 a xs ∧ R (Itet K a) H1
theorem pi_enumT {X : Cx} {e : Expr} {ta : TA} {p pos tpos : Pos} {elts : List Expr} {kk : Nat} (hg : Gl X "enumerate") (hm : X.mg "enumerate" = none) (ha : PA X [e] ta) (hs : starEach [e] X.env = [(false, eval e X.env)] := by rfl) :
    PI X (.Tuple elts kk tpos) (.Call (.Name "enumerate" p) [e] [] pos) (iEnumT X.K ta) := by
  constructor
  intro pn st sg G R inv h
  refine Call_ (ld_blt inv hg hm boot_enumerate (PyProof.Rows.callWith_type1 (thn (ha.run pos pn st sg G _ inv h) fun us s1 ⟨vs, G1, J1, r1, a, xs, ex, sq, q⟩ => ?_) hs rfl))
  subst ex
  cases r1 with
  | cons r rr =>
    cases rr
    cases r
    obtain ⟨us, rus, pus, _⟩ := J1.tuple sq
    obtain ⟨ot, et, ct, nt, dt⟩ := id pus
    refine call_enumT ⟨ot, et, ct, nt, dt⟩ fun h' ⟨en, hit, hk⟩ => wpAny_pyIter_enum en ?_
    have J2 : Inv X pn sg G1 { s1 with heap := h' } := J1.kept (t' := s1.toks) hk
    refine ⟨s1.heap.objs.size + 1, [s1.heap.objs.size + 1, s1.heap.objs.size], _, _, G1, rfl, J2, turn_enumT a (s1.heap.objs.size + 1) s1.heap.objs.size, ⟨⟨.none, en⟩, hit, Nat.succ_ne_self _⟩, fun b hb => ?_, q⟩
    have le : s1.heap.objs.size ≤ b := by
      rcases List.mem_cons.mp hb with z | z
      · rw [z]
        exact Nat.le_add_right _ _
      · rw [List.mem_singleton.mp z]
        exact Nat.le_refl _
    exact J1.fpOk le (J1.hok.fresh le)
theorem pi_enumTK {X : Cx} {K : PySem.W.Frag} {e : Expr} {ta : TA} {p pos tpos : Pos} {elts : List Expr} {kk : Nat} (hg : Gl X "enumerate") (hm : X.mg "enumerate" = none) (ha : PA X [e] ta) (hs : starEach [e] X.env = [(false, eval e X.env)] := by rfl) (hK : X.K = K := by rfl) :
    PI X (.Tuple elts kk tpos) (.Call (.Name "enumerate" p) [e] [] pos) (iEnumT K ta) := hK ▸ pi_enumT hg hm ha hs
theorem walk_enumT {K : PySem.W.Frag} {a : Addr} {xs : List V} : Walk (Itet K a) xs.length (fun H => SqT K H a xs) (YPair (fun i => some (.int (i : Nat))) (fun i => xs[i]?)) where
  goes := fun i H hi h => ⟨xs, xs[i], h, List.getElem?_eq_getElem hi⟩
  stops := fun H h => ⟨xs, h, Nat.le_refl _⟩
  yields := fun i H x H' hi h ⟨T, y, e, n, eH, f⟩ => ⟨T, _, y, e, n, eH, rfl, f xs h⟩
section
variable {P : Program} {w : World} {K : PySem.W.Frag} {mg : Str → Option Value} {base : Heap} {L LL : Addr}
/-- plan.answers(wish, draw, library) -/
def spAn (K : PySem.W.Frag) (L LL : Addr) : Sp := fun vs H Q E => ∃ (x : Addr) (u t l : V) (p : Int) (n c : Nat) (qss : List (List (List (List Int)))) (ds : List (Int × List (List Int))), vs = [.ref x, u, t, l] ∧ PlAt L H x p n c qss ds ∧ Pok p n c qss ds ∧ Ty3 K H u ∧ Ty3 K H t ∧
  (isBel (c : Int) u = false → Errs (He.ga K "InvalidNumber") "value" u H E) ∧ (isBel (c : Int) u = true → (isBel (ds.length : Int) t = false → Errs (He.ga K "InvalidNumber") "value" t H E)) ∧
  ∀ (i j : Nat) (d : Int × List (List Int)) (r : List Int), u = .int (i : Int) → t = .int (j : Int) → ds[j]? = some d → d.2[i]? = some r →
  ((∃ ty, TyX K H l ty ∧ PySem.W.kitOne K ty (.ref LL) = some false ∧ Errs (He.ga K "InvalidLibrary") "value" l H E) ∨
   ∃ (a : Addr) (p' : Int) (n' : Nat) (bs : List (List Int)), l = .ref a ∧ LibAt LL H a p' n' bs ∧ (∀ b ∈ bs, b.length = n') ∧ (¬ (p' = p ∧ bs.length = c ∧ n' = n) → Errs (He.ga K "InvalidLibrary") "value" l H E) ∧
     (p' = p ∧ bs.length = c ∧ n' = n → ∃ ms, Asks qss (hsL qss.length) r ms ∧ r.length = ms.length ∧ ∀ y H', Same H H' → T2 H' y (ms.map (ans p (n * c) bs.flatten)) → Q y H'))
theorem scPlan_answers : FnScope ["self", "wish", "draw", "library", "asked", "house", "question"] ["self", "wish", "draw", "library"] (defScope sPlan_answers) := ⟨rfl, rfl, rfl, by decide +kernel, rfl, by decide +kernel, by decide +kernel⟩
theorem ok_An {f f1 f2 f3 : Addr} {fd fd1 fd2 fd3 : FuncData} (F : FunD K "answers" "Plan.answers" (defArgs sPlan_answers) (defBody sPlan_answers) (defScope sPlan_answers) [] [] f fd) (B : Blt4 mg) (be : mg "enumerate" = none) (C : PlC K mg L) (CLb : Cal P w K mg base 3 "check_library" f1 fd1 ["plan", "library"] (spCL K L LL))
    (mA : Meth K L "asked" f2) (gA : FnOk P w K mg base (L2.CX P w) 6 f2 fd2 ["self", "wish", "draw"] (spAd K L)) (bA : L2.Binds K fd2 ["self", "wish", "draw"] [])
    (mW : Meth K L "answer" f3) (gW : FnOk P w K mg base (L2.CX P w) 9 f3 fd3 ["self", "house", "question", "library"] (spAw K L LL)) (bW : L2.Binds K fd3 ["self", "house", "question", "library"] []) : FnOk P w K mg base (L2.CX P w) 10 f fd ["self", "wish", "draw", "library"] (spAn K L LL) := by
  refine F.ok scPlan_answers (fun vs H Q E h => ?_) (fun cdv A outer s H vs Q E hr h => ?_)
  · obtain ⟨x, u, t, l, p, n, c, qss, ds, rfl, _⟩ := h
    rfl
  · obtain ⟨x, u, t, l, p, n, c, qss, ds, rfl, hpl, ok, hu, ht, kU, kT, kk⟩ := h
    have nd := scPlan_answers.nd
    refine ⟨_, (pss_cons (ps_set (i := 4) nd rfl (Or.inl rfl) (pe_meth (E := E) (pv 0) C.cl mA gA (hr.mono (by decide)) bA .nil (passes_call (takes_of rfl rfl rfl rfl) (fun _ _ _ _ h => h)) (pa_cons (pv 1) (pa_cons (pv 2) pa_nil))))
      (pss_cons (ps_expr (pe_cal (E := E) CLb (hr.mono (by decide)) (pa_cons (pv 0) (pa_cons (pv 3) pa_nil)) (passes_call (takes_of rfl rfl rfl rfl) (fun _ _ _ _ h => h))))
      (pss_one (ps_ret (pe_callTy (tup_ofK (K := K)) (by rfl) B.tuple (by decide +kernel) (pa_cons (pe_lc (own := [("house", 5), ("question", 6)]) (g := gTup K 2 (gCons (gName 5) (gCons (gName 6) gNil))) (by rfl) nd (pi_enumTK (K := K) (by rfl) be (pa_cons (pv 4) pa_nil)) (blkOk_by (own := [("house", 5), ("question", 6)]) (N := ["self", "wish", "draw", "library", "asked", "house", "question"]) (sc := defScope sPlan_answers) (by decide +kernel)) (fun _ _ _ _ _ => pg_tupK (K := K) (pg_tup rfl (pgs_cons (pg_name (i := 5) nd rfl (Or.inl rfl)) (pgs_cons (pg_name (i := 6) nd rfl (Or.inl rfl)) pgs_nil)))) (fun _ _ _ _ _ => pts_nil) (fun _ _ _ _ _ => (pe_meth (E := E0) (pv 0) C.cl mW gW (hr.mono (by decide)) bW .nil passU (pa_cons (pv 5) (pa_cons (pv 6) (pa_cons (pv 3) pa_nil)))))) pa_nil)))))), ?_⟩
    obtain ⟨dx, qv, dv, hx, hq, hd⟩ := id hpl
    refine ⟨_, rfl, x, dx, _, rfl, hx, pf_no (by decide +kernel) (by decide +kernel) (by decide +kernel) (by decide +kernel) (by decide +kernel) (by decide +kernel) (by decide +kernel), _, rfl, _, rfl, ?_⟩
    refine ⟨x, u, t, p, n, c, qss, ds, rfl, hpl, ok, hu, ht, kU, kT, fun i j d r e1 e2 e3 e4 y hy => ?_⟩
    refine ⟨_, rfl, _, rfl, x, l, p, n, c, qss, ds, rfl, hpl, ?_⟩
    rcases kk i j d r e1 e2 e3 e4 with ⟨ty, f1, f2, f3⟩ | ⟨a, p', n', bs, rfl, hl, hbn, kN, kY⟩
    · exact .inl ⟨ty, f1, f2, f3⟩
    refine .inr ⟨a, p', n', bs, rfl, hl, fun hsame => ?_, kN⟩
    obtain ⟨ms, ⟨l1, l2, l4, m2, ak⟩, lr, kQ⟩ := kY hsame
    obtain ⟨ya, yxs, rfl, hya, hyp⟩ := hy
    have ey := fi_map hyp
    subst ey
    have lq : qss.length = ms.length := by
      rw [← l1]
      unfold hsL
      rw [List.length_map, List.length_range]
    refine ⟨_, rfl, ya, _, rfl, SqT.of hya, fun D hD => lc_it walk_enumT (fun i H' => Same H H' ∧ Bd T1 D ((ms.take i).map (ans p (n * c) bs.flatten)) H') ⟨same_new hD, Bd.start⟩ (fun i H' _ z => SqT.of (z.1 _ _ hya)) ?_ ?_⟩
    · rintro k y H1 H2 hk ⟨s1, b1⟩ ⟨T, x1, x2, rfl, hT, rfl, g1, g2⟩
      rw [List.length_map] at hk
      have hkm : k < ms.length := by omega
      cases g1
      cases (take_map_at r.length (r := r) (i := k) hk).symm.trans g2
      have em := List.getElem?_eq_getElem hkm
      obtain ⟨a0, b0, qs, f1, f2, f3, f4⟩ := ak k _ em
      have ea : a0 = k := by
        have z : at0 (hsL qss.length) k = (k : Int) := by
          unfold hsL
          rw [at0_lt (by rw [List.length_map, List.length_range]; omega), List.getElem_map, List.getElem_range]
        omega
      subst ea
      rw [f2]
      have s2 : Same H (upd H1 T (.tup [.int (a0 : Int), .int (b0 : Int)])) := s1.trans (same_new hT)
      have b2 : Bd T1 D ((ms.take a0).map (ans p (n * c) bs.flatten)) (upd H1 T (.tup [.int (a0 : Int), .int (b0 : Int)])) := b1.skip stb1 (TK.new hT) fun ys h => same_new hT _ _ h
      have eT : upd H1 T (.tup [.int (a0 : Int), .int (b0 : Int)]) T = some (.tup [.int (a0 : Int), .int (b0 : Int)]) := upd_same
      generalize upd H1 T (.tup [.int (a0 : Int), .int (b0 : Int)]) = H2 at s2 b2 eT ⊢
      have bel : ∀ {i m : Nat}, i < m → isBel (m : Int) (.int (i : Int)) = true := fun {i m} h => by
        show (decide (0 ≤ (i : Int)) && decide ((i : Int) < (m : Int))) = true
        rw [decide_eq_true (by omega), decide_eq_true (by omega)]
        rfl
      have hb0 : b0 < qs.length := (List.getElem?_eq_some_iff.mp f4).1
      refine ⟨T, _, rfl, SqT.of eT, rfl, _, _, rfl, _, _, rfl, rfl, rfl, ?_⟩
      refine ⟨_, rfl, x, dx, _, rfl, s2 _ _ hx, pf_no (by decide +kernel) (by decide +kernel) (by decide +kernel) (by decide +kernel) (by decide +kernel) (by decide +kernel) (by decide +kernel), _, rfl, _, rfl, _, rfl, ?_⟩
      refine ⟨x, _, _, _, p, n, c, qss, ds, rfl, hpl.same s2, ok, ty3_int _, ty3_int _, ⟨fun z => ?_, fun h qs' z1 z2 z3 => ?_⟩, fun m ⟨h, k', qs', z1, z2, z3, z4⟩ => .inr ⟨a, p', n', bs, rfl, hl.same s2, hbn, fun z => absurd hsame z, fun _ y' H3 s3 hy' => ?_⟩⟩
      · rw [bel (by omega)] at z
        cases z
      · have e : a0 = h := Int.natCast_inj.mp (V.int.inj z1)
        subst e
        rw [f3] at z2
        cases z2
        rw [bel hb0] at z3
        cases z3
      · have e : a0 = h := Int.natCast_inj.mp (V.int.inj z1)
        subst e
        have e2' : b0 = k' := Int.natCast_inj.mp (V.int.inj z2)
        subst e2'
        rw [f3] at z3
        cases z3
        have em2 := f4.symm.trans z4
        have b3 := b2.skip stb1 (TK.of s3) fun ys h => s3 _ _ h
        obtain ⟨acc, a1, a2, a3, a4⟩ := b3.put stb1 hy' (by rw [List.length_map, List.length_take]; exact small1000 (by omega))
        refine ⟨acc, a1, a2, fun bq u hbq => ?_, ?_⟩
        · rw [upd_ne (ne_of_none hbq hD)]
          exact s3 _ _ (s2 _ _ hbq)
        · rw [List.take_succ, em, List.map_append]
          rw [← Option.some.inj em2] at a3
          exact a3
    · rintro H1 ⟨s1, b1⟩
      rw [List.length_map, lr, List.take_length] at b1
      obtain ⟨ys, e, ft⟩ := b1.tup stb1
      exact ⟨D, _, rfl, .inl ⟨SqL.of e, fun T hT => kQ _ _ (s1.trans (same_new hT)) (ft T hT)⟩⟩
end
end WU

set_option maxRecDepth 100000
set_option maxHeartbeats 8000000
namespace WU
open PySem PySem.Spec PyProof.Rows L2
section
variable {P : Program} {w : World} {K : PySem.W.Frag} {mg : Str → Option Value} {base : Heap} {S : Addr}
/-- _law_product(first, second, p) -/
def spLP : Sp := fun vs H Q _ => ∃ (p : Int) (n : Nat) (u v : V) (r l : List Int), vs = [u, v, .int p] ∧ FT H u r ∧ FT H v l ∧ p ∈ primes ∧ Ltr p n r ∧ l.length = n ∧ n ≤ 200 ∧ ∀ H', Same H H' → Q (.int ((dotn n r l).fmod p)) H'
theorem scLP : FnScope ["first", "second", "p", "k"] ["first", "second", "p"] (defScope s_law_product) := ⟨rfl, rfl, rfl, by decide +kernel, rfl, by decide +kernel, by decide +kernel⟩
theorem ok_LP {f : Addr} {fd : FuncData} (F : FnS K "_law_product" s_law_product f fd) (B : Blt5 mg) : FnOk P w K mg base (L2.CX P w) 1 f fd ["first", "second", "p"] spLP := by
  refine F.ok scLP (fun vs H Q E h => ?_) (fun cdv A outer s H vs Q E hr h => ?_)
  · obtain ⟨p, n, u, v, r, l, rfl, _⟩ := h
    rfl
  · obtain ⟨p, n, u, v, r, l, rfl, ⟨c, rfl, hc⟩, ⟨d, rfl, hd⟩, hp, hr1, hl, hn, k⟩ := h
    have nd := scLP.nd
    have hb := fld_le hp
    refine ⟨_, (pss_one (ps_ret (pe_op op_modN (pe_callTy call_int1 (by rfl) B.int (by decide +kernel) (pa_cons (pe_callB (cr_sumK (K := K) rfl) (by rfl) B.sum (by decide +kernel) (pa_cons (pe_lc (own := [("k", 3)]) (g := gName 3) (by rfl) nd (pi_range1 rfl B.range (pa_cons (pe_callB (len_seqK (K := K)) (by rfl) B.len (by decide +kernel) (pa_cons (pv 0) pa_nil)) pa_nil)) (blkOk_by (own := [("k", 3)]) (N := ["first", "second", "p", "k"]) (sc := defScope s_law_product) (by decide +kernel)) (fun _ _ _ _ _ => (pg_name (i := 3) nd rfl (Or.inl rfl))) (fun _ _ _ _ _ => pts_nil) (fun _ _ _ _ _ => (pe_callTy call_int1 (by rfl) B.int (by decide +kernel) (pa_cons (pe_op op_mul (pe_ix (ix_tupK (K := K)) (pv 0) (pv 3) (fun _ _ => rfl)) (pe_ix (ix_tupK (K := K)) (pv 1) (pv 3) (fun _ _ => rfl))) pa_nil)))) pa_nil)) pa_nil)) (pv 2)))), ?_⟩
    refine ⟨_, rfl, c, _, rfl, .inr (sqT hc), ?_⟩
    rw [List.length_map, hr1.1]
    refine ⟨(n : Int), rfl, by omega, by omega, fun D hD => lc_range (lo := 0) (n := n) (fun i H' => Bld FI H D ((List.range i).map fun k => at0 r k * at0 l k) H') (Bld.start hD) ?_ ?_⟩
    · intro i H1 hi b
      rw [Int.zero_add]
      have bi := hr1.bd hi
      refine ⟨rfl, _, rfl, _, rfl, c, _, _, _, rfl, rfl, sqT (rd_same b.same hc), atI_nat (take_map_at n (r := r) (i := i) (by rw [hr1.1]; exact hi)), ?_⟩
      refine ⟨_, rfl, _, rfl, d, _, _, _, rfl, rfl, sqT (rd_same b.same hd), atI_nat (take_map_at n (r := l) (i := i) (by rw [hl]; exact hi)), _, _, rfl, rfl, .inl ⟨by omega, by omega⟩, .inl ⟨_, rfl, ?_⟩⟩
      rw [map_range_succ]
      exact b.put (y := .int (at0 r i * at0 l i)) (z := at0 r i * at0 l i) stab_FI hD (Same.refl _) rfl (by intro z; cases z) (by rw [List.length_map, List.length_range]; exact small1000 (by omega))
    · intro H1 b
      obtain ⟨s1, ys, eD, py⟩ := b.fin
      rw [fi_map py] at eD
      refine ⟨D, _, rfl, SqL.of eD, .inl ⟨_, rfl, _, rfl, _, p, rfl, rfl, by omega, ?_⟩⟩
      rw [sum_dotn]
      exact k H1 s1
/-- _law_answer(p, question, letters) -/
def spLA : Sp := fun vs H Q _ => ∃ (p : Int) (n : Nat) (u v : V) (m : List (List Int)) (l : List Int), vs = [.int p, u, v] ∧ T2 H u m ∧ T1 H v l ∧ p ∈ primes ∧ (∀ r ∈ m, Ltr p n r) ∧ l.length = n ∧ n ≤ 200 ∧ m.length ≤ 200 ∧ ∀ y H', Same H H' → T1 H' y (ans p n l m) → Q y H'
theorem sclaw_answer : FnScope ["p", "question", "letters", "row"] ["p", "question", "letters"] (defScope s_law_answer) := ⟨rfl, rfl, rfl, by decide +kernel, rfl, by decide +kernel, by decide +kernel⟩
theorem ok_LA {f f1 : Addr} {fd fd1 : FuncData} (F : FnS K "_law_answer" s_law_answer f fd) (B : Blt5 mg) (CLP : Cal P w K mg base 1 "_law_product" f1 fd1 ["first", "second", "p"] spLP) : FnOk P w K mg base (L2.CX P w) 2 f fd ["p", "question", "letters"] spLA := by
  refine F.ok sclaw_answer (fun vs H Q E h => ?_) (fun cdv A outer s H vs Q E hr h => ?_)
  · obtain ⟨p, n, u, v, m, l, rfl, _⟩ := h
    rfl
  · obtain ⟨p, n, u, v, m, l, rfl, ⟨c, xs, rfl, hc, hP⟩, hv, hp, hm, hl, hn, h2, kk⟩ := h
    have nd := sclaw_answer.nd
    have el := paired_len hP
    refine ⟨_, (pss_one (ps_ret (pe_callTy (tup_ofK (K := K)) (by rfl) B.tuple (by decide +kernel) (pa_cons (pe_lc (own := [("row", 3)]) (g := gName 3) (by rfl) nd (pi_tupK (K := K) (pv 1)) (blkOk_by (own := [("row", 3)]) (N := ["p", "question", "letters", "row"]) (sc := defScope s_law_answer) (by decide +kernel)) (fun _ _ _ _ _ => (pg_name (i := 3) nd rfl (Or.inl rfl))) (fun _ _ _ _ _ => pts_nil) (fun _ _ _ _ _ => (pe_cal CLP (hr.mono (by decide)) (pa_cons (pv 3) (pa_cons (pv 2) (pa_cons (pv 0) pa_nil))) passU))) pa_nil)))), ?_⟩
    refine ⟨_, rfl, c, rfl, ⟨_, SqT.of hc⟩, fun D hD => lc_tup (K := K) (a := c) (xs := xs) (fun i H' => Same H H' ∧ H' D = some (.lst ((ans p n l (m.take i)).map V.int))) ⟨same_new hD, upd_same⟩ (fun i H' _ z => SqT.of (z.1 _ _ hc)) ?_ ?_⟩
    · rintro i x H1 hx ⟨s1, e1⟩
      obtain ⟨r, hr1, fr⟩ := paired_at hP hx
      refine ⟨rfl, _, rfl, _, rfl, _, rfl, p, n, x, v, r, l, rfl, (stb1 _ _ _ _ (TK.of s1) fr).ft, (stb1 _ _ _ _ (TK.of s1) hv).ft, hp, hm r (List.mem_of_getElem? hr1), hl, hn, fun H2 s2 => ⟨_, s2 _ _ e1, ?_, fun b o hb => ?_, ?_⟩⟩
      · unfold ans
        rw [List.length_map, List.length_map, List.length_take]
        exact small1000 (by omega)
      · rw [upd_ne (ne_of_none hb hD)]
        exact s2 _ _ (s1 _ _ hb)
      · unfold ans
        rw [upd_same, List.take_succ, hr1, List.map_append, List.map_append]
        rfl
    · rintro H1 ⟨s1, e1⟩
      rw [el, List.take_length] at e1
      exact ⟨D, _, rfl, .inl ⟨SqL.of e1, fun T hT => kk _ _ (s1.trans (same_new hT)) (T1.mk upd_same)⟩⟩
end
end WU

set_option maxRecDepth 100000
set_option maxHeartbeats 8000000
namespace WU
open PySem PySem.Spec PyProof.Rows L2
theorem erP {α : Type} : ∀ (l : List α) (j : Nat) (h : j < l.length), (l[j] :: l.eraseIdx j).Perm l
  | [], j, h => absurd h (Nat.not_lt_zero j)
  | x :: l, 0, h => .refl _
  | x :: l, j + 1, h => (List.Perm.swap x (l[j]'(Nat.lt_of_succ_lt_succ h)) (l.eraseIdx j)).trans ((erP l j (Nat.lt_of_succ_lt_succ h)).cons x)
theorem paired_er {α β : Type} {F : α → β → Prop} : ∀ {l : List α} {m : List β} (j : Nat), Paired F l m → Paired F (l.eraseIdx j) (m.eraseIdx j)
  | _, _, _, .nil => .nil
  | _, _, 0, .cons _ t => t
  | _, _, j + 1, .cons h t => .cons h (paired_er j t)
theorem ris_app : ∀ {l : List (List (List Int))} {m : List (List Int)}, Ris l → (∀ x ∈ l, ltM x m = true) → Ris (l ++ [m])
  | [], _, _, _ => trivial
  | [x], m, _, h => ⟨h x (by simp), trivial⟩
  | x :: y :: r, m, hr, h => ⟨hr.1, ris_app (l := y :: r) hr.2 fun z hz => h z (List.mem_cons_of_mem _ hz)⟩
section
variable {P : Program} {w : World} {K : PySem.W.Frag} {mg : Str → Option Value} {base : Heap} {S : Addr}
/-- _law_rising(rows): unlike matrices in a list -/
def spRs : Sp := fun vs H Q _ => ∃ (a : Addr) (xs : List V) (ms : List (List (List Int))), vs = [.ref a] ∧ H a = some (.lst xs) ∧ Paired (T2 H) xs ms ∧ ms.Nodup ∧ ms.length ≤ 100 ∧ ∀ y qs H', Same H H' → T3 H' y qs → Ris qs → qs.Perm ms → Q y H'
theorem sclaw_rising : FnScope ["rows", "left", "found", "step", "least", "k"] ["rows"] (defScope s_law_rising) := ⟨rfl, rfl, rfl, by decide +kernel, rfl, by decide +kernel, by decide +kernel⟩
theorem ok_Rs {f : Addr} {fd : FuncData} (F : FnS K "_law_rising" s_law_rising f fd) (B : Blt4 mg) : FnOk P w K mg base (L2.CX P w) 1 f fd ["rows"] spRs := by
  refine F.ok sclaw_rising (fun vs H Q E h => ?_) (fun cdv A outer s H vs Q E hr h => ?_)
  · obtain ⟨a, xs, ms, rfl, _⟩ := h
    rfl
  · obtain ⟨a, xs, ms, rfl, ha, hP, hnd, hl, kk⟩ := h
    have nd := sclaw_rising.nd
    have hu := hr.units
    have el := paired_len hP
    refine ⟨_, (pss_cons (ps_set (i := 1) nd rfl (Or.inl rfl) (pe_callTy (list_ofK (K := K)) (by rfl) B.lst (by decide +kernel) (pa_cons (pv 0) pa_nil)))
      (pss_cons (ps_set (i := 2) nd rfl (Or.inl rfl) (pe_lst pa_nil))
      (pss_cons (ps_for (passes_of rfl) rfl (pi_range1 rfl B.range (pa_cons (pe_callB (len_seqK (K := K)) (by rfl) B.len (by decide +kernel) (pa_cons (pv 0) pa_nil)) pa_nil)) (pg_name (i := 3) nd rfl (Or.inl rfl)) (pss_cons (ps_set (i := 4) nd rfl (Or.inl rfl) pe_int)
      (pss_cons (ps_for (passes_of rfl) rfl (pi_range2 rfl B.range (pa_cons pe_int (pa_cons (pe_callB (len_seqK (K := K)) (by rfl) B.len (by decide +kernel) (pa_cons (pv 1) pa_nil)) pa_nil))) (pg_name (i := 5) nd rfl (Or.inl rfl)) (pss_one (ps_if (pt_cmpR (op_ltD (K := K) hu) (pe_ix (ix_listK (K := K)) (pv 1) (pv 5) (fun _ _ => rfl)) (pe_ix (ix_listK (K := K)) (pv 1) (pv 4) (fun _ _ => rfl)) (nomark _)) (pss_one (ps_set (i := 4) nd rfl (Or.inl rfl) (pv 5))) pss_nil)))
      (pss_one (ps_expr (pe_bm PySem.F.plainAttrs_list PySem.F.slot_list_append PySem.F.type_list_append mt_append (pv 2) (pa_cons (pe_bm PySem.F.plainAttrs_list PySem.F.slot_list_pop PySem.F.type_list_pop mt_popAt (pv 1) (pa_cons (pv 4) pa_nil)) pa_nil)))))))
      (pss_one (ps_ret (pe_callTy (tup_ofK (K := K)) (by rfl) B.tuple (by decide +kernel) (pa_cons (pv 2) pa_nil))))))), ?_⟩
    refine ⟨_, rfl, a, xs, rfl, .inl (SqL.of ha), fun L hL => ?_⟩
    have s1 := same_new (o := .lst xs) hL
    have eL : upd H L (.lst xs) L = some (.lst xs) := upd_same
    generalize upd H L (.lst xs) = H1 at s1 eL ⊢
    refine ⟨(by show 0 ≤ sizeLine; decide), fun R hR => ?_⟩
    have s2 := s1.trans (same_new (o := .lst []) hR)
    have LR : L ≠ R := ne_of_none eL hR
    have nR : H R = none := by
      cases e : H R with
      | none => rfl
      | some o => rw [s1 _ _ e] at hR; cases hR
    have eL := same_new (o := .lst []) hR _ _ eL
    have eR : upd H1 R (.lst []) R = some (.lst []) := upd_same
    generalize upd H1 R (.lst []) = H2 at s2 eL eR ⊢
    refine ⟨_, rfl, a, xs, rfl, .inl (SqL.of (s2 _ _ ha)), (xs.length : Int), rfl, by omega, by omega, for_range (lo := 0) (n := xs.length) (fun i σ H' => ∃ (ls fs : List V) (ml mf : List (List (List Int))) (v3 v4 v5 : Option V), σ = [some (.ref a), some (.ref L), some (.ref R), v3, v4, v5] ∧ Same H H' ∧
      H' L = some (.lst ls) ∧ Paired (T2 H) ls ml ∧ H' R = some (.lst fs) ∧ Paired (T2 H) fs mf ∧ (mf ++ ml).Perm ms ∧ mf.length = i ∧ Ris mf ∧ ∀ x ∈ mf, ∀ y ∈ ml, ltM x y = true) ⟨xs, [], ms, [], none, none, none, rfl, s2, eL, hP, eR, .nil, .refl _, rfl, trivial, fun x hx => nomatch hx⟩ ?_ ?_⟩
    · rintro i σ H3 hi ⟨ls, fs, ml, mf, v3, v4, v5, rfl, s3, gL, pL, gR, pR, pm, lf, ri, lt⟩
      have ll := paired_len pL
      have lfs := paired_len pR
      have tot : mf.length + ml.length = ms.length := by rw [← List.length_append, pm.length_eq]
      have hml : 0 < ml.length := by omega
      refine ⟨_, rfl, L, ls, rfl, .inl (SqL.of gL), 1, (ls.length : Int), rfl, ⟨by decide, by decide, by omega, by omega⟩, for_range (lo := 1) (n := ((ls.length : Int) - 1).toNat) (fun k σ H' => ∃ (b : Nat) (v5 : Option V), σ = [some (.ref a), some (.ref L), some (.ref R), some (.int (0 + (i : Int))), some (.int (b : Int)), v5] ∧ H3 = H' ∧ b < ml.length ∧
        ∀ j mj mb, j ≤ k → ml[j]? = some mj → ml[b]? = some mb → ltM mj mb = false) ⟨0, v5, rfl, rfl, hml, fun j mj mb hj e1 e2 => by
          have : j = 0 := by omega
          subst this
          rw [e1] at e2
          cases e2
          exact ltM_irr _⟩ ?_ ?_⟩
      · rintro k σ H4 hk ⟨b, v5, rfl, rfl, hb, hmin⟩
        have hk2 : k + 1 < ml.length := by omega
        have e1 := List.getElem?_eq_getElem hk2
        have e2 := List.getElem?_eq_getElem hb
        obtain ⟨y1, hy1, f1⟩ := paired_of pL e1
        obtain ⟨y2, hy2, f2⟩ := paired_of pL e2
        rw [show (1 : Int) + (k : Int) = ((k + 1 : Nat) : Int) by omega]
        refine ⟨_, rfl, _, rfl, L, _, _, _, rfl, rfl, SqL.of gL, atI_nat hy1, _, rfl, _, rfl, L, _, _, _, rfl, rfl, SqL.of gL, atI_nat hy2, d2 _, d2 _, dt2 _ _ _ (stb2 _ _ _ _ (TK.of s3) f1), dt2 _ _ _ (stb2 _ _ _ _ (TK.of s3) f2), alike2 _ _, (by intro z; cases z), depth2 _, _, rfl, ?_⟩
        cases e : PySem.W.dataLt (d2 ml[k + 1]) (d2 ml[b]) with
        | true =>
          refine iteT ⟨_, rfl, k + 1, _, rfl, rfl, hk2, fun j mj mb hj g1 g2 => ?_⟩
          rw [e1] at g2
          cases g2
          by_cases hjk : j = k + 1
          · subst hjk
            rw [e1] at g1
            cases g1
            exact ltM_irr _
          · have q := hmin j mj _ (by omega) g1 e2
            cases z : ltM mj ml[k + 1] with
            | false => rfl
            | true => rw [ltM_tr z e] at q; cases q
        | false =>
          refine iteF ⟨b, _, rfl, rfl, hb, fun j mj mb hj g1 g2 => ?_⟩
          by_cases hjk : j = k + 1
          · subst hjk
            rw [e1] at g1
            cases g1
            rw [e2] at g2
            cases g2
            exact e
          · exact hmin j mj mb (by omega) g1 g2
      · rintro σ H4 ⟨b, v5, rfl, rfl, hb, hmin⟩
        have e2 := List.getElem?_eq_getElem hb
        obtain ⟨y2, hy2, f2⟩ := paired_of pL e2
        have hbl : b < ls.length := by omega
        refine ⟨_, rfl, .inl ⟨rfl, _, SqL.of gR⟩, _, rfl, .inl ⟨rfl, _, SqL.of gL⟩, _, rfl, L, ls, _, b, y2, rfl, rfl, gL, by omega, by omega, ?_, hy2, ?_⟩
        · have z := PySem.StrLaws.seqIndex_nonneg (i := (b : Int)) (n := ls.length) (by omega) (by omega)
          rw [z]
          rfl
        have gR2 : upd H3 L (.lst (ls.eraseIdx b)) R = some (.lst fs) := by rw [upd_ne LR.symm]; exact gR
        have pm1 := erP ml b hb
        have ndl : ml.Nodup := (List.nodup_append.mp (pm.nodup_iff.mpr hnd)).2.1
        have nd1 := pm1.nodup_iff.mpr ndl
        have sub : ∀ y ∈ ml.eraseIdx b, y ∈ ml := fun y hy => pm1.mem_iff.mp (List.mem_cons_of_mem _ hy)
        have mbm : ml[b] ∈ ml := List.getElem_mem hb
        refine ⟨R, fs, _, rfl, rfl, gR2, small1000 (by omega), ls.eraseIdx b, fs ++ [y2], ml.eraseIdx b, mf ++ [ml[b]], _, _, _, rfl, ?_, by rw [upd_ne LR]; exact upd_same, paired_er b pL, upd_same, paired_app pR (.cons f2 .nil), ?_, by rw [List.length_append, lf]; rfl, ris_app ri fun x hx => lt x hx _ mbm, ?_⟩
        · intro c o hc
          rw [upd_ne (ne_of_none hc nR), upd_ne (ne_of_none hc hL)]
          exact s3 _ _ hc
        · rw [List.append_assoc]
          exact ((pm1.append_left mf)).trans pm
        · intro x hx y hy
          rcases List.mem_append.mp hx with h | h
          · exact lt x h y (sub y hy)
          · rw [List.mem_singleton.mp h]
            obtain ⟨j, hj, ej⟩ := List.mem_iff_getElem.mp (sub y hy)
            have q := hmin j _ _ (by omega) (List.getElem?_eq_getElem hj) e2
            rw [ej] at q
            cases z : ltM ml[b] y with
            | true => rfl
            | false =>
              have := ltM_tot q z
              subst this
              exact absurd hy (List.nodup_cons.mp nd1).1
    · rintro σ H3 ⟨ls, fs, ml, mf, v3, v4, v5, rfl, s3, gL, pL, gR, pR, pm, lf, ri, lt⟩
      have tot : mf.length + ml.length = ms.length := by rw [← List.length_append, pm.length_eq]
      have e0 : ml = [] := List.length_eq_zero_iff.mp (by omega)
      subst e0
      rw [List.append_nil] at pm
      exact ⟨_, rfl, R, fs, rfl, .inl ⟨SqL.of gR, fun T hT => kk _ mf _ (s3.trans (same_new hT)) ⟨T, fs, rfl, upd_same, paired_mono (fun _ _ q => stb2 _ _ _ _ (TK.of (s3.trans (same_new hT))) q) pR⟩ ri pm⟩⟩
end
end WU

set_option maxRecDepth 100000
set_option maxHeartbeats 8000000
namespace WU
open PySem PySem.Spec PyProof.Rows L2
section
variable {P : Program} {w : World} {K : PySem.W.Frag} {mg : Str → Option Value} {base : Heap}
/-- the scope of the comprehension that is returned as a tuple -/
def lcScopeOf : Stmt → Scope
  | .FunctionDef _ _ [.Return (some (.Call _ [.ListComp _ _ sc _] _ _)) _] _ _ _ _ _ _ _ => sc
  | st => defScope st
theorem scBk : FnScope ["hand", "p", "count", "size", "k", "j"] ["hand", "p", "count", "size"] (defScope s_law_books) := ⟨rfl, rfl, rfl, by decide +kernel, rfl, by decide +kernel, by decide +kernel⟩
/-- r is a tuple of the books bs, each a tuple -/
def BkAt (H : Hp) (r : Addr) (bs : List (List Int)) : Prop := ∃ rs, H r = some (.tup rs) ∧ Paired (TB H) rs bs
def spBk : Sp := fun vs H Q _ => ∃ (a d : Addr) (p : Int) (c n : Nat), vs = [.ref a, .int p, .int c, .int n] ∧ HandAt H a d ∧ 0 < p ∧ c ≤ 100 ∧ n ≤ 100 ∧
  ∀ r bs H', BkAt H' r bs → bs.length = c → (∀ b ∈ bs, Ltr p n b) → HandAt H' a d → Keep a H H' → Q (.ref r) H'
theorem ok_Bk {f fT : Addr} {fd fdT : FuncData} (F : FnS K "_law_books" s_law_books f fd) (B : Blt3 mg) (CT : Cal P w K mg base 1 "_law_take" fT fdT ["hand", "many"] spTake) :
    FnOk P w K mg base (L2.CX P w) 2 f fd ["hand", "p", "count", "size"] spBk := by
  refine F.ok scBk (fun vs H Q E h => ?_) (fun cdv A outer s H vs Q E hr h => ?_)
  · obtain ⟨a, d, p, c, n, rfl, _⟩ := h
    rfl
  · obtain ⟨a, d, p, c, n, rfl, hH, hp, hc, hn, kk⟩ := h
    have nd := scBk.nd
    refine ⟨_, (pss_one (ps_ret (pe_callTy call_tuple_of (by rfl) B.tuple (by decide +kernel) (pa_cons
      (pe_lc (te := tCB (rTupOf K) (tCons (tLc (iRng1 (tCons (tVar 3) tNil)) (gName 5) tYes (tCall spTake [] E0 (tCons (tVar 0) (tCons (tVar 1) tNil))) [5]) tNil)) (own := [("k", 4)]) (g := gName 4) (by rfl) nd (pi_range1 rfl B.range (pa_cons (pv 2) pa_nil)) (blkOk_by (own := [("k", 4)]) (N := ["hand", "p", "count", "size", "k", "j"]) (sc := defScope s_law_books) (by decide +kernel)) (fun _ _ _ _ _ => pg_name (i := 4) nd rfl (Or.inl rfl)) (fun _ _ _ _ _ => pts_nil)
        (fun _ _ _ _ _ => (pe_callTy call_tuple_of (by rfl) B.tuple (by decide +kernel) (pa_cons
          (pe_lc (te := tCall spTake [] E0 (tCons (tVar 0) (tCons (tVar 1) tNil))) (own := [("j", 5)]) (g := gName 5) (by rfl) nd (pi_range1 rfl B.range (pa_cons (pv 3) pa_nil)) (blkOk_by (own := [("j", 5)]) (N := ["hand", "p", "count", "size", "k", "j"]) (sc := relS (lcScopeOf s_law_books) (defScope s_law_books)) (by decide +kernel)) (fun _ _ _ _ _ => pg_name (i := 5) nd rfl (Or.inl rfl)) (fun _ _ _ _ _ => pts_nil)
            (fun _ _ _ _ _ => (pe_cal CT hr (pa_cons (pv 0) (pa_cons (pv 1) pa_nil)) passU))) pa_nil)))) pa_nil)))), ?_⟩
    refine ⟨_, rfl, (c : Int), rfl, by omega, by omega, fun D hD => lc_range (lo := 0) (n := c)
      (fun i H' => HandAt H' a d ∧ Keep a H H' ∧ ∃ ts bs, H' D = some (.lst ts) ∧ Paired (TB H') ts bs ∧ bs.length = i ∧ ∀ b ∈ bs, Ltr p n b)
      ⟨hH.new hD, Keep.new hD, [], [], upd_same, .nil, rfl, fun b hb => by cases hb⟩ ?_ ?_⟩
    · rintro i H1 hi ⟨hH1, k1, ts, bs, eD, hts, el, all⟩
      refine ⟨rfl, _, rfl, (n : Int), rfl, by omega, by omega, fun D2 hD2 => lc_range (lo := 0) (n := n)
        (fun j H' => HandAt H' a d ∧ Keep a H1 H' ∧ ∃ ls : List Int, H' D2 = some (.lst (ls.map V.int)) ∧ ls.length = j ∧ ∀ l ∈ ls, 0 ≤ l ∧ l < p)
        ⟨hH1.new hD2, Keep.new hD2, [], upd_same, rfl, fun l hl => by cases hl⟩ ?_ ?_⟩
      · rintro j H2 hj ⟨hH2, k2, ls, e2, l2, a2⟩
        refine ⟨rfl, _, rfl, _, rfl, a, d, p, rfl, hp, hH2, fun r H3 r0 r1 hH3 k3 => ?_⟩
        have na2 : a ≠ D2 := (hH1.ne hD2).1
        have nd2 : d ≠ D2 := (hH1.ne hD2).2
        refine ⟨_, k3 _ _ na2.symm e2, by rw [List.length_map]; exact small1000 (by omega), hH3.put na2 nd2, fun b o hb e => ?_, ls ++ [r], by rw [upd_same, List.map_append]; rfl, by rw [List.length_append, l2]; rfl, fun l hl => ?_⟩
        · rw [upd_ne (ne_of_none e hD2)]
          exact k3 _ _ hb (k2 _ _ hb e)
        · rcases List.mem_append.mp hl with h | h
          · exact a2 l h
          · rw [List.mem_singleton.mp h]
            exact ⟨r0, r1⟩
      · rintro H2 ⟨hH2, k2, ls, e2, l2, a2⟩
        refine ⟨D2, _, rfl, .inl ⟨SqL.of e2, fun l hl => ?_⟩⟩
        have naD : a ≠ D := (hH.ne hD).1
        have ndD : d ≠ D := (hH.ne hD).2
        have e3 : H2 D = some (.lst ts) := k2 _ _ naD.symm eD
        have e4 := same_new (o := .tup (ls.map V.int)) hl _ _ e3
        have h4 := hH2.new (o := .tup (ls.map V.int)) hl
        have k4 : Keep a H1 (upd H2 l (.tup (ls.map V.int))) := k2.trans (Keep.new hl)
        have el4 : upd H2 l (.tup (ls.map V.int)) l = some (.tup (ls.map V.int)) := upd_same
        generalize upd H2 l (.tup (ls.map V.int)) = H4 at e4 h4 k4 el4 ⊢
        have tbs : ∀ {b ts0}, TB H4 b ts0 → TB (upd H4 D (.lst (ts ++ [.ref l]))) b ts0 := fun {b ts0} h => by
          obtain ⟨c, e, h⟩ := h
          exact ⟨c, e, by rw [upd_ne (ne_of h e4 (by intro z; cases z))]; exact h⟩
        have tb1 : ∀ {b ts0}, TB H1 b ts0 → TB H4 b ts0 := fun {b ts0} h => by
          obtain ⟨c, e, h⟩ := h
          obtain ⟨ds, i0, z1, _⟩ := hH1
          exact ⟨c, e, k4 _ _ (ne_of h z1 (by intro z; cases z)) h⟩
        have lt : ts.length < sizeLine := by
          rw [paired_len hts]
          exact small1000 (by omega)
        refine ⟨ts, e4, lt, h4.put naD ndD, fun b o hb e => ?_, ts ++ [.ref l], bs ++ [ls], upd_same, paired_app (paired_mono (fun _ _ q => tbs (tb1 q)) hts) (.cons (tbs ⟨l, rfl, el4⟩) .nil), by rw [List.length_append, el]; rfl, fun b hb => ?_⟩
        · rw [upd_ne (ne_of_none e hD)]
          exact k4 _ _ hb (k1 _ _ hb e)
        · rcases List.mem_append.mp hb with h | h
          · exact all b h
          · rw [List.mem_singleton.mp h]
            exact ⟨l2, a2⟩
    · rintro H1 ⟨hH1, k1, ts, bs, eD, hts, el, all⟩
      refine ⟨D, _, rfl, .inl ⟨SqL.of eD, fun r hr => ?_⟩⟩
      exact kk r bs _ ⟨ts, upd_same, paired_mono (fun _ _ q => q.same (same_new hr)) hts⟩ el all (hH1.new hr) (k1.trans (Keep.new hr))
end
end WU

set_option maxRecDepth 100000
set_option maxHeartbeats 8000000
namespace WU
open PySem PySem.Spec PyProof.Rows L2
/-- the sizes that are drawn: p, the length, the count -/
def szs : List (Int × Nat × Nat) := [(2, 1, 2), (2, 2, 2), (3, 1, 2), (2, 1, 3), (2, 3, 1), (5, 1, 1), (7, 2, 1), (3, 2, 2), (2, 1, 4), (31, 1, 2)]
section
variable {P : Program} {w : World} {K : PySem.W.Frag} {mg : Str → Option Value} {base : Heap} {S : Addr}
def spLz : Sp := fun vs H Q _ => ∃ a d, vs = [.ref a] ∧ HandAt H a d ∧ ∀ y H' (p : Int) (n c : Nat), (p, n, c) ∈ szs → T1 H' y [p, (n : Int), (c : Int)] → HandAt H' a d → Keep a H H' → Q y H'
theorem sclaw_library_size : FnScope ["hand", "sizes"] ["hand"] (defScope s_law_library_size) := ⟨rfl, rfl, rfl, by decide +kernel, rfl, by decide +kernel, by decide +kernel⟩
theorem ok_Lz {f f1 : Addr} {fd fd1 : FuncData} (F : FnS K "_law_library_size" s_law_library_size f fd) (B : Blt4 mg) (CT : Cal P w K mg base 1 "_law_take" f1 fd1 ["hand", "many"] spTake) : FnOk P w K mg base (L2.CX P w) 2 f fd ["hand"] spLz := by
  refine F.ok sclaw_library_size (fun vs H Q E h => ?_) (fun cdv A outer s H vs Q E hr h => ?_)
  · obtain ⟨a, d, rfl, _⟩ := h
    rfl
  · obtain ⟨a, d, rfl, hh, kk⟩ := h
    have nd := sclaw_library_size.nd
    refine ⟨_, (pss_cons (ps_set (i := 1) nd rfl (Or.inl rfl) (pe_lst (pa_cons (pe_tup (pa_cons pe_int (pa_cons pe_int (pa_cons pe_int pa_nil)))) (pa_cons (pe_tup (pa_cons pe_int (pa_cons pe_int (pa_cons pe_int pa_nil)))) (pa_cons (pe_tup (pa_cons pe_int (pa_cons pe_int (pa_cons pe_int pa_nil)))) (pa_cons (pe_tup (pa_cons pe_int (pa_cons pe_int (pa_cons pe_int pa_nil)))) (pa_cons (pe_tup (pa_cons pe_int (pa_cons pe_int (pa_cons pe_int pa_nil)))) (pa_cons (pe_tup (pa_cons pe_int (pa_cons pe_int (pa_cons pe_int pa_nil)))) (pa_cons (pe_tup (pa_cons pe_int (pa_cons pe_int (pa_cons pe_int pa_nil)))) (pa_cons (pe_tup (pa_cons pe_int (pa_cons pe_int (pa_cons pe_int pa_nil)))) (pa_cons (pe_tup (pa_cons pe_int (pa_cons pe_int (pa_cons pe_int pa_nil)))) (pa_cons (pe_tup (pa_cons pe_int (pa_cons pe_int (pa_cons pe_int pa_nil)))) pa_nil))))))))))))
      (pss_one (ps_ret (pe_ix (ix_listK (K := K)) (pv 1) (pe_cal CT (hr.mono (by decide)) (pa_cons (pv 0) (pa_cons pe_int pa_nil)) passU) (fun _ _ => rfl))))), ?_⟩
    refine ⟨(by show 3 ≤ sizeLine; decide), fun t0 n0 => ?_⟩
    have z0 : Same H (upd H t0 (.tup [.int 2, .int 1, .int 2])) := (Same.refl H).trans (same_new n0)
    have e0 : upd H t0 (.tup [.int 2, .int 1, .int 2]) t0 = some (.tup [.int 2, .int 1, .int 2]) := upd_same
    generalize upd H t0 (.tup [.int 2, .int 1, .int 2]) = G0 at z0 e0 ⊢
    refine ⟨(by show 3 ≤ sizeLine; decide), fun t1 n1 => ?_⟩
    have z1 : Same H (upd G0 t1 (.tup [.int 2, .int 2, .int 2])) := (z0).trans (same_new n1)
    have e0 := same_new (o := .tup [.int 2, .int 2, .int 2]) n1 _ _ e0
    have e1 : upd G0 t1 (.tup [.int 2, .int 2, .int 2]) t1 = some (.tup [.int 2, .int 2, .int 2]) := upd_same
    generalize upd G0 t1 (.tup [.int 2, .int 2, .int 2]) = G1 at z1 e0 e1 ⊢
    refine ⟨(by show 3 ≤ sizeLine; decide), fun t2 n2 => ?_⟩
    have z2 : Same H (upd G1 t2 (.tup [.int 3, .int 1, .int 2])) := (z1).trans (same_new n2)
    have e0 := same_new (o := .tup [.int 3, .int 1, .int 2]) n2 _ _ e0
    have e1 := same_new (o := .tup [.int 3, .int 1, .int 2]) n2 _ _ e1
    have e2 : upd G1 t2 (.tup [.int 3, .int 1, .int 2]) t2 = some (.tup [.int 3, .int 1, .int 2]) := upd_same
    generalize upd G1 t2 (.tup [.int 3, .int 1, .int 2]) = G2 at z2 e0 e1 e2 ⊢
    refine ⟨(by show 3 ≤ sizeLine; decide), fun t3 n3 => ?_⟩
    have z3 : Same H (upd G2 t3 (.tup [.int 2, .int 1, .int 3])) := (z2).trans (same_new n3)
    have e0 := same_new (o := .tup [.int 2, .int 1, .int 3]) n3 _ _ e0
    have e1 := same_new (o := .tup [.int 2, .int 1, .int 3]) n3 _ _ e1
    have e2 := same_new (o := .tup [.int 2, .int 1, .int 3]) n3 _ _ e2
    have e3 : upd G2 t3 (.tup [.int 2, .int 1, .int 3]) t3 = some (.tup [.int 2, .int 1, .int 3]) := upd_same
    generalize upd G2 t3 (.tup [.int 2, .int 1, .int 3]) = G3 at z3 e0 e1 e2 e3 ⊢
    refine ⟨(by show 3 ≤ sizeLine; decide), fun t4 n4 => ?_⟩
    have z4 : Same H (upd G3 t4 (.tup [.int 2, .int 3, .int 1])) := (z3).trans (same_new n4)
    have e0 := same_new (o := .tup [.int 2, .int 3, .int 1]) n4 _ _ e0
    have e1 := same_new (o := .tup [.int 2, .int 3, .int 1]) n4 _ _ e1
    have e2 := same_new (o := .tup [.int 2, .int 3, .int 1]) n4 _ _ e2
    have e3 := same_new (o := .tup [.int 2, .int 3, .int 1]) n4 _ _ e3
    have e4 : upd G3 t4 (.tup [.int 2, .int 3, .int 1]) t4 = some (.tup [.int 2, .int 3, .int 1]) := upd_same
    generalize upd G3 t4 (.tup [.int 2, .int 3, .int 1]) = G4 at z4 e0 e1 e2 e3 e4 ⊢
    refine ⟨(by show 3 ≤ sizeLine; decide), fun t5 n5 => ?_⟩
    have z5 : Same H (upd G4 t5 (.tup [.int 5, .int 1, .int 1])) := (z4).trans (same_new n5)
    have e0 := same_new (o := .tup [.int 5, .int 1, .int 1]) n5 _ _ e0
    have e1 := same_new (o := .tup [.int 5, .int 1, .int 1]) n5 _ _ e1
    have e2 := same_new (o := .tup [.int 5, .int 1, .int 1]) n5 _ _ e2
    have e3 := same_new (o := .tup [.int 5, .int 1, .int 1]) n5 _ _ e3
    have e4 := same_new (o := .tup [.int 5, .int 1, .int 1]) n5 _ _ e4
    have e5 : upd G4 t5 (.tup [.int 5, .int 1, .int 1]) t5 = some (.tup [.int 5, .int 1, .int 1]) := upd_same
    generalize upd G4 t5 (.tup [.int 5, .int 1, .int 1]) = G5 at z5 e0 e1 e2 e3 e4 e5 ⊢
    refine ⟨(by show 3 ≤ sizeLine; decide), fun t6 n6 => ?_⟩
    have z6 : Same H (upd G5 t6 (.tup [.int 7, .int 2, .int 1])) := (z5).trans (same_new n6)
    have e0 := same_new (o := .tup [.int 7, .int 2, .int 1]) n6 _ _ e0
    have e1 := same_new (o := .tup [.int 7, .int 2, .int 1]) n6 _ _ e1
    have e2 := same_new (o := .tup [.int 7, .int 2, .int 1]) n6 _ _ e2
    have e3 := same_new (o := .tup [.int 7, .int 2, .int 1]) n6 _ _ e3
    have e4 := same_new (o := .tup [.int 7, .int 2, .int 1]) n6 _ _ e4
    have e5 := same_new (o := .tup [.int 7, .int 2, .int 1]) n6 _ _ e5
    have e6 : upd G5 t6 (.tup [.int 7, .int 2, .int 1]) t6 = some (.tup [.int 7, .int 2, .int 1]) := upd_same
    generalize upd G5 t6 (.tup [.int 7, .int 2, .int 1]) = G6 at z6 e0 e1 e2 e3 e4 e5 e6 ⊢
    refine ⟨(by show 3 ≤ sizeLine; decide), fun t7 n7 => ?_⟩
    have z7 : Same H (upd G6 t7 (.tup [.int 3, .int 2, .int 2])) := (z6).trans (same_new n7)
    have e0 := same_new (o := .tup [.int 3, .int 2, .int 2]) n7 _ _ e0
    have e1 := same_new (o := .tup [.int 3, .int 2, .int 2]) n7 _ _ e1
    have e2 := same_new (o := .tup [.int 3, .int 2, .int 2]) n7 _ _ e2
    have e3 := same_new (o := .tup [.int 3, .int 2, .int 2]) n7 _ _ e3
    have e4 := same_new (o := .tup [.int 3, .int 2, .int 2]) n7 _ _ e4
    have e5 := same_new (o := .tup [.int 3, .int 2, .int 2]) n7 _ _ e5
    have e6 := same_new (o := .tup [.int 3, .int 2, .int 2]) n7 _ _ e6
    have e7 : upd G6 t7 (.tup [.int 3, .int 2, .int 2]) t7 = some (.tup [.int 3, .int 2, .int 2]) := upd_same
    generalize upd G6 t7 (.tup [.int 3, .int 2, .int 2]) = G7 at z7 e0 e1 e2 e3 e4 e5 e6 e7 ⊢
    refine ⟨(by show 3 ≤ sizeLine; decide), fun t8 n8 => ?_⟩
    have z8 : Same H (upd G7 t8 (.tup [.int 2, .int 1, .int 4])) := (z7).trans (same_new n8)
    have e0 := same_new (o := .tup [.int 2, .int 1, .int 4]) n8 _ _ e0
    have e1 := same_new (o := .tup [.int 2, .int 1, .int 4]) n8 _ _ e1
    have e2 := same_new (o := .tup [.int 2, .int 1, .int 4]) n8 _ _ e2
    have e3 := same_new (o := .tup [.int 2, .int 1, .int 4]) n8 _ _ e3
    have e4 := same_new (o := .tup [.int 2, .int 1, .int 4]) n8 _ _ e4
    have e5 := same_new (o := .tup [.int 2, .int 1, .int 4]) n8 _ _ e5
    have e6 := same_new (o := .tup [.int 2, .int 1, .int 4]) n8 _ _ e6
    have e7 := same_new (o := .tup [.int 2, .int 1, .int 4]) n8 _ _ e7
    have e8 : upd G7 t8 (.tup [.int 2, .int 1, .int 4]) t8 = some (.tup [.int 2, .int 1, .int 4]) := upd_same
    generalize upd G7 t8 (.tup [.int 2, .int 1, .int 4]) = G8 at z8 e0 e1 e2 e3 e4 e5 e6 e7 e8 ⊢
    refine ⟨(by show 3 ≤ sizeLine; decide), fun t9 n9 => ?_⟩
    have z9 : Same H (upd G8 t9 (.tup [.int 31, .int 1, .int 2])) := (z8).trans (same_new n9)
    have e0 := same_new (o := .tup [.int 31, .int 1, .int 2]) n9 _ _ e0
    have e1 := same_new (o := .tup [.int 31, .int 1, .int 2]) n9 _ _ e1
    have e2 := same_new (o := .tup [.int 31, .int 1, .int 2]) n9 _ _ e2
    have e3 := same_new (o := .tup [.int 31, .int 1, .int 2]) n9 _ _ e3
    have e4 := same_new (o := .tup [.int 31, .int 1, .int 2]) n9 _ _ e4
    have e5 := same_new (o := .tup [.int 31, .int 1, .int 2]) n9 _ _ e5
    have e6 := same_new (o := .tup [.int 31, .int 1, .int 2]) n9 _ _ e6
    have e7 := same_new (o := .tup [.int 31, .int 1, .int 2]) n9 _ _ e7
    have e8 := same_new (o := .tup [.int 31, .int 1, .int 2]) n9 _ _ e8
    have e9 : upd G8 t9 (.tup [.int 31, .int 1, .int 2]) t9 = some (.tup [.int 31, .int 1, .int 2]) := upd_same
    generalize upd G8 t9 (.tup [.int 31, .int 1, .int 2]) = G9 at z9 e0 e1 e2 e3 e4 e5 e6 e7 e8 e9 ⊢
    refine ⟨(by show 10 ≤ sizeLine; decide), fun q nq => ?_⟩
    have z := z9.trans (same_new (o := .lst [.ref t0, .ref t1, .ref t2, .ref t3, .ref t4, .ref t5, .ref t6, .ref t7, .ref t8, .ref t9]) nq)
    have eq : upd G9 q (.lst [.ref t0, .ref t1, .ref t2, .ref t3, .ref t4, .ref t5, .ref t6, .ref t7, .ref t8, .ref t9]) q = some (.lst [.ref t0, .ref t1, .ref t2, .ref t3, .ref t4, .ref t5, .ref t6, .ref t7, .ref t8, .ref t9]) := upd_same
    have hh1 := hh.same z
    obtain ⟨ds, i0, ha, _⟩ := id hh1
    have na : q ≠ a := by
      rintro rfl
      rw [eq] at ha
      obtain ⟨o, ho⟩ := (hh.same z9).one
      rw [nq] at ho
      cases ho
    refine ⟨_, rfl, _, rfl, a, d, 10, rfl, by decide, hh1, fun r H' r0 r1 hh2 k2 => ?_⟩
    have tk : TK _ H' := TK.keep k2 ha (fun xs z => nomatch z)
    obtain ⟨j, rfl⟩ : ∃ j : Nat, r = (j : Int) := ⟨r.toNat, by omega⟩
    have all : ∀ j, j < 10 → ∃ v, ([.ref t0, .ref t1, .ref t2, .ref t3, .ref t4, .ref t5, .ref t6, .ref t7, .ref t8, .ref t9] : List V)[j]? = some v ∧ ∃ (p : Int) (n c : Nat), T1 H' v [p, (n : Int), (c : Int)] ∧ (p, n, c) ∈ szs := by
      intro j hj
      match j, hj with
      | 0, _ => exact ⟨_, rfl, 2, 1, 2, T1.mk (r := [2, 1, 2]) (tk _ _ (same_new nq _ _ e0)), by decide⟩
      | 1, _ => exact ⟨_, rfl, 2, 2, 2, T1.mk (r := [2, 2, 2]) (tk _ _ (same_new nq _ _ e1)), by decide⟩
      | 2, _ => exact ⟨_, rfl, 3, 1, 2, T1.mk (r := [3, 1, 2]) (tk _ _ (same_new nq _ _ e2)), by decide⟩
      | 3, _ => exact ⟨_, rfl, 2, 1, 3, T1.mk (r := [2, 1, 3]) (tk _ _ (same_new nq _ _ e3)), by decide⟩
      | 4, _ => exact ⟨_, rfl, 2, 3, 1, T1.mk (r := [2, 3, 1]) (tk _ _ (same_new nq _ _ e4)), by decide⟩
      | 5, _ => exact ⟨_, rfl, 5, 1, 1, T1.mk (r := [5, 1, 1]) (tk _ _ (same_new nq _ _ e5)), by decide⟩
      | 6, _ => exact ⟨_, rfl, 7, 2, 1, T1.mk (r := [7, 2, 1]) (tk _ _ (same_new nq _ _ e6)), by decide⟩
      | 7, _ => exact ⟨_, rfl, 3, 2, 2, T1.mk (r := [3, 2, 2]) (tk _ _ (same_new nq _ _ e7)), by decide⟩
      | 8, _ => exact ⟨_, rfl, 2, 1, 4, T1.mk (r := [2, 1, 4]) (tk _ _ (same_new nq _ _ e8)), by decide⟩
      | 9, _ => exact ⟨_, rfl, 31, 1, 2, T1.mk (r := [31, 1, 2]) (tk _ _ (same_new nq _ _ e9)), by decide⟩
      | n + 10, h => exact absurd h (by omega)
    obtain ⟨v, ev, p, n, c, t1, hm⟩ := all j (by omega)
    exact ⟨q, _, _, _, rfl, rfl, SqL.of (k2 _ _ na eq), atI_nat ev, kk v H' p n c hm t1 hh2 ((Keep.of z).trans k2)⟩
end
end WU

set_option maxRecDepth 100000
set_option maxHeartbeats 8000000
namespace WU
open PySem PySem.Spec PyProof.Rows L2
/-- a value that is no number below e -/
def FarV (_K : PySem.W.Frag) (H : Hp) (e : Int) (v : V) : Prop := (∃ i, v = .int i ∧ (i < 0 ∨ e ≤ i)) ∨ (∃ b, v = .bl b) ∨ v = .non ∨ (∃ z, v = .str z) ∨ ∃ t, v = .ref t ∧ (H t = some (.tup [.int 0]) ∨ H t = some (.lst [.int 0]))
theorem FarV.ty {K : PySem.W.Frag} {H : Hp} {e : Int} {v : V} (h : FarV K H e v) : Ty3 K H v := by
  rcases h with ⟨i, rfl, _⟩ | ⟨b, rfl⟩ | rfl | ⟨z, rfl⟩ | ⟨t, rfl, h | h⟩
  · exact ty3_int i
  · exact ty3_bl b
  · exact ty3_non
  · exact ty3_str z
  · exact ty3_tup h
  · exact ty3_lst h
theorem FarV.bel {K : PySem.W.Frag} {H : Hp} {e : Int} {v : V} (h : FarV K H e v) : isBel e v = false := by
  rcases h with ⟨i, rfl, h⟩ | ⟨b, rfl⟩ | rfl | ⟨z, rfl⟩ | ⟨t, rfl, _⟩
  · show (decide (0 ≤ i) && decide (i < e)) = false
    rcases h with h | h
    · rw [decide_eq_false (by omega)]
      rfl
    · rw [decide_eq_false (p := i < e) (by omega), Bool.and_false]
  all_goals rfl
theorem FarV.fr {K : PySem.W.Frag} {H : Hp} {e : Int} {v : V} (h : FarV K H e v) : FR v := by
  rcases h with ⟨i, rfl, _⟩ | ⟨b, rfl⟩ | rfl | ⟨z, rfl⟩ | ⟨t, rfl, _⟩
  · exact .inl rfl
  · exact .inl rfl
  · exact .inl rfl
  · exact .inl rfl
  · exact .inr ⟨_, rfl⟩
theorem FarV.same {K : PySem.W.Frag} {H H' : Hp} {e : Int} {v : V} (h : FarV K H e v) (s : Same H H') : FarV K H' e v := by
  rcases h with h | h | h | h | ⟨t, rfl, h⟩
  · exact .inl h
  · exact .inr (.inl h)
  · exact .inr (.inr (.inl h))
  · exact .inr (.inr (.inr (.inl h)))
  · exact .inr (.inr (.inr (.inr ⟨t, rfl, h.imp (s _ _) (s _ _)⟩)))
theorem FarV.keep {K : PySem.W.Frag} {H H' : Hp} {e : Int} {v : V} {a d : Addr} (h : FarV K H e v) (hh : HandAt H a d) (k : Keep a H H') : FarV K H' e v := by
  obtain ⟨ds, i, h1, _⟩ := hh
  rcases h with h | h | h | h | ⟨t, rfl, h⟩
  · exact .inl h
  · exact .inr (.inl h)
  · exact .inr (.inr (.inl h))
  · exact .inr (.inr (.inr (.inl h)))
  · refine .inr (.inr (.inr (.inr ⟨t, rfl, ?_⟩)))
    rcases h with h | h
    · exact .inl (k _ _ (fun z => by rw [z, h1] at h; cases h) h)
    · exact .inr (k _ _ (fun z => by rw [z, h1] at h; cases h) h)
theorem big30' : (10 : Int) ^ (30 : Int).toNat = 1000000000000000000000000000000 := by decide +kernel
section
variable {P : Program} {w : World} {K : PySem.W.Frag} {mg : Str → Option Value} {base : Heap} {S : Addr}
def spFa (K : PySem.W.Frag) : Sp := fun vs H Q _ => ∃ (a d : Addr) (e : Int), vs = [.ref a, .int e] ∧ e ≤ 1000 ∧ HandAt H a d ∧ ∀ v H', FarV K H' e v → HandAt H' a d → Keep a H H' → Q v H'
theorem sclaw_far : FnScope ["hand", "end"] ["hand", "end"] (defScope s_law_far) := ⟨rfl, rfl, rfl, by decide +kernel, rfl, by decide +kernel, by decide +kernel⟩
theorem ok_Fa {f f1 : Addr} {fd fd1 : FuncData} (F : FnS K "_law_far" s_law_far f fd) (B : Blt4 mg) (CT : Cal P w K mg base 1 "_law_take" f1 fd1 ["hand", "many"] spTake) : FnOk P w K mg base (L2.CX P w) 2 f fd ["hand", "end"] (spFa K) := by
  refine F.ok sclaw_far (fun vs H Q E h => ?_) (fun cdv A outer s H vs Q E hr h => ?_)
  · obtain ⟨a, d, e, rfl, _⟩ := h
    rfl
  · obtain ⟨a, d, e, rfl, he, hh, kk⟩ := h
    have nd := sclaw_far.nd
    refine ⟨_, (pss_one (ps_ret (pe_ix (ix_listK (K := K)) (pe_lst (pa_cons (pv 1) (pa_cons (pe_un un_neg pe_int) (pa_cons pe_bl (pa_cons pe_non (pa_cons pe_str (pa_cons (pe_tup (pa_cons pe_int pa_nil)) (pa_cons (pe_op op_pow pe_int pe_int) (pa_cons (pe_lst (pa_cons pe_int pa_nil)) (pa_cons pe_bl pa_nil)))))))))) (pe_cal CT (hr.mono (by decide)) (pa_cons (pv 0) (pa_cons pe_int pa_nil)) passU) (fun _ _ => rfl)))), ?_⟩
    refine ⟨_, rfl, _, rfl, (by show 1 ≤ sizeLine; decide), fun t nt => ?_⟩
    have z1 := same_new (o := .tup [.int 0]) nt
    have et : upd H t (.tup [.int 0]) t = some (.tup [.int 0]) := upd_same
    generalize upd H t (.tup [.int 0]) = H1 at z1 et ⊢
    refine ⟨_, _, rfl, rfl, ⟨by decide, by decide, by decide⟩, (by show 1 ≤ sizeLine; decide), fun l nl => ?_⟩
    have z2 := z1.trans (same_new (o := .lst [.int 0]) nl)
    have et := same_new (o := .lst [.int 0]) nl _ _ et
    have el : upd H1 l (.lst [.int 0]) l = some (.lst [.int 0]) := upd_same
    have nal : l ≠ a := by
      rintro rfl
      obtain ⟨o, ho⟩ := (hh.same z1).one
      rw [nl] at ho
      cases ho
    generalize upd H1 l (.lst [.int 0]) = H2 at z2 et el ⊢
    refine ⟨(by show 9 ≤ sizeLine; decide), fun q nq => ?_⟩
    have z := z2.trans (same_new (o := .lst [.int e, .int (-1), .bl true, .non, .str "0", .ref t, .int (10 ^ (30 : Int).toNat), .ref l, .bl false]) nq)
    have eq : upd H2 q (.lst [.int e, .int (-1), .bl true, .non, .str "0", .ref t, .int (10 ^ (30 : Int).toNat), .ref l, .bl false]) q = some (.lst [.int e, .int (-1), .bl true, .non, .str "0", .ref t, .int (10 ^ (30 : Int).toNat), .ref l, .bl false]) := upd_same
    have et := same_new (o := .lst [.int e, .int (-1), .bl true, .non, .str "0", .ref t, .int (10 ^ (30 : Int).toNat), .ref l, .bl false]) nq _ _ et
    have el := same_new (o := .lst [.int e, .int (-1), .bl true, .non, .str "0", .ref t, .int (10 ^ (30 : Int).toNat), .ref l, .bl false]) nq _ _ el
    have hh1 := hh.same z
    obtain ⟨ds, i0, ha, _⟩ := id hh1
    have na : q ≠ a := by
      rintro rfl
      obtain ⟨o, ho⟩ := (hh.same z2).one
      rw [nq] at ho
      cases ho
    generalize upd H2 q (.lst [.int e, .int (-1), .bl true, .non, .str "0", .ref t, .int (10 ^ (30 : Int).toNat), .ref l, .bl false]) = H3 at z eq et el hh1 ha ⊢
    refine ⟨_, rfl, a, d, 9, rfl, by decide, hh1, fun r H' r0 r1 hh2 k2 => ?_⟩
    have tk : TK H3 H' := TK.keep k2 ha (fun xs z => nomatch z)
    have gt := tk _ _ et
    have gl := k2 _ _ nal el
    obtain ⟨j, rfl⟩ : ∃ j : Nat, r = (j : Int) := ⟨r.toNat, by omega⟩
    have all : ∀ j, j < 9 → ∃ v, ([.int e, .int (-1), .bl true, .non, .str "0", .ref t, .int (10 ^ (30 : Int).toNat), .ref l, .bl false] : List V)[j]? = some v ∧ FarV K H' e v := by
      intro j hj
      match j, hj with
      | 0, _ => exact ⟨_, rfl, .inl ⟨_, rfl, .inr (Int.le_refl _)⟩⟩
      | 1, _ => exact ⟨_, rfl, .inl ⟨_, rfl, .inl (by decide)⟩⟩
      | 2, _ => exact ⟨_, rfl, .inr (.inl ⟨_, rfl⟩)⟩
      | 3, _ => exact ⟨_, rfl, .inr (.inr (.inl rfl))⟩
      | 4, _ => exact ⟨_, rfl, .inr (.inr (.inr (.inl ⟨_, rfl⟩)))⟩
      | 5, _ => exact ⟨_, rfl, .inr (.inr (.inr (.inr ⟨t, rfl, .inl gt⟩)))⟩
      | 6, _ => exact ⟨_, rfl, .inl ⟨_, rfl, .inr (by rw [big30']; omega)⟩⟩
      | 7, _ => exact ⟨_, rfl, .inr (.inr (.inr (.inr ⟨l, rfl, .inr gl⟩)))⟩
      | 8, _ => exact ⟨_, rfl, .inr (.inl ⟨_, rfl⟩)⟩
      | n + 9, h => exact absurd h (by omega)
    obtain ⟨v, ev, fv⟩ := all j (by omega)
    exact ⟨q, _, _, _, rfl, rfl, SqL.of (k2 _ _ na eq), atI_nat ev, kk v H' fv hh2 ((Keep.of z).trans k2)⟩
end
end WU

set_option maxRecDepth 100000
set_option maxHeartbeats 8000000
namespace WU
open PySem PySem.Spec PyProof.Rows L2
/-- u and v: the same number, or tuples alike (to the depth n) -/
def EqV : Nat → Hp → V → V → Prop
  | 0, _, u, v => ∃ i, u = .int i ∧ v = .int i
  | n + 1, H, u, v => (∃ i, u = .int i ∧ v = .int i) ∨ ∃ a b xs ys, u = .ref a ∧ v = .ref b ∧ H a = some (.tup xs) ∧ H b = some (.tup ys) ∧ Paired (EqV n H) xs ys ∧ ys.length ≤ 10000
section
variable {P : Program} {w : World} {K : PySem.W.Frag} {mg : Str → Option Value} {base : Heap}
theorem scSm : FnScope ["found", "due", "at"] ["found", "due"] (defScope s_law_same) := ⟨rfl, rfl, rfl, by decide +kernel, rfl, by decide +kernel, by decide +kernel⟩
def spSmP (R : Hp → V → V → Prop) : Sp := fun vs H Q _ => ∃ u v, vs = [u, v] ∧ R H u v ∧ Q (.bl true) H
def spSm (n : Nat) : Sp := spSmP (EqV n)
/-- one step: where parts are told by R, numbers and tuples of such parts are -/
theorem ok_Sm1 {R : Hp → V → V → Prop} {k : Nat} {f : Addr} {fd : FuncData} (F : FnS K "_law_same" s_law_same f fd) (B : Blt3 mg) (C0 : Cal P w K mg base k "_law_same" f fd ["found", "due"] (spSmP R)) :
    FnOk P w K mg base (L2.CX P w) (k + 1) f fd ["found", "due"] (spSmP fun H u v => (∃ i, u = .int i ∧ v = .int i) ∨ ∃ a b xs ys, u = .ref a ∧ v = .ref b ∧ H a = some (.tup xs) ∧ H b = some (.tup ys) ∧ Paired (R H) xs ys ∧ ys.length ≤ 10000) := by
  refine F.ok scSm (fun vs H Q E h => ?_) (fun cdv A outer s H vs Q E hr h => ?_)
  · obtain ⟨u, v, rfl, _⟩ := h
    rfl
  · obtain ⟨u, v, rfl, he, kk⟩ := h
    have nd := scSm.nd
    refine ⟨_, (pss_cons (ps_if (pt_val (pe_callB call_isi (by rfl) B.isi (by decide +kernel) (pa_cons (pv 1) (pa_cons (pe_bltn (v := .ty "tuple") (by rfl) B.tuple (by decide +kernel) rfl) pa_nil)))) (pss_cons (ps_if (PW.pt (pw_or (pt_not (pt_val (pe_callB call_isi (by rfl) B.isi (by decide +kernel) (pa_cons (pv 0) (pa_cons (pe_bltn (v := .ty "tuple") (by rfl) B.tuple (by decide +kernel) rfl) pa_nil))))) (pw_or1 (pt_cmpR op_ne (pe_callB call_len_seq (by rfl) B.len (by decide +kernel) (pa_cons (pv 0) pa_nil)) (pe_callB call_len_seq (by rfl) B.len (by decide +kernel) (pa_cons (pv 1) pa_nil)) (nomark _))))) (pss_one (ps_ret pe_bl)) pss_nil)
      (pss_cons (ps_for (passes_of rfl) rfl (pi_range1 rfl B.range (pa_cons (pe_callB call_len_seq (by rfl) B.len (by decide +kernel) (pa_cons (pv 1) pa_nil)) pa_nil)) (pg_name (i := 2) nd rfl (Or.inl rfl)) (pss_one (ps_if (pt_not (pt_val (pe_cal C0 hr (pa_cons (pe_ix ix_tup (pv 0) (pv 2) (fun _ _ => rfl)) (pa_cons (pe_ix ix_tup (pv 1) (pv 2) (fun _ _ => rfl)) pa_nil)) passU))) (pss_one (ps_ret pe_bl)) pss_nil)))
      (pss_one (ps_ret pe_bl)))) pss_nil)
      (pss_one (ps_ret (pe_and (pe_callB call_isi (by rfl) B.isi (by decide +kernel) (pa_cons (pv 0) (pa_cons (pe_bltn (v := .ty "int") (by rfl) B.int (by decide +kernel) rfl) pa_nil))) (pe_and (pe_not (pe_callB call_isi (by rfl) B.isi (by decide +kernel) (pa_cons (pv 0) (pa_cons (pe_bltn (v := .ty "bool") (by rfl) B.bool (by decide +kernel) rfl) pa_nil)))) (pe_one (pe_cmpR op_eq (pv 0) (pv 1) (nomark _)))))))), ?_⟩
    rcases he with ⟨i, rfl, rfl⟩ | ⟨a, b, xs, ys, rfl, rfl, ha, hb, hP, hl⟩
    · refine ⟨_, rfl, _, _, _, _, _, rfl, .ty "tuple", .base (.int i), kit_ty (show kitB "int" "tuple" = some false by decide +kernel), _, rfl, iteF ?_⟩
      refine ⟨_, rfl, _, _, _, _, _, rfl, .ty "int", .base (.int i), kit_ty (show kitB "int" "int" = some true by decide +kernel), _, rfl, iteT ?_⟩
      refine ⟨_, rfl, _, _, _, _, _, rfl, .ty "bool", .base (.int i), kit_ty (show kitB "int" "bool" = some false by decide +kernel), _, rfl, _, rfl, iteT ⟨_, rfl, _, rfl, rfl, ?_⟩⟩
      rw [decide_eq_true rfl]
      exact kk
    · have el := paired_len hP
      refine ⟨_, rfl, _, _, _, _, _, rfl, .ty "tuple", .base (.tup hb), kit_ty (show kitB "tuple" "tuple" = some true by decide +kernel), _, rfl, iteT ?_⟩
      refine ⟨_, rfl, _, _, _, _, _, rfl, .ty "tuple", .base (.tup ha), kit_ty (show kitB "tuple" "tuple" = some true by decide +kernel), _, rfl, iteF ?_⟩
      refine ⟨_, rfl, a, _, rfl, .inr (SqT.of ha), _, rfl, b, _, rfl, .inr (SqT.of hb), rfl, _, rfl, iteFb (by rw [decide_eq_true (congrArg (fun n : Nat => V.int n) el)]; rfl) ?_⟩
      refine ⟨_, rfl, b, _, rfl, .inr (SqT.of hb), (ys.length : Int), rfl, by omega, by omega, for_range (lo := 0) (n := ys.length) (fun i σ H' => ∃ x, σ = [some (.ref a), some (.ref b), x] ∧ H' = H) ⟨none, rfl, rfl⟩ ?_ ?_⟩
      · rintro i σ H' hi ⟨x, rfl, rfl⟩
        have hy : ys[i]? = some ys[i] := List.getElem?_eq_getElem hi
        obtain ⟨u, hx, r⟩ := paired_of hP hy
        rw [show ((0 : Int) + (i : Int)) = ((i : Nat) : Int) from Int.zero_add _]
        refine ⟨_, rfl, _, rfl, a, xs, (i : Int), u, rfl, rfl, SqT.of ha, atI_nat hx, _, rfl, _, rfl, b, ys, (i : Int), _, rfl, rfl, SqT.of hb, atI_nat hy, u, _, rfl, r, _, rfl, iteF ⟨_, rfl, rfl⟩⟩
      · rintro σ H' ⟨x, rfl, rfl⟩
        exact kk
/-- whole values, to the depth n -/
theorem ok_Sm {f : Addr} {fd : FuncData} (F : FnS K "_law_same" s_law_same f fd) (B : Blt3 mg) (g : mg "_law_same" = some (.ref f)) (hb : L2.Binds K fd ["found", "due"] []) : ∀ n, FnOk P w K mg base (L2.CX P w) (n + 1) f fd ["found", "due"] (spSm n)
  | 0 => by
    have e : FnOk P w K mg base (L2.CX P w) 0 f fd ["found", "due"] (spSmP fun _ _ _ => False) := ⟨fun vs H Q E ⟨_, _, _, z, _⟩ => z.elim, fun A outer s H args us vs Q E _ _ _ _ ⟨_, _, _, z, _⟩ => z.elim⟩
    exact (ok_Sm1 F B ⟨g, F.kp, hb, e⟩).imp fun vs H Q E ⟨u, v, e, h, q⟩ => ⟨u, v, e, .inl h, q⟩
  | n + 1 => ok_Sm1 F B ⟨g, F.kp, hb, ok_Sm F B g hb n⟩
end
end WU

set_option maxRecDepth 100000
set_option maxHeartbeats 8000000
namespace WU
open PySem PySem.Spec PyProof.Rows L2
theorem eqv_FI {H : Hp} {u v : V} {z : Int} (a : FI H u z) (b : FI H v z) : EqV 0 H u v := ⟨z, a, b⟩
theorem eqv_TF {α : Type} {F : Hp → V → α → Prop} {B : α → Prop} {n : Nat} {H : Hp} (hF : ∀ u v z, B z → F H u z → F H v z → EqV n H u v) {u v : V} {l : List α} (a : TF F H u l) (b : TF F H v l) (hB : ∀ z ∈ l, B z) (hl : l.length ≤ 10000) : EqV (n + 1) H u v := by
  obtain ⟨c, xs, rfl, hc, hp⟩ := a
  obtain ⟨d, ys, rfl, hd, hq⟩ := b
  have pr : ∀ {xs ys : List V} {l : List α}, Paired (F H) xs l → Paired (F H) ys l → (∀ z ∈ l, B z) → Paired (EqV n H) xs ys := by
    intro xs ys l h
    induction h generalizing ys with
    | nil => intro k _; cases k; exact .nil
    | cons h t ih =>
      intro k hb
      cases k with
      | cons h2 t2 => exact .cons (hF _ _ _ (hb _ List.mem_cons_self) h h2) (ih t2 fun z hz => hb z (List.mem_cons_of_mem _ hz))
  exact .inr ⟨c, d, xs, ys, rfl, rfl, hc, hd, pr hp hq hB, by rw [paired_len hq]; exact hl⟩
theorem eqv1 {H : Hp} {u v : V} {r : List Int} (a : T1 H u r) (b : T1 H v r) (h : r.length ≤ 10000) : EqV 1 H u v := eqv_TF (B := fun _ => True) (fun _ _ _ _ => eqv_FI) a b (fun _ _ => True.intro) h
theorem eqv2 {H : Hp} {u v : V} {m : List (List Int)} (a : T2 H u m) (b : T2 H v m) (hr : ∀ r ∈ m, r.length ≤ 10000) (h : m.length ≤ 10000) : EqV 2 H u v := eqv_TF (B := fun r => r.length ≤ 10000) (fun _ _ _ hb x y => eqv1 x y hb) a b hr h
theorem eqv3 {H : Hp} {u v : V} {q : List (List (List Int))} (a : T3 H u q) (b : T3 H v q) (hm : ∀ m ∈ q, m.length ≤ 10000 ∧ ∀ r ∈ m, r.length ≤ 10000) (h : q.length ≤ 10000) : EqV 3 H u v :=
  eqv_TF (B := fun m => m.length ≤ 10000 ∧ ∀ r ∈ m, r.length ≤ 10000) (fun _ _ _ hb x y => eqv2 x y hb.2 hb.1) a b hm h
end WU

set_option maxRecDepth 100000
set_option maxHeartbeats 8000000
namespace WU
open PySem PySem.Spec PyProof.Rows L2
theorem op_notInDK {X : Cx} {K : PySem.W.Frag} (hu : X.A.units + 65 < cLine) (hK : X.K = K := by rfl) : OpR X (compareOp .NotIn) (rNotInD K) := hK ▸ op_notInD hu
def asgLc : Stmt → Scope
  | .For _ _ (.Assign _ (.ListComp _ _ sc _) _ :: _) _ _ => sc
  | st => defScope st
/-- numbers drawn into the list at D, from the hand -/
def Drh (a d : Addr) (p : Int) (H1 : Hp) (D : Addr) (i : Nat) (H' : Hp) : Prop := ∃ ys : List Int, H' D = some (.lst (ys.map V.int)) ∧ Ltr p i ys ∧ HandAt H' a d ∧ Keep a H1 H'
theorem Drh.start {a d D : Addr} {p : Int} {H1 : Hp} (hh : HandAt H1 a d) (hD : H1 D = none) : Drh a d p H1 D 0 (upd H1 D (.lst [])) := ⟨[], upd_same, ⟨rfl, (fun y h => nomatch h)⟩, hh.new hD, Keep.new hD⟩
theorem Drh.put {a d D : Addr} {p r : Int} {i : Nat} {H1 H' H'' : Hp} (x : Drh a d p H1 D i H') (hD : H1 D = none) (hh1 : HandAt H1 a d) (hi : i ≤ 1000) (hh : HandAt H'' a d) (k : Keep a H' H'') (r0 : 0 ≤ r) (r1 : r < p) :
    ∃ acc, H'' D = some (.lst acc) ∧ acc.length < sizeLine ∧ Drh a d p H1 D (i + 1) (upd H'' D (.lst (acc ++ [.int r]))) := by
  obtain ⟨ys, e, ⟨l, b⟩, _, k1⟩ := x
  have ne := hh1.ne hD
  refine ⟨_, k D _ ne.1.symm e, by rw [List.length_map]; exact small1000 (by omega), ys ++ [r], by rw [upd_same, List.map_append]; rfl, ⟨by rw [List.length_append, l]; rfl, fun y hy => ?_⟩, hh.put ne.1 ne.2, fun c u hc ec => ?_⟩
  · rcases List.mem_append.mp hy with h | h
    · exact b y h
    · rw [List.mem_singleton.mp h]
      exact ⟨r0, r1⟩
  · rw [upd_ne (ne_of_none ec hD)]
    exact k c u hc (k1 c u hc ec)
end WU

set_option maxRecDepth 100000
set_option maxHeartbeats 8000000
namespace WU
open PySem PySem.Spec PyProof.Rows L2
theorem canI : ∀ r : List Int, PyData.canLayAll0 (r.map PyData.int) = true
  | [] => rfl
  | x :: r => by
    rw [List.map_cons, PyData.canLayAll0, canI r]
    rfl
theorem canR : ∀ m : List (List Int), PyData.canLayAll0 (m.map d1) = true
  | [] => rfl
  | r :: m => by
    rw [List.map_cons, PyData.canLayAll0, canR m, Bool.and_true]
    show PyData.canLay0 (.tuple _) = true
    rw [PyData.canLay0]
    exact canI r
theorem canM : ∀ q : List (List (List Int)), PyData.canLayAll0 (q.map d2) = true
  | [] => rfl
  | m :: q => by
    rw [List.map_cons, PyData.canLayAll0, canM q, Bool.and_true]
    show PyData.canLay0 (.tuple _) = true
    rw [PyData.canLay0]
    exact canR m
theorem depthM : ∀ q : List (List (List Int)), PyData.depthAll (q.map d2) ≤ 60
  | [] => by simp [PyData.depthAll]
  | m :: q => by
    have h1 := depthM q
    have h2 := depth2 m
    simp only [List.map_cons, PyData.depthAll]
    omega
theorem shaped2 (m : List (List Int)) : SeqAt.shaped (d2 m) = true := by
  show ((PyData.tuple _).canLay0 && decide ((d2 m).depth ≤ 64)) = true
  rw [PyData.canLay0, canR, decide_eq_true (Nat.le_trans (depth2 m) (by decide))]
  rfl
theorem shapedL (q : List (List (List Int))) : SeqAt.shaped (.list (q.map d2)) = true := by
  show ((PyData.list _).canLay0 && decide ((PyData.list _).depth ≤ 64)) = true
  rw [PyData.canLay0, canM, PyData.depth, decide_eq_true (by have := depthM q; omega)]
  rfl
theorem eqvI : ∀ r : List Int, PyData.eqvAll (r.map PyData.int) (r.map PyData.int) = true
  | [] => by simp [PyData.eqvAll]
  | x :: r => by simp [PyData.eqvAll, PyData.eqv, eqvI r]
theorem eqvR : ∀ m : List (List Int), PyData.eqvAll (m.map d1) (m.map d1) = true
  | [] => by simp [PyData.eqvAll]
  | r :: m => by simp [PyData.eqvAll, d1, PyData.eqv, eqvI r, eqvR m]
theorem eqv2r (m : List (List Int)) : PyData.eqv (d2 m) (d2 m) = true := by simp [d2, PyData.eqv, eqvR m]
section
variable {P : Program} {w : World} {K : PySem.W.Frag} {mg : Str → Option Value} {base : Heap} {S : Addr}
/-- _law_questions(hand, p, columns) -/
def spLQ : Sp := fun vs H Q _ => ∃ (a d : Addr) (p : Int) (n : Nat), vs = [.ref a, .int p, .int n] ∧ HandAt H a d ∧ 0 < p ∧ n ≤ 100 ∧ ∀ y qs H', T3 H' y qs → Ris qs → 0 < qs.length → qs.length ≤ 14 → (∀ m ∈ qs, m.length ≤ 2 ∧ ∀ r ∈ m, Ltr p n r) → HandAt H' a d → Keep a H H' → Q y H'
theorem sclaw_questions : FnScope ["hand", "p", "columns", "found", "many", "k", "rows", "one", "j"] ["hand", "p", "columns"] (defScope s_law_questions) := ⟨rfl, rfl, rfl, by decide +kernel, rfl, by decide +kernel, by decide +kernel⟩
theorem ok_LQ {f f1 f2 : Addr} {fd fd1 fd2 : FuncData} (F : FnS K "_law_questions" s_law_questions f fd) (B : Blt4 mg) (CT : Cal P w K mg base 1 "_law_take" f1 fd1 ["hand", "many"] spTake) (CRs : Cal P w K mg base 1 "_law_rising" f2 fd2 ["rows"] spRs) : FnOk P w K mg base (L2.CX P w) 2 f fd ["hand", "p", "columns"] spLQ := by
  refine F.ok sclaw_questions (fun vs H Q E h => ?_) (fun cdv A outer s H vs Q E hr h => ?_)
  · obtain ⟨a, d, p, n, rfl, _⟩ := h
    rfl
  · obtain ⟨a, d, p, n, rfl, hh, hp, hn, kk⟩ := h
    have nd := sclaw_questions.nd
    have hu : (A.deeper (envOfC "_law_questions" (defScope s_law_questions) s.heap.objs.size f cdv)).units + 65 < cLine := by have := hr.un; omega
    refine ⟨_, (pss_cons (ps_set (i := 3) nd rfl (Or.inl rfl) (pe_lst pa_nil))
      (pss_cons (ps_set (i := 4) nd rfl (Or.inl rfl) (pe_ix (ix_listK (K := K)) (pe_lst (pa_cons (pe_op op_add pe_int (pe_cal CT (hr.mono (by decide)) (pa_cons (pv 0) (pa_cons pe_int pa_nil)) passU)) (pa_cons (pe_op op_add pe_int (pe_cal CT (hr.mono (by decide)) (pa_cons (pv 0) (pa_cons pe_int pa_nil)) passU)) pa_nil))) (pe_op op_fdivN (pe_cal CT (hr.mono (by decide)) (pa_cons (pv 0) (pa_cons pe_int pa_nil)) passU) pe_int) (fun _ _ => rfl)))
      (pss_cons (ps_for (passes_of rfl) rfl (pi_range1 rfl B.range (pa_cons (pv 4) pa_nil)) (pg_name (i := 5) nd rfl (Or.inl rfl)) (pss_cons (ps_setLc (i := 6) (own := [("one", 7)]) (g := gName 7) (by rfl) nd rfl rfl (sw_true rfl rfl rfl (by decide +kernel)) (pi_range1 rfl B.range (pa_cons (pe_cal CT (hr.mono (by decide)) (pa_cons (pv 0) (pa_cons pe_int pa_nil)) passU) pa_nil)) (blkOk_by (own := [("one", 7)]) (N := ["hand", "p", "columns", "found", "many", "k", "rows", "one", "j"]) (sc := defScope s_law_questions) (by decide +kernel)) (fun _ _ _ _ _ => (pg_name (i := 7) nd rfl (Or.inl rfl))) (fun _ _ _ _ _ => pts_nil) (fun _ _ _ _ _ => (pe_callTy (tup_ofK (K := K)) (by rfl) B.tuple (by decide +kernel) (pa_cons (pe_lc (own := [("j", 8)]) (g := gName 8) (by rfl) nd (pi_range1 rfl B.range (pa_cons (pv 2) pa_nil)) (blkOk_by (own := [("j", 8)]) (N := ["hand", "p", "columns", "found", "many", "k", "rows", "one", "j"]) (sc := relS (asgLc ((defBody s_law_questions).getD 2 (.Pass ⟨0, 0, 0, 0⟩))) (defScope s_law_questions)) (by decide +kernel)) (fun _ _ _ _ _ => (pg_name (i := 8) nd rfl (Or.inl rfl))) (fun _ _ _ _ _ => pts_nil) (fun _ _ _ _ _ => (pe_cal CT (hr.mono (by decide)) (pa_cons (pv 0) (pa_cons (pv 1) pa_nil)) passU))) pa_nil))))
      (pss_one (ps_if (pt_cmpR (op_notInDK (K := K) hu) (pe_callTy (tup_ofK (K := K)) (by rfl) B.tuple (by decide +kernel) (pa_cons (pv 6) pa_nil)) (pv 3) rfl) (pss_one (ps_expr (pe_bm PySem.F.plainAttrs_list PySem.F.slot_list_append PySem.F.type_list_append mt_append (pv 3) (pa_cons (pe_callTy (tup_ofK (K := K)) (by rfl) B.tuple (by decide +kernel) (pa_cons (pv 6) pa_nil)) pa_nil)))) pss_nil))))
      (pss_one (ps_ret (pe_cal CRs (hr.mono (by decide)) (pa_cons (pv 3) pa_nil) passU)))))), ?_⟩
    refine ⟨(by show 0 ≤ sizeLine; decide), fun R hR => ?_⟩
    have na := hh.ne hR
    have hh1 := hh.new (o := .lst []) hR
    have k1 : Keep a H (upd H R (.lst [])) := Keep.new hR
    have eR : upd H R (.lst []) R = some (.lst []) := upd_same
    generalize upd H R (.lst []) = H1 at hh1 k1 eR ⊢
    refine ⟨_, rfl, a, d, 3, rfl, by decide, hh1, fun r1 H2 r10 r11 hh2 k2 => ?_⟩
    refine ⟨_, _, rfl, rfl, _, rfl, a, d, 3, rfl, by decide, hh2, fun r2 H3 r20 r21 hh3 k3 => ?_⟩
    refine ⟨_, _, rfl, rfl, (by show 2 ≤ sizeLine; decide), fun q nq => ?_⟩
    have eR := same_new (o := .lst [.int (1 + r1), .int (11 + r2)]) nq _ _ (k3 _ _ na.1.symm (k2 _ _ na.1.symm eR))
    have nqa := hh3.ne nq
    have hh4 := hh3.new (o := .lst [.int (1 + r1), .int (11 + r2)]) nq
    have k4 : Keep a H1 (upd H3 q (.lst [.int (1 + r1), .int (11 + r2)])) := (k2.trans k3).trans (Keep.new nq)
    have eq : upd H3 q (.lst [.int (1 + r1), .int (11 + r2)]) q = some (.lst [.int (1 + r1), .int (11 + r2)]) := upd_same
    generalize upd H3 q (.lst [.int (1 + r1), .int (11 + r2)]) = H4 at eR hh4 k4 eq ⊢
    refine ⟨_, rfl, a, d, 8, rfl, by decide, hh4, fun r3 H5 r30 r31 hh5 k5 => ?_⟩
    have eR := k5 _ _ na.1.symm eR
    have eq := k5 _ _ nqa.1.symm eq
    have k5 := k1.trans (k4.trans k5)
    refine ⟨_, _, rfl, rfl, ⟨by decide, by decide⟩, ?_⟩
    obtain ⟨g, g0, g14, hg⟩ : ∃ g : Nat, 0 < g ∧ g ≤ 14 ∧ ∀ Q' : VK, Q' (.int (g : Int)) H5 → rIxL K (.ref q) (.int (r3.fdiv 7)) H5 Q' := by
      have hd : r3.fdiv 7 = 0 ∨ r3.fdiv 7 = 1 := by
        have := Int.fdiv_eq_ediv_of_nonneg r3 (show (0 : Int) ≤ 7 by decide)
        omega
      rcases hd with e | e
      · rw [e]
        exact ⟨(1 + r1).toNat, by omega, by omega, fun Q' h => ⟨q, _, 0, _, rfl, rfl, SqL.of eq, rfl, by rw [show (((1 + r1).toNat : Nat) : Int) = 1 + r1 by omega] at h; exact h⟩⟩
      · rw [e]
        exact ⟨(11 + r2).toNat, by omega, by omega, fun Q' h => ⟨q, _, 1, _, rfl, rfl, SqL.of eq, rfl, by rw [show (((11 + r2).toNat : Nat) : Int) = 11 + r2 by omega] at h; exact h⟩⟩
    refine hg _ ?_
    refine ⟨_, rfl, (g : Int), rfl, by omega, by omega, for_range (lo := 0) (n := g) (fun i σ H' => ∃ (fs : List V) (ms : List (List (List Int))) (v5 v6 : Option V), σ = [some (.ref a), some (.int p), some (.int (n : Int)), some (.ref R), some (.int (g : Int)), v5, v6, none, none] ∧ H' R = some (.lst fs) ∧ Paired (T2 H') fs ms ∧
      ms.Nodup ∧ ms.length ≤ i ∧ (0 < i → 0 < ms.length) ∧ (∀ m ∈ ms, m.length ≤ 2 ∧ ∀ r ∈ m, Ltr p n r) ∧ HandAt H' a d ∧ Keep a H H') ⟨[], [], none, none, rfl, eR, .nil, List.nodup_nil, Nat.le_refl _, fun z => absurd z (by decide), (fun m z => nomatch z), hh5, k5⟩ ?_ ?_⟩
    · rintro i σ H6 hi ⟨fs, ms, v5, v6, rfl, gR, pR, nd6, l6, z6, ok6, hh6, k6⟩
      refine ⟨_, rfl, a, d, 3, rfl, by decide, hh6, fun c H7 c0 c1 hh7 k7 => ?_⟩
      obtain ⟨c, rfl⟩ : ∃ c' : Nat, c = (c' : Int) := ⟨c.toNat, by omega⟩
      have lh : ∃ ds i0, H6 a = some (.lst [.ref d, .int i0]) ∧ H6 d = some (.lst ds) := by obtain ⟨ds, i0, x1, x2, _⟩ := id hh6; exact ⟨_, _, x1, x2⟩
      obtain ⟨_, i0, ha6, _⟩ := lh
      have tk7 : TK H6 H7 := TK.keep k7 ha6 fun xs z => nomatch z
      have gR := k7 _ _ na.1.symm gR
      have pR := paired_mono (fun _ _ x => stb2 _ _ _ _ tk7 x) pR
      refine ⟨(c : Int), rfl, by omega, by omega, fun D hD => lc_range (lo := 0) (n := c) (fun j H' => ∃ ys rows, H' D = some (.lst ys) ∧ Paired (T1 H') ys rows ∧ rows.length = j ∧ (∀ r ∈ rows, Ltr p n r) ∧ HandAt H' a d ∧ Keep a H7 H') ⟨[], [], upd_same, .nil, rfl, (fun r z => nomatch z), hh7.new hD, Keep.new hD⟩ ?_ ?_⟩
      · rintro j H8 hj ⟨ys, rows, eD, pD, lr, okr, hh8, k8⟩
        have nD := hh7.ne hD
        refine ⟨rfl, _, rfl, (n : Int), rfl, by omega, by omega, fun D2 hD2 => lc_range (lo := 0) (n := n) (fun m H' => Drh a d p H8 D2 m H') (Drh.start hh8 hD2) ?_ ?_⟩
        · intro m H9 hm dr
          obtain ⟨_, _, _, hq9, _⟩ := id dr
          exact ⟨rfl, _, rfl, _, rfl, a, d, p, rfl, hp, hq9, fun r H10 r0 r1 hh10 k10 => dr.put hD2 hh8 (by omega) hh10 k10 r0 r1⟩
        · rintro H9 ⟨ys2, e2, ltr, hh9, k9⟩
          refine ⟨D2, _, rfl, .inl ⟨SqL.of e2, fun T hT => ?_⟩⟩
          obtain ⟨ds8, i8, ha8, _⟩ := id hh8
          have eD9 := k9 _ _ nD.1.symm eD
          have tk9 : TK H8 (upd H9 T (.tup (ys2.map V.int))) := (TK.keep k9 ha8 fun xs z => nomatch z).trans (TK.new hT)
          have eD10 := same_new (o := .tup (ys2.map V.int)) hT _ _ eD9
          have hh10 := hh9.new (o := .tup (ys2.map V.int)) hT
          have t1 : T1 (upd H9 T (.tup (ys2.map V.int))) (.ref T) ys2 := T1.mk upd_same
          have k10 : Keep a H8 (upd H9 T (.tup (ys2.map V.int))) := k9.trans (Keep.new hT)
          generalize upd H9 T (.tup (ys2.map V.int)) = H10 at tk9 eD10 hh10 t1 k10 ⊢
          have tkp : TK H10 (upd H10 D (.lst (ys ++ [.ref T]))) := TK.put eD10 fun xs z => nomatch z
          refine ⟨ys, eD10, by rw [paired_len pD, lr]; exact small1000 (by omega), ys ++ [.ref T], rows ++ [ys2], upd_same, paired_app (paired_mono (fun _ _ x => stb1 _ _ _ _ (tk9.trans tkp) x) pD) (.cons (stb1 _ _ _ _ tkp t1) .nil), by rw [List.length_append, lr]; rfl, fun r hr2 => ?_, hh10.put nD.1 nD.2, fun b u hb eb => ?_⟩
          · rcases List.mem_append.mp hr2 with h | h
            · exact okr r h
            · rw [List.mem_singleton.mp h]
              exact ltr
          · rw [upd_ne (ne_of_none eb hD)]
            exact k10 b u hb (k8 b u hb eb)
      · rintro H8 ⟨ys, rows, eD, pD, lr, okr, hh8, k8⟩
        have lh8 : ∃ o, H7 a = some (.lst o) := by obtain ⟨ds8, i8, x1, _⟩ := id hh7; exact ⟨_, x1⟩
        obtain ⟨_, ha7⟩ := lh8
        have gR := k8 _ _ na.1.symm gR
        have pR := paired_mono (fun _ _ x => stb2 _ _ _ _ (TK.keep k8 ha7 fun xs z => nomatch z) x) pR
        have k8 := k6.trans (k7.trans k8)
        refine ⟨_, rfl, D, _, rfl, .inl ⟨SqL.of eD, fun T hT => ?_⟩⟩
        have t2 : T2 (upd H8 T (.tup ys)) (.ref T) rows := ⟨T, ys, rfl, upd_same, paired_mono (fun _ _ x => stb1 _ _ _ _ (TK.new hT) x) pD⟩
        have sT := same_new (o := .tup ys) hT
        generalize upd H8 T (.tup ys) = H9 at t2 sT ⊢
        have gR := sT _ _ gR
        have eD := sT _ _ eD
        have pR := paired_mono (fun _ _ x => stb2 _ _ _ _ (TK.of sT) x) pR
        have pD := paired_mono (fun _ _ x => stb1 _ _ _ _ (TK.of sT) x) pD
        have hh9 := hh8.same sT
        have k9 := k8.trans (Keep.of sT)
        refine ⟨_, rfl, d2 rows, ms.map d2, dt2 _ _ _ t2, .lst (SqL.of gR) (dt_all dt2 pR), shaped2 _, shapedL _, _, rfl, ?_⟩
        cases e : (ms.map d2).any fun z => PyData.eqv z (d2 rows) with
        | true =>
          refine iteF ⟨fs, ms, _, _, rfl, gR, pR, nd6, by omega, fun _ => ?_, ok6, hh9, k9⟩
          cases ms with
          | nil => cases e
          | cons m r => exact Nat.succ_pos _
        | false =>
          have nin : rows ∉ ms := fun hm => by
            have z := List.any_eq_false.mp e (d2 rows) (List.mem_map_of_mem hm)
            exact z (eqv2r rows)
          refine iteT ⟨_, rfl, .inl ⟨rfl, _, SqL.of gR⟩, _, rfl, D, _, rfl, .inl ⟨SqL.of eD, fun T2' hT2 => ?_⟩⟩
          have gR2 := same_new (o := .tup ys) hT2 _ _ gR
          have pR2 := paired_mono (fun _ _ x => stb2 _ _ _ _ (TK.new (u := .tup ys) hT2) x) pR
          have t3 : T2 (upd H9 T2' (.tup ys)) (.ref T2') rows := ⟨T2', ys, rfl, upd_same, paired_mono (fun _ _ x => stb1 _ _ _ _ (TK.new hT2) x) pD⟩
          have hh10 := hh9.new (o := .tup ys) hT2
          have k10 := k9.trans (Keep.new (o := .tup ys) hT2)
          generalize upd H9 T2' (.tup ys) = H10 at gR2 pR2 t3 hh10 k10 ⊢
          have tkp : TK H10 (upd H10 R (.lst (fs ++ [.ref T2']))) := TK.put gR2 fun xs z => nomatch z
          refine ⟨R, fs, _, rfl, rfl, gR2, by rw [paired_len pR2]; exact small1000 (by omega), fs ++ [.ref T2'], ms ++ [rows], _, _, rfl, upd_same, paired_app (paired_mono (fun _ _ x => stb2 _ _ _ _ tkp x) pR2) (.cons (stb2 _ _ _ _ tkp t3) .nil), ?_, by rw [List.length_append]; show ms.length + 1 ≤ i + 1; omega, fun _ => by rw [List.length_append]; exact Nat.succ_pos _, fun m hm => ?_, hh10.put na.1 na.2, fun b u hb eb => ?_⟩
          · refine List.nodup_append.mpr ⟨nd6, by simp, fun x hx y hy => ?_⟩
            rw [List.mem_singleton.mp hy]
            exact fun z => nin (z ▸ hx)
          · rcases List.mem_append.mp hm with h | h
            · exact ok6 m h
            · rw [List.mem_singleton.mp h]
              exact ⟨by omega, okr⟩
          · rw [upd_ne (ne_of_none eb hR)]
            exact k10 b u hb eb
    · rintro σ H6 ⟨fs, ms, v5, v6, rfl, gR, pR, nd6, l6, z6, ok6, hh6, k6⟩
      refine ⟨_, rfl, R, fs, ms, rfl, gR, pR, nd6, by omega, fun y qs H7 s7 t7 ri pm => ?_⟩
      exact kk y qs H7 t7 ri (by rw [pm.length_eq]; exact z6 g0) (by rw [pm.length_eq]; omega) (fun m hm => ok6 m (pm.mem_iff.mp hm)) (hh6.same s7) (k6.trans (Keep.of s7))
end
end WU

set_option maxRecDepth 100000
set_option maxHeartbeats 8000000
/-! (a, b, ..) = a list of that length -/
namespace WU
open PySem PySem.Spec PyProof.Rows L2
section
variable {pg : Program} {wo : World} {Ar : Around} {Ex : Value → Shared → Prop} {st : Shared}
theorem drawn_of_list {it l : Addr} {ys : Array Value} (ne : l ≠ it) : ∀ (n i : Nat) (st : Shared) (Q : List Value → Shared → Prop), st.heap.IsListIter it l i → st.heap.IsList l ys → i + n ≤ ys.size →
    (∀ g, g.IsListIter it l (i + n) → Heap.SameBut it st.heap g → Q ((ys.toList.drop i).take n) { st with heap := g }) → wpAny (model pg wo) Ar (draw (.ref it) n) Q Ex st
  | 0, i, st, Q, hi, _, _, k => wpAny_pure (by simpa using k st.heap hi (Heap.SameBut.refl ..))
  | n + 1, i, st, Q, hi, hl, le, k => by
    have lt : i < ys.size := by omega
    refine wpAny_bind (wpAny_pyNext_list_item hi hl (x := ys[i]) (by simp [lt]) fun g1 hi1 sb1 => wpAny_bind (wpAny_holding ?_))
    refine drawn_of_list ne n (i + 1) _ _ hi1 (hl.extBut sb1.extBut ne) (by omega) fun g2 hi2 sb2 => wpAny_pure ?_
    have z := k g2 (by rw [show i + (n + 1) = i + 1 + n by omega]; exact hi2) (sb1.trans sb2)
    rw [show ys.toList.drop i = ys[i] :: ys.toList.drop (i + 1) by simp [List.drop_eq_getElem_cons, lt], List.take_succ_cons] at z
    exact z
theorem unpackItems_of_list {l : Addr} {ys : Array Value} {Q : List Value → Shared → Prop} (nh : Ar.handled = none) (hl : st.heap.IsList l ys)
    (k : ∀ g, Heap.ExtBut st.heap.objs.size st.heap g → Q ys.toList { st with heap := g }) : wpAny (model pg wo) Ar (unpackItems (.ref l) ys.size none) Q Ex st := by
  have lt : l ≠ st.heap.objs.size := by
    obtain ⟨o, ho, _⟩ := hl
    exact Nat.ne_of_lt (Heap.lt_size ho)
  unfold unpackItems
  refine wpAny_bind ?_
  unfold notIterableAtAll
  refine wpAny_bind (wpAny_specialOf hl.typeIs slot_list_iter.lookup (wpAny_pure ?_))
  simp only [Bool.false_eq_true, if_false]
  refine wpAny_bind (wpAny_holding (wpAny_pyIter_list hl (wpAny_bind (wpAny_holding ?_))))
  refine drawn_of_list lt ys.size 0 _ _ ⟨_, Heap.get?_push_size _ rfl, rfl, rfl⟩ (hl.push _) (by omega) fun g1 hi1 sb1 => ?_
  rw [show List.take ys.size (List.drop 0 ys.toList) = ys.toList by rw [List.drop_zero]; exact List.take_of_length_le (by simp), if_neg (by simp)]
  refine wpAny_bind (wpAny_holding (wpAny_pyNext_list_end nh hi1 ((hl.push _).extBut sb1.extBut lt) (by simp) fun g2 eb2 => ?_))
  simp only [Option.isSome_none, Bool.false_eq_true, if_false]
  exact wpAny_pure (k g2 fun b o hb e => eb2 b o hb (sb1.extBut b o hb (Heap.get?_push_of_some _ e)))
theorem assign_of_list {en : Env} {es : List Expr} {x1} {pos : Pos} {l : Addr} {ys : Array Value} {Q : Unit → Shared → Prop} (nh : Ar.handled = none) (hl : st.heap.IsList l ys)
    (hn : (assignEach es en).length = ys.size) (hst : (assignEach es en).findIdx? (·.1) = none)
    (k : ∀ g, Heap.ExtBut st.heap.objs.size st.heap g → wpAny (model pg wo) Ar (assignInOrder ((assignEach es en).map (·.2)) ys.toList) Q Ex { st with heap := g }) :
    wpAny (model pg wo) Ar (assign (.Tuple es x1 pos) en (.ref l)) Q Ex st := by
  rw [PyProof.Rows.assign_Tuple]
  refine wpAny_bind (wpAny_standAt ?_)
  unfold unpack
  rw [hn, hst]
  exact wpAny_bind (wpAny_holding (unpackItems_of_list nh hl k))
end
section
variable {X : Cx} {K : PySem.W.Frag} {pos : Pos}
def gUnl (K : PySem.W.Frag) (n : Nat) (t : TGs) : TG := fun v σ H Q => ∃ a xs, v = .ref a ∧ SqL K H a xs ∧ xs.length = n ∧ t xs σ H Q
theorem pg_unl0 {es : List Expr} {j : Nat} {t : TGs} {n : Nat} (hc : X.calm = true) (h : PGs X es t)
    (hn : (assignEach es X.env).length = n := by rfl) (hst : (assignEach es X.env).findIdx? (·.1) = none := by rfl) : PG X (.Tuple es j pos) (gUnl X.K n t) := by
  refine ⟨fun pins s σ H v u Q I r hw => ?_⟩
  obtain ⟨a, xs, rfl, hq, hl, hw⟩ := hw
  cases r
  obtain ⟨its, rv, hpl, hz⟩ := I.list hq
  refine assign_of_list (I.ok.hd hc) hpl.isList (by simp [hn, ← hl, rv.length]) hst fun g hx => ?_
  have I1 : Inv X pins σ H { s with heap := g } := I.kept (t' := s.toks) fun b o e => hx b o (Nat.ne_of_lt (Heap.lt_size e)) e
  exact h.run pins _ σ H xs _ Q I1 (by simpa using rv) hw
theorem pg_unl {es : List Expr} {j : Nat} {t : TGs} {n : Nat} (hc : X.calm = true) (h : PGs X es t) (hK : X.K = K := by rfl)
    (hn : (assignEach es X.env).length = n := by rfl) (hst : (assignEach es X.env).findIdx? (·.1) = none := by rfl) : PG X (.Tuple es j pos) (gUnl K n t) := hK ▸ pg_unl0 hc h hn hst
end
end WU

set_option maxRecDepth 100000
set_option maxHeartbeats 8000000
namespace WU
open PySem PySem.Spec PyProof.Rows L2
def forAsk : Stmt → Scope
  | .For _ _ (_ :: .Assign _ (.Call _ [.ListComp _ _ sc _] _ _) _ :: _) _ _ => sc
  | st => defScope st
/-- the questions of a house as they are drawn -/
def Qls (p : Int) (k : Nat) (qs : List (List (List Int))) : Prop := Ris qs ∧ 0 < qs.length ∧ qs.length ≤ 14 ∧ ∀ m ∈ qs, m.length ≤ 2 ∧ ∀ r ∈ m, Ltr p k r
structure Lpk (p : Int) (n c : Nat) (qss : List (List (List (List Int)))) (ds : List (Int × List (List Int))) : Prop where
  sz : (p, n, c) ∈ szs
  q0 : 0 < qss.length
  q3 : qss.length ≤ 3
  qok : ∀ qs ∈ qss, Qls p (n * c) qs
  d0 : 0 < ds.length
  d4 : ds.length ≤ 4
  dok : ∀ d ∈ ds, Dok c (lens qss) d
theorem szs_ok {p : Int} {n c : Nat} (h : (p, n, c) ∈ szs) : p ∈ primes ∧ 0 < n ∧ 0 < c ∧ n ≤ 10 ∧ c ≤ 10 := by
  have z : ∀ z ∈ szs, z.1 ∈ primes ∧ 0 < z.2.1 ∧ 0 < z.2.2 ∧ z.2.1 ≤ 10 ∧ z.2.2 ≤ 10 := by decide +kernel
  exact z _ h
theorem mul_le_100 {n c : Nat} (h1 : n ≤ 10) (h2 : c ≤ 10) : n * c ≤ 100 := Nat.le_trans (Nat.mul_le_mul h1 h2) (by decide)
theorem Lpk.ok {p : Int} {n c : Nat} {qss : List (List (List (List Int)))} {ds : List (Int × List (List Int))} (h : Lpk p n c qss ds) : Pok p n c qss ds := by
  obtain ⟨h1, h2, h3, h4, h5⟩ := szs_ok h.sz
  have h6 := mul_le_100 h4 h5
  exact ⟨h1, h2, h3, by omega, h.q0, by have := h.q3; omega, fun qs hq => by
    obtain ⟨a, b, c, e⟩ := h.qok qs hq
    exact ⟨a, by omega, by omega, fun m hm => ⟨by have := (e m hm).1; omega, (e m hm).2⟩⟩, h.d0, by have := h.d4; omega, h.dok⟩
theorem row_put {ys ls : List Int} {j : Nat} {r : Int} (hl : ys.length = j) (h : ∀ i, i < j → 0 ≤ at0 ys i ∧ at0 ys i < at0 ls i) (r0 : 0 ≤ r) (r1 : r < at0 ls j) : (ys ++ [r]).length = j + 1 ∧ ∀ i, i < j + 1 → 0 ≤ at0 (ys ++ [r]) i ∧ at0 (ys ++ [r]) i < at0 ls i := by
  refine ⟨by rw [List.length_append, hl]; rfl, fun i hi => ?_⟩
  by_cases e : i = j
  · subst e
    have z : at0 (ys ++ [r]) i = r := by
      rw [at0_lt (by rw [List.length_append, hl]; exact Nat.lt_succ_self _), List.getElem_append_right (by omega)]
      simp [hl]
    rw [z]
    exact ⟨r0, r1⟩
  · have z : at0 (ys ++ [r]) i = at0 ys i := by
      rw [at0_lt (by rw [List.length_append, hl]; exact hi), List.getElem_append_left (by omega), at0_lt (by omega)]
    rw [z]
    exact h i (by omega)
/-- the parts that were drawn, at l -/
structure PtAt (H : Hp) (l : Addr) (p : Int) (n c : Nat) (qv dv : V) (qss : List (List (List (List Int)))) (ds : List (Int × List (List Int))) : Prop where
  at_ : H l = some (.lst [.int p, .int n, .int c, qv, dv])
  q : T4 H qv qss
  d : TF TD H dv ds
theorem PtAt.same {H H' : Hp} {l : Addr} {p : Int} {n c : Nat} {qv dv : V} {qss : List (List (List (List Int)))} {ds : List (Int × List (List Int))} (h : PtAt H l p n c qv dv qss ds) (s : Same H H') : PtAt H' l p n c qv dv qss ds := ⟨s _ _ h.1, stb4 _ _ _ _ (TK.of s) h.2, stb_TF stb_TD _ _ _ _ (TK.of s) h.3⟩
theorem HandAt.tk {H H' : Hp} {a d : Addr} (h : HandAt H a d) (k : Keep a H H') : TK H H' := by
  obtain ⟨ds, i, h1, _⟩ := h
  exact TK.keep k h1 fun xs z => nomatch z
section
variable {P : Program} {w : World} {K : PySem.W.Frag} {mg : Str → Option Value} {base : Heap} {S : Addr}
/-- _law_parts(hand) -/
def spLPt : Sp := fun vs H Q _ => ∃ (a d : Addr), vs = [.ref a] ∧ HandAt H a d ∧ ∀ (l : Addr) (H' : Hp) (p : Int) (n c : Nat) (qv dv : V) (qss : List (List (List (List Int)))) (ds : List (Int × List (List Int))), PtAt H' l p n c qv dv qss ds → Lpk p n c qss ds → l ≠ a → HandAt H' a d → Keep a H H' → Q (.ref l) H'
theorem sclaw_parts : FnScope ["hand", "p", "size", "count", "questions", "draws", "d", "weight", "asks", "n", "wish", "one"] ["hand"] (defScope s_law_parts) := ⟨rfl, rfl, rfl, by decide +kernel, rfl, by decide +kernel, by decide +kernel⟩
theorem ok_LPt {f f1 f2 f3 : Addr} {fd fd1 fd2 fd3 : FuncData} (F : FnS K "_law_parts" s_law_parts f fd) (B : Blt4 mg) (CT : Cal P w K mg base 1 "_law_take" f1 fd1 ["hand", "many"] spTake) (CSz : Cal P w K mg base 2 "_law_library_size" f2 fd2 ["hand"] spLz) (CLQ : Cal P w K mg base 2 "_law_questions" f3 fd3 ["hand", "p", "columns"] spLQ) :
    FnOk P w K mg base (L2.CX P w) 3 f fd ["hand"] spLPt := by
  refine F.ok sclaw_parts (fun vs H Q E h => ?_) (fun cdv A outer s H vs Q E hr h => ?_)
  · obtain ⟨a, d, rfl, _⟩ := h
    rfl
  · obtain ⟨a, d, rfl, hh, kk⟩ := h
    have nd := sclaw_parts.nd
    refine ⟨_, (pss_cons (ps_asg (pe_cal CSz (hr.mono (by decide)) (pa_cons (pv 0) pa_nil) passU) (pg_tupK (K := K) (pg_tup rfl (pgs_cons (pg_name (i := 1) nd rfl (Or.inr rfl)) (pgs_cons (pg_name (i := 2) nd rfl (Or.inr rfl)) (pgs_cons (pg_name (i := 3) nd rfl (Or.inr rfl)) pgs_nil))))))
      (pss_cons (ps_set (i := 4) nd rfl (Or.inr rfl) (pe_callTy (tup_ofK (K := K)) (by rfl) B.tuple (by decide +kernel) (pa_cons (pe_lc (own := [("n", 9)]) (g := gName 9) (by rfl) nd (pi_range1 rfl B.range (pa_cons (pe_op op_add pe_int (pe_cal CT (hr.mono (by decide)) (pa_cons (pv 0) (pa_cons pe_int pa_nil)) passU)) pa_nil)) (blkOk_by (own := [("n", 9)]) (N := ["hand", "p", "size", "count", "questions", "draws", "d", "weight", "asks", "n", "wish", "one"]) (sc := defScope s_law_parts) (by decide +kernel)) (fun _ _ _ _ _ => (pg_name (i := 9) nd rfl (Or.inl rfl))) (fun _ _ _ _ _ => pts_nil) (fun _ _ _ _ _ => (pe_cal CLQ (hr.mono (by decide)) (pa_cons (pv 0) (pa_cons (pv 1) (pa_cons (pe_op op_mul (pv 2) (pv 3)) pa_nil))) passU))) pa_nil)))
      (pss_cons (ps_set (i := 5) nd rfl (Or.inl rfl) (pe_lst pa_nil))
      (pss_cons (ps_for (passes_of rfl) rfl (pi_range1 rfl B.range (pa_cons (pe_op op_add pe_int (pe_cal CT (hr.mono (by decide)) (pa_cons (pv 0) (pa_cons pe_int pa_nil)) passU)) pa_nil)) (pg_name (i := 6) nd rfl (Or.inl rfl)) (pss_cons (ps_set (i := 7) nd rfl (Or.inl rfl) (pe_ix (ix_listK (K := K)) (pe_lst (pa_cons (pe_op op_add pe_int (pe_cal CT (hr.mono (by decide)) (pa_cons (pv 0) (pa_cons pe_int pa_nil)) passU)) (pa_cons pe_int (pa_cons (pe_op op_add (pe_op op_pow pe_int pe_int) (pe_cal CT (hr.mono (by decide)) (pa_cons (pv 0) (pa_cons pe_int pa_nil)) passU)) pa_nil)))) (pe_cal CT (hr.mono (by decide)) (pa_cons (pv 0) (pa_cons pe_int pa_nil)) passU) (fun _ _ => rfl)))
      (pss_cons (ps_set (i := 8) nd rfl (Or.inl rfl) (pe_callTy (tup_ofK (K := K)) (by rfl) B.tuple (by decide +kernel) (pa_cons (pe_lc (own := [("wish", 10)]) (g := gName 10) (by rfl) nd (pi_range1 rfl B.range (pa_cons (pv 3) pa_nil)) (blkOk_by (own := [("wish", 10)]) (N := ["hand", "p", "size", "count", "questions", "draws", "d", "weight", "asks", "n", "wish", "one"]) (sc := defScope s_law_parts) (by decide +kernel)) (fun _ _ _ _ _ => (pg_name (i := 10) nd rfl (Or.inl rfl))) (fun _ _ _ _ _ => pts_nil) (fun _ _ _ _ _ => (pe_callTy (tup_ofK (K := K)) (by rfl) B.tuple (by decide +kernel) (pa_cons (pe_lc (own := [("one", 11)]) (g := gName 11) (by rfl) nd (pi_tupK (K := K) (pv 4)) (blkOk_by (own := [("one", 11)]) (N := ["hand", "p", "size", "count", "questions", "draws", "d", "weight", "asks", "n", "wish", "one"]) (sc := relS (forAsk ((defBody s_law_parts).getD 3 (.Pass ⟨0, 0, 0, 0⟩))) (defScope s_law_parts)) (by decide +kernel)) (fun _ _ _ _ _ => (pg_name (i := 11) nd rfl (Or.inl rfl))) (fun _ _ _ _ _ => pts_nil) (fun _ _ _ _ _ => (pe_cal CT (hr.mono (by decide)) (pa_cons (pv 0) (pa_cons (pe_callB (len_seqK (K := K)) (by rfl) B.len (by decide +kernel) (pa_cons (pv 11) pa_nil)) pa_nil)) passU))) pa_nil)))) pa_nil)))
      (pss_one (ps_expr (pe_bm PySem.F.plainAttrs_list PySem.F.slot_list_append PySem.F.type_list_append mt_append (pv 5) (pa_cons (pe_tup (pa_cons (pv 7) (pa_cons (pv 8) pa_nil))) pa_nil)))))))
      (pss_one (ps_ret (pe_lst (pa_cons (pv 1) (pa_cons (pv 2) (pa_cons (pv 3) (pa_cons (pv 4) (pa_cons (pe_callTy (tup_ofK (K := K)) (by rfl) B.tuple (by decide +kernel) (pa_cons (pv 5) pa_nil)) pa_nil)))))))))))), ?_⟩
    refine ⟨_, rfl, a, d, rfl, hh, fun y H1 p n c hsz ty hh1 k1 => ?_⟩
    obtain ⟨hp, n0, c0, n10, c10⟩ := szs_ok hsz
    have hb := fld_le hp
    have hnc := mul_le_100 n10 c10
    obtain ⟨yc, yxs, rfl, hyc, hyp⟩ := ty
    have ey := fi_map hyp
    subst ey
    refine ⟨yc, _, rfl, SqT.of hyc, rfl, _, _, rfl, _, _, rfl, _, _, rfl, rfl, ?_⟩
    refine ⟨_, rfl, a, d, 3, rfl, by decide, hh1, fun r1 H2 r10 r11 hh2 k2 => ?_⟩
    obtain ⟨g1, rfl⟩ : ∃ g : Nat, r1 = (g : Int) := ⟨r1.toNat, by omega⟩
    have k2 := k1.trans k2
    refine ⟨_, _, rfl, rfl, 1 + (g1 : Int), rfl, by omega, by omega, fun D hD => lc_range (lo := 0) (n := (1 + (g1 : Int)).toNat) (fun i H' => ∃ ys qss, H' D = some (.lst ys) ∧ Paired (T3 H') ys qss ∧ qss.length = i ∧ (∀ qs ∈ qss, Qls p (n * c) qs) ∧ HandAt H' a d ∧ Keep a H2 H') ⟨[], [], upd_same, .nil, rfl, (fun r z => nomatch z), hh2.new hD, Keep.new hD⟩ ?_ ?_⟩
    · rintro i H3 hi ⟨ys, qss, eD, pD, lq, okq, hh3, k3⟩
      have nD := hh2.ne hD
      refine ⟨rfl, _, rfl, _, rfl, _, rfl, _, rfl, _, _, rfl, rfl, .inl ⟨by omega, by omega⟩, ?_⟩
      dsimp only
      rw [show ((n : Int) * (c : Int)) = ((n * c : Nat) : Int) from (Int.natCast_mul n c).symm]
      refine ⟨a, d, p, n * c, rfl, hh3, by omega, hnc, fun y qs H4 t3 ri q0 q14 qm hh4 k4 => ?_⟩
      have tk := hh3.tk k4
      have eD := k4 _ _ nD.1.symm eD
      have tkp : TK H4 (upd H4 D (.lst (ys ++ [y]))) := TK.put eD fun xs z => nomatch z
      refine ⟨ys, eD, by rw [paired_len pD, lq]; exact small1000 (by omega), ys ++ [y], qss ++ [qs], upd_same, paired_app (paired_mono (fun _ _ x => stb3 _ _ _ _ (tk.trans tkp) x) pD) (.cons (stb3 _ _ _ _ tkp t3) .nil), by rw [List.length_append, lq]; rfl, fun q hq => ?_, hh4.put nD.1 nD.2, fun b u hb eb => ?_⟩
      · rcases List.mem_append.mp hq with h | h
        · exact okq q h
        · rw [List.mem_singleton.mp h]
          exact ⟨ri, q0, q14, qm⟩
      · rw [upd_ne (ne_of_none eb hD)]
        exact k4 b u hb (k3 b u hb eb)
    · rintro H3 ⟨ys, qss, eD, pD, lq, okq, hh3, k3⟩
      refine ⟨D, _, rfl, .inl ⟨SqL.of eD, fun T hT => ?_⟩⟩
      have k4 : Keep a H (upd H3 T (.tup ys)) := k2.trans (k3.trans (Keep.new hT))
      have t4 : T4 (upd H3 T (.tup ys)) (.ref T) qss := ⟨T, ys, rfl, upd_same, paired_mono (fun _ _ x => stb3 _ _ _ _ (TK.new hT) x) pD⟩
      have eT : upd H3 T (.tup ys) T = some (.tup ys) := upd_same
      have hh4 := hh3.new (o := .tup ys) hT
      generalize upd H3 T (.tup ys) = H4 at k4 t4 eT hh4 ⊢
      have l3 : qss.length ≤ 3 := by omega
      have l0 : 0 < qss.length := by omega
      have elq := paired_len pD
      refine ⟨(by show 0 ≤ sizeLine; decide), fun R hR => ?_⟩
      have nR := hh4.ne hR
      have k5 : Keep a H (upd H4 R (.lst [])) := k4.trans (Keep.new hR)
      have t4 := stb4 _ _ _ _ (TK.new (u := .lst []) hR) t4
      have hh5 := hh4.new (o := .lst []) hR
      have eR : upd H4 R (.lst []) R = some (.lst []) := upd_same
      have eT := same_new (o := .lst []) hR _ _ eT
      generalize upd H4 R (.lst []) = H5 at k5 t4 hh5 eR eT ⊢
      refine ⟨_, rfl, a, d, 4, rfl, by decide, hh5, fun r2 H6 r20 r21 hh6 k6 => ?_⟩
      have tk6 := hh5.tk k6
      have eR := k6 _ _ nR.1.symm eR
      have t4 := stb4 _ _ _ _ tk6 t4
      have eT := tk6 _ _ eT
      have k6 := k5.trans k6
      obtain ⟨g2, rfl⟩ : ∃ g : Nat, r2 = (g : Int) := ⟨r2.toNat, by omega⟩
      refine ⟨_, _, rfl, rfl, 1 + (g2 : Int), rfl, by omega, by omega, for_range (lo := 0) (n := (1 + (g2 : Int)).toNat) (fun i σ H' => ∃ (ys : List V) (ds : List (Int × List (List Int))) (v6 v7 v8 : Option V), σ = [some (.ref a), some (.int p), some (.int (n : Int)), some (.int (c : Int)), some (.ref T), some (.ref R), v6, v7, v8, none, none, none] ∧ H' R = some (.lst ys) ∧ Paired (TD H') ys ds ∧
        ds.length = i ∧ (∀ q ∈ ds, Dok c (lens qss) q) ∧ T4 H' (.ref T) qss ∧ HandAt H' a d ∧ Keep a H H') ⟨[], [], none, none, none, rfl, eR, .nil, rfl, (fun r z => nomatch z), t4, hh6, k6⟩ ?_ ?_⟩
      · rintro i σ H7 hi ⟨ys, ds, v6, v7, v8, rfl, eR, pR, ld, okd, t4, hh7, k7⟩
        refine ⟨_, rfl, a, d, 9, rfl, by decide, hh7, fun s1 H8 s10 s11 hh8 k8 => ?_⟩
        refine ⟨_, _, rfl, rfl, ?_⟩
        refine ⟨_, _, rfl, rfl, ⟨by decide, by decide, by decide⟩, _, rfl, a, d, 9, rfl, by decide, hh8, fun s2 H9 s20 s21 hh9 k9 => ?_⟩
        have tk9 := (hh7.tk k8).trans (hh8.tk k9)
        have eR := k9 _ _ nR.1.symm (k8 _ _ nR.1.symm eR)
        have pR := paired_mono (fun _ _ x => stb_TD _ _ _ _ tk9 x) pR
        have t4 := stb4 _ _ _ _ tk9 t4
        have k9 := k7.trans (k8.trans k9)
        refine ⟨_, _, rfl, rfl, (by show 3 ≤ sizeLine; decide), fun q nq => ?_⟩
        have nqa := hh9.ne nq
        have eR := same_new (o := .lst [.int (1 + s1), .int 1, .int (10 ^ (30 : Int).toNat + s2)]) nq _ _ eR
        have pR := paired_mono (fun _ _ x => stb_TD _ _ _ _ (TK.new (u := .lst [.int (1 + s1), .int 1, .int (10 ^ (30 : Int).toNat + s2)]) nq) x) pR
        have t4 := stb4 _ _ _ _ (TK.new (u := .lst [.int (1 + s1), .int 1, .int (10 ^ (30 : Int).toNat + s2)]) nq) t4
        have hhA := hh9.new (o := .lst [.int (1 + s1), .int 1, .int (10 ^ (30 : Int).toNat + s2)]) nq
        have kA : Keep a H (upd H9 q (.lst [.int (1 + s1), .int 1, .int (10 ^ (30 : Int).toNat + s2)])) := k9.trans (Keep.new nq)
        have eq : upd H9 q (.lst [.int (1 + s1), .int 1, .int (10 ^ (30 : Int).toNat + s2)]) q = some (.lst [.int (1 + s1), .int 1, .int (10 ^ (30 : Int).toNat + s2)]) := upd_same
        generalize upd H9 q (.lst [.int (1 + s1), .int 1, .int (10 ^ (30 : Int).toNat + s2)]) = HA at eR pR t4 hhA kA eq ⊢
        refine ⟨_, rfl, a, d, 3, rfl, by decide, hhA, fun s3 HB s30 s31 hhB kB => ?_⟩
        have tkB := hhA.tk kB
        have eR := kB _ _ nR.1.symm eR
        have eq := kB _ _ nqa.1.symm eq
        have pR := paired_mono (fun _ _ x => stb_TD _ _ _ _ tkB x) pR
        have t4 := stb4 _ _ _ _ tkB t4
        have kB := kA.trans kB
        obtain ⟨wt, wt0, hw⟩ : ∃ wt : Int, 0 < wt ∧ ∀ Q' : VK, Q' (.int wt) HB → rIxL K (.ref q) (.int s3) HB Q' := by
          have hd : s3 = 0 ∨ s3 = 1 ∨ s3 = 2 := by omega
          rcases hd with e | e | e
          · subst e
            exact ⟨1 + s1, by omega, fun Q' h => ⟨q, _, 0, _, rfl, rfl, SqL.of eq, rfl, h⟩⟩
          · subst e
            exact ⟨1, by decide, fun Q' h => ⟨q, _, 1, _, rfl, rfl, SqL.of eq, rfl, h⟩⟩
          · subst e
            exact ⟨10 ^ (30 : Int).toNat + s2, by rw [big30']; omega, fun Q' h => ⟨q, _, 2, _, rfl, rfl, SqL.of eq, rfl, h⟩⟩
        refine hw _ ?_
        clear hw
        refine ⟨_, rfl, (c : Int), rfl, by omega, by omega, fun D1 hD1 => lc_range (lo := 0) (n := c) (fun j H' => ∃ zs rows, H' D1 = some (.lst zs) ∧ Paired (T1 H') zs rows ∧ rows.length = j ∧ (∀ r ∈ rows, r.length = (lens qss).length ∧ ∀ j, j < (lens qss).length → 0 ≤ at0 r j ∧ at0 r j < at0 (lens qss) j) ∧ HandAt H' a d ∧ Keep a HB H') ⟨[], [], upd_same, .nil, rfl, (fun r z => nomatch z), hhB.new hD1, Keep.new hD1⟩ ?_ ?_⟩
        · rintro j HC hj ⟨zs, rows, eD1, pD1, lr, okr, hhC, kC⟩
          have nD1 := hhB.ne hD1
          have t4C := stb4 _ _ _ _ (hhB.tk kC) t4
          obtain ⟨T', txs, eT', hTx, hTp⟩ := id t4C
          cases eT'
          have elt := paired_len hTp
          refine ⟨rfl, _, rfl, T, rfl, ⟨_, SqT.of hTx⟩, fun D2 hD2 => lc_tup (K := K) (a := T) (xs := txs) (fun m H' => ∃ rs : List Int, H' D2 = some (.lst (rs.map V.int)) ∧ rs.length = m ∧ (∀ i, i < m → 0 ≤ at0 rs i ∧ at0 rs i < at0 (lens qss) i) ∧ HandAt H' a d ∧ Keep a HC H') ⟨[], upd_same, rfl, (fun i z => nomatch z), hhC.new hD2, Keep.new hD2⟩ (fun i H' _ z => by
            obtain ⟨_, _, _, _, _, kz⟩ := z
            exact SqT.of (hhC.tk kz _ _ hTx)) ?_ ?_⟩
          · rintro m x HD hx ⟨rs, eD2, lm, okm, hhD, kD⟩
            have nD2 := hhC.ne hD2
            obtain ⟨qs, hqs, fq⟩ := paired_at hTp hx
            obtain ⟨qc, qxs, rfl, hqc, hqp⟩ := stb3 _ _ _ _ (hhC.tk kD) fq
            have hm : m < qss.length := (List.getElem?_eq_some_iff.mp hqs).1
            have okq1 := okq qs (List.mem_of_getElem? hqs)
            refine ⟨rfl, _, rfl, _, rfl, qc, _, rfl, .inr (SqT.of hqc), ?_⟩
            rw [paired_len hqp]
            refine ⟨a, d, _, rfl, by have := okq1.2.1; omega, hhD, fun r HE r0 r1 hhE kE => ?_⟩
            have el : at0 (lens qss) m = (qs.length : Int) := by
              rw [at0_lt (by rw [lens_len]; exact hm)]
              unfold lens
              rw [List.getElem_map]
              rw [List.getElem?_eq_getElem hm] at hqs
              rw [Option.some.inj hqs]
            obtain ⟨p1, p2⟩ := row_put lm okm r0 (by rw [el]; exact r1)
            refine ⟨_, kE D2 _ nD2.1.symm eD2, by rw [List.length_map]; exact small1000 (by omega), rs ++ [r], by rw [upd_same, List.map_append]; rfl, p1, p2, hhE.put nD2.1 nD2.2, fun b u hb eb => ?_⟩
            rw [upd_ne (ne_of_none eb hD2)]
            exact kE b u hb (kD b u hb eb)
          · rintro HD ⟨rs, eD2, lm, okm, hhD, kD⟩
            refine ⟨D2, _, rfl, .inl ⟨SqL.of eD2, fun Z hZ => ?_⟩⟩
            have eD1 := kD _ _ nD1.1.symm eD1
            have tkD : TK HC (upd HD Z (.tup (rs.map V.int))) := (hhC.tk kD).trans (TK.new hZ)
            have eD1 := same_new (o := .tup (rs.map V.int)) hZ _ _ eD1
            have hhE := hhD.new (o := .tup (rs.map V.int)) hZ
            have t1 : T1 (upd HD Z (.tup (rs.map V.int))) (.ref Z) rs := T1.mk upd_same
            have kE : Keep a HC (upd HD Z (.tup (rs.map V.int))) := kD.trans (Keep.new hZ)
            generalize upd HD Z (.tup (rs.map V.int)) = HE at tkD eD1 hhE t1 kE ⊢
            have tkp : TK HE (upd HE D1 (.lst (zs ++ [.ref Z]))) := TK.put eD1 fun xs z => nomatch z
            refine ⟨zs, eD1, by rw [paired_len pD1, lr]; exact small1000 (by omega), zs ++ [.ref Z], rows ++ [rs], upd_same, paired_app (paired_mono (fun _ _ x => stb1 _ _ _ _ (tkD.trans tkp) x) pD1) (.cons (stb1 _ _ _ _ tkp t1) .nil), by rw [List.length_append, lr]; rfl, fun r hr2 => ?_, hhE.put nD1.1 nD1.2, fun b u hb eb => ?_⟩
            · rcases List.mem_append.mp hr2 with h | h
              · exact okr r h
              · rw [List.mem_singleton.mp h, lens_len, ← elt, lm]
                exact ⟨rfl, okm⟩
            · rw [upd_ne (ne_of_none eb hD1)]
              exact kE b u hb (kC b u hb eb)
        · rintro HC ⟨zs, rows, eD1, pD1, lr, okr, hhC, kC⟩
          refine ⟨D1, _, rfl, .inl ⟨SqL.of eD1, fun Z hZ => ?_⟩⟩
          have tkC : TK HB (upd HC Z (.tup zs)) := (hhB.tk kC).trans (TK.new hZ)
          have t2 : T2 (upd HC Z (.tup zs)) (.ref Z) rows := ⟨Z, zs, rfl, upd_same, paired_mono (fun _ _ x => stb1 _ _ _ _ (TK.new hZ) x) pD1⟩
          have eR := same_new (o := .tup zs) hZ _ _ (kC _ _ nR.1.symm eR)
          have pR := paired_mono (fun _ _ x => stb_TD _ _ _ _ tkC x) pR
          have t4 := stb4 _ _ _ _ tkC t4
          have hhD := hhC.new (o := .tup zs) hZ
          have kD : Keep a H (upd HC Z (.tup zs)) := kB.trans (kC.trans (Keep.new hZ))
          generalize upd HC Z (.tup zs) = HD at t2 eR pR t4 hhD kD ⊢
          refine ⟨_, rfl, .inl ⟨rfl, _, SqL.of eR⟩, _, rfl, _, rfl, (by show 2 ≤ sizeLine; decide), fun Y hY => ?_⟩
          have eR := same_new (o := .tup [.int wt, .ref Z]) hY _ _ eR
          have pR := paired_mono (fun _ _ x => stb_TD _ _ _ _ (TK.new (u := .tup [.int wt, .ref Z]) hY) x) pR
          have t4 := stb4 _ _ _ _ (TK.new (u := .tup [.int wt, .ref Z]) hY) t4
          have td : TD (upd HD Y (.tup [.int wt, .ref Z])) (.ref Y) (wt, rows) := ⟨Y, .ref Z, rfl, upd_same, stb2 _ _ _ _ (TK.new hY) t2⟩
          have hhE := hhD.new (o := .tup [.int wt, .ref Z]) hY
          have kE : Keep a H (upd HD Y (.tup [.int wt, .ref Z])) := kD.trans (Keep.new hY)
          generalize upd HD Y (.tup [.int wt, .ref Z]) = HE at eR pR t4 td hhE kE ⊢
          have tkp : TK HE (upd HE R (.lst (ys ++ [.ref Y]))) := TK.put eR fun xs z => nomatch z
          refine ⟨R, ys, _, rfl, rfl, eR, by rw [paired_len pR]; exact small1000 (by omega), ys ++ [.ref Y], ds ++ [(wt, rows)], _, _, _, rfl, upd_same, paired_app (paired_mono (fun _ _ x => stb_TD _ _ _ _ tkp x) pR) (.cons (stb_TD _ _ _ _ tkp td) .nil), by rw [List.length_append, ld]; rfl, fun q hq => ?_, stb4 _ _ _ _ tkp t4, hhE.put nR.1 nR.2, fun b u hb eb => ?_⟩
          · rcases List.mem_append.mp hq with h | h
            · exact okd q h
            · rw [List.mem_singleton.mp h]
              refine ⟨wt0, lr, ?_, by omega, okr⟩
              rw [lens_len]
              exact Nat.le_trans (Nat.mul_le_mul c10 l3) (by decide)
          · have nbR : b ≠ R := by
              intro z
              subst z
              have z := k4 _ _ hb eb
              rw [hR] at z
              cases z
            rw [upd_ne nbR]
            exact kE b u hb eb
      · rintro σ H7 ⟨ys, ds, v6, v7, v8, rfl, eR, pR, ld, okd, t4, hh7, k7⟩
        refine ⟨_, rfl, _, rfl, _, rfl, _, rfl, _, rfl, R, ys, rfl, .inl ⟨SqL.of eR, fun Z hZ => ?_⟩⟩
        have tkZ : TK H7 (upd H7 Z (.tup ys)) := TK.new hZ
        have tdv : TF TD (upd H7 Z (.tup ys)) (.ref Z) ds := ⟨Z, ys, rfl, upd_same, paired_mono (fun _ _ x => stb_TD _ _ _ _ tkZ x) pR⟩
        have t4 := stb4 _ _ _ _ tkZ t4
        have hh8 := hh7.new (o := .tup ys) hZ
        have k8 : Keep a H (upd H7 Z (.tup ys)) := k7.trans (Keep.new hZ)
        generalize upd H7 Z (.tup ys) = H8 at tdv t4 hh8 k8 ⊢
        refine ⟨(by show 5 ≤ sizeLine; decide), fun l hl => ?_⟩
        exact kk l _ p n c (.ref T) (.ref Z) qss ds ⟨upd_same, stb4 _ _ _ _ (TK.new hl) t4, stb_TF stb_TD _ _ _ _ (TK.new hl) tdv⟩ ⟨hsz, l0, l3, okq, by omega, by omega, okd⟩ (fun z => (hh8.ne hl).1 z.symm) (hh8.new hl) (k8.trans (Keep.new hl))
end
end WU

set_option maxRecDepth 100000
set_option maxHeartbeats 8000000
namespace WU
open PySem PySem.Spec PyProof.Rows L2
theorem eqV_up : ∀ {n : Nat} {H : Hp} {u v : V}, EqV n H u v → EqV (n + 1) H u v
  | 0, _, _, _, h => .inl h
  | n + 1, _, _, _, .inl h => .inl h
  | n + 1, H, _, _, .inr ⟨a, b, xs, ys, e1, e2, h1, h2, p, l⟩ => .inr ⟨a, b, xs, ys, e1, e2, h1, h2, paired_mono (fun _ _ h => eqV_up h) p, l⟩
theorem eqv4 {H : Hp} {u v : V} {q : List (List (List (List Int)))} (a : T4 H u q) (b : T4 H v q) (hm : ∀ m ∈ q, m.length ≤ 10000 ∧ ∀ r ∈ m, r.length ≤ 10000 ∧ ∀ l ∈ r, l.length ≤ 10000) (h : q.length ≤ 10000) : EqV 4 H u v :=
  eqv_TF (B := fun m => m.length ≤ 10000 ∧ ∀ r ∈ m, r.length ≤ 10000 ∧ ∀ l ∈ r, l.length ≤ 10000) (fun _ _ _ hb x y => eqv3 x y hb.2 hb.1) a b hm h
theorem eqvD {H : Hp} {u v : V} {d : Int × List (List Int)} (a : TD H u d) (b : TD H v d) (hr : ∀ r ∈ d.2, r.length ≤ 10000) (h : d.2.length ≤ 10000) : EqV 3 H u v := by
  obtain ⟨c, y, rfl, hc, ty⟩ := a
  obtain ⟨e, z, rfl, he, tz⟩ := b
  exact .inr ⟨c, e, _, _, rfl, rfl, hc, he, .cons (.inl ⟨_, rfl, rfl⟩) (.cons (eqv2 ty tz hr h) .nil), by show 2 ≤ 10000; decide⟩
theorem eqvDs {H : Hp} {u v : V} {ds : List (Int × List (List Int))} (a : TF TD H u ds) (b : TF TD H v ds) (hm : ∀ d ∈ ds, d.2.length ≤ 10000 ∧ ∀ r ∈ d.2, r.length ≤ 10000) (h : ds.length ≤ 10000) : EqV 4 H u v :=
  eqv_TF (B := fun d => d.2.length ≤ 10000 ∧ ∀ r ∈ d.2, r.length ≤ 10000) (fun _ _ _ hb x y => eqvD x y hb.2 hb.1) a b hm h
section
variable {p : Int} {n c : Nat} {qss : List (List (List (List Int)))} {ds : List (Int × List (List Int))}
theorem Lpk.eqq (h : Lpk p n c qss ds) {H : Hp} {u v : V} (a : T4 H u qss) (b : T4 H v qss) : EqV 4 H u v := by
  have h6 := szs_ok h.sz
  have h7 := mul_le_100 h6.2.2.2.1 h6.2.2.2.2
  refine eqv4 a b (fun m hm => ?_) (by have := h.q3; omega)
  obtain ⟨_, _, h3, h4⟩ := h.qok m hm
  exact ⟨by omega, fun r hr => ⟨by have := (h4 r hr).1; omega, fun l hl => by rw [((h4 r hr).2 l hl).1]; omega⟩⟩
theorem Lpk.eqd (h : Lpk p n c qss ds) {H : Hp} {u v : V} (a : TF TD H u ds) (b : TF TD H v ds) : EqV 4 H u v := by
  refine eqvDs a b (fun d hd => ?_) (by have := h.d4; omega)
  obtain ⟨_, h2, _, h4, h5⟩ := h.dok d hd
  refine ⟨by omega, fun r hr => ?_⟩
  rw [(h5 r hr).1, lens_len]
  have := h.q3
  omega
end
/-- the methods of a Plan -/
structure PlM (P : Program) (w : World) (K : PySem.W.Frag) (mg : Str → Option Value) (base : Heap) (L LL fAd fAr fAz fAw fAn : Addr) (fdAd fdAr fdAz fdAw fdAn : FuncData) : Prop where
  mAd : Meth K L "asked" fAd
  gAd : FnOk P w K mg base (L2.CX P w) 6 fAd fdAd ["self", "wish", "draw"] (spAd K L)
  bAd : L2.Binds K fdAd ["self", "wish", "draw"] []
  mAr : Meth K L "asked_rows" fAr
  gAr : FnOk P w K mg base (L2.CX P w) 7 fAr fdAr ["self", "wish", "draw"] (spAr K L)
  bAr : L2.Binds K fdAr ["self", "wish", "draw"] []
  kAr : KBn K fdAr ["self", "wish", "draw"] 1 ["draw", "wish"] (fun us ws => us ++ ws.reverse) (fun vs zs => vs ++ zs.reverse)
  mAz : Meth K L "answer_size" fAz
  gAz : FnOk P w K mg base (L2.CX P w) 5 fAz fdAz ["self", "house", "question"] (spAz K L)
  bAz : L2.Binds K fdAz ["self", "house", "question"] []
  mAw : Meth K L "answer" fAw
  gAw : FnOk P w K mg base (L2.CX P w) 9 fAw fdAw ["self", "house", "question", "library"] (spAw K L LL)
  bAw : L2.Binds K fdAw ["self", "house", "question", "library"] []
  mAn : Meth K L "answers" fAn
  gAn : FnOk P w K mg base (L2.CX P w) 10 fAn fdAn ["self", "wish", "draw", "library"] (spAn K L LL)
  bAn : L2.Binds K fdAn ["self", "wish", "draw", "library"] []
section
variable {P : Program} {w : World} {K : PySem.W.Frag} {mg : Str → Option Value} {base : Heap} {L LL : Addr}
/-- _law_is_plan(plan, parts) -/
def spLip (L : Addr) : Sp := fun vs H Q _ => ∃ (x l : Addr) (p : Int) (n c : Nat) (qv dv : V) (qss : List (List (List (List Int)))) (ds : List (Int × List (List Int))), vs = [.ref x, .ref l] ∧ PlAt L H x p n c qss ds ∧ PtAt H l p n c qv dv qss ds ∧ Lpk p n c qss ds ∧ ∀ H', Same H H' → Q (.bl true) H'
theorem sclaw_is_plan : FnScope ["plan", "parts", "p", "size", "count", "questions", "draws", "told", "weight", "draw"] ["plan", "parts"] (defScope s_law_is_plan) := ⟨rfl, rfl, rfl, by decide +kernel, rfl, by decide +kernel, by decide +kernel⟩
theorem ok_Lip {f f1 : Addr} {fd fd1 : FuncData} (F : FnS K "_law_is_plan" s_law_is_plan f fd) (B : Blt5 mg) (C : PlC K mg L) (CS : Cal P w K mg base 5 "_law_same" f1 fd1 ["found", "due"] (spSm 4)) : FnOk P w K mg base (L2.CX P w) 6 f fd ["plan", "parts"] (spLip L) := by
  refine F.ok sclaw_is_plan (fun vs H Q E h => ?_) (fun cdv A outer s H vs Q E hr h => ?_)
  · obtain ⟨x, l, p, n, c, qv, dv, qss, ds, rfl, _⟩ := h
    rfl
  · obtain ⟨x, l, p, n, c, qv, dv, qss, ds, rfl, hpl, hpt, ok, kk⟩ := h
    have nd := sclaw_is_plan.nd
    refine ⟨_, (pss_cons (ps_asg (pv 1) (pg_unl (K := K) rfl (pgs_cons (pg_name (i := 2) nd rfl (Or.inl rfl)) (pgs_cons (pg_name (i := 3) nd rfl (Or.inl rfl)) (pgs_cons (pg_name (i := 4) nd rfl (Or.inl rfl)) (pgs_cons (pg_name (i := 5) nd rfl (Or.inl rfl)) (pgs_cons (pg_name (i := 6) nd rfl (Or.inl rfl)) pgs_nil)))))))
      (pss_cons (ps_set (i := 7) nd rfl (Or.inl rfl) (pe_tup (pa_cons (pe_fld (pv 0) rfl) (pa_cons (pe_fld (pv 0) rfl) (pa_cons (pe_fld (pv 0) rfl) (pa_cons (pe_fld (pv 0) rfl) pa_nil))))))
      (pss_cons (ps_if (pt_not (pt_val (pe_cal CS (hr.mono (by decide)) (pa_cons (pv 7) (pa_cons (pe_tup (pa_cons (pv 2) (pa_cons (pv 3) (pa_cons (pv 4) (pa_cons (pe_callB (len_seqK (K := K)) (by rfl) B.len (by decide +kernel) (pa_cons (pv 5) pa_nil)) pa_nil))))) pa_nil)) passU))) (pss_one (ps_ret pe_bl)) pss_nil)
      (pss_cons (ps_set (i := 8) nd rfl (Or.inl rfl) (pe_callB (cr_sumK (K := K) rfl) (by rfl) B.sum (by decide +kernel) (pa_cons (pe_lc (own := [("draw", 9)]) (g := gName 9) (by rfl) nd (pi_tupK (K := K) (pv 6)) (blkOk_by (own := [("draw", 9)]) (N := ["plan", "parts", "p", "size", "count", "questions", "draws", "told", "weight", "draw"]) (sc := defScope s_law_is_plan) (by decide +kernel)) (fun _ _ _ _ _ => (pg_name (i := 9) nd rfl (Or.inl rfl))) (fun _ _ _ _ _ => pts_nil) (fun _ _ _ _ _ => (pe_callTy call_int1 (by rfl) B.int (by decide +kernel) (pa_cons (pe_ix (ix_tupK (K := K)) (pv 9) pe_int (fun _ _ => rfl)) pa_nil)))) pa_nil)))
      (pss_one (ps_ret (pe_and (pe_cal CS (hr.mono (by decide)) (pa_cons (pe_fld (pv 0) rfl) (pa_cons (pv 5) pa_nil)) passU) (pe_and (pe_cal CS (hr.mono (by decide)) (pa_cons (pe_fld (pv 0) rfl) (pa_cons (pv 6) pa_nil)) passU) (pe_one (pe_cal CS (hr.mono (by decide)) (pa_cons (pe_fld (pv 0) rfl) (pa_cons (pv 8) pa_nil)) passU)))))))))), ?_⟩
    obtain ⟨dx, q0, d0, hx, hq, hd⟩ := id hpl
    obtain ⟨qa, qxs, eqa, hqa, hqp⟩ := id hpt.q
    obtain ⟨da, dxs, eda, hda, hdp⟩ := id hpt.d
    subst eqa eda
    refine ⟨_, rfl, l, _, rfl, SqL.of hpt.at_, rfl, _, _, rfl, _, _, rfl, _, _, rfl, _, _, rfl, _, _, rfl, rfl, ?_⟩
    refine ⟨_, rfl, x, L, dx, _, _, rfl, hx, C.cl, C.nP, pf_p, _, rfl, x, L, dx, _, _, rfl, hx, C.cl, C.nL, pf_book_length, _, rfl, x, L, dx, _, _, rfl, hx, C.cl, C.nC, pf_book_count, _, rfl, x, L, dx, _, _, rfl, hx, C.cl, C.nH, pf_house_count, (by show 4 ≤ sizeLine; decide), fun t ht => ?_⟩
    have s1 := same_new (o := .tup [.int p, .int n, .int c, .int qss.length]) ht
    have et : upd H t (.tup [.int p, .int n, .int c, .int qss.length]) t = some (.tup [.int p, .int n, .int c, .int qss.length]) := upd_same
    generalize upd H t (.tup [.int p, .int n, .int c, .int qss.length]) = H1 at s1 et ⊢
    refine ⟨_, rfl, _, rfl, _, rfl, _, rfl, _, rfl, qa, _, rfl, .inr (SqT.of (s1 _ _ hqa)), (by show 4 ≤ sizeLine; decide), fun u hu => ?_⟩
    rw [paired_len hqp]
    have s2 := same_new (o := .tup [.int p, .int n, .int c, .int qss.length]) hu
    have eu : upd H1 u (.tup [.int p, .int n, .int c, .int qss.length]) u = some (.tup [.int p, .int n, .int c, .int qss.length]) := upd_same
    generalize upd H1 u (.tup [.int p, .int n, .int c, .int qss.length]) = H2 at s2 eu ⊢
    refine ⟨.ref t, .ref u, rfl, eqV_up (eqV_up (eqV_up (eqv1 (r := [p, n, c, qss.length]) (T1.mk (s2 _ _ et)) (T1.mk eu) (by show 4 ≤ 10000; decide)))), _, rfl, iteF ?_⟩
    have s2 := s1.trans s2
    refine ⟨_, rfl, da, rfl, ⟨_, SqT.of (s2 _ _ hda)⟩, fun D hD => lc_tup (K := K) (a := da) (xs := dxs) (fun i H' => Same H2 H' ∧ H' D = some (.lst (((ds.map (·.1)).take i).map V.int))) ⟨same_new hD, upd_same⟩ (fun i H' _ z => SqT.of (z.1 _ _ (s2 _ _ hda))) ?_ ?_⟩
    · rintro i y H3 hy ⟨z1, z2⟩
      obtain ⟨d, hdd, cd, yv, rfl, hcd, _⟩ := paired_at hdp hy
      refine ⟨rfl, _, rfl, cd, _, (0 : Int), _, rfl, rfl, SqT.of (z1 _ _ (s2 _ _ hcd)), rfl, .inl ⟨_, rfl, _, z2, ?_, fun b o hb => ?_, ?_⟩⟩
      · rw [List.length_map, List.length_take, List.length_map]
        exact small1000 (by have := ok.d4; omega)
      · rw [upd_ne (ne_of_none hb hD)]
        exact z1 _ _ hb
      · rw [upd_same, List.take_succ, List.getElem?_map, hdd, List.map_append]
        rfl
    · rintro H3 ⟨z1, z2⟩
      rw [paired_len hdp, ← List.length_map (f := fun d : Int × List (List Int) => d.1), List.take_length] at z2
      have s3 := s2.trans z1
      refine ⟨D, _, rfl, SqL.of z2, ?_⟩
      refine ⟨_, rfl, x, L, dx, _, _, rfl, s3 _ _ hx, C.cl, C.nQ, pf_questions, _, rfl, _, _, rfl, ok.eqq (stb4 _ _ _ _ (TK.of s3) hq) (stb4 _ _ _ _ (TK.of s3) hpt.q), _, rfl, iteT ?_⟩
      refine ⟨_, rfl, x, L, dx, _, _, rfl, s3 _ _ hx, C.cl, C.nD, pf_draws, _, rfl, _, _, rfl, ok.eqd (stb_TF stb_TD _ _ _ _ (TK.of s3) hd) (stb_TF stb_TD _ _ _ _ (TK.of s3) hpt.d), _, rfl, iteT ?_⟩
      exact ⟨_, rfl, x, L, dx, _, _, rfl, s3 _ _ hx, C.cl, C.nW, pf_weight, _, rfl, _, _, rfl, .inl ⟨_, rfl, rfl⟩, kk _ s3⟩
/-- _law_call(which, plan, one, two, library) -/
def spLcl (K : PySem.W.Frag) (L LL : Addr) : Sp := fun vs H Q E => ∃ (wh : Int) (x : Addr) (u t l : V), vs = [.int wh, .ref x, u, t, l] ∧ ((wh = 0 ∧ spAd K L [.ref x, u, t] H Q E) ∨ (wh = 1 ∧ spAr K L [.ref x, u, t] H Q E) ∨ (wh = 2 ∧ spAn K L LL [.ref x, u, t, l] H Q E) ∨ (wh = 3 ∧ spAz K L [.ref x, u, t] H Q E) ∨ (wh = 4 ∧ spAw K L LL [.ref x, u, t, l] H Q E))
theorem sclaw_call : FnScope ["which", "plan", "one", "two", "library"] ["which", "plan", "one", "two", "library"] (defScope s_law_call) := ⟨rfl, rfl, rfl, by decide +kernel, rfl, by decide +kernel, by decide +kernel⟩
theorem ok_Lcl {f fAd fAr fAz fAw fAn : Addr} {fd fdAd fdAr fdAz fdAw fdAn : FuncData} (F : FnS K "_law_call" s_law_call f fd) (C : PlC K mg L) (M : PlM P w K mg base L LL fAd fAr fAz fAw fAn fdAd fdAr fdAz fdAw fdAn) : FnOk P w K mg base (L2.CX P w) 11 f fd ["which", "plan", "one", "two", "library"] (spLcl K L LL) := by
  refine F.ok sclaw_call (fun vs H Q E h => ?_) (fun cdv A outer s H vs Q E hr h => ?_)
  · obtain ⟨wh, x, u, t, l, rfl, _⟩ := h
    rfl
  · obtain ⟨wh, x, u, t, l, rfl, hc⟩ := h
    have nd := sclaw_call.nd
    refine ⟨_, (pss_cons (ps_if (pt_cmpR op_eq (pv 0) pe_int (nomark _)) (pss_one (ps_ret (pe_meth (E := E) (pv 1) C.cl M.mAd M.gAd (hr.mono (by decide)) M.bAd .nil (passes_call (takes_of rfl rfl rfl rfl) (fun _ _ _ _ h => h)) (pa_cons (pv 2) (pa_cons (pv 3) pa_nil))))) pss_nil)
      (pss_cons (ps_if (pt_cmpR op_eq (pv 0) pe_int (nomark _)) (pss_one (ps_ret (pe_meth (E := E) (pv 1) C.cl M.mAr M.gAr (hr.mono (by decide)) M.bAr .nil (passes_call (takes_of rfl rfl rfl rfl) (fun _ _ _ _ h => h)) (pa_cons (pv 2) (pa_cons (pv 3) pa_nil))))) pss_nil)
      (pss_cons (ps_if (pt_cmpR op_eq (pv 0) pe_int (nomark _)) (pss_one (ps_ret (pe_meth (E := E) (pv 1) C.cl M.mAn M.gAn (hr.mono (by decide)) M.bAn .nil (passes_call (takes_of rfl rfl rfl rfl) (fun _ _ _ _ h => h)) (pa_cons (pv 2) (pa_cons (pv 3) (pa_cons (pv 4) pa_nil)))))) pss_nil)
      (pss_cons (ps_if (pt_cmpR op_eq (pv 0) pe_int (nomark _)) (pss_one (ps_ret (pe_meth (E := E) (pv 1) C.cl M.mAz M.gAz (hr.mono (by decide)) M.bAz .nil (passes_call (takes_of rfl rfl rfl rfl) (fun _ _ _ _ h => h)) (pa_cons (pv 2) (pa_cons (pv 3) pa_nil))))) pss_nil)
      (pss_one (ps_ret (pe_meth (E := E) (pv 1) C.cl M.mAw M.gAw (hr.mono (by decide)) M.bAw .nil (passes_call (takes_of rfl rfl rfl rfl) (fun _ _ _ _ h => h)) (pa_cons (pv 2) (pa_cons (pv 3) (pa_cons (pv 4) pa_nil)))))))))), ?_⟩
    rcases hc with ⟨rfl, h⟩ | ⟨rfl, h⟩ | ⟨rfl, h⟩ | ⟨rfl, h⟩ | ⟨rfl, h⟩
    · obtain ⟨x', _, _, _, _, _, _, _, e, ⟨dx, qv, dv, hx, _⟩, _⟩ := id h
      cases e
      exact ⟨_, rfl, rfl, _, rfl, iteTb (decide_eq_true rfl) ⟨_, rfl, x, dx, _, rfl, hx, pf_no (by decide +kernel) (by decide +kernel) (by decide +kernel) (by decide +kernel) (by decide +kernel) (by decide +kernel) (by decide +kernel), _, rfl, _, rfl, h⟩⟩
    · obtain ⟨x', _, _, _, _, _, _, _, e, ⟨dx, qv, dv, hx, _⟩, _⟩ := id h
      cases e
      exact ⟨_, rfl, rfl, _, rfl, iteFb (decide_eq_false (by intro z; cases z)) ⟨_, rfl, rfl, _, rfl, iteTb (decide_eq_true rfl) ⟨_, rfl, x, dx, _, rfl, hx, pf_no (by decide +kernel) (by decide +kernel) (by decide +kernel) (by decide +kernel) (by decide +kernel) (by decide +kernel) (by decide +kernel), _, rfl, _, rfl, h⟩⟩⟩
    · obtain ⟨x', _, _, _, _, _, _, _, _, e, ⟨dx, qv, dv, hx, _⟩, _⟩ := id h
      cases e
      exact ⟨_, rfl, rfl, _, rfl, iteFb (decide_eq_false (by intro z; cases z)) ⟨_, rfl, rfl, _, rfl, iteFb (decide_eq_false (by intro z; cases z)) ⟨_, rfl, rfl, _, rfl, iteTb (decide_eq_true rfl) ⟨_, rfl, x, dx, _, rfl, hx, pf_no (by decide +kernel) (by decide +kernel) (by decide +kernel) (by decide +kernel) (by decide +kernel) (by decide +kernel) (by decide +kernel), _, rfl, _, rfl, _, rfl, h⟩⟩⟩⟩
    · obtain ⟨x', _, _, _, _, _, _, _, e, ⟨dx, qv, dv, hx, _⟩, _⟩ := id h
      cases e
      exact ⟨_, rfl, rfl, _, rfl, iteFb (decide_eq_false (by intro z; cases z)) ⟨_, rfl, rfl, _, rfl, iteFb (decide_eq_false (by intro z; cases z)) ⟨_, rfl, rfl, _, rfl, iteFb (decide_eq_false (by intro z; cases z)) ⟨_, rfl, rfl, _, rfl, iteTb (decide_eq_true rfl) ⟨_, rfl, x, dx, _, rfl, hx, pf_no (by decide +kernel) (by decide +kernel) (by decide +kernel) (by decide +kernel) (by decide +kernel) (by decide +kernel) (by decide +kernel), _, rfl, _, rfl, h⟩⟩⟩⟩⟩
    · obtain ⟨x', _, _, _, _, _, _, _, _, e, ⟨dx, qv, dv, hx, _⟩, _⟩ := id h
      cases e
      exact ⟨_, rfl, rfl, _, rfl, iteFb (decide_eq_false (by intro z; cases z)) ⟨_, rfl, rfl, _, rfl, iteFb (decide_eq_false (by intro z; cases z)) ⟨_, rfl, rfl, _, rfl, iteFb (decide_eq_false (by intro z; cases z)) ⟨_, rfl, rfl, _, rfl, iteFb (decide_eq_false (by intro z; cases z)) ⟨_, rfl, x, dx, _, rfl, hx, pf_no (by decide +kernel) (by decide +kernel) (by decide +kernel) (by decide +kernel) (by decide +kernel) (by decide +kernel) (by decide +kernel), _, rfl, _, rfl, _, rfl, h⟩⟩⟩⟩⟩
end
end WU

set_option maxRecDepth 100000
set_option maxHeartbeats 8000000
namespace WU
open PySem PySem.Spec PyProof.Rows L2
/-- a library, or a value that is none -/
def OtV (LL : Addr) (H : Hp) (p : Int) (n c : Nat) (v : V) : Prop := v = .non ∨ (∃ i, v = .int i) ∨ (∃ z, v = .str z) ∨ (∃ t xs, v = .ref t ∧ H t = some (.tup xs)) ∨
  ∃ a p' n' bs, v = .ref a ∧ LibAt LL H a p' n' bs ∧ (∀ b ∈ bs, b.length = n') ∧ ¬ (p' = p ∧ bs.length = c ∧ n' = n)
theorem OtV.fr {LL : Addr} {H : Hp} {p : Int} {n c : Nat} {v : V} (h : OtV LL H p n c v) : FR v := by
  rcases h with rfl | ⟨i, rfl⟩ | ⟨z, rfl⟩ | ⟨t, xs, rfl, _⟩ | ⟨a, p', n', bs, rfl, _⟩
  · exact .inl rfl
  · exact .inl rfl
  · exact .inl rfl
  · exact .inr ⟨_, rfl⟩
  · exact .inr ⟨_, rfl⟩
theorem LibAt.keep2 {L : Addr} {H H' : Hp} {q d x : Addr} {p : Int} {n : Nat} {bs : List (List Int)} (hH : HandAt H q d) (h : LibAt L H x p n bs) (k : Keep q H H') : LibAt L H' x p n bs := by
  obtain ⟨ds, i, g, _⟩ := hH
  obtain ⟨dx, a, tl, rs, h1, h2, h3, h4⟩ := h
  refine ⟨dx, a, tl, rs, k _ _ (ne_of h1 g (fun z => nomatch z)) h1, k _ _ (ne_of h2 g (fun z => nomatch z)) h2, paired_mono (fun _ _ q => ?_) h3, k _ _ (ne_of h4 g (fun z => nomatch z)) h4⟩
  obtain ⟨c, e, h⟩ := q
  exact ⟨c, e, k _ _ (ne_of h g (fun z => nomatch z)) h⟩
theorem OtV.keep {LL : Addr} {H H' : Hp} {q d : Addr} {p : Int} {n c : Nat} {v : V} (h : OtV LL H p n c v) (hH : HandAt H q d) (k : Keep q H H') : OtV LL H' p n c v := by
  rcases h with rfl | ⟨i, rfl⟩ | ⟨z, rfl⟩ | ⟨t, xs, rfl, e⟩ | ⟨a, p', n', bs, rfl, e, f⟩
  · exact .inl rfl
  · exact .inr (.inl ⟨i, rfl⟩)
  · exact .inr (.inr (.inl ⟨z, rfl⟩))
  · exact .inr (.inr (.inr (.inl ⟨t, xs, rfl, hH.tk k _ _ e⟩)))
  · exact .inr (.inr (.inr (.inr ⟨a, p', n', bs, rfl, e.keep2 hH k, f⟩)))
theorem OtV.same {LL : Addr} {H H' : Hp} {p : Int} {n c : Nat} {v : V} (h : OtV LL H p n c v) (s : Same H H') : OtV LL H' p n c v := by
  rcases h with rfl | ⟨i, rfl⟩ | ⟨z, rfl⟩ | ⟨t, xs, rfl, e⟩ | ⟨a, p', n', bs, rfl, e, f⟩
  · exact .inl rfl
  · exact .inr (.inl ⟨i, rfl⟩)
  · exact .inr (.inr (.inl ⟨z, rfl⟩))
  · exact .inr (.inr (.inr (.inl ⟨t, xs, rfl, s _ _ e⟩)))
  · exact .inr (.inr (.inr (.inr ⟨a, p', n', bs, rfl, e.same s, f⟩)))
/-- values that are no Library -/
structure NoL (K : PySem.W.Frag) (LL : Addr) : Prop where
  kn : PySem.W.kitOne K (.type "NoneType") (.ref LL) = some false
  ki : PySem.W.kitOne K (.type "int") (.ref LL) = some false
  kt : PySem.W.kitOne K (.type "tuple") (.ref LL) = some false
  ks : PySem.W.kitOne K (.type "str") (.ref LL) = some false
/-- what the methods ask of such a value -/
theorem OtV.says {K : PySem.W.Frag} {LL : Addr} {H : Hp} {p : Int} {n c : Nat} {v : V} {E : XK} (h : OtV LL H p n c v) (N : NoL K LL) (hE : Errs (He.ga K "InvalidLibrary") "value" v H E) {Z : Addr → Int → Nat → List (List Int) → Prop} :
    (∃ ty, TyX K H v ty ∧ PySem.W.kitOne K ty (.ref LL) = some false ∧ Errs (He.ga K "InvalidLibrary") "value" v H E) ∨
    ∃ (a : Addr) (p' : Int) (n' : Nat) (bs : List (List Int)), v = .ref a ∧ LibAt LL H a p' n' bs ∧ (∀ b ∈ bs, b.length = n') ∧ (¬ (p' = p ∧ bs.length = c ∧ n' = n) → Errs (He.ga K "InvalidLibrary") "value" v H E) ∧ (p' = p ∧ bs.length = c ∧ n' = n → Z a p' n' bs) := by
  rcases h with rfl | ⟨i, rfl⟩ | ⟨z, rfl⟩ | ⟨t, xs, rfl, e⟩ | ⟨a, p', n', bs, rfl, e, f, g⟩
  · exact .inl ⟨_, .base .non, N.kn, hE⟩
  · exact .inl ⟨_, .base (.int i), N.ki, hE⟩
  · exact .inl ⟨_, .base (.str z), N.ks, hE⟩
  · exact .inl ⟨_, .base (.tup e), N.kt, hE⟩
  · exact .inr ⟨a, p', n', bs, rfl, e, f, fun _ => hE, fun z => absurd z g⟩
theorem lib_new2 {K : PySem.W.Frag} {L : Addr} {H : Hp} {a x dx : Addr} {p : Int} {n : Nat} {rs : List V} {bs : List (List Int)} {Q : VK} {E : XK} (hp : p ∈ primes) (ha : H a = some (.lst rs) ∨ H a = some (.tup rs)) (hP : Paired (SB H) rs bs) (g : LGood p n bs)
    (hx : H x = none) (hdx : H dx = none) (ne : dx ≠ x) (k : ∀ H', Same H H' → LibAt L H' x p n bs → Q .non H') : spLbI K L [.ref x, .int p, .ref a] (upd (upd H dx (.own x)) x (.ins L dx [])) Q E := by
  have s1 : Same H (upd (upd H dx (.own x)) x (.ins L dx [])) := (same_new hdx).trans (same_new (by rw [upd_ne (Ne.symm ne)]; exact hx))
  refine ⟨x, dx, a, p, rs, bs, n, rfl, upd_same, hp, ha.imp (s1 _ _) (s1 _ _), paired_mono (fun _ _ q => q.same s1) hP, g, fun H' hL k' => k H' (fun b o hb => ?_) hL⟩
  exact k' _ _ (ne_of_none hb hx) (s1 _ _ hb)
theorem rep_pair {H : Hp} {v : V} {r : List Int} (h : SB H v r) : ∀ k, Paired (SB H) (List.replicate k [v]).flatten (List.replicate k r)
  | 0 => .nil
  | k + 1 => by
    rw [List.replicate_succ, List.replicate_succ]
    exact .cons h (rep_pair h k)
theorem rep_zer (n : Nat) : (List.replicate n [V.int 0]).flatten = (List.replicate n (0 : Int)).map V.int := by
  induction n with
  | zero => rfl
  | succ n ih =>
    rw [List.replicate_succ, List.replicate_succ, List.flatten_cons, ih]
    rfl
theorem rep_row (n : Nat) : ∀ c, (List.replicate c ((List.replicate n (0 : Int)).map V.int)).flatten = (List.replicate (c * n) (0 : Int)).map V.int
  | 0 => by simp
  | c + 1 => by
    rw [List.replicate_succ, List.flatten_cons, rep_row n c, ← List.map_append, List.replicate_append_replicate, Nat.succ_mul, Nat.add_comm]
theorem noughts {p : Int} (hp : p ∈ primes) (n : Nat) : Ltr p n (List.replicate n 0) := ⟨List.length_replicate, fun i hi => by
  have := fld_le hp
  rw [(List.mem_replicate.mp hi).2]
  exact ⟨Int.le_refl _, by omega⟩⟩
theorem good_rep {p : Int} (hp : p ∈ primes) {n k : Nat} (n0 : 0 < n) (nl : n ≤ 100) (k0 : 0 < k) (kl : k ≤ 100) : LGood p n (List.replicate k (List.replicate n 0)) := ⟨by
  intro z
  have := congrArg List.length z
  rw [List.length_replicate] at this
  have z0 : k = 0 := this
  omega, n0, nl, by rw [List.length_replicate]; exact kl, fun b hb => by
  rw [(List.mem_replicate.mp hb).2]
  exact noughts hp n⟩
section
variable {P : Program} {w : World} {K : PySem.W.Frag} {mg : Str → Option Value} {base : Heap} {L LL : Addr}
/-- the list that _law_told hands back -/
def Told (x : Str) (v : V) (H : Hp) (Q : VK) : Prop := ∀ q H', Same H H' → H' q = some (.lst [.str x, v]) → Q (.ref q) H'
/-- _law_told(which, plan, one, two, library), where an error is due -/
def spLtd (K : PySem.W.Frag) (L LL : Addr) : Sp := fun vs H Q _ => ∃ (wh : Int) (x : Addr) (u t l : V) (v : V), vs = [.int wh, .ref x, u, t, l] ∧
  (((∀ Q' E', Errs (He.ga K "InvalidNumber") "value" v H E' → spLcl K L LL [.int wh, .ref x, u, t, l] H Q' E') ∧ Told "number" v H Q) ∨
   ((∀ Q' E', Errs (He.ga K "InvalidLibrary") "value" v H E' → spLcl K L LL [.int wh, .ref x, u, t, l] H Q' E') ∧ Told "library" v H Q))
theorem sclaw_told : FnScope ["which", "plan", "one", "two", "library", "e"] ["which", "plan", "one", "two", "library"] (defScope s_law_told) := ⟨rfl, rfl, rfl, by decide +kernel, rfl, by decide +kernel, by decide +kernel⟩
theorem ok_Ltd {f f1 : Addr} {fd fd1 : FuncData} (F : FnS K "_law_told" s_law_told f fd) (CCl : Cal P w K mg base 11 "_law_call" f1 fd1 ["which", "plan", "one", "two", "library"] (spLcl K L LL)) (TN : Exc1 K mg "InvalidNumber" "value") (TL : Exc1 K mg "InvalidLibrary" "value")
    (XN : XfC K (He.ga K "InvalidNumber")) (XL : XfC K (He.ga K "InvalidLibrary")) (eNN : PySem.W.exmOne K (.ref (He.ga K "InvalidNumber")) (.ref (He.ga K "InvalidNumber")) = some true)
    (eLN : PySem.W.exmOne K (.ref (He.ga K "InvalidLibrary")) (.ref (He.ga K "InvalidNumber")) = some false) (eLL : PySem.W.exmOne K (.ref (He.ga K "InvalidLibrary")) (.ref (He.ga K "InvalidLibrary")) = some true) :
    FnOk P w K mg base (L2.CX P w) 12 f fd ["which", "plan", "one", "two", "library"] (spLtd K L LL) := by
  refine F.ok sclaw_told (fun vs H Q E h => ?_) (fun cdv A outer s H vs Q E hr h => ?_)
  · obtain ⟨wh, x, u, t, l, v, rfl, _⟩ := h
    rfl
  · obtain ⟨wh, x, u, t, l, v, rfl, hc⟩ := h
    have nd := sclaw_told.nd
    refine ⟨_, pss_cons (ps_try_cls rfl rfl nd takes0 (fun W pn xe tk _ => pss_one (ps_expr (pe_calS CCl (hr.mono (by decide)) (pa_cons (pv 0) (pa_cons (pv 1) (pa_cons (pv 2) (pa_cons (pv 3) (pa_cons (pv 4) pa_nil))))) tk)))
      (.named (i := 5) rfl rfl ⟨rfl, by decide, .inl TN.glob⟩ (fun a oe cls d pn hz hf => pss_one (ps_ret (pe_lst (pa_cons pe_str (pa_cons (pe_xf XN TN.no hz hf (pv 5)) pa_nil)))))
      (.named (i := 5) rfl rfl ⟨rfl, by decide, .inl TL.glob⟩ (fun a oe cls d pn hz hf => pss_one (ps_ret (pe_lst (pa_cons pe_str (pa_cons (pe_xf XL TL.no hz hf (pv 5)) pa_nil))))) .nil)))
      (pss_one (ps_ret (pe_lst (pa_cons pe_str (pa_cons pe_int pa_nil))))), ?_⟩
    rcases hc with ⟨hC, kT⟩ | ⟨hC, kT⟩
    · refine ⟨_, rfl, _, rfl, _, rfl, _, rfl, _, rfl, hC _ _ ?_⟩
      intro d H' s1 n1 hd
      exact ⟨true, eNN, fun _ ax hax => ⟨_, rfl, rfl, rfl, d, _, v, rfl, hd, (by simp [List.lookup]), (by show 2 ≤ sizeLine; decide), fun q hq => kT q _ (s1.trans (same_new hq)) upd_same⟩, fun q => nomatch q⟩
    · refine ⟨_, rfl, _, rfl, _, rfl, _, rfl, _, rfl, hC _ _ ?_⟩
      intro d H' s1 n1 hd
      exact ⟨false, eLN, (fun q => nomatch q), fun _ => ⟨true, eLL, fun _ ax hax => ⟨_, rfl, rfl, rfl, d, _, v, rfl, hd, (by simp [List.lookup]), (by show 2 ≤ sizeLine; decide), fun q hq => kT q _ (s1.trans (same_new hq)) upd_same⟩, fun q => nomatch q⟩⟩
end
end WU

set_option maxRecDepth 100000
set_option maxHeartbeats 8000000
namespace WU
open PySem PySem.Spec PyProof.Rows L2
/-- a Library is made -/
structure LbMk (P : Program) (w : World) (K : PySem.W.Frag) (mg : Str → Option Value) (base : Heap) (LL fL : Addr) (fdL : FuncData) : Prop where
  made : Mk K LL fL
  gI : FnOk P w K mg base (L2.CX P w) 6 fL fdL ["self", "p", "books"] (spLbI K LL)
  bI : L2.Binds K fdL ["self", "p", "books"] []
section
variable {P : Program} {w : World} {K : PySem.W.Frag} {mg : Str → Option Value} {base : Heap} {L LL : Addr}
/-- _law_other_library(hand, p, size, count) -/
def spLot (LL : Addr) : Sp := fun vs H Q _ => ∃ (a d : Addr) (p : Int) (n c : Nat), vs = [.ref a, .int p, .int n, .int c] ∧ (p, n, c) ∈ szs ∧ HandAt H a d ∧ ∀ v H', OtV LL H' p n c v → HandAt H' a d → Keep a H H' → Q v H'
theorem sclaw_other_library : FnScope ["hand", "p", "size", "count", "q", "row", "kind"] ["hand", "p", "size", "count"] (defScope s_law_other_library) := ⟨rfl, rfl, rfl, by decide +kernel, rfl, by decide +kernel, by decide +kernel⟩
theorem ok_Lot {f f1 fL : Addr} {fd fd1 fdL : FuncData} (F : FnS K "_law_other_library" s_law_other_library f fd) (B : Blt4 mg) (CL : LibC K mg LL) (CLm : LbMk P w K mg base LL fL fdL) (CT : Cal P w K mg base 1 "_law_take" f1 fd1 ["hand", "many"] spTake) : FnOk P w K mg base (L2.CX P w) 8 f fd ["hand", "p", "size", "count"] (spLot LL) := by
  refine F.ok sclaw_other_library (fun vs H Q E h => ?_) (fun cdv A outer s H vs Q E hr h => ?_)
  · obtain ⟨a, d, p, n, c, rfl, _⟩ := h
    rfl
  · obtain ⟨a, d, p, n, c, rfl, hsz, hh, kk⟩ := h
    have nd := sclaw_other_library.nd
    obtain ⟨hp, n0, c0, n10, c10⟩ := szs_ok hsz
    refine ⟨_, (pss_cons (ps_set (i := 4) nd rfl (Or.inl rfl) pe_int)
      (pss_cons (ps_wk (ps_if (pt_cmpR op_eq (pv 1) pe_int (nomark _)) (pss_one (ps_set (i := 4) nd rfl (Or.inl rfl) pe_int)) pss_nil))
      (pss_cons (ps_set (i := 5) nd rfl (Or.inl rfl) (pe_op (op_repAK (K := K)) (pe_tup (pa_cons pe_int pa_nil)) (pv 2)))
      (pss_cons (ps_set (i := 6) nd rfl (Or.inl rfl) (pe_cal CT (hr.mono (by decide)) (pa_cons (pv 0) (pa_cons pe_int pa_nil)) passU))
      (pss_cons (ps_if (pt_cmpR op_eq (pv 6) pe_int (nomark _)) (pss_one (ps_ret (pe_make (E := E0) CLm.made CLm.gI (hr.mono (by decide)) (by rfl) CL.g CLm.bI .nil passU (pa_cons (pv 4) (pa_cons (pe_op (op_repAK (K := K)) (pe_tup (pa_cons (pv 5) pa_nil)) (pv 3)) pa_nil))))) pss_nil)
      (pss_cons (ps_if (pt_cmpR op_eq (pv 6) pe_int (nomark _)) (pss_one (ps_ret (pe_make (E := E0) CLm.made CLm.gI (hr.mono (by decide)) (by rfl) CL.g CLm.bI .nil passU (pa_cons (pv 1) (pa_cons (pe_op (op_repAK (K := K)) (pe_tup (pa_cons (pv 5) pa_nil)) (pe_op op_add (pv 3) pe_int)) pa_nil))))) pss_nil)
      (pss_cons (ps_if (pt_cmpR op_eq (pv 6) pe_int (nomark _)) (pss_one (ps_ret (pe_make (E := E0) CLm.made CLm.gI (hr.mono (by decide)) (by rfl) CL.g CLm.bI .nil passU (pa_cons (pv 1) (pa_cons (pe_op (op_repAK (K := K)) (pe_tup (pa_cons (pe_op (op_catAK (K := K)) (pv 5) (pe_tup (pa_cons pe_int pa_nil))) pa_nil)) (pv 3)) pa_nil))))) pss_nil)
      (pss_cons (ps_if (PW.pt (pw_and (pt_cmpR op_eq (pv 6) pe_int (nomark _)) (pw_and1 (pt_cmpR op_ne (pv 2) (pv 3) (nomark _))))) (pss_one (ps_ret (pe_make (E := E0) CLm.made CLm.gI (hr.mono (by decide)) (by rfl) CL.g CLm.bI .nil passU (pa_cons (pv 1) (pa_cons (pe_op (op_repAK (K := K)) (pe_tup (pa_cons (pe_op (op_repAK (K := K)) (pe_tup (pa_cons pe_int pa_nil)) (pv 3)) pa_nil)) (pv 2)) pa_nil))))) pss_nil)
      (pss_cons (ps_if (PW.pt (pw_and (pt_cmpR op_eq (pv 6) pe_int (nomark _)) (pw_and1 (pt_cmpR op_gt (pe_op op_mul (pv 2) (pv 3)) pe_int (nomark _))))) (pss_one (ps_ret (pe_make (E := E0) CLm.made CLm.gI (hr.mono (by decide)) (by rfl) CL.g CLm.bI .nil passU (pa_cons (pv 1) (pa_cons (pe_tup (pa_cons (pe_op (op_repAK (K := K)) (pv 5) (pv 3)) pa_nil)) pa_nil))))) pss_nil)
      (pss_one (ps_ret (pe_ix (ix_listK (K := K)) (pe_lst (pa_cons pe_non (pa_cons (pe_op (op_repAK (K := K)) (pe_tup (pa_cons (pv 5) pa_nil)) (pv 3)) (pa_cons pe_int (pa_cons pe_str (pa_cons (pv 1) pa_nil)))))) (pe_op op_sub (pv 6) pe_int) (fun _ _ => rfl))))))))))))), ?_⟩
    obtain ⟨q, hq, nq, hqp⟩ : ∃ q : Int, q ∈ primes ∧ q ≠ p ∧ q = if p = 2 then 3 else 2 := by
      by_cases e : p = 2
      · exact ⟨3, by decide, by omega, by rw [if_pos e]⟩
      · exact ⟨2, by decide, by omega, by rw [if_neg e]⟩
    refine ⟨fun σ1 H1 => H1 = H ∧ σ1 = [some (.ref a), some (.int p), some (.int (n : Int)), some (.int (c : Int)), some (.int q), none, none], ?_, ?_⟩
    · refine ⟨_, rfl, rfl, _, rfl, ?_⟩
      by_cases e : p = 2
      · rw [if_pos e] at hqp
        subst e
        subst hqp
        exact iteTb (decide_eq_true rfl) ⟨rfl, rfl⟩
      · rw [if_neg e] at hqp
        subst hqp
        exact iteFb (decide_eq_false fun z => e (V.int.inj z)) ⟨rfl, rfl⟩
    rintro σ1 H1 ⟨rfl, rfl⟩
    refine ⟨(by show 1 ≤ sizeLine; decide), fun t ht => ⟨_, rfl, t, n, [.int 0], rfl, rfl, upd_same, (by intro z; cases z), by omega, (by decide), fun z G s1 ez => ?_⟩⟩
    rw [rep_int] at ez
    have s1 := (same_new (o := .tup [.int 0]) ht).trans s1
    have hh1 := hh.same s1
    refine ⟨_, rfl, a, d, 8, rfl, by decide, hh1, fun r H2 r0 r1 hh2 k2 => ?_⟩
    have ez := hh1.tk k2 _ _ ez
    have k2 := (Keep.of s1).trans k2
    obtain ⟨kd, rfl⟩ : ∃ kd : Nat, r = (kd : Int) := ⟨r.toNat, by omega⟩
    have hkd : kd < 8 := by omega
    have row : ∀ {H'}, Same H2 H' → SB H' (.ref z) (List.replicate n 0) := fun s => ⟨z, rfl, .inr (s _ _ ez)⟩
    have out : ∀ {v : V} {H' : Hp}, Same H2 H' → OtV LL H' p n c v → Q v H' := fun {v H'} s o => kk v H' o (hh2.same s) (k2.trans (Keep.of s))
    refine ⟨_, rfl, rfl, _, rfl, iteD (fun e => ?_) (fun e0 => ?_)⟩
    · refine ⟨_, rfl, _, rfl, (by show 1 ≤ sizeLine; decide), fun t2 ht2 => ⟨_, rfl, t2, c, [.ref z], rfl, rfl, upd_same, (by intro z; cases z), by omega, (show 1 ≤ 1000 by decide), fun y G2 s2 ey => ?_⟩⟩
      intro x dx hx hdx hne
      have s2 := (same_new (o := .tup [.ref z]) ht2).trans s2
      refine lib_new2 hq (.inr ey) (rep_pair (row s2) c) (good_rep hq n0 (by omega) c0 (by omega)) hx hdx hne fun H' s3 hl => ⟨rfl, ?_⟩
      exact out (s2.trans s3) (.inr (.inr (.inr (.inr ⟨x, q, n, _, rfl, hl, fun b hb => by rw [(List.mem_replicate.mp hb).2, List.length_replicate], fun w => nq w.1⟩))))
    refine ⟨_, rfl, rfl, _, rfl, iteD (fun e => ?_) (fun e1 => ?_)⟩
    · refine ⟨_, rfl, _, rfl, (by show 1 ≤ sizeLine; decide), fun t2 ht2 => ⟨_, rfl, _, _, rfl, rfl, t2, c + 1, [.ref z], rfl, rfl, upd_same, (by intro z; cases z), by omega, (show 1 ≤ 1000 by decide), fun y G2 s2 ey => ?_⟩⟩
      intro x dx hx hdx hne
      have s2 := (same_new (o := .tup [.ref z]) ht2).trans s2
      refine lib_new2 hp (.inr ey) (rep_pair (row s2) (c + 1)) (good_rep hp n0 (by omega) (by omega) (by omega)) hx hdx hne fun H' s3 hl => ⟨rfl, ?_⟩
      exact out (s2.trans s3) (.inr (.inr (.inr (.inr ⟨x, p, n, _, rfl, hl, fun b hb => by rw [(List.mem_replicate.mp hb).2, List.length_replicate], fun w => by
        have := w.2.1
        rw [List.length_replicate] at this
        omega⟩))))
    refine ⟨_, rfl, rfl, _, rfl, iteD (fun e => ?_) (fun e2 => ?_)⟩
    · refine ⟨_, rfl, _, rfl, (by show 1 ≤ sizeLine; decide), fun t1 ht1 => ?_⟩
      have s1' := same_new (o := .tup [.int 0]) ht1
      refine ⟨z, t1, (List.replicate n (0 : Int)).map V.int, [.int 0], rfl, rfl, SqT.of (s1' _ _ ez), SqT.of upd_same, by rw [List.length_map, List.length_replicate]; exact Nat.le_trans (show n + 1 ≤ 11 by omega) (by decide), fun z => ?_, (fun _ z => by cases z), fun _ _ t2 ht2 => ?_⟩
      · have := congrArg List.length z
        rw [List.length_map, List.length_replicate] at this
        have : n = 0 := this
        omega
      have eT : (List.replicate n (0 : Int)).map V.int ++ [V.int 0] = (List.replicate (n + 1) (0 : Int)).map V.int := by
        rw [List.replicate_succ', List.map_append]
        rfl
      rw [eT]
      have s2' := s1'.trans (same_new (o := .tup ((List.replicate (n + 1) (0 : Int)).map V.int)) ht2)
      have e2' : upd (upd H2 t1 (.tup [.int 0])) t2 (.tup ((List.replicate (n + 1) (0 : Int)).map V.int)) t2 = some (.tup ((List.replicate (n + 1) (0 : Int)).map V.int)) := upd_same
      generalize upd (upd H2 t1 (.tup [.int 0])) t2 (.tup ((List.replicate (n + 1) (0 : Int)).map V.int)) = H3 at s2' e2' ⊢
      refine ⟨(by show 1 ≤ sizeLine; decide), fun t3 ht3 => ⟨_, rfl, t3, c, [.ref t2], rfl, rfl, upd_same, (by intro z; cases z), by omega, (show 1 ≤ 1000 by decide), fun y G2 s2 ey => ?_⟩⟩
      intro x dx hx hdx hne
      have s2 := (same_new (o := .tup [.ref t2]) ht3).trans s2
      refine lib_new2 hp (.inr ey) (rep_pair ⟨t2, rfl, .inr (s2 _ _ e2')⟩ c) (good_rep hp (n := n + 1) (by omega) (by omega) c0 (by omega)) hx hdx hne fun H' s3 hl => ⟨rfl, ?_⟩
      exact out (s2'.trans (s2.trans s3)) (.inr (.inr (.inr (.inr ⟨x, p, n + 1, _, rfl, hl, fun b hb => by rw [(List.mem_replicate.mp hb).2, List.length_replicate], fun w => by
        have := w.2.2
        omega⟩))))
    have fin : ∀ {v : V} {H' : Hp}, Same H2 H' → (v = .non ∨ (∃ i, v = .int i) ∨ (∃ z, v = .str z) ∨ ∃ t xs, v = .ref t ∧ H' t = some (.tup xs)) → Q v H' := fun {v H'} s o => out s (by
      rcases o with o | o | o | o
      · exact .inl o
      · exact .inr (.inl o)
      · exact .inr (.inr (.inl o))
      · exact .inr (.inr (.inr (.inl o))))
    have k3 : 3 ≤ kd := by
      rcases (show kd = 0 ∨ kd = 1 ∨ kd = 2 ∨ 3 ≤ kd by omega) with e | e | e | e
      · exact absurd (by rw [e]; rfl) e0
      · exact absurd (by rw [e]; rfl) e1
      · exact absurd (by rw [e]; rfl) e2
      · exact e
    obtain ⟨j, rfl⟩ : ∃ j, kd = 3 + j := ⟨kd - 3, by omega⟩
    by_cases e3 : j = 0
    · subst e3
      refine ⟨_, rfl, rfl, _, rfl, iteTb (decide_eq_true rfl) ⟨_, rfl, _, rfl, rfl, _, rfl, ?_⟩⟩
      by_cases e4 : n = c
      · subst e4
        refine iteFb (by rw [decide_eq_true rfl]; rfl) ⟨_, rfl, rfl, _, rfl, iteTb (decide_eq_true rfl) ⟨_, rfl, _, rfl, _, _, rfl, rfl, .inl ⟨by omega, by omega⟩, _, _, rfl, rfl, _, rfl, iteD (fun g => ?_) (fun g => ?_)⟩⟩
        · have g : 1 < n := by
            rcases (show n = 1 ∨ 1 < n by omega) with e | e
            · subst e
              exact absurd g (by decide)
            · exact e
          have nn : n * n ≤ 100 := mul_le_100 n10 n10
          refine ⟨_, rfl, _, rfl, _, rfl, z, n, _, rfl, rfl, ez, (fun z => ?_), by omega, by rw [List.length_map, List.length_replicate]; omega, fun y G2 s2 ey => ⟨(by show 1 ≤ sizeLine; decide), fun t ht => ?_⟩⟩
          · have := congrArg List.length z
            rw [List.length_map, List.length_replicate] at this
            have : n = 0 := this
            omega
          rw [rep_row] at ey
          have s3 := s2.trans (same_new (o := .tup [.ref y]) ht)
          have ey := same_new (o := .tup [.ref y]) ht _ _ ey
          intro x dx hx hdx hne
          refine lib_new2 (n := n * n) (bs := [List.replicate (n * n) 0]) hp (.inr upd_same) (.cons ⟨y, rfl, .inr ey⟩ .nil) ?_ hx hdx hne fun H' s4 hl => ⟨rfl, ?_⟩
          · exact good_rep (k := 1) hp (n := n * n) (Nat.mul_pos n0 n0) nn (by decide) (by decide)
          exact out (s3.trans s4) (.inr (.inr (.inr (.inr ⟨x, p, n * n, _, rfl, hl, fun b hb => by rw [List.mem_singleton.mp hb, List.length_replicate], fun w => by
            have := w.2.1
            have : 1 = n := this
            omega⟩))))
        · refine ⟨_, rfl, (by show 1 ≤ sizeLine; decide), fun t2 ht2 => ⟨_, rfl, t2, n, [.ref z], rfl, rfl, upd_same, (by intro z; cases z), by omega, (show 1 ≤ 1000 by decide), fun y G2 s2 ey => ⟨_, rfl, (by show 5 ≤ sizeLine; decide), fun l hl => ?_⟩⟩⟩
          have s2 := ((same_new (o := .tup [.ref z]) ht2).trans s2).trans (same_new (o := .lst [.non, .ref y, .int 5, .str "library", .int p]) hl)
          have ey := same_new (o := .lst [.non, .ref y, .int 5, .str "library", .int p]) hl _ _ ey
          have all : ∀ j, j < 5 → ∃ v, ([.non, .ref y, .int 5, .str "library", .int p] : List V)[j]? = some v ∧ (v = .non ∨ (∃ i, v = .int i) ∨ (∃ z, v = .str z) ∨ ∃ t xs, v = .ref t ∧ upd G2 l (.lst [.non, .ref y, .int 5, .str "library", .int p]) t = some (.tup xs)) := fun j hj => by
            match j, hj with
            | 0, _ => exact ⟨_, rfl, .inl rfl⟩
            | 1, _ => exact ⟨_, rfl, .inr (.inr (.inr ⟨_, _, rfl, ey⟩))⟩
            | 2, _ => exact ⟨_, rfl, .inr (.inl ⟨_, rfl⟩)⟩
            | 3, _ => exact ⟨_, rfl, .inr (.inr (.inl ⟨_, rfl⟩))⟩
            | 4, _ => exact ⟨_, rfl, .inr (.inl ⟨_, rfl⟩)⟩
            | j + 5, h => exact absurd h (by omega)
          obtain ⟨v, ev, hv⟩ := all 0 (by omega)
          refine ⟨_, rfl, _, _, rfl, rfl, ?_⟩
          dsimp only
          rw [show (((3 + 0 : Nat) : Int) - 3) = ((0 : Nat) : Int) by omega]
          exact ⟨l, _, _, _, rfl, rfl, SqL.of upd_same, atI_nat ev, fin s2 hv⟩
      · refine iteTb (by rw [decide_eq_false fun z => e4 (Int.natCast_inj.mp (V.int.inj z))]; rfl) ?_
        refine ⟨_, rfl, (by show 1 ≤ sizeLine; decide), fun t1 ht1 => ⟨_, rfl, t1, c, [.int 0], rfl, rfl, upd_same, (by intro z; cases z), by omega, (by decide), fun y1 G1 s1' ey1 => ⟨(by show 1 ≤ sizeLine; decide), fun t2 ht2 => ⟨_, rfl, t2, n, [.ref y1], rfl, rfl, upd_same, (by intro z; cases z), by omega, (show 1 ≤ 1000 by decide), fun y G2 s2 ey => ?_⟩⟩⟩⟩
        rw [rep_int] at ey1
        have s3 := (same_new (o := .tup [.ref y1]) ht2).trans s2
        have s4 := ((same_new (o := .tup [.int 0]) ht1).trans s1').trans s3
        intro x dx hx hdx hne
        refine lib_new2 hp (.inr ey) (rep_pair ⟨y1, rfl, .inr (s3 _ _ ey1)⟩ n) (good_rep hp c0 (by omega) n0 (by omega)) hx hdx hne fun H' s5 hl => ⟨rfl, ?_⟩
        exact out (s4.trans s5) (.inr (.inr (.inr (.inr ⟨x, p, c, _, rfl, hl, fun b hb => by rw [(List.mem_replicate.mp hb).2, List.length_replicate], fun w => e4 w.2.2.symm⟩))))
    · refine ⟨_, rfl, rfl, _, rfl, iteFb (decide_eq_false fun z => e3 (by have := V.int.inj z; omega)) ⟨_, rfl, rfl, _, rfl, iteFb (decide_eq_false fun z => e3 (by have := V.int.inj z; omega)) ?_⟩⟩
      refine ⟨_, rfl, (by show 1 ≤ sizeLine; decide), fun t2 ht2 => ⟨_, rfl, t2, c, [.ref z], rfl, rfl, upd_same, (by intro z; cases z), by omega, (show 1 ≤ 1000 by decide), fun y G2 s2 ey => ⟨_, rfl, (by show 5 ≤ sizeLine; decide), fun l hl => ?_⟩⟩⟩
      have s2 := ((same_new (o := .tup [.ref z]) ht2).trans s2).trans (same_new (o := .lst [.non, .ref y, .int 5, .str "library", .int p]) hl)
      have ey := same_new (o := .lst [.non, .ref y, .int 5, .str "library", .int p]) hl _ _ ey
      have all : ∀ j, j < 5 → ∃ v, ([.non, .ref y, .int 5, .str "library", .int p] : List V)[j]? = some v ∧ (v = .non ∨ (∃ i, v = .int i) ∨ (∃ z, v = .str z) ∨ ∃ t xs, v = .ref t ∧ upd G2 l (.lst [.non, .ref y, .int 5, .str "library", .int p]) t = some (.tup xs)) := fun j hj => by
        match j, hj with
        | 0, _ => exact ⟨_, rfl, .inl rfl⟩
        | 1, _ => exact ⟨_, rfl, .inr (.inr (.inr ⟨_, _, rfl, ey⟩))⟩
        | 2, _ => exact ⟨_, rfl, .inr (.inl ⟨_, rfl⟩)⟩
        | 3, _ => exact ⟨_, rfl, .inr (.inr (.inl ⟨_, rfl⟩))⟩
        | 4, _ => exact ⟨_, rfl, .inr (.inl ⟨_, rfl⟩)⟩
        | j + 5, h => exact absurd h (by omega)
      obtain ⟨v, ev, hv⟩ := all j (by omega)
      refine ⟨_, rfl, _, _, rfl, rfl, ?_⟩
      dsimp only
      rw [show (((3 + j : Nat) : Int) - 3) = ((j : Nat) : Int) by omega]
      exact ⟨l, _, _, _, rfl, rfl, SqL.of upd_same, atI_nat ev, fin s2 hv⟩
end
end WU

set_option maxRecDepth 100000
set_option maxHeartbeats 8000000
/-! method calls: with defaults where the wish depends on the slots; with keywords alone -/
namespace WU
open PySem PySem.Spec PyProof.Rows L2
def tMethSD (C : Addr) (m : Str) (sp : Sp) (dvs : List V) (E : L2.St → XK) (ta : TE) (t : TA) : TE := fun σ H Q => ta σ H fun x H1 => ∃ a dx fs, x = .ref a ∧ H1 a = some (.ins C dx fs) ∧ fs.lookup m = none ∧ t σ H1 fun vs H2 => sp (x :: (vs ++ dvs)) H2 Q (E σ)
def tMethK (C : Addr) (m : Str) (n : Nat) (sp : Sp) (gV : List V → List V → List V) (E : XK) (ta : TE) (tk : TA) : TE := fun σ H Q => ta σ H fun x H1 => ∃ a dx fs, x = .ref a ∧ H1 a = some (.ins C dx fs) ∧ fs.lookup m = none ∧ tk σ H1 fun zs H2 => zs.length = n ∧ sp (gV [x] zs) H2 Q E
section
variable {X : Cx} {CX : CXT} {k : Nat} {f C : Addr} {fd : FuncData} {ps ks : List Str} {sp : Sp} {dvs : List V} {ds : List Value} {x m : Str} {p pos apos : Pos} {e o : Expr} {es : List Expr} {ta : TE} {t tk : TA} {kws : List Keyword} {g : List Value → List Value → List Value} {gV : List V → List V → List V}
theorem pe_methSD {pl : Sem Bool} {E : L2.St → XK} (he : PE X o ta) (c : Cls X.K C) (hm : Meth X.K C m f) (F : FnOk X.prog X.w X.K X.mg X.base CX k f fd ps sp) (hr : Room k X.A) (hb : L2.Binds X.K fd ps ds) (hd : Vals dvs ds) (hx : ∀ σ, PassesAt CX X σ (E σ)) (ha : PA X (e :: es) t)
    (hst : starEach (e :: es) X.env = (false, eval e X.env) :: starEach es X.env := by rfl) (hpl : (backTo pos (starEach es X.env)).any (·.1) = false := by rfl)
    (ht : eval (.Call (.Attribute o m apos) (e :: es) [] pos) X.env = (do
      let ov ← eval o X.env
      standAt apos.atName
      let (f, first) ← holding [ov] (getMethod ov m pl)
      callWith pos f first (backTo pos (starEach (e :: es) X.env)) (backToKw pos (keywordEach [] X.env))) := by rfl) :
    PE X (.Call (.Attribute o m apos) (e :: es) [] pos) (tMethSD C m sp dvs E ta t) := by
  refine ⟨fun pins s σ H Q I h => ?_⟩
  refine PySem.W.methodCall_KW (pl := pl) (thn (he.run pins s σ H _ I h) fun u s1 ⟨x, H1, I1, rx, a, dx, fs, ex, ea, l, q⟩ => ?_) ht
  subst ex
  obtain rfl : u = Value.ref a := rx
  refine getmeth_ok I1 ea c hm l ?_
  refine PySem.W.callWith_K (first := [.ref a]) (h₀ := X.base) I.ok.mod.kin hm.kp (thn (ha.run pos pins s1 σ H1 _ I1 q) fun us s2 ⟨vs, H2, I2, r, q2⟩ => ⟨I2.kIn, ?_⟩) hst hpl
  exact run_fnSD (us := .ref a :: us) (vs := .ref a :: vs) F hr hb hd (hx σ) I2 (.cons rfl r) q2
theorem pe_methK {pl : Sem Bool} {E : XK} (he : PE X o ta) (c : Cls X.K C) (hm : Meth X.K C m f) (F : FnOk X.prog X.w X.K X.mg X.base CX k f fd ps sp) (hr : Room k X.A) (hb : KBn X.K fd ps 1 ks g gV) (hx : Passes CX X E) (hkw : PK X kws tk)
    (hall : (backToKw pos (keywordEach kws X.env)).all (·.1.isSome) = true := by rfl) (hks : (backToKw pos (keywordEach kws X.env)).filterMap (·.1) = ks := by rfl)
    (hpl : ((backTo pos (starEach [] X.env)).any (·.1) || (backToKw pos (keywordEach kws X.env)).any (·.1.isNone)) = false := by rfl)
    (ht : eval (.Call (.Attribute o m apos) [] kws pos) X.env = (do
      let ov ← eval o X.env
      standAt apos.atName
      let (f, first) ← holding [ov] (getMethod ov m pl)
      callWith pos f first (backTo pos (starEach [] X.env)) (backToKw pos (keywordEach kws X.env))) := by rfl) :
    PE X (.Call (.Attribute o m apos) [] kws pos) (tMethK C m ks.length sp gV E ta tk) := by
  refine ⟨fun pins s σ H Q I h => ?_⟩
  refine PySem.W.methodCall_KW (pl := pl) (thn (he.run pins s σ H _ I h) fun u s1 ⟨x, H1, I1, rx, a, dx, fs, ex, ea, l, q⟩ => ?_) ht
  subst ex
  obtain rfl : u = Value.ref a := rx
  refine getmeth_ok I1 ea c hm l ?_
  refine PySem.W.callWith_KW0 (first := [.ref a]) (h₀ := X.base) I.ok.mod.kin hm.kp hall ?_ hpl
  refine thn (hkw.run pos pins s1 σ H1 _ I1 q) fun ws s2 ⟨zs, H2, I2, rz, l2, q2⟩ => ⟨I2.kIn, ?_⟩
  rw [hks]
  exact run_fnN (us := [.ref a]) (vs := [.ref a]) F hr hb hx I2 (.cons rfl .nil) rz rfl l2 q2
end
end WU

set_option maxRecDepth 100000
set_option maxHeartbeats 8000000
namespace WU
open PySem PySem.Spec PyProof.Rows L2
theorem bel_lt {i m : Nat} (h : i < m) : isBel (m : Int) (.int (i : Int)) = true := by
  show (decide (0 ≤ (i : Int)) && decide ((i : Int) < (m : Int))) = true
  rw [decide_eq_true (by omega), decide_eq_true (by omega)]
  rfl
theorem flat_two {α : Type} : ∀ {ms : List (List α)}, (∀ m ∈ ms, m.length ≤ 2) → ms.flatten.length ≤ 2 * ms.length
  | [], _ => Nat.le_refl _
  | m :: ms, h => by
    have h1 := h m (List.mem_cons_self ..)
    have h2 := flat_two (ms := ms) fun x hx => h x (List.mem_cons_of_mem _ hx)
    rw [List.flatten_cons, List.length_append, List.length_cons]
    omega
theorem cat_TF {K : PySem.W.Frag} {α : Type} {F : Hp → V → α → Prop} (st : Stb F) {H : Hp} {u v : V} {l1 l2 : List α} {Q : VK} (a : TF F H u l1) (b : TF F H v l2) (hl : l1.length + l2.length ≤ 1000) (k : ∀ y H', Same H H' → TF F H' y (l1 ++ l2) → Q y H') : rCatA K u v H Q := by
  obtain ⟨ca, xs, rfl, ha, pa⟩ := a
  obtain ⟨cb, ys, rfl, hb, pb⟩ := b
  refine ⟨ca, cb, xs, ys, rfl, rfl, SqT.of ha, SqT.of hb, by rw [paired_len pa, paired_len pb]; exact Nat.le_trans hl (by decide), fun e => ?_, fun _ e => ?_, fun _ _ q hq => ?_⟩
  · subst e
    cases pa
    exact k _ H (Same.refl _) ⟨cb, ys, rfl, hb, pb⟩
  · subst e
    cases pb
    rw [List.append_nil] at k
    exact k _ H (Same.refl _) ⟨ca, xs, rfl, ha, pa⟩
  · exact k _ _ (same_new hq) ⟨q, _, rfl, upd_same, paired_app (paired_mono (fun _ _ x => st _ _ _ _ (TK.new hq) x) pa) (paired_mono (fun _ _ x => st _ _ _ _ (TK.new hq) x) pb)⟩
section
variable {p : Int} {n c : Nat} {qss : List (List (List (List Int)))} {ds : List (Int × List (List Int))}
theorem asks_of (ok : Lpk p n c qss ds) {d : Int × List (List Int)} {r : List Int} (hd : d ∈ ds) (hr : r ∈ d.2) : ∃ ms, Asks qss (hsL qss.length) r ms ∧ ms.length = qss.length ∧ r.length = ms.length ∧ (∀ m ∈ ms, m.length ≤ 2 ∧ ∀ z ∈ m, Ltr p (n * c) z) ∧
    ∀ k m, ms[k]? = some m → ∃ (b : Nat) (qs : List (List (List Int))), qss[k]? = some qs ∧ at0 r k = (b : Int) ∧ qs[b]? = some m := by
  obtain ⟨_, _, _, _, h5⟩ := ok.dok d hd
  obtain ⟨l1, l2⟩ := h5 r hr
  rw [lens_len] at l1 l2
  have key : ∀ k, k < qss.length → ∃ (b : Nat) (qs : List (List (List Int))), qss[k]? = some qs ∧ at0 r k = (b : Int) ∧ qs[b]? = some ((qss.getD k []).getD b []) := by
    intro k hk
    obtain ⟨h1, h2⟩ := l2 k hk
    have e : at0 (lens qss) k = ((qss[k]).length : Int) := by
      rw [at0_lt (by rw [lens_len]; exact hk)]
      unfold lens
      rw [List.getElem_map]
    rw [e] at h2
    have eq := List.getElem?_eq_getElem hk
    refine ⟨(at0 r k).toNat, qss[k], eq, by omega, ?_⟩
    have g : qss.getD k [] = qss[k] := by
      rw [List.getD_eq_getElem?_getD, eq]
      rfl
    rw [g, List.getD_eq_getElem?_getD, List.getElem?_eq_getElem (by omega)]
    rfl
  have len : ((List.range qss.length).map fun k => (qss.getD k []).getD (at0 r k).toNat []).length = qss.length := by rw [List.length_map, List.length_range]
  have at_ : ∀ k m, ((List.range qss.length).map fun k => (qss.getD k []).getD (at0 r k).toNat [])[k]? = some m → ∃ (b : Nat) (qs : List (List (List Int))), qss[k]? = some qs ∧ at0 r k = (b : Int) ∧ qs[b]? = some m := by
    intro k m h
    have hk : k < qss.length := by
      have := (List.getElem?_eq_some_iff.mp h).1
      rw [len] at this
      exact this
    obtain ⟨b, qs, e1, e2, e3⟩ := key k hk
    refine ⟨b, qs, e1, e2, ?_⟩
    rw [List.getElem?_map, List.getElem?_range hk] at h
    have h := Option.some.inj h
    rw [← h, e3]
    show some _ = some ((qss.getD k []).getD (at0 r k).toNat [])
    rw [e2, Int.toNat_natCast]
  have mem : ∀ m ∈ (List.range qss.length).map fun k => (qss.getD k []).getD (at0 r k).toNat [], m.length ≤ 2 ∧ ∀ z ∈ m, Ltr p (n * c) z := by
    intro m hm
    obtain ⟨k, hk, e⟩ := List.getElem_of_mem hm
    obtain ⟨b, qs, e1, e2, e3⟩ := at_ k m (by rw [List.getElem?_eq_getElem hk, e])
    exact (ok.qok qs (List.mem_of_getElem? e1)).2.2.2 m (List.mem_of_getElem? e3)
  refine ⟨_, ⟨?_, ?_, ?_, fun m hm => ?_, fun j m hj => ?_⟩, len, by rw [len]; exact l1, mem, at_⟩
  · rw [len]
    unfold hsL
    rw [List.length_map, List.length_range]
  · rw [len]
    exact l1
  · rw [len]
    have := ok.q3
    omega
  · have := (mem m hm).1
    omega
  · obtain ⟨b, qs, e1, e2, e3⟩ := at_ j m hj
    have hk := (List.getElem?_eq_some_iff.mp e1).1
    refine ⟨j, b, qs, ?_, e2, e1, e3⟩
    unfold hsL
    rw [at0_lt (by rw [List.length_map, List.length_range]; exact hk), List.getElem_map, List.getElem_range]
end
section
variable {P : Program} {w : World} {K : PySem.W.Frag} {mg : Str → Option Value} {base : Heap} {L LL : Addr}
/-- _law_asks_right(plan, parts, wish, draw, letters, library) -/
def spLar (L LL : Addr) : Sp := fun vs H Q _ => ∃ (x l lt a : Addr) (i j : Nat) (p : Int) (n c : Nat) (qv dv : V) (qss : List (List (List (List Int)))) (ds : List (Int × List (List Int))) (bs : List (List Int)), vs = [.ref x, .ref l, .int i, .int j, .ref lt, .ref a] ∧ PlAt L H x p n c qss ds ∧ PtAt H l p n c qv dv qss ds ∧ Lpk p n c qss ds ∧
  i < c ∧ j < ds.length ∧ T1 H (.ref lt) bs.flatten ∧ LibAt LL H a p n bs ∧ (∀ b ∈ bs, b.length = n) ∧ bs.length = c ∧ ∀ H', Same H H' → Q (.bl true) H'
theorem sclaw_asks_right : FnScope ["plan", "parts", "wish", "draw", "letters", "library", "p", "size", "count", "questions", "draws", "row", "rows", "answers", "n", "question"] ["plan", "parts", "wish", "draw", "letters", "library"] (defScope s_law_asks_right) := ⟨rfl, rfl, rfl, by decide +kernel, rfl, by decide +kernel, by decide +kernel⟩
theorem ok_Lar {f f1 f2 fAd fAr fAz fAw fAn : Addr} {fd fd1 fd2 fdAd fdAr fdAz fdAw fdAn : FuncData} (F : FnS K "_law_asks_right" s_law_asks_right f fd) (B : Blt5 mg) (C : PlC K mg L) (M : PlM P w K mg base L LL fAd fAr fAz fAw fAn fdAd fdAr fdAz fdAw fdAn) (CS : Cal P w K mg base 5 "_law_same" f1 fd1 ["found", "due"] (spSm 4))
    (CLA : Cal P w K mg base 2 "_law_answer" f2 fd2 ["p", "question", "letters"] spLA) : FnOk P w K mg base (L2.CX P w) 11 f fd ["plan", "parts", "wish", "draw", "letters", "library"] (spLar L LL) := by
  refine F.ok sclaw_asks_right (fun vs H Q E h => ?_) (fun cdv A outer s H vs Q E hr h => ?_)
  · obtain ⟨x, l, lt, a, i, j, p, n, c, qv, dv, qss, ds, bs, rfl, _⟩ := h
    rfl
  · obtain ⟨x, l, lt, a, i, j, p, n, c, qv, dv, qss, ds, bs, rfl, hpl, hpt, ok, hi, hj, hlt, hlib, hbn, hbc, kk⟩ := h
    have nd := sclaw_asks_right.nd
    obtain ⟨hp, n0, c0, n10, c10⟩ := szs_ok ok.sz
    have hnc := mul_le_100 n10 c10
    have hfl : bs.flatten.length = n * c := by rw [flat_len hbn, hbc, Nat.mul_comm]
    refine ⟨_, (pss_cons (ps_asg (pv 1) (pg_unl (K := K) rfl (pgs_cons (pg_name (i := 6) nd rfl (Or.inl rfl)) (pgs_cons (pg_name (i := 7) nd rfl (Or.inl rfl)) (pgs_cons (pg_name (i := 8) nd rfl (Or.inl rfl)) (pgs_cons (pg_name (i := 9) nd rfl (Or.inl rfl)) (pgs_cons (pg_name (i := 10) nd rfl (Or.inl rfl)) pgs_nil)))))))
      (pss_cons (ps_set (i := 11) nd rfl (Or.inl rfl) (pe_ix (ix_tupK (K := K)) (pe_ix (ix_tupK (K := K)) (pe_ix (ix_tupK (K := K)) (pv 10) (pv 3) (fun _ _ => rfl)) pe_int (fun _ _ => rfl)) (pv 2) (fun _ _ => rfl)))
      (pss_cons (ps_set (i := 12) nd rfl (Or.inl rfl) (pe_tup pa_nil))
      (pss_cons (ps_set (i := 13) nd rfl (Or.inl rfl) (pe_lst pa_nil))
      (pss_cons (ps_for (passes_of rfl) rfl (pi_range1 rfl B.range (pa_cons (pe_callB (len_seqK (K := K)) (by rfl) B.len (by decide +kernel) (pa_cons (pv 9) pa_nil)) pa_nil)) (pg_name (i := 14) nd rfl (Or.inl rfl)) (pss_cons (ps_set (i := 15) nd rfl (Or.inl rfl) (pe_ix (ix_tupK (K := K)) (pe_ix (ix_tupK (K := K)) (pv 9) (pv 14) (fun _ _ => rfl)) (pe_ix (ix_tupK (K := K)) (pv 11) (pv 14) (fun _ _ => rfl)) (fun _ _ => rfl)))
      (pss_cons (ps_set (i := 12) nd rfl (Or.inl rfl) (pe_op (op_catAK (K := K)) (pv 12) (pv 15)))
      (pss_one (ps_expr (pe_bm PySem.F.plainAttrs_list PySem.F.slot_list_append PySem.F.type_list_append mt_append (pv 13) (pa_cons (pe_cal CLA (hr.mono (by decide)) (pa_cons (pv 6) (pa_cons (pv 15) (pa_cons (pv 4) pa_nil))) passU) pa_nil)))))))
      (pss_cons (ps_if (PW.pt (pw_or (pt_not (pt_val (pe_cal CS (hr.mono (by decide)) (pa_cons (pe_meth (E := E0) (pv 0) C.cl M.mAd M.gAd (hr.mono (by decide)) M.bAd .nil passU (pa_cons (pv 2) (pa_cons (pv 3) pa_nil))) (pa_cons (pv 11) pa_nil)) passU))) (pw_or1 (pt_not (pt_val (pe_cal CS (hr.mono (by decide)) (pa_cons (pe_methK (E := E0) (pv 0) C.cl M.mAr M.gAr (hr.mono (by decide)) M.kAr passU (pk_cons (pv 3) (pk_cons (pv 2) pk_nil))) (pa_cons (pv 12) pa_nil)) passU)))))) (pss_one (ps_ret pe_bl)) pss_nil)
      (pss_one (ps_ret (pe_cal CS (hr.mono (by decide)) (pa_cons (pe_meth (E := E0) (pv 0) C.cl M.mAn M.gAn (hr.mono (by decide)) M.bAn .nil passU (pa_cons (pv 2) (pa_cons (pv 3) (pa_cons (pv 5) pa_nil)))) (pa_cons (pe_callTy (tup_ofK (K := K)) (by rfl) B.tuple (by decide +kernel) (pa_cons (pv 13) pa_nil)) pa_nil)) passU))))))))), ?_⟩
    obtain ⟨qa, qxs, eqa, hqa, hqp⟩ := id hpt.q
    obtain ⟨da, dxs, eda, hda, hdp⟩ := id hpt.d
    subst eqa eda
    have ed := List.getElem?_eq_getElem hj
    have hdm := List.mem_of_getElem? ed
    have dk := ok.dok _ hdm
    have hi2 : i < (ds[j]).2.length := by have := dk.2.1; omega
    have er := List.getElem?_eq_getElem hi2
    have hrm := List.mem_of_getElem? er
    obtain ⟨y, hy, dc, yv, rfl, hdc, ba, ys, rfl, hba, hbp⟩ := paired_of hdp ed
    obtain ⟨z, hz, ra, rxs, rfl, hra, hrp⟩ := paired_of hbp er
    have erx := fi_map hrp
    subst erx
    generalize er0 : (ds[j]).2[i] = r at er hrp hra hrm
    obtain ⟨ms, hA, lm, lr, hms, hat⟩ := asks_of ok hdm hrm
    refine ⟨_, rfl, l, _, rfl, SqL.of hpt.at_, rfl, _, _, rfl, _, _, rfl, _, _, rfl, _, _, rfl, _, _, rfl, rfl, ?_⟩
    refine ⟨_, rfl, _, rfl, da, _, _, _, rfl, rfl, SqT.of hda, atI_nat hy, dc, _, (1 : Int), _, rfl, rfl, SqT.of hdc, rfl, _, rfl, ba, _, _, _, rfl, rfl, SqT.of hba, atI_nat hz, ?_⟩
    refine ⟨(by show 0 ≤ sizeLine; decide), fun e he => ⟨(by show 0 ≤ sizeLine; decide), fun R hR => ?_⟩⟩
    have s1 := (same_new (o := .tup []) he).trans (same_new (o := .lst []) hR)
    have ee : upd (upd H e (.tup [])) R (.lst []) e = some (.tup []) := same_new (o := .lst []) hR _ _ upd_same
    have hR0 : H R = none := by
      cases q : H R with
      | none => rfl
      | some o =>
        have z := same_new (o := .tup []) he _ _ q
        rw [hR] at z
        cases z
    have b1 : Bd T1 R [] (upd (upd H e (.tup [])) R (.lst [])) := Bd.start
    generalize upd (upd H e (.tup [])) R (.lst []) = H1 at s1 ee b1 ⊢
    refine ⟨_, rfl, qa, _, rfl, .inr (SqT.of (s1 _ _ hqa)), (qss.length : Int), by rw [paired_len hqp], by omega, by have := ok.q3; omega, for_range (lo := 0) (n := qss.length) (fun k σ H' => ∃ (rv : V) (v14 v15 : Option V), σ = [some (.ref x), some (.ref l), some (.int (i : Int)), some (.int (j : Int)), some (.ref lt), some (.ref a), some (.int p), some (.int (n : Int)), some (.int (c : Int)), some (.ref qa), some (.ref da), some (.ref ra), some rv, some (.ref R), v14, v15] ∧
      Same H H' ∧ T2 H' rv (ms.take k).flatten ∧ Bd T1 R ((ms.take k).map (ans p (n * c) bs.flatten)) H') ⟨.ref e, none, none, rfl, s1, ⟨e, [], rfl, ee, .nil⟩, b1⟩ ?_ ?_⟩
    · rintro k σ H2 hk ⟨rv, v14, v15, rfl, s2, t2, b2⟩
      rw [Int.zero_add]
      have hkm : k < ms.length := by omega
      have em := List.getElem?_eq_getElem hkm
      obtain ⟨b, qs, e1, e2, e3⟩ := hat k _ em
      obtain ⟨m2, mL⟩ := hms _ (List.mem_of_getElem? em)
      generalize em0 : ms[k] = m at em e3 m2 mL
      obtain ⟨u, hu, uc, uxs, rfl, huc, hup⟩ := paired_of hqp e1
      obtain ⟨o, ho, fo⟩ := paired_of hup e3
      obtain ⟨oc, oxs, rfl, hoc, hop⟩ := stb2 _ _ _ _ (TK.of s2) fo
      have hkr : k < r.length := by omega
      have erk : (r.map V.int)[k]? = some (.int (b : Int)) := by rw [take_map_at r.length (i := k) hkr, e2]
      have lfl : (ms.take k).flatten.length ≤ 6 := by
        have := flat_two (ms := ms.take k) fun z hz => (hms z (List.mem_of_mem_take hz)).1
        rw [List.length_take] at this
        have := ok.q3
        omega
      refine ⟨_, rfl, _, rfl, qa, _, _, _, rfl, rfl, SqT.of (s2 _ _ hqa), atI_nat hu, _, rfl, _, rfl, ra, _, _, _, rfl, rfl, SqT.of (s2 _ _ hra), atI_nat erk, uc, _, _, _, rfl, rfl, SqT.of (s2 _ _ huc), atI_nat ho, ?_⟩
      refine ⟨_, rfl, _, rfl, cat_TF stb1 t2 ⟨oc, oxs, rfl, hoc, hop⟩ (by omega) fun nv H3 s3 t3 => ?_⟩
      have b3 := b2.skip stb1 (TK.of s3) fun ys h => s3 _ _ h
      obtain ⟨ys3, e3', _⟩ := id b3
      have s23 := s2.trans s3
      refine ⟨_, rfl, .inl ⟨rfl, _, SqL.of e3'⟩, _, rfl, _, rfl, _, rfl, p, n * c, _, _, m, bs.flatten, rfl, stb2 _ _ _ _ (TK.of s23) fo, stb1 _ _ _ _ (TK.of s23) hlt, hp, mL, hfl, by omega, by omega, fun y H4 s4 hy4 => ?_⟩
      obtain ⟨acc, a1, a2, a3, a4⟩ := (b3.skip stb1 (TK.of s4) fun ys h => s4 _ _ h).put stb1 hy4 (by rw [List.length_map, List.length_take]; exact small1000 (by have := ok.q3; omega))
      refine ⟨R, acc, _, rfl, rfl, a1, a2, nv, _, _, rfl, fun b o hb => ?_, ?_, ?_⟩
      · rw [upd_ne (ne_of_none hb hR0)]
        exact s4 _ _ (s23 _ _ hb)
      · rw [List.take_succ, em, List.flatten_append]
        simp only [Option.toList, List.flatten_cons, List.flatten_nil, List.append_nil]
        exact stb2 _ _ _ _ ((TK.of s4).trans a4) t3
      · rw [List.take_succ, em, List.map_append]
        exact a3
    · rintro σ H2 ⟨rv, v14, v15, rfl, s2, t2, b2⟩
      rw [show qss.length = ms.length from lm.symm, List.take_length] at t2 b2
      have hpl2 := hpl.same s2
      obtain ⟨dx, qv0, dv0, hx, _, _⟩ := id hpl2
      have no : ∀ {m : Str}, ¬ m = "weight" → ¬ m = "draws" → ¬ m = "questions" → ¬ m = "house_count" → ¬ m = "book_count" → ¬ m = "book_length" → ¬ m = "p" → (pf p n c qss.length qv0 dv0 (ds.map (·.1)).sum).lookup m = none := pf_no
      refine ⟨_, rfl, x, dx, _, rfl, hx, no (by decide +kernel) (by decide +kernel) (by decide +kernel) (by decide +kernel) (by decide +kernel) (by decide +kernel) (by decide +kernel), _, rfl, _, rfl, ?_⟩
      refine ⟨x, _, _, p, n, c, qss, ds, rfl, hpl2, ok.ok, ty3_int _, ty3_int _, fun z => (by rw [bel_lt hi] at z; cases z), fun _ z => (by rw [bel_lt hj] at z; cases z), fun i' j' d' r' f1 f2 f3 f4 y1 hy1 => ?_⟩
      cases Int.natCast_inj.mp (V.int.inj f1)
      cases Int.natCast_inj.mp (V.int.inj f2)
      rw [ed] at f3
      cases f3
      rw [er] at f4
      cases f4
      have hr2 : T1 H2 (.ref ra) r := stb1 _ _ _ _ (TK.of s2) ⟨ra, _, rfl, hra, hrp⟩
      have l3 := ok.q3
      refine ⟨_, rfl, _, _, rfl, eqV_up (eqV_up (eqV_up (eqv1 hy1 hr2 (by omega)))), _, rfl, iteF ?_⟩
      refine ⟨_, rfl, x, dx, _, rfl, hx, no (by decide +kernel) (by decide +kernel) (by decide +kernel) (by decide +kernel) (by decide +kernel) (by decide +kernel) (by decide +kernel), _, rfl, _, rfl, rfl, ?_⟩
      refine ⟨x, _, _, p, n, c, qss, ds, rfl, hpl2, ok.ok, fun _ _ => ⟨ty3_int _, ty3_int _⟩, fun z => (by rw [bel_lt hi] at z; cases z), fun _ z => (by rw [bel_lt hj] at z; cases z), fun i' j' d' r' f1 f2 f3 f4 => ?_⟩
      cases Int.natCast_inj.mp (V.int.inj f1)
      cases Int.natCast_inj.mp (V.int.inj f2)
      rw [ed] at f3
      cases f3
      rw [er] at f4
      cases f4
      refine ⟨ms, hA, fun y2 H3 s3 hy2 => ?_⟩
      have lff := flat_two (ms := ms) fun z hz => (hms z hz).1
      refine ⟨_, rfl, _, _, rfl, eqV_up (eqV_up (eqv2 hy2 (stb2 _ _ _ _ (TK.of s3) t2) (fun r hr => ?_) (by omega))), _, rfl, iteF ?_⟩
      · obtain ⟨m, hm, hrm⟩ := List.mem_flatten.mp hr
        rw [((hms m hm).2 r hrm).1]
        omega
      have s23 := s2.trans s3
      refine ⟨_, rfl, x, dx, _, rfl, s3 _ _ hx, no (by decide +kernel) (by decide +kernel) (by decide +kernel) (by decide +kernel) (by decide +kernel) (by decide +kernel) (by decide +kernel), _, rfl, _, rfl, _, rfl, ?_⟩
      refine ⟨x, _, _, _, p, n, c, qss, ds, rfl, hpl2.same s3, ok.ok, ty3_int _, ty3_int _, fun z => (by rw [bel_lt hi] at z; cases z), fun _ z => (by rw [bel_lt hj] at z; cases z), fun i' j' d' r' f1 f2 f3 f4 => ?_⟩
      cases Int.natCast_inj.mp (V.int.inj f1)
      cases Int.natCast_inj.mp (V.int.inj f2)
      rw [ed] at f3
      cases f3
      rw [er] at f4
      cases f4
      refine .inr ⟨a, p, n, bs, rfl, hlib.same s23, hbn, fun z => absurd ⟨rfl, hbc, rfl⟩ z, fun _ => ⟨ms, hA, lr, fun y3 H4 s4 hy3 => ?_⟩⟩
      obtain ⟨acc, e4, ft⟩ := ((b2.skip stb1 (TK.of s3) fun ys h => s3 _ _ h).skip stb1 (TK.of s4) fun ys h => s4 _ _ h).tup stb1
      refine ⟨_, rfl, R, acc, rfl, .inl ⟨SqL.of e4, fun Z hZ => ?_⟩⟩
      refine ⟨_, _, rfl, eqV_up (eqV_up (eqv2 (stb2 _ _ _ _ (TK.new hZ) hy3) (ft Z hZ) (fun r hr => ?_) (by rw [List.length_map]; omega))), kk _ (s23.trans (s4.trans (same_new hZ)))⟩
      obtain ⟨m, hm, rfl⟩ := List.mem_map.mp hr
      unfold ans
      rw [List.length_map]
      have := (hms m hm).1
      omega
end
end WU

set_option maxRecDepth 100000
set_option maxHeartbeats 8000000
namespace WU
open PySem PySem.Spec PyProof.Rows L2
section
variable {P : Program} {w : World} {K : PySem.W.Frag} {mg : Str → Option Value} {base : Heap} {L LL : Addr}
/-- _law_houses_right(plan, parts, letters, library) -/
def spLhr (L LL : Addr) : Sp := fun vs H Q _ => ∃ (x l lt a : Addr) (p : Int) (n c : Nat) (qv dv : V) (qss : List (List (List (List Int)))) (ds : List (Int × List (List Int))) (bs : List (List Int)), vs = [.ref x, .ref l, .ref lt, .ref a] ∧ PlAt L H x p n c qss ds ∧ PtAt H l p n c qv dv qss ds ∧ Lpk p n c qss ds ∧
  T1 H (.ref lt) bs.flatten ∧ LibAt LL H a p n bs ∧ (∀ b ∈ bs, b.length = n) ∧ bs.length = c ∧ ∀ H', Same H H' → Q (.bl true) H'
theorem sclaw_houses_right : FnScope ["plan", "parts", "letters", "library", "n", "k", "question", "due"] ["plan", "parts", "letters", "library"] (defScope s_law_houses_right) := ⟨rfl, rfl, rfl, by decide +kernel, rfl, by decide +kernel, by decide +kernel⟩
theorem ok_Lhr {f f1 f2 fAd fAr fAz fAw fAn : Addr} {fd fd1 fd2 fdAd fdAr fdAz fdAw fdAn : FuncData} (F : FnS K "_law_houses_right" s_law_houses_right f fd) (B : Blt5 mg) (C : PlC K mg L) (M : PlM P w K mg base L LL fAd fAr fAz fAw fAn fdAd fdAr fdAz fdAw fdAn) (CS : Cal P w K mg base 5 "_law_same" f1 fd1 ["found", "due"] (spSm 4))
    (CLA : Cal P w K mg base 2 "_law_answer" f2 fd2 ["p", "question", "letters"] spLA) : FnOk P w K mg base (L2.CX P w) 10 f fd ["plan", "parts", "letters", "library"] (spLhr L LL) := by
  refine F.ok sclaw_houses_right (fun vs H Q E h => ?_) (fun cdv A outer s H vs Q E hr h => ?_)
  · obtain ⟨x, l, lt, a, p, n, c, qv, dv, qss, ds, bs, rfl, _⟩ := h
    rfl
  · obtain ⟨x, l, lt, a, p, n, c, qv, dv, qss, ds, bs, rfl, hpl, hpt, ok, hlt, hlib, hbn, hbc, kk⟩ := h
    have nd := sclaw_houses_right.nd
    obtain ⟨hp, n0, c0, n10, c10⟩ := szs_ok ok.sz
    have hnc := mul_le_100 n10 c10
    have hfl : bs.flatten.length = n * c := by rw [flat_len hbn, hbc, Nat.mul_comm]
    refine ⟨_, (pss_cons (ps_for (passes_of rfl) rfl (pi_range1 rfl B.range (pa_cons (pe_callB (len_seqK (K := K)) (by rfl) B.len (by decide +kernel) (pa_cons (pe_ix (ix_listK (K := K)) (pv 1) pe_int (fun _ _ => rfl)) pa_nil)) pa_nil)) (pg_name (i := 4) nd rfl (Or.inl rfl)) (pss_one (ps_for (passes_of rfl) rfl (pi_range1 rfl B.range (pa_cons (pe_callB (len_seqK (K := K)) (by rfl) B.len (by decide +kernel) (pa_cons (pe_ix (ix_tupK (K := K)) (pe_ix (ix_listK (K := K)) (pv 1) pe_int (fun _ _ => rfl)) (pv 4) (fun _ _ => rfl)) pa_nil)) pa_nil)) (pg_name (i := 5) nd rfl (Or.inl rfl)) (pss_cons (ps_set (i := 6) nd rfl (Or.inl rfl) (pe_ix (ix_tupK (K := K)) (pe_ix (ix_tupK (K := K)) (pe_ix (ix_listK (K := K)) (pv 1) pe_int (fun _ _ => rfl)) (pv 4) (fun _ _ => rfl)) (pv 5) (fun _ _ => rfl)))
      (pss_cons (ps_set (i := 7) nd rfl (Or.inl rfl) (pe_cal CLA (hr.mono (by decide)) (pa_cons (pe_ix (ix_listK (K := K)) (pv 1) pe_int (fun _ _ => rfl)) (pa_cons (pv 6) (pa_cons (pv 2) pa_nil))) passU))
      (pss_one (ps_if (PW.pt (pw_or (pt_not (pt_val (pe_cal CS (hr.mono (by decide)) (pa_cons (pe_meth (E := E0) (pv 0) C.cl M.mAz M.gAz (hr.mono (by decide)) M.bAz .nil passU (pa_cons (pv 4) (pa_cons (pv 5) pa_nil))) (pa_cons (pe_callB (len_seqK (K := K)) (by rfl) B.len (by decide +kernel) (pa_cons (pv 6) pa_nil)) pa_nil)) passU))) (pw_or1 (pt_not (pt_val (pe_cal CS (hr.mono (by decide)) (pa_cons (pe_meth (E := E0) (pv 0) C.cl M.mAw M.gAw (hr.mono (by decide)) M.bAw .nil passU (pa_cons (pv 4) (pa_cons (pv 5) (pa_cons (pv 3) pa_nil)))) (pa_cons (pv 7) pa_nil)) passU)))))) (pss_one (ps_ret pe_bl)) pss_nil)))))))
      (pss_one (ps_ret pe_bl))), ?_⟩
    obtain ⟨qa, qxs, eqa, hqa, hqp⟩ := id hpt.q
    subst eqa
    refine ⟨_, rfl, l, _, (3 : Int), _, rfl, rfl, SqL.of hpt.at_, rfl, qa, _, rfl, .inr (SqT.of hqa), (qss.length : Int), by rw [paired_len hqp], by omega, by have := ok.q3; omega, for_range (lo := 0) (n := qss.length) (fun k σ H' => ∃ (v4 v5 v6 v7 : Option V), σ = [some (.ref x), some (.ref l), some (.ref lt), some (.ref a), v4, v5, v6, v7] ∧ Same H H') ⟨none, none, none, none, rfl, Same.refl _⟩ ?_ ?_⟩
    · rintro h σ H1 hh ⟨v4, v5, v6, v7, rfl, s1⟩
      rw [Int.zero_add]
      have eq := List.getElem?_eq_getElem hh
      generalize qss[h] = qs at eq
      obtain ⟨_, _, q14, hqm⟩ := ok.qok qs (List.mem_of_getElem? eq)
      obtain ⟨u, hu, uc, uxs, rfl, huc, hup⟩ := paired_of hqp eq
      refine ⟨_, rfl, l, _, (3 : Int), _, rfl, rfl, SqL.of (s1 _ _ hpt.at_), rfl, _, rfl, qa, _, _, _, rfl, rfl, SqT.of (s1 _ _ hqa), atI_nat hu, uc, _, rfl, .inr (SqT.of (s1 _ _ huc)), (qs.length : Int), by rw [paired_len hup], by omega, by omega, for_range (lo := 0) (n := qs.length) (fun k σ H' => ∃ (v5 v6 v7 : Option V), σ = [some (.ref x), some (.ref l), some (.ref lt), some (.ref a), some (.int (h : Int)), v5, v6, v7] ∧ Same H H') ⟨v5, v6, v7, rfl, s1⟩ ?_ ?_⟩
      · rintro k σ H2 hk ⟨v5, v6, v7, rfl, s2⟩
        rw [Int.zero_add]
        have em := List.getElem?_eq_getElem hk
        generalize qs[k] = m at em
        obtain ⟨m2, mL⟩ := hqm m (List.mem_of_getElem? em)
        obtain ⟨o, ho, fo⟩ := paired_of hup em
        obtain ⟨oc, oxs, rfl, hoc, hop⟩ := id fo
        have qat : ∀ {m'}, QAt qss (.int (h : Int)) (.int (k : Int)) m' → m' = m := fun {m'} ⟨h', k', qs', e1, e2, e3, e4⟩ => by
          cases Int.natCast_inj.mp (V.int.inj e1)
          cases Int.natCast_inj.mp (V.int.inj e2)
          rw [eq] at e3
          cases e3
          rw [em] at e4
          exact (Option.some.inj e4).symm
        have qer : ∀ {H' E}, QErr K qss (.int (h : Int)) (.int (k : Int)) H' E := fun {H' E} => ⟨fun z => (by rw [bel_lt hh] at z; cases z), fun h' qs' e1 e2 z => by
          cases Int.natCast_inj.mp (V.int.inj e1)
          rw [eq] at e2
          cases e2
          rw [bel_lt hk] at z
          cases z⟩
        refine ⟨_, rfl, l, _, (3 : Int), _, rfl, rfl, SqL.of (s2 _ _ hpt.at_), rfl, _, rfl, qa, _, _, _, rfl, rfl, SqT.of (s2 _ _ hqa), atI_nat hu, _, rfl, uc, _, _, _, rfl, rfl, SqT.of (s2 _ _ huc), atI_nat ho, ?_⟩
        refine ⟨_, rfl, l, _, (0 : Int), _, rfl, rfl, SqL.of (s2 _ _ hpt.at_), rfl, _, rfl, _, rfl, p, n * c, _, _, m, bs.flatten, rfl, stb2 _ _ _ _ (TK.of s2) fo, stb1 _ _ _ _ (TK.of s2) hlt, hp, mL, hfl, by omega, by omega, fun y H3 s3 hy => ?_⟩
        have s3 := s2.trans s3
        have hpl3 := hpl.same s3
        obtain ⟨dx, qv0, dv0, hx, _, _⟩ := id hpl3
        have no : ∀ {m : Str}, ¬ m = "weight" → ¬ m = "draws" → ¬ m = "questions" → ¬ m = "house_count" → ¬ m = "book_count" → ¬ m = "book_length" → ¬ m = "p" → (pf p n c qss.length qv0 dv0 (ds.map (·.1)).sum).lookup m = none := pf_no
        refine ⟨_, rfl, x, dx, _, rfl, hx, no (by decide +kernel) (by decide +kernel) (by decide +kernel) (by decide +kernel) (by decide +kernel) (by decide +kernel) (by decide +kernel), _, rfl, _, rfl, ?_⟩
        refine ⟨x, _, _, p, n, c, qss, ds, rfl, hpl3, ty3_int _, ty3_int _, qer, fun m' hm' => ?_⟩
        cases qat hm'
        refine ⟨_, rfl, oc, _, rfl, .inr (SqT.of (s3 _ _ hoc)), _, _, rfl, .inl ⟨_, rfl, by rw [paired_len hop]⟩, _, rfl, iteF ?_⟩
        refine ⟨_, rfl, x, dx, _, rfl, hx, no (by decide +kernel) (by decide +kernel) (by decide +kernel) (by decide +kernel) (by decide +kernel) (by decide +kernel) (by decide +kernel), _, rfl, _, rfl, _, rfl, ?_⟩
        refine ⟨x, _, _, _, p, n, c, qss, ds, rfl, hpl3, ok.ok, ty3_int _, ty3_int _, qer, fun m' hm' => ?_⟩
        cases qat hm'
        refine .inr ⟨a, p, n, bs, rfl, hlib.same s3, hbn, fun z => absurd ⟨rfl, hbc, rfl⟩ z, fun _ y3 H4 s4 hy3 => ?_⟩
        refine ⟨_, rfl, _, _, rfl, eqV_up (eqV_up (eqV_up (eqv1 hy3 (stb1 _ _ _ _ (TK.of s4) hy) ?_))), _, rfl, iteF ⟨_, _, _, rfl, s3.trans s4⟩⟩
        unfold ans
        rw [List.length_map]
        omega
      · rintro σ H2 ⟨v5, v6, v7, rfl, s2⟩
        exact ⟨_, _, _, _, rfl, s2⟩
    · rintro σ H1 ⟨v4, v5, v6, v7, rfl, s1⟩
      exact kk _ s1
end
end WU

set_option maxRecDepth 100000
set_option maxHeartbeats 8000000
namespace WU
open PySem PySem.Spec PyProof.Rows L2
theorem eqV_self {x : V} (h : flatV x = true) : eqV x x = true := by
  cases x with
  | non => rfl
  | bl b => show (b == b) = true; simp
  | int i => show (i == i) = true; simp
  | str z => show decide (z = z) = true; simp
  | _ => cases h
section
variable {X : Cx} {K : PySem.W.Frag}
/-- != of two lists of the same things -/
def rNeS (K : PySem.W.Frag) : R2 := fun x y H Q => ∃ a b xs, x = .ref a ∧ y = .ref b ∧ SqL K H a xs ∧ SqL K H b xs ∧ (∀ z ∈ xs, FR z) ∧ Q (.bl false) H
theorem op_neS (hu : X.A.units + 64 < cLine) (hK : X.K = K := by rfl) : OpR X (compareOp .NotEq) (rNeS K) := by
  subst hK
  intro pins s σ H x y v u Q I rx ry h
  obtain ⟨a, b, xs, rfl, rfl, ha, hb, hf, q⟩ := h
  cases rx
  cases ry
  obtain ⟨its, r1, p1, _⟩ := I.list ha
  obtain ⟨its2, r2, p2, _⟩ := I.list hb
  have e1 := r1.length
  have e2 := r2.length
  have hsz : its.toArray.size = its2.toArray.size := by rw [List.size_toArray, List.size_toArray, ← e1, ← e2]
  show wpAny (model X.prog X.w) X.A (richCompare .NotEq (.ref a) (.ref b)) (EP X pins σ Q) X.xe s
  refine SeqAt.RcNeAt.lists (e := fun _ => true) p1.isList p2.isList hsz (by omega) (fun j h1 h2 => ?_) X.prog X.w X.xe _ ⟨.bl _, H, I, ?_, q⟩
  · rw [List.size_toArray] at h1 h2
    have hx : xs[j]? = some (xs[j]'(by omega)) := List.getElem?_eq_getElem (by omega)
    have hfz := hf _ (List.getElem_mem (show j < xs.length by omega))
    obtain ⟨v1, hv1, rv1⟩ := paired_at r1 hx
    obtain ⟨v2, hv2, rv2⟩ := paired_at r2 hx
    have g1 : its.toArray[j] = v1 := by
      have : its[j]? = some v1 := hv1
      rw [List.getElem?_eq_getElem h1] at this
      simpa using this
    have g2 : its2.toArray[j] = v2 := by
      have : its2[j]? = some v2 := hv2
      rw [List.getElem?_eq_getElem h2] at this
      simpa using this
    rw [g1, g2]
    rcases hfz with hz | ⟨p, hz⟩
    · have := eqAt_V (A := X.A.in1) (s := s) rv1 rv2 hz hz
      rw [eqV_self hz] at this
      exact this
    · rw [hz] at rv1 rv2
      cases rv1
      cases rv2
      exact SeqAt.EqAt.same _
  · have : ((List.range its.toArray.size).all fun _ => true) = true := List.all_eq_true.mpr fun _ _ => rfl
    rw [this]
    rfl
end
theorem told_frs {s : Str} {v : V} (h : FR v) : ∀ z ∈ ([.str s, v] : List V), FR z := fun z hz => by
  rcases List.mem_cons.mp hz with e | hz
  · rw [e]
    exact .inl rfl
  · rw [List.mem_singleton.mp hz]
    exact h
section
variable {K : PySem.W.Frag} {L LL : Addr} {H : Hp} {x : Addr} {p : Int} {n c : Nat} {qss : List (List (List (List Int)))} {ds : List (Int × List (List Int))} {u t l : V} {Q' : VK} {E' : XK}
theorem in_ds (ok : Pok p n c qss ds) {i j : Nat} {d : Int × List (List Int)} {r : List Int} (h1 : ds[j]? = some d) (h2 : d.2[i]? = some r) : i < c ∧ j < ds.length := by
  have := (List.getElem?_eq_some_iff.mp h2).1
  have := (ok.dok d (List.mem_of_getElem? h1)).2.1
  exact ⟨by omega, (List.getElem?_eq_some_iff.mp h1).1⟩
theorem cl_wish (hpl : PlAt L H x p n c qss ds) (ok : Pok p n c qss ds) {e : Int} (ft : FarV K H e t) (fu : FarV K H c u) (hE : Errs (He.ga K "InvalidNumber") "value" u H E') : ∀ wh : Int, 0 ≤ wh → wh < 3 → spLcl K L LL [.int wh, .ref x, u, t, l] H Q' E' := by
  intro wh w0 w3
  have no : ∀ (i j : Nat) (d : Int × List (List Int)) (r : List Int), u = .int (i : Int) → t = .int (j : Int) → ds[j]? = some d → d.2[i]? = some r → False := fun i j d r e1 e2 e3 e4 => by
    have := fu.bel
    rw [e1, bel_lt (in_ds ok e3 e4).1] at this
    cases this
  have w : wh = 0 ∨ wh = 1 ∨ wh = 2 := by omega
  refine ⟨wh, x, u, t, l, rfl, ?_⟩
  rcases w with rfl | rfl | rfl
  · exact .inl ⟨rfl, x, u, t, p, n, c, qss, ds, rfl, hpl, ok, fu.ty, ft.ty, fun _ => hE, fun z => (by rw [fu.bel] at z; cases z), fun i j d r e1 e2 e3 e4 => (no i j d r e1 e2 e3 e4).elim⟩
  · exact .inr (.inl ⟨rfl, x, u, t, p, n, c, qss, ds, rfl, hpl, ok, fun H' s => ⟨(fu.same s).ty, (ft.same s).ty⟩, fun _ => hE, fun z => (by rw [fu.bel] at z; cases z), fun i j d r e1 e2 e3 e4 => (no i j d r e1 e2 e3 e4).elim⟩)
  · exact .inr (.inr (.inl ⟨rfl, x, u, t, l, p, n, c, qss, ds, rfl, hpl, ok, fu.ty, ft.ty, fun _ => hE, fun z => (by rw [fu.bel] at z; cases z), fun i j d r e1 e2 e3 e4 => (no i j d r e1 e2 e3 e4).elim⟩))
theorem cl_draw (hpl : PlAt L H x p n c qss ds) (ok : Pok p n c qss ds) (ft : FarV K H ds.length t) {k : Nat} (hk : k < c) (hE : Errs (He.ga K "InvalidNumber") "value" t H E') : ∀ wh : Int, 0 ≤ wh → wh < 3 → spLcl K L LL [.int wh, .ref x, .int (k : Int), t, l] H Q' E' := by
  intro wh w0 w3
  have no : ∀ (i j : Nat) (d : Int × List (List Int)) (r : List Int), V.int (k : Int) = .int (i : Int) → t = .int (j : Int) → ds[j]? = some d → d.2[i]? = some r → False := fun i j d r e1 e2 e3 e4 => by
    have := ft.bel
    rw [e2, bel_lt (in_ds ok e3 e4).2] at this
    cases this
  have kb : isBel (c : Int) (.int (k : Int)) = false → False := fun z => by
    rw [bel_lt hk] at z
    cases z
  have w : wh = 0 ∨ wh = 1 ∨ wh = 2 := by omega
  refine ⟨wh, x, _, t, l, rfl, ?_⟩
  rcases w with rfl | rfl | rfl
  · exact .inl ⟨rfl, x, _, t, p, n, c, qss, ds, rfl, hpl, ok, ty3_int _, ft.ty, fun z => (kb z).elim, fun _ _ => hE, fun i j d r e1 e2 e3 e4 => (no i j d r e1 e2 e3 e4).elim⟩
  · exact .inr (.inl ⟨rfl, x, _, t, p, n, c, qss, ds, rfl, hpl, ok, fun H' s => ⟨ty3_int _, (ft.same s).ty⟩, fun z => (kb z).elim, fun _ _ => hE, fun i j d r e1 e2 e3 e4 => (no i j d r e1 e2 e3 e4).elim⟩)
  · exact .inr (.inr (.inl ⟨rfl, x, _, t, l, p, n, c, qss, ds, rfl, hpl, ok, ty3_int _, ft.ty, fun z => (kb z).elim, fun _ _ => hE, fun i j d r e1 e2 e3 e4 => (no i j d r e1 e2 e3 e4).elim⟩))
theorem cl_lib (hpl : PlAt L H x p n c qss ds) (ok : Pok p n c qss ds) (N : NoL K LL) {k g : Nat} (hk : k < c) (hg : g < ds.length) (fl : OtV LL H p n c l) (hE : Errs (He.ga K "InvalidLibrary") "value" l H E') : spLcl K L LL [.int 2, .ref x, .int (k : Int), .int (g : Int), l] H Q' E' :=
  ⟨2, x, _, _, l, rfl, .inr (.inr (.inl ⟨rfl, x, _, _, l, p, n, c, qss, ds, rfl, hpl, ok, ty3_int _, ty3_int _, fun z => (by rw [bel_lt hk] at z; cases z), fun _ z => (by rw [bel_lt hg] at z; cases z), fun i j d r e1 e2 e3 e4 => fl.says N hE⟩))⟩
theorem cl_house (hpl : PlAt L H x p n c qss ds) (ok : Pok p n c qss ds) {e : Int} (ft : FarV K H e t) (fu : FarV K H qss.length u) (hE : Errs (He.ga K "InvalidNumber") "value" u H E') : ∀ wh : Int, wh = 3 ∨ wh = 4 → spLcl K L LL [.int wh, .ref x, u, t, l] H Q' E' := by
  intro wh w
  have no : ∀ (h : Nat) (qs : List (List (List Int))), u = .int (h : Int) → qss[h]? = some qs → False := fun h qs e1 e2 => by
    have := fu.bel
    rw [e1, bel_lt (List.getElem?_eq_some_iff.mp e2).1] at this
    cases this
  have qe : QErr K qss u t H E' := ⟨fun _ => hE, fun h qs e1 e2 => (no h qs e1 e2).elim⟩
  refine ⟨wh, x, u, t, l, rfl, ?_⟩
  rcases w with rfl | rfl
  · exact .inr (.inr (.inr (.inl ⟨rfl, x, u, t, p, n, c, qss, ds, rfl, hpl, fu.ty, ft.ty, qe, fun m ⟨h, k, qs, e1, e2, e3, e4⟩ => (no h qs e1 e3).elim⟩)))
  · exact .inr (.inr (.inr (.inr ⟨rfl, x, u, t, l, p, n, c, qss, ds, rfl, hpl, ok, fu.ty, ft.ty, qe, fun m ⟨h, k, qs, e1, e2, e3, e4⟩ => (no h qs e1 e3).elim⟩)))
theorem cl_question (hpl : PlAt L H x p n c qss ds) (ok : Pok p n c qss ds) {k : Nat} {qs : List (List (List Int))} (hq : qss[k]? = some qs) (ft : FarV K H qs.length t) (hE : Errs (He.ga K "InvalidNumber") "value" t H E') : ∀ wh : Int, wh = 3 ∨ wh = 4 → spLcl K L LL [.int wh, .ref x, .int (k : Int), t, l] H Q' E' := by
  intro wh w
  have hk := (List.getElem?_eq_some_iff.mp hq).1
  have qe : QErr K qss (.int (k : Int)) t H E' := ⟨fun z => (by rw [bel_lt hk] at z; cases z), fun h qs' e1 e2 _ => hE⟩
  have no : ∀ m, QAt qss (.int (k : Int)) t m → False := fun m ⟨h, g, qs', e1, e2, e3, e4⟩ => by
    cases Int.natCast_inj.mp (V.int.inj e1)
    rw [hq] at e3
    cases e3
    have := ft.bel
    rw [e2, bel_lt (List.getElem?_eq_some_iff.mp e4).1] at this
    cases this
  refine ⟨wh, x, _, t, l, rfl, ?_⟩
  rcases w with rfl | rfl
  · exact .inr (.inr (.inr (.inl ⟨rfl, x, _, t, p, n, c, qss, ds, rfl, hpl, ty3_int _, ft.ty, qe, fun m hm => (no m hm).elim⟩)))
  · exact .inr (.inr (.inr (.inr ⟨rfl, x, _, t, l, p, n, c, qss, ds, rfl, hpl, ok, ty3_int _, ft.ty, qe, fun m hm => (no m hm).elim⟩)))
theorem cl_qlib (hpl : PlAt L H x p n c qss ds) (ok : Pok p n c qss ds) (N : NoL K LL) {k : Nat} {qs : List (List (List Int))} (hq : qss[k]? = some qs) (q0 : 0 < qs.length) (fl : OtV LL H p n c l) (hE : Errs (He.ga K "InvalidLibrary") "value" l H E') : spLcl K L LL [.int 4, .ref x, .int (k : Int), .int 0, l] H Q' E' :=
  ⟨4, x, _, _, l, rfl, .inr (.inr (.inr (.inr ⟨rfl, x, _, _, l, p, n, c, qss, ds, rfl, hpl, ok, ty3_int _, ty3_int _, ⟨fun z => (by rw [bel_lt (List.getElem?_eq_some_iff.mp hq).1] at z; cases z), fun h qs' e1 e2 z => (by
    cases Int.natCast_inj.mp (V.int.inj e1)
    rw [hq] at e2
    cases e2
    rw [show (0 : Int) = ((0 : Nat) : Int) from rfl, bel_lt q0] at z
    cases z)⟩, fun m _ => fl.says N hE⟩)))⟩
end
theorem PlAt.keep {L : Addr} {H H' : Hp} {a d x : Addr} {p : Int} {n c : Nat} {qss : List (List (List (List Int)))} {ds : List (Int × List (List Int))} (h : PlAt L H x p n c qss ds) (hh : HandAt H a d) (k : Keep a H H') : PlAt L H' x p n c qss ds := by
  have tk := hh.tk k
  obtain ⟨ds', i, h1, _⟩ := hh
  obtain ⟨dx, qv, dv, hx, hq, hd⟩ := h
  exact ⟨dx, qv, dv, k _ _ (fun z => by rw [z, h1] at hx; cases hx) hx, stb4 _ _ _ _ tk hq, stb_TF stb_TD _ _ _ _ tk hd⟩
/-- what stands throughout -/
structure Lw (L : Addr) (H : Hp) (a d x l : Addr) (p : Int) (n c : Nat) (qv dv : V) (qss : List (List (List (List Int)))) (ds : List (Int × List (List Int))) : Prop where
  hand : HandAt H a d
  pl : PlAt L H x p n c qss ds
  pt : PtAt H l p n c qv dv qss ds
  ne : l ≠ a
section
variable {L : Addr} {H H' : Hp} {a d x l : Addr} {p : Int} {n c : Nat} {qv dv : V} {qss : List (List (List (List Int)))} {ds : List (Int × List (List Int))}
theorem Lw.same (h : Lw L H a d x l p n c qv dv qss ds) (s : Same H H') : Lw L H' a d x l p n c qv dv qss ds := ⟨h.hand.same s, h.pl.same s, h.pt.same s, h.ne⟩
theorem Lw.keep (h : Lw L H a d x l p n c qv dv qss ds) (k : Keep a H H') (hh : HandAt H' a d) : Lw L H' a d x l p n c qv dv qss ds :=
  ⟨hh, h.pl.keep h.hand k, ⟨k _ _ h.ne h.pt.at_, stb4 _ _ _ _ (h.hand.tk k) h.pt.q, stb_TF stb_TD _ _ _ _ (h.hand.tk k) h.pt.d⟩, h.ne⟩
end
end WU

set_option maxRecDepth 100000
set_option maxHeartbeats 16000000
namespace WU
open PySem PySem.Spec PyProof.Rows L2
theorem scLaw : FnScope ["script", "hand", "parts", "p", "size", "count", "questions", "draws", "plan", "step", "books", "library", "letters", "book", "wish", "draw", "other", "far", "which", "house", "n", "question"] ["script"] (defScope sLaw) := ⟨rfl, rfl, rfl, by decide +kernel, rfl, by decide +kernel, by decide +kernel⟩
def CalE (P : Program) (w : World) (K : PySem.W.Frag) (mg : Str → Option Value) (base : Heap) (k : Nat) (x : Str) (ps : List Str) (sp : Sp) : Prop := ∃ f fd, Cal P w K mg base k x f fd ps sp
/-- a Plan is made -/
structure PlMk (P : Program) (w : World) (K : PySem.W.Frag) (mg : Str → Option Value) (base : Heap) (L fL : Addr) (fdL : FuncData) : Prop where
  made : Mk K L fL
  gI : FnOk P w K mg base (L2.CX P w) 8 fL fdL ["self", "p", "book_length", "book_count", "questions", "draws"] (spPI L)
  bI : L2.Binds K fdL ["self", "p", "book_length", "book_count", "questions", "draws"] []
/-- what the law calls -/
structure LC (P : Program) (w : World) (K : PySem.W.Frag) (mg : Str → Option Value) (base : Heap) (L LL : Addr) : Prop where
  B : Blt5 mg
  cP : PlC K mg L
  cL : LibC K mg LL
  nL : NoL K LL
  draws : CalE P w K mg base 1 "_law_draws" ["script", "many"] (spDraws K 700)
  take : CalE P w K mg base 1 "_law_take" ["hand", "many"] spTake
  parts : CalE P w K mg base 3 "_law_parts" ["hand"] spLPt
  books : CalE P w K mg base 2 "_law_books" ["hand", "p", "count", "size"] spBk
  asks : CalE P w K mg base 11 "_law_asks_right" ["plan", "parts", "wish", "draw", "letters", "library"] (spLar L LL)
  houses : CalE P w K mg base 10 "_law_houses_right" ["plan", "parts", "letters", "library"] (spLhr L LL)
  other : CalE P w K mg base 8 "_law_other_library" ["hand", "p", "size", "count"] (spLot LL)
  far : CalE P w K mg base 2 "_law_far" ["hand", "end"] (spFa K)
  told : CalE P w K mg base 12 "_law_told" ["which", "plan", "one", "two", "library"] (spLtd K L LL)
  is : CalE P w K mg base 6 "_law_is_plan" ["plan", "parts"] (spLip L)
  same : CalE P w K mg base 5 "_law_same" ["found", "due"] (spSm 4)
  mkP : ∃ f fd, PlMk P w K mg base L f fd
  mkL : ∃ f fd, LbMk P w K mg base LL f fd
def spLaw (K : PySem.W.Frag) : Sp := fun vs H Q _ => ∃ (a : Addr) (ns : List Int), vs = [.ref a] ∧ SqL K H a (ns.map V.int) ∧ ns.length ≤ 63 ∧ ∀ H', Q (.bl true) H'
section
variable {P : Program} {w : World} {K : PySem.W.Frag} {mg : Str → Option Value} {base : Heap} {L LL : Addr}
theorem ok_Law {f : Addr} {fd : FuncData} (F : FnS K "law" sLaw f fd) (C0 : LC P w K mg base L LL) : FnOk P w K mg base CX0 13 f fd ["script"] (spLaw K) := by
  refine F.ok scLaw (fun vs H Q E h => ?_) (fun cdv A outer s H vs Q E hr h => ?_)
  · obtain ⟨a, ns, rfl, _⟩ := h
    rfl
  · obtain ⟨a0, ns, rfl, hS, hl, kk⟩ := h
    have nd := scLaw.nd
    have B := C0.B
    have C := C0.cP
    have CL := C0.cL
    have hu : (A.deeper (envOfC "law" (defScope sLaw) s.heap.objs.size f cdv)).units + 64 < cLine := by have := hr.un; omega
    obtain ⟨_, _, CD⟩ := C0.draws
    obtain ⟨_, _, CT⟩ := C0.take
    obtain ⟨_, _, CPt⟩ := C0.parts
    obtain ⟨_, _, CBk⟩ := C0.books
    obtain ⟨_, _, CAr⟩ := C0.asks
    obtain ⟨_, _, CHr⟩ := C0.houses
    obtain ⟨_, _, COl⟩ := C0.other
    obtain ⟨_, _, CFa⟩ := C0.far
    obtain ⟨_, _, CTd⟩ := C0.told
    obtain ⟨_, _, CIp⟩ := C0.is
    obtain ⟨_, _, CS⟩ := C0.same
    obtain ⟨_, _, Mm⟩ := C0.mkP
    obtain ⟨_, _, CLm⟩ := C0.mkL
    refine ⟨_, (pss_cons (ps_set (i := 1) nd rfl (Or.inl rfl) (pe_lst (pa_cons (pe_cal CD (hr.mono (by decide)) (pa_cons (pv 0) (pa_cons pe_int pa_nil)) passU) (pa_cons pe_int pa_nil))))
      (pss_cons (ps_set (i := 2) nd rfl (Or.inl rfl) (pe_cal CPt (hr.mono (by decide)) (pa_cons (pv 1) pa_nil) passU))
      (pss_cons (ps_asg (pv 2) (pg_unl (K := K) rfl (pgs_cons (pg_name (i := 3) nd rfl (Or.inl rfl)) (pgs_cons (pg_name (i := 4) nd rfl (Or.inl rfl)) (pgs_cons (pg_name (i := 5) nd rfl (Or.inl rfl)) (pgs_cons (pg_name (i := 6) nd rfl (Or.inl rfl)) (pgs_cons (pg_name (i := 7) nd rfl (Or.inl rfl)) pgs_nil)))))))
      (pss_cons (ps_set (i := 8) nd rfl (Or.inl rfl) (pe_make (E := E0) Mm.made Mm.gI (hr.mono (by decide)) (by rfl) C.g Mm.bI .nil passU (pa_cons (pv 3) (pa_cons (pv 4) (pa_cons (pv 5) (pa_cons (pv 6) (pa_cons (pv 7) pa_nil)))))))
      (pss_cons (ps_for (passes_of rfl) rfl (pi_range1 rfl B.range (pa_cons pe_int pa_nil)) (pg_name (i := 9) nd rfl (Or.inl rfl)) (pss_cons (ps_set (i := 10) nd rfl (Or.inl rfl) (pe_cal CBk (hr.mono (by decide)) (pa_cons (pv 1) (pa_cons (pv 3) (pa_cons (pv 5) (pa_cons (pv 4) pa_nil)))) passU))
      (pss_cons (ps_set (i := 11) nd rfl (Or.inl rfl) (pe_make (E := E0) CLm.made CLm.gI (hr.mono (by decide)) (by rfl) CL.g CLm.bI .nil passU (pa_cons (pv 3) (pa_cons (pv 10) pa_nil))))
      (pss_cons (ps_set (i := 12) nd rfl (Or.inl rfl) (pe_tup pa_nil))
      (pss_cons (ps_for (passes_of rfl) rfl (pi_tupK (K := K) (pv 10)) (pg_name (i := 13) nd rfl (Or.inl rfl)) (pss_one (ps_set (i := 12) nd rfl (Or.inl rfl) (pe_op (op_catAK (K := K)) (pv 12) (pv 13)))))
      (pss_cons (ps_for (passes_of rfl) rfl (pi_range1 rfl B.range (pa_cons (pv 5) pa_nil)) (pg_name (i := 14) nd rfl (Or.inl rfl)) (pss_one (ps_for (passes_of rfl) rfl (pi_range1 rfl B.range (pa_cons (pe_callB (len_seqK (K := K)) (by rfl) B.len (by decide +kernel) (pa_cons (pv 7) pa_nil)) pa_nil)) (pg_name (i := 15) nd rfl (Or.inl rfl)) (pss_one (ps_if (pt_not (pt_val (pe_cal CAr (hr.mono (by decide)) (pa_cons (pv 8) (pa_cons (pv 2) (pa_cons (pv 14) (pa_cons (pv 15) (pa_cons (pv 12) (pa_cons (pv 11) pa_nil)))))) passU))) (pss_one (ps_ret pe_bl)) pss_nil)))))
      (pss_one (ps_if (pt_not (pt_val (pe_cal CHr (hr.mono (by decide)) (pa_cons (pv 8) (pa_cons (pv 2) (pa_cons (pv 12) (pa_cons (pv 11) pa_nil)))) passU))) (pss_one (ps_ret pe_bl)) pss_nil))))))))
      (pss_cons (ps_set (i := 16) nd rfl (Or.inl rfl) (pe_cal COl (hr.mono (by decide)) (pa_cons (pv 1) (pa_cons (pv 3) (pa_cons (pv 4) (pa_cons (pv 5) pa_nil)))) passU))
      (pss_cons (ps_set (i := 14) nd rfl (Or.inl rfl) (pe_cal CFa (hr.mono (by decide)) (pa_cons (pv 1) (pa_cons (pv 5) pa_nil)) passU))
      (pss_cons (ps_set (i := 17) nd rfl (Or.inl rfl) (pe_cal CFa (hr.mono (by decide)) (pa_cons (pv 1) (pa_cons (pe_callB (len_seqK (K := K)) (by rfl) B.len (by decide +kernel) (pa_cons (pv 7) pa_nil)) pa_nil)) passU))
      (pss_cons (ps_set (i := 15) nd rfl (Or.inl rfl) (pe_cal CT (hr.mono (by decide)) (pa_cons (pv 1) (pa_cons (pe_callB (len_seqK (K := K)) (by rfl) B.len (by decide +kernel) (pa_cons (pv 7) pa_nil)) pa_nil)) passU))
      (pss_cons (ps_for (passes_of rfl) rfl (pi_range1 rfl B.range (pa_cons pe_int pa_nil)) (pg_name (i := 18) nd rfl (Or.inl rfl)) (pss_cons (ps_if (pt_cmpR (op_neS (K := K) hu) (pe_cal CTd (hr.mono (by decide)) (pa_cons (pv 18) (pa_cons (pv 8) (pa_cons (pv 14) (pa_cons (pv 17) (pa_cons (pv 16) pa_nil))))) passU) (pe_lst (pa_cons pe_str (pa_cons (pv 14) pa_nil))) (nomark _)) (pss_one (ps_ret pe_bl)) pss_nil)
      (pss_one (ps_if (pt_cmpR (op_neS (K := K) hu) (pe_cal CTd (hr.mono (by decide)) (pa_cons (pv 18) (pa_cons (pv 8) (pa_cons (pe_op op_sub (pv 5) pe_int) (pa_cons (pv 17) (pa_cons (pv 16) pa_nil))))) passU) (pe_lst (pa_cons pe_str (pa_cons (pv 17) pa_nil))) (nomark _)) (pss_one (ps_ret pe_bl)) pss_nil))))
      (pss_cons (ps_if (pt_cmpR (op_neS (K := K) hu) (pe_cal CTd (hr.mono (by decide)) (pa_cons pe_int (pa_cons (pv 8) (pa_cons pe_int (pa_cons (pv 15) (pa_cons (pv 16) pa_nil))))) passU) (pe_lst (pa_cons pe_str (pa_cons (pv 16) pa_nil))) (nomark _)) (pss_one (ps_ret pe_bl)) pss_nil)
      (pss_cons (ps_set (i := 19) nd rfl (Or.inl rfl) (pe_cal CFa (hr.mono (by decide)) (pa_cons (pv 1) (pa_cons (pe_callB (len_seqK (K := K)) (by rfl) B.len (by decide +kernel) (pa_cons (pv 6) pa_nil)) pa_nil)) passU))
      (pss_cons (ps_set (i := 20) nd rfl (Or.inl rfl) (pe_cal CT (hr.mono (by decide)) (pa_cons (pv 1) (pa_cons (pe_callB (len_seqK (K := K)) (by rfl) B.len (by decide +kernel) (pa_cons (pv 6) pa_nil)) pa_nil)) passU))
      (pss_cons (ps_set (i := 21) nd rfl (Or.inl rfl) (pe_cal CFa (hr.mono (by decide)) (pa_cons (pv 1) (pa_cons (pe_callB (len_seqK (K := K)) (by rfl) B.len (by decide +kernel) (pa_cons (pe_ix (ix_tupK (K := K)) (pv 6) (pv 20) (fun _ _ => rfl)) pa_nil)) pa_nil)) passU))
      (pss_cons (ps_for (passes_of rfl) rfl (pi_listK (K := K) (pe_lst (pa_cons pe_int (pa_cons pe_int pa_nil)))) (pg_name (i := 18) nd rfl (Or.inl rfl)) (pss_cons (ps_if (pt_cmpR (op_neS (K := K) hu) (pe_cal CTd (hr.mono (by decide)) (pa_cons (pv 18) (pa_cons (pv 8) (pa_cons (pv 19) (pa_cons (pv 21) (pa_cons (pv 16) pa_nil))))) passU) (pe_lst (pa_cons pe_str (pa_cons (pv 19) pa_nil))) (nomark _)) (pss_one (ps_ret pe_bl)) pss_nil)
      (pss_one (ps_if (pt_cmpR (op_neS (K := K) hu) (pe_cal CTd (hr.mono (by decide)) (pa_cons (pv 18) (pa_cons (pv 8) (pa_cons (pv 20) (pa_cons (pv 21) (pa_cons (pv 16) pa_nil))))) passU) (pe_lst (pa_cons pe_str (pa_cons (pv 21) pa_nil))) (nomark _)) (pss_one (ps_ret pe_bl)) pss_nil))))
      (pss_cons (ps_if (pt_cmpR (op_neS (K := K) hu) (pe_cal CTd (hr.mono (by decide)) (pa_cons pe_int (pa_cons (pv 8) (pa_cons (pv 20) (pa_cons pe_int (pa_cons (pv 16) pa_nil))))) passU) (pe_lst (pa_cons pe_str (pa_cons (pv 16) pa_nil))) (nomark _)) (pss_one (ps_ret pe_bl)) pss_nil)
      (pss_one (ps_ret (pe_and (pe_cal CIp (hr.mono (by decide)) (pa_cons (pv 8) (pa_cons (pv 2) pa_nil)) passU) (pe_one (pe_cal CS (hr.mono (by decide)) (pa_cons (pe_fld (pv 11) rfl) (pa_cons (pv 10) pa_nil)) passU))))))))))))))))))))), ?_⟩
    refine ⟨_, rfl, a0, ns, rfl, hS, hl, fun d ds0 H1 s1 nd1 e1 nn ln => ⟨(by show 2 ≤ sizeLine; decide), fun a ha => ?_⟩⟩
    have hh1 : HandAt (upd H1 a (.lst [.ref d, .int 0])) a d := ⟨ds0, 0, upd_same, by rw [upd_ne (ne_of_none e1 ha)]; exact e1, nn, Int.le_refl 0⟩
    generalize upd H1 a (.lst [.ref d, .int 0]) = H2 at hh1 ⊢
    refine ⟨_, rfl, a, d, rfl, hh1, fun l H3 p n c qv dv qss ds hpt ok nla hh3 k3 => ?_⟩
    obtain ⟨hp, n0, c0, n10, c10⟩ := szs_ok ok.sz
    have hnc := mul_le_100 n10 c10
    have hb := fld_le hp
    obtain ⟨qa, qxs, eqa, hqa, hqp⟩ := id hpt.q
    obtain ⟨da, dxs, eda, hda, hdp⟩ := id hpt.d
    subst eqa eda
    refine ⟨_, rfl, l, _, rfl, SqL.of hpt.at_, rfl, _, _, rfl, _, _, rfl, _, _, rfl, _, _, rfl, _, _, rfl, rfl, ?_⟩
    refine ⟨_, rfl, _, rfl, _, rfl, _, rfl, _, rfl, fun x dx hx hdx hne => ?_⟩
    have sN : Same H3 (upd (upd H3 dx (.own x)) x (.ins L dx [])) := (same_new hdx).trans (same_new (by rw [upd_ne (Ne.symm hne)]; exact hx))
    have nxk : ∀ {H'}, Keep x (upd (upd H3 dx (.own x)) x (.ins L dx [])) H' → Same H3 H' := fun {H'} k b o hb => k _ _ (ne_of_none hb hx) (sN _ _ hb)
    refine ⟨x, dx, p, n, c, _, _, qss, ds, rfl, upd_same, stb4 _ _ _ _ (TK.of sN) hpt.q, stb_TF stb_TD _ _ _ _ (TK.of sN) hpt.d, ok.ok, fun H4 hpl k4 => ⟨rfl, ?_⟩⟩
    have s4 := nxk k4
    have w4 : Lw L H4 a d x l p n c (.ref qa) (.ref da) qss ds := ⟨hh3.same s4, hpl, hpt.same s4, nla⟩
    clear nxk sN
    refine ⟨(3 : Int), rfl, by decide, by decide, for_range (lo := 0) (n := 3) (fun i σ H' => ∃ (v9 v10 v11 v12 v13 v14 v15 : Option V), σ = [some (.ref a0), some (.ref a), some (.ref l), some (.int p), some (.int (n : Int)), some (.int (c : Int)), some (.ref qa), some (.ref da), some (.ref x), v9, v10, v11, v12, v13, v14, v15, none, none, none, none, none, none] ∧
      Lw L H' a d x l p n c (.ref qa) (.ref da) qss ds ∧ (0 < i → ∃ (r lib : Addr) (bs : List (List Int)), v10 = some (.ref r) ∧ v11 = some (.ref lib) ∧ BkAt H' r bs ∧ LibAt LL H' lib p n bs ∧ bs.length = c ∧ ∀ b ∈ bs, b.length = n)) ⟨none, none, none, none, none, none, none, rfl, w4, fun z => absurd z (by decide)⟩ ?_ ?_⟩
    · rintro i σ H5 hi ⟨v9, v10, v11, v12, v13, v14, v15, rfl, w5, _⟩
      refine ⟨_, rfl, _, rfl, _, rfl, _, rfl, a, d, p, c, n, rfl, w5.hand, by omega, by omega, by omega, fun r bs H6 hbk lb ltb hh6 k6 => ?_⟩
      have w6 := w5.keep k6 hh6
      obtain ⟨rs, hr1, hr2⟩ := id hbk
      have hbn : ∀ b ∈ bs, b.length = n := fun b hb => (ltb b hb).1
      have good : LGood p n bs := ⟨fun z => by rw [z] at lb; exact absurd lb (by intro z; have : 0 = c := z; omega), n0, by omega, by omega, ltb⟩
      refine ⟨_, rfl, _, rfl, fun lib dl hx' hdx' hne' => lib_new2 hp (.inr hr1) (paired_mono (fun _ _ q => q.sb) hr2) good hx' hdx' hne' fun H7 s7 hlib => ⟨rfl, ?_⟩⟩
      have w7 := w6.same s7
      have hbk7 : BkAt H7 r bs := ⟨rs, s7 _ _ hr1, paired_mono (fun _ _ q => q.same s7) hr2⟩
      clear hr1 hr2 hbk
      obtain ⟨rs, hr1, hr2⟩ := id hbk7
      refine ⟨(by show 0 ≤ sizeLine; decide), fun e he => ?_⟩
      have s8 := same_new (o := .tup []) he
      have ee : upd H7 e (.tup []) e = some (.tup []) := upd_same
      generalize upd H7 e (.tup []) = H8 at s8 ee ⊢
      refine ⟨_, rfl, r, rfl, ⟨_, SqT.of (s8 _ _ hr1)⟩, for_tup (K := K) (a := r) (xs := rs) (fun k σ H' => ∃ (lv : V) (v13 : Option V), σ = [some (.ref a0), some (.ref a), some (.ref l), some (.int p), some (.int (n : Int)), some (.int (c : Int)), some (.ref qa), some (.ref da), some (.ref x), some (.int (0 + (i : Int))), some (.ref r), some (.ref lib), some lv, v13, v14, v15, none, none, none, none, none, none] ∧ Same H7 H' ∧ T1 H' lv (bs.take k).flatten)
        ⟨.ref e, v13, rfl, s8, ⟨e, [], rfl, ee, .nil⟩⟩ (fun k σ H' _ ⟨_, _, _, z, _⟩ => SqT.of (z _ _ hr1)) ?_ ?_⟩
      · rintro k y σ H9 hy ⟨lv, v13, rfl, s9, tl⟩
        obtain ⟨b, hb, bc, rfl, hbc⟩ := paired_at hr2 hy
        have hkb : k < bs.length := (List.getElem?_eq_some_iff.mp hb).1
        refine ⟨_, rfl, _, rfl, cat_TF stb_FI tl (T1.mk (s9 _ _ hbc)) ?_ fun y2 H10 s10 ty2 => ⟨y2, _, rfl, s9.trans s10, ?_⟩⟩
        · rw [flat_len (n := n) (fun b hb => hbn b (List.mem_of_mem_take hb)), List.length_take, hbn b (List.mem_of_getElem? hb)]
          have : min k bs.length * n ≤ 100 := mul_le_100 (by omega) n10
          omega
        · rw [List.take_succ, hb, List.flatten_append]
          simp only [Option.toList, List.flatten_cons, List.flatten_nil, List.append_nil]
          exact ty2
      · rintro σ H9 ⟨lv, v13, rfl, s9, tl⟩
        rw [paired_len hr2, List.take_length] at tl
        obtain ⟨lt, lxs, rfl, hlt1, hlt2⟩ := id tl
        have w9 := w7.same s9
        refine ⟨_, rfl, (c : Int), rfl, by omega, by omega, for_range (lo := 0) (n := c) (fun k σ H' => ∃ (v14 v15 : Option V), σ = [some (.ref a0), some (.ref a), some (.ref l), some (.int p), some (.int (n : Int)), some (.int (c : Int)), some (.ref qa), some (.ref da), some (.ref x), some (.int (0 + (i : Int))), some (.ref r), some (.ref lib), some (.ref lt), v13, v14, v15, none, none, none, none, none, none] ∧ Same H9 H') ⟨v14, v15, rfl, Same.refl _⟩ ?_ ?_⟩
        · rintro k σ H10 hk ⟨v14, v15, rfl, s10⟩
          rw [Int.zero_add]
          obtain ⟨_, dx9, e9, hda9, hdp9⟩ := id w9.pt.d
          cases e9
          refine ⟨_, rfl, da, _, rfl, .inr (SqT.of (s10 _ _ hda9)), (ds.length : Int), by rw [paired_len hdp9], by omega, by have := ok.d4; omega, for_range (lo := 0) (n := ds.length) (fun j σ H' => ∃ (v15 : Option V), σ = [some (.ref a0), some (.ref a), some (.ref l), some (.int p), some (.int (n : Int)), some (.int (c : Int)), some (.ref qa), some (.ref da), some (.ref x), some (.int (0 + (i : Int))), some (.ref r), some (.ref lib), some (.ref lt), v13, some (.int (k : Int)), v15, none, none, none, none, none, none] ∧ Same H9 H') ⟨v15, rfl, s10⟩ ?_ ?_⟩
          · rintro j σ H11 hj ⟨v15, rfl, s11⟩
            rw [Int.zero_add]
            have w11 := w9.same s11
            exact ⟨_, rfl, _, rfl, _, rfl, _, rfl, _, rfl, _, rfl, x, l, lt, lib, k, j, p, n, c, _, _, qss, ds, bs, rfl, w11.pl, w11.pt, ok, hk, hj, stb1 _ _ _ _ (TK.of s11) tl, (hlib.same s9).same s11, hbn, lb, fun H12 s12 => ⟨_, rfl, iteF ⟨_, rfl, s11.trans s12⟩⟩⟩
          · rintro σ H11 ⟨v15, rfl, s11⟩
            exact ⟨_, _, rfl, s11⟩
        · rintro σ H10 ⟨v14, v15, rfl, s10⟩
          have w10 := w9.same s10
          refine ⟨_, rfl, _, rfl, _, rfl, _, rfl, x, l, lt, lib, p, n, c, _, _, qss, ds, bs, rfl, w10.pl, w10.pt, ok, stb1 _ _ _ _ (TK.of s10) tl, (hlib.same s9).same s10, hbn, lb, fun H11 s11 => ⟨_, rfl, iteF ?_⟩⟩
          have s12 := s10.trans s11
          exact ⟨_, _, _, _, _, _, _, rfl, w9.same s12, fun _ => ⟨r, lib, bs, rfl, rfl, ⟨rs, s12 _ _ (s9 _ _ hr1), paired_mono (fun _ _ q => (q.same s9).same s12) hr2⟩, (hlib.same s9).same s12, lb, hbn⟩⟩
    · rintro σ H5 ⟨v9, v10, v11, v12, v13, v14, v15, rfl, w5, hz⟩
      obtain ⟨r, lib, bs, rfl, rfl, hbk, hlib, lb, hbn⟩ := hz (by decide)
      clear hz
      have hbk0 : ∃ rs, H5 r = some (.tup rs) ∧ Paired (TB H5) rs bs := hbk
      have keepB : ∀ {H H' : Hp}, HandAt H a d → Keep a H H' → (∃ rs, H r = some (.tup rs) ∧ Paired (TB H) rs bs) → ∃ rs, H' r = some (.tup rs) ∧ Paired (TB H') rs bs := fun {H H'} hh k ⟨rs, h1, h2⟩ => by
        have tk := hh.tk k
        refine ⟨rs, tk _ _ h1, paired_mono (fun _ _ q => ?_) h2⟩
        obtain ⟨c, e, h⟩ := q
        exact ⟨c, e, tk _ _ h⟩
      -- other, wish, far, draw
      refine ⟨_, rfl, _, rfl, _, rfl, _, rfl, a, d, p, n, c, rfl, ok.sz, w5.hand, fun ov H6 ho hh6 k6 => ?_⟩
      have w6 := w5.keep k6 hh6
      have hlib := hlib.keep2 w5.hand k6
      have hbk := keepB w5.hand k6 hbk
      refine ⟨_, rfl, _, rfl, a, d, (c : Int), rfl, by omega, w6.hand, fun u H7 fu hh7 k7 => ?_⟩
      have w7 := w6.keep k7 hh7
      have hlib := hlib.keep2 w6.hand k7
      have hbk := keepB w6.hand k7 hbk
      have ho := ho.keep w6.hand k7
      obtain ⟨_, dx7, e7, hda7, hdp7⟩ := id w7.pt.d
      cases e7
      have d4 := ok.d4
      have d0 := ok.d0
      refine ⟨_, rfl, _, rfl, da, _, rfl, .inr (SqT.of hda7), ?_⟩
      rw [paired_len hdp7]
      refine ⟨a, d, (ds.length : Int), rfl, by omega, w7.hand, fun t H8 ft hh8 k8 => ?_⟩
      have w8 := w7.keep k8 hh8
      have hlib := hlib.keep2 w7.hand k8
      have hbk := keepB w7.hand k8 hbk
      have ho := ho.keep w7.hand k8
      have fu := fu.keep w7.hand k8
      have hda8 := w7.hand.tk k8 _ _ hda7
      refine ⟨_, rfl, _, rfl, da, _, rfl, .inr (SqT.of hda8), ?_⟩
      rw [paired_len hdp7]
      refine ⟨a, d, (ds.length : Int), rfl, by omega, w8.hand, fun gI H9 g0 g1 hh9 k9 => ?_⟩
      have w9 := w8.keep k9 hh9
      have hlib := hlib.keep2 w8.hand k9
      have hbk := keepB w8.hand k9 hbk
      have ho := ho.keep w8.hand k9
      have fu := fu.keep w8.hand k9
      have ft := ft.keep w8.hand k9
      obtain ⟨g, rfl⟩ : ∃ g : Nat, gI = (g : Int) := ⟨gI.toNat, by omega⟩
      have hg : g < ds.length := by omega
      refine ⟨(3 : Int), rfl, by decide, by decide, for_range (lo := 0) (n := 3) (fun k σ H' => ∃ v18, σ = [some (.ref a0), some (.ref a), some (.ref l), some (.int p), some (.int (n : Int)), some (.int (c : Int)), some (.ref qa), some (.ref da), some (.ref x), v9, some (.ref r), some (.ref lib), v12, v13, some u, some (.int (g : Int)), some ov, some t, v18, none, none, none] ∧ Same H9 H') ⟨none, rfl, Same.refl _⟩ ?_ ?_⟩
      · rintro k σ G1 hk ⟨v18, rfl, s1⟩
        rw [Int.zero_add]
        have wA := w9.same s1
        refine ⟨_, rfl, _, rfl, _, rfl, _, rfl, _, rfl, _, x, u, t, ov, u, rfl, .inl ⟨fun Q' E' hE => cl_wish wA.pl ok.ok (ft.same s1) (fu.same s1) hE _ (by omega) (by omega), fun q G2 s2 eq => ?_⟩⟩
        refine ⟨_, rfl, (by show 2 ≤ sizeLine; decide), fun q2 hq2 => ⟨q, q2, _, rfl, rfl, SqL.of (same_new hq2 _ _ eq), SqL.of upd_same, told_frs fu.fr, _, rfl, iteF ?_⟩⟩
        have s3 := s1.trans (s2.trans (same_new (o := .lst [.str "number", u]) hq2))
        generalize upd G2 q2 (.lst [.str "number", u]) = G3 at s3 ⊢
        have wB := w9.same s3
        have ec : ((c : Int) - 1) = ((c - 1 : Nat) : Int) := by omega
        refine ⟨_, rfl, _, rfl, _, rfl, _, _, rfl, rfl, _, rfl, _, rfl, ?_⟩
        refine ⟨_, x, .int ((c : Int) - 1), t, ov, t, rfl, .inl ⟨fun Q' E' hE => ec ▸ cl_draw wB.pl ok.ok (ft.same s3) (by omega) hE _ (by omega) (by omega), fun q G4 s4 eq => ?_⟩⟩
        exact ⟨_, rfl, (by show 2 ≤ sizeLine; decide), fun q2 hq2 => ⟨q, q2, _, rfl, rfl, SqL.of (same_new hq2 _ _ eq), SqL.of upd_same, told_frs ft.fr, _, rfl, iteF ⟨_, rfl, s3.trans (s4.trans (same_new hq2))⟩⟩⟩
      rintro σ G1 ⟨v18, rfl, s1⟩
      have wA := w9.same s1
      refine ⟨_, rfl, _, rfl, _, rfl, 2, x, _, _, ov, ov, rfl, .inr ⟨fun Q' E' hE => cl_lib (k := 0) wA.pl ok.ok C0.nL c0 hg (ho.same s1) hE, fun q G2 s2 eq => ?_⟩⟩
      refine ⟨_, rfl, (by show 2 ≤ sizeLine; decide), fun q2 hq2 => ⟨q, q2, _, rfl, rfl, SqL.of (same_new hq2 _ _ eq), SqL.of upd_same, told_frs ho.fr, _, rfl, iteF ?_⟩⟩
      have s3 := s1.trans (s2.trans (same_new (o := .lst [.str "library", ov]) hq2))
      generalize upd G2 q2 (.lst [.str "library", ov]) = G3 at s3 ⊢
      have wB := w9.same s3
      have hlib := hlib.same s3
      have hbk : ∃ rs, G3 r = some (.tup rs) ∧ Paired (TB G3) rs bs := by
        obtain ⟨rs, h1, h2⟩ := hbk
        exact ⟨rs, s3 _ _ h1, paired_mono (fun _ _ q => q.same s3) h2⟩
      have ho := ho.same s3
      have q3 := ok.q3
      have q0 := ok.q0
      obtain ⟨_, qx, eq, hqG, hqQ⟩ := id wB.pt.q
      cases eq
      refine ⟨_, rfl, _, rfl, qa, _, rfl, .inr (SqT.of hqG), ?_⟩
      rw [paired_len hqQ]
      refine ⟨a, d, (qss.length : Int), rfl, by omega, wB.hand, fun hv G4 fh hh4' k4' => ?_⟩
      have wC := wB.keep k4' hh4'
      have hlib := hlib.keep2 wB.hand k4'
      have hbk := keepB wB.hand k4' hbk
      have ho := ho.keep wB.hand k4'
      have hqG := wB.hand.tk k4' _ _ hqG
      refine ⟨_, rfl, _, rfl, qa, _, rfl, .inr (SqT.of hqG), ?_⟩
      rw [paired_len hqQ]
      refine ⟨a, d, (qss.length : Int), rfl, by omega, wC.hand, fun kI G5 k0 k1 hh5' k5' => ?_⟩
      have wD := wC.keep k5' hh5'
      have hlib := hlib.keep2 wC.hand k5'
      have hbk := keepB wC.hand k5' hbk
      have ho := ho.keep wC.hand k5'
      have fh := fh.keep wC.hand k5'
      obtain ⟨k, rfl⟩ : ∃ k : Nat, kI = (k : Int) := ⟨kI.toNat, by omega⟩
      have hk : k < qss.length := by omega
      have eqk := List.getElem?_eq_getElem hk
      generalize qss[k] = qs at eqk
      obtain ⟨_, ql0, ql14, _⟩ := ok.qok qs (List.mem_of_getElem? eqk)
      obtain ⟨_, qx2, eq, hqG2, hqQ2⟩ := id wD.pt.q
      cases eq
      obtain ⟨y, hy, uc, uxs, rfl, huc, hup⟩ := paired_of hqQ2 eqk
      refine ⟨_, rfl, _, rfl, _, rfl, qa, _, _, _, rfl, rfl, SqT.of hqG2, atI_nat hy, uc, _, rfl, .inr (SqT.of huc), ?_⟩
      rw [paired_len hup]
      refine ⟨a, d, (qs.length : Int), rfl, by omega, wD.hand, fun qu G6 fq hh6' k6' => ?_⟩
      have wE := wD.keep k6' hh6'
      have hlib := hlib.keep2 wD.hand k6'
      have hbk := keepB wD.hand k6' hbk
      have ho := ho.keep wD.hand k6'
      have fh := fh.keep wD.hand k6'
      refine ⟨(by show 2 ≤ sizeLine; decide), fun Z hZ => ?_⟩
      have sZ := same_new (o := .lst [.int 3, .int 4]) hZ
      have eZ : upd G6 Z (.lst [.int 3, .int 4]) Z = some (.lst [.int 3, .int 4]) := upd_same
      generalize upd G6 Z (.lst [.int 3, .int 4]) = G7 at sZ eZ ⊢
      refine ⟨Z, rfl, ⟨_, SqL.of eZ⟩, for_it (walk_list (xs := [.int 3, .int 4])) (fun i σ H' => ∃ v18, σ = [some (.ref a0), some (.ref a), some (.ref l), some (.int p), some (.int (n : Int)), some (.int (c : Int)), some (.ref qa), some (.ref da), some (.ref x), v9, some (.ref r), some (.ref lib), v12, v13, some u, some (.int (g : Int)), some ov, some t, v18, some hv, some (.int (k : Int)), some qu] ∧ Same G6 H' ∧ H' Z = some (.lst [.int 3, .int 4])) ⟨v18, rfl, sZ, eZ⟩ (fun i σ H' _ ⟨_, _, _, z⟩ => SqL.of z) ?_ ?_⟩
      · rintro i y σ I1 I2 hi ⟨v18, rfl, t1, z1⟩ ⟨rfl, hx⟩
        obtain ⟨wh, rfl, hw⟩ : ∃ wh : Int, y = .int wh ∧ (wh = 3 ∨ wh = 4) := by
          have := List.mem_of_getElem? hx
          simp only [List.mem_cons, List.not_mem_nil, or_false] at this
          rcases this with e | e
          · exact ⟨3, e, .inl rfl⟩
          · exact ⟨4, e, .inr rfl⟩
        have wF := wE.same t1
        refine ⟨_, rfl, _, rfl, _, rfl, _, rfl, _, rfl, _, x, hv, qu, ov, hv, rfl, .inl ⟨fun Q' E' hE => cl_house wF.pl ok.ok (fq.same t1) (fh.same t1) hE _ hw, fun q G2 s2 eq => ?_⟩⟩
        refine ⟨_, rfl, (by show 2 ≤ sizeLine; decide), fun q2 hq2 => ⟨q, q2, _, rfl, rfl, SqL.of (same_new hq2 _ _ eq), SqL.of upd_same, told_frs fh.fr, _, rfl, iteF ?_⟩⟩
        have t2 := s2.trans (same_new (o := .lst [.str "number", hv]) hq2)
        generalize upd G2 q2 (.lst [.str "number", hv]) = G3 at t2 ⊢
        have wG := wF.same t2
        refine ⟨_, rfl, _, rfl, _, rfl, _, rfl, _, rfl, _, x, _, qu, ov, qu, rfl, .inl ⟨fun Q' E' hE => cl_question wG.pl ok.ok eqk ((fq.same t1).same t2) hE _ hw, fun q G4 s4 eq => ?_⟩⟩
        exact ⟨_, rfl, (by show 2 ≤ sizeLine; decide), fun q2 hq2 => ⟨q, q2, _, rfl, rfl, SqL.of (same_new hq2 _ _ eq), SqL.of upd_same, told_frs fq.fr, _, rfl, iteF ⟨_, rfl, t1.trans (t2.trans (s4.trans (same_new hq2))), same_new hq2 _ _ (s4 _ _ (t2 _ _ z1))⟩⟩⟩
      rintro σ I1 ⟨v18, rfl, t1, _⟩
      have wF := wE.same t1
      refine ⟨_, rfl, _, rfl, _, rfl, 4, x, _, _, ov, ov, rfl, .inr ⟨fun Q' E' hE => cl_qlib wF.pl ok.ok C0.nL eqk ql0 (ho.same t1) hE, fun q G2 s2 eq => ?_⟩⟩
      refine ⟨_, rfl, (by show 2 ≤ sizeLine; decide), fun q2 hq2 => ⟨q, q2, _, rfl, rfl, SqL.of (same_new hq2 _ _ eq), SqL.of upd_same, told_frs ho.fr, _, rfl, iteF ?_⟩⟩
      have t2 := t1.trans (s2.trans (same_new (o := .lst [.str "library", ov]) hq2))
      generalize upd G2 q2 (.lst [.str "library", ov]) = G3 at t2 ⊢
      have wG := wE.same t2
      refine ⟨_, rfl, _, rfl, x, l, p, n, c, _, _, qss, ds, rfl, wG.pl, wG.pt, ok, fun I3 t3 => ⟨_, rfl, iteT ?_⟩⟩
      have t3 := t2.trans t3
      obtain ⟨dl, ba, tl, rs, hl1, hl2, hl3, _⟩ := hlib.same t3
      obtain ⟨rs2, hb1, hb2⟩ := hbk
      have tb1 : ∀ {H : Hp} {v : V} {b : List Int}, TB H v b → T1 H v b := fun {H v b} ⟨c, e, h⟩ => e ▸ T1.mk h
      refine ⟨_, rfl, lib, LL, dl, _, _, rfl, hl1, CL.cl, CL.nB, lf_books, _, rfl, _, _, rfl, eqV_up (eqV_up (eqv2 (m := bs) ⟨ba, rs, rfl, hl2, paired_mono (fun _ _ q => tb1 q) hl3⟩ ⟨r, rs2, rfl, t3 _ _ hb1, paired_mono (fun _ _ q => tb1 (q.same t3)) hb2⟩ (fun b hb => by rw [hbn b hb]; omega) (by omega))), kk _⟩
end
end WU

set_option maxRecDepth 100000
set_option maxHeartbeats 0
namespace WU
open PySem PySem.Spec PyProof.Rows L2
def dG (x : Str) (i : Nat) : He.DefD := ⟨(x, none), x, x, defArgs (top i), defBody (top i), defScope (top i), [], []⟩
def dM (c m : Str) (i j : Nat) (q : Str) (ds : List He.Dv) : He.DefD := ⟨(c, some m), m, q, defArgs (inClass (top i) j), defBody (inClass (top i) j), defScope (inClass (top i) j), ds, []⟩
def fn : List He.DefD := ([dG "is_integer" 8, dG "is_number" 9, dG "is_below" 10, dG "is_sequence" 12, dG "are_letters" 14, dG "is_field" 17, dG "check_field" 18, dG "is_positive" 11, dG "are_books" 21, dG "letters_of" 22, dG "_is_row" 28, dG "is_matrix" 24, dG "width_of_rows" 27, dG "check_matrix" 26, dG "is_rising" 13, dG "check_sizes" 32] : List He.DefD) ++ ([dG "check_places" 34, dG "members_of" 33, dG "_is_framed" 48, dG "_are_questions" 47, dG "is_draw" 39, dG "check_draws" 35, dG "kept_questions" 36, dG "kept_draws" 37, dG "weight_of" 38, dG "check_wish" 40, dG "check_ask" 41, dG "check_question" 42, dG "check_library" 43, dG "_products" 29, dG "products" 25, dG "all_houses" 45] : List He.DefD) ++ ([dG "rows_asked" 46, dG "_law_draws" 50, dG "_law_take" 51, dG "_law_product" 57, dG "_law_answer" 58, dG "_law_rising" 55, dG "_law_books" 52, dG "_law_library_size" 53, dG "_law_far" 64, dG "_law_questions" 54, dG "_law_parts" 56, dG "_law_same" 59, dG "_law_is_plan" 60, dG "_law_call" 61, dG "_law_told" 62, dG "_law_other_library" 63] : List He.DefD) ++ ([dG "_law_asks_right" 65, dG "_law_houses_right" 66, dG "law" 67, dM "InvalidNumber" "__init__" 3 0 "InvalidNumber.__init__" [], dM "InvalidLibrary" "__init__" 5 0 "InvalidLibrary.__init__" [], dM "InvalidMatrix" "__init__" 4 0 "InvalidMatrix.__init__" [], dM "Library" "__init__" 20 0 "Library.__init__" [], dM "Plan" "__init__" 31 0 "Plan.__init__" [], dM "Plan" "asked" 31 2 "Plan.asked" [], dM "Plan" "asked_rows" 31 3 "Plan.asked_rows" [], dM "Plan" "answer_size" 31 4 "Plan.answer_size" [], dM "Plan" "answer" 31 5 "Plan.answer" [], dM "Plan" "answers" 31 6 "Plan.answers" []] : List He.DefD)
def frees : List Str := ["isinstance", "int", "bool", "len", "abs", "range", "tuple", "list", "all", "any", "zip", "max", "min", "sum", "enumerate"]
def globs : List Str := (["is_integer", "is_number", "is_below", "is_sequence", "are_letters", "is_field", "check_field", "is_positive", "are_books", "letters_of", "_is_row", "is_matrix", "width_of_rows", "check_matrix", "is_rising", "check_sizes"] : List Str) ++ (["check_places", "members_of", "_is_framed", "_are_questions", "is_draw", "check_draws", "kept_questions", "kept_draws", "weight_of", "check_wish", "check_ask", "check_question", "check_library", "_products", "products", "all_houses"] : List Str) ++ (["rows_asked", "_law_draws", "_law_take", "_law_product", "_law_answer", "_law_rising", "_law_books", "_law_library_size", "_law_far", "_law_questions", "_law_parts", "_law_same", "_law_is_plan", "_law_call", "_law_told", "_law_other_library"] : List Str) ++ (["_law_asks_right", "_law_houses_right", "law", "PRIMES", "Plan", "Library"] : List Str)
def isB0 (o : Option Bool) (b : Bool) : Bool := decide (o = some b)
def exmB (K : PySem.W.Frag) (x y : Str) (b : Bool) : Bool := isB0 (PySem.W.exmOne K (.ref (He.ga K x)) (.ref (He.ga K y))) b
theorem binds_kw {K : PySem.W.Frag} {x qual : Str} {params : Arguments} {body : List Stmt} {scope : Scope} {f : Addr} {fd : FuncData} {ps : List Str} (F : FunD K x qual params body scope [] [] f fd) (n : Nat) (ks : List Str) (g : {α : Type} → List α → List α → List α)
    (hrel : ∀ {vs zs : List V} {us ws : List Value}, Vals vs us → Vals zs ws → Vals (g vs zs) (g us ws))
    (h : ∀ (kV doc pm : Value) (an : Option Addr) (cdv ct : Value) (us ws : List Value), us.length = n → ws.length = ks.length → bindArgs (PySem.W.fnOf x qual params body scope .none kV doc pm an cdv ct) ⟨us, ks.zip ws⟩ = pure (ps.zip (g us ws))) :
    KBn K fd ps n ks (fun us ws => g us ws) (fun vs zs => g vs zs) := by
  obtain ⟨oc, od, dV, kV, doc, pm, an, cdv, ct, osl, rfl, lk, hcd, hD, hK⟩ := F.ex
  rcases hD with ⟨_, rfl⟩ | ⟨e, _⟩
  · exact ⟨fun s us ws X l1 l2 => .of_eq (h kV doc pm an cdv ct us ws l1 l2), hrel⟩
  · exact absurd rfl e
theorem vals_rev {zs : List V} {ws : List Value} (h : Vals zs ws) : Vals zs.reverse ws.reverse := by
  induction h with
  | nil => exact .nil
  | cons r t ih =>
    rw [List.reverse_cons, List.reverse_cons]
    exact Vals.append ih (.cons r .nil)
def plB (K : PySem.W.Frag) : Bool := (He.Fa.cls "Plan").ok K && ((He.Fa.noat "Plan" "p").ok K && ((He.Fa.noat "Plan" "book_length").ok K && ((He.Fa.noat "Plan" "book_count").ok K && ((He.Fa.noat "Plan" "house_count").ok K && ((He.Fa.noat "Plan" "questions").ok K && ((He.Fa.noat "Plan" "draws").ok K && ((He.Fa.noat "Plan" "weight").ok K && ((He.Fa.mkr "Plan").ok K && ((He.Fa.meth "Plan" "asked").ok K && ((He.Fa.meth "Plan" "asked_rows").ok K && ((He.Fa.meth "Plan" "answer_size").ok K && ((He.Fa.meth "Plan" "answer").ok K && ((He.Fa.meth "Plan" "answers").ok K)))))))))))))
def lbB (K : PySem.W.Frag) (S : Addr) : Bool := (He.Fa.cls "Library").ok K && ((He.Fa.noat "Library" "p").ok K && ((He.Fa.noat "Library" "books").ok K && ((He.Fa.noat "Library" "book_count").ok K && ((He.Fa.noat "Library" "book_length").ok K && ((He.Fa.noat "Library" "letters").ok K && ((He.Fa.mkr "Library").ok K && (decide (PySem.W.findIn K (.ref S) "__class__" = some (some (.builtin "object.__class__"))) && (decide (PySem.W.specialIn K (.builtin "object.__class__") "__get__" = some (some (.builtin "getset_descriptor.__get__"))) && (isB0 (PySem.W.takesIn K (.builtin "object.__class__")) true && (isB0 (PySem.W.mroIn K S (.type "object")) true && (isB0 (PySem.W.kitOne K (.ref S) (.ref S)) true && (isB0 (PySem.W.kitOne K (.type "NoneType") (.ref S)) false && (isB0 (PySem.W.kitOne K (.type "int") (.ref S)) false && (isB0 (PySem.W.kitOne K (.type "tuple") (.ref S)) false && (isB0 (PySem.W.kitOne K (.type "str") (.ref S)) false)))))))))))))))
def ex (K : PySem.W.Frag) : Bool := freeB K frees && (globB K globs && (exc1B K "InvalidNumber" "value" && (xfB K (He.ga K "InvalidNumber") && (exc1B K "InvalidLibrary" "value" && (xfB K (He.ga K "InvalidLibrary") && (exc1B K "InvalidMatrix" "value" && (xfB K (He.ga K "InvalidMatrix") && (exmB K "InvalidNumber" "InvalidNumber" true && (exmB K "InvalidNumber" "InvalidLibrary" false && (exmB K "InvalidNumber" "InvalidMatrix" false && (exmB K "InvalidLibrary" "InvalidNumber" false && (exmB K "InvalidLibrary" "InvalidLibrary" true && (exmB K "InvalidLibrary" "InvalidMatrix" false && (exmB K "InvalidMatrix" "InvalidNumber" false && (exmB K "InvalidMatrix" "InvalidLibrary" false && (exmB K "InvalidMatrix" "InvalidMatrix" true && (He.tupB K "PRIMES" (primes.map He.Dv.int) && (plB K && (lbB K (He.ga K "Library"))))))))))))))))))))
theorem getG {K : PySem.W.Frag} (c : He.SaysD [] fn K) (i : Nat) {x : Str} {j : Nat} (h : fn[i]? = some (dG x j)) : ∃ fd, FnS K x (top j) (He.ga K x) fd := c.def_ i h
theorem getM {K : PySem.W.Frag} (c : He.SaysD [] fn K) (i : Nat) {cl m q : Str} {ds : List He.Dv} {j k : Nat} (h : fn[i]? = some (dM cl m j k q ds)) :
    ∃ fd, FunD K m q (defArgs (inClass (top j) k)) (defBody (inClass (top j) k)) (defScope (inClass (top j) k)) (ds.map (He.Dv.v K)) [] (He.ma K (He.ga K cl) m) fd := c.def_ i h
theorem facts {P : Program} {w : World} {K : PySem.W.Frag} {h : Heap} {mg : Str → Option Value} {fa : Addr} (X : K.In h) (G : h.Ns mainGlobals mg) (hfa : mg "law" = some (.ref fa)) (c : He.SaysD [] fn K) (e : ex K = true) :
    ∃ fd : FuncData, (∀ (s : Shared) (v : Value), BindsTo s fd ⟨[v], []⟩ [("script", v)]) ∧ ∀ base : Heap, K.In base → base.Ns mainGlobals mg → FnOk P w K mg base CX0 13 fa fd ["script"] (spLaw K) := by
  obtain ⟨e0, e⟩ := and2 e
  obtain ⟨e1, e⟩ := and2 e
  obtain ⟨e2, e⟩ := and2 e
  obtain ⟨e3, e⟩ := and2 e
  obtain ⟨e4, e⟩ := and2 e
  obtain ⟨e5, e⟩ := and2 e
  obtain ⟨e6, e⟩ := and2 e
  obtain ⟨e7, e⟩ := and2 e
  obtain ⟨e8, e⟩ := and2 e
  obtain ⟨e9, e⟩ := and2 e
  obtain ⟨e10, e⟩ := and2 e
  obtain ⟨e11, e⟩ := and2 e
  obtain ⟨e12, e⟩ := and2 e
  obtain ⟨e13, e⟩ := and2 e
  obtain ⟨e14, e⟩ := and2 e
  obtain ⟨e15, e⟩ := and2 e
  obtain ⟨e16, e⟩ := and2 e
  obtain ⟨e17, e⟩ := and2 e
  obtain ⟨e18, e19⟩ := and2 e
  have fr : ∀ {x : Str}, x ∈ frees → mg x = none := fun hx => freeB_ok X G e0 hx
  have gl : ∀ {x : Str}, x ∈ globs → mg x = some (.ref (He.ga K x)) := fun hx => globB_ok X G e1 hx
  have b0 : ∀ {o : Option Bool} {b : Bool}, isB0 o b = true → o = some b := fun h => of_decide_eq_true h
  have TInvalidNumber : Exc1 K mg "InvalidNumber" "value" := exc1B_ok X G e2
  have XInvalidNumber := xfB_ok e3
  have TInvalidLibrary : Exc1 K mg "InvalidLibrary" "value" := exc1B_ok X G e4
  have XInvalidLibrary := xfB_ok e5
  have TInvalidMatrix : Exc1 K mg "InvalidMatrix" "value" := exc1B_ok X G e6
  have XInvalidMatrix := xfB_ok e7
  have xInvalidNumber_InvalidNumber := b0 e8
  have xInvalidNumber_InvalidLibrary := b0 e9
  have xInvalidNumber_InvalidMatrix := b0 e10
  have xInvalidLibrary_InvalidNumber := b0 e11
  have xInvalidLibrary_InvalidLibrary := b0 e12
  have xInvalidLibrary_InvalidMatrix := b0 e13
  have xInvalidMatrix_InvalidNumber := b0 e14
  have xInvalidMatrix_InvalidLibrary := b0 e15
  have xInvalidMatrix_InvalidMatrix := b0 e16
  have tP : ∀ H, SqT K H (He.ga K "PRIMES") (primes.map V.int) := fun H => He.tupB_ok e17 H
  obtain ⟨p1, p⟩ := and2 e18
  obtain ⟨p2, p⟩ := and2 p
  obtain ⟨p3, p⟩ := and2 p
  obtain ⟨p4, p⟩ := and2 p
  obtain ⟨p5, p⟩ := and2 p
  obtain ⟨p6, p⟩ := and2 p
  obtain ⟨p7, p⟩ := and2 p
  obtain ⟨p8, p⟩ := and2 p
  obtain ⟨p9, p⟩ := and2 p
  obtain ⟨p10, p⟩ := and2 p
  obtain ⟨p11, p⟩ := and2 p
  obtain ⟨p12, p⟩ := and2 p
  obtain ⟨p13, p14⟩ := and2 p
  obtain ⟨l1, l⟩ := and2 e19
  obtain ⟨l2, l⟩ := and2 l
  obtain ⟨l3, l⟩ := and2 l
  obtain ⟨l4, l⟩ := and2 l
  obtain ⟨l5, l⟩ := and2 l
  obtain ⟨l6, l⟩ := and2 l
  obtain ⟨l7, l⟩ := and2 l
  obtain ⟨l8, l⟩ := and2 l
  obtain ⟨l9, l⟩ := and2 l
  obtain ⟨l10, l⟩ := and2 l
  obtain ⟨l11, l⟩ := and2 l
  obtain ⟨l12, l⟩ := and2 l
  obtain ⟨l13, l⟩ := and2 l
  obtain ⟨l14, l⟩ := and2 l
  obtain ⟨l15, l16⟩ := and2 l
  obtain ⟨fd_is_integer, F_is_integer⟩ := getG c 0 (x := "is_integer") (j := 8) rfl
  obtain ⟨fd_is_number, F_is_number⟩ := getG c 1 (x := "is_number") (j := 9) rfl
  obtain ⟨fd_is_below, F_is_below⟩ := getG c 2 (x := "is_below") (j := 10) rfl
  obtain ⟨fd_is_sequence, F_is_sequence⟩ := getG c 3 (x := "is_sequence") (j := 12) rfl
  obtain ⟨fd_are_letters, F_are_letters⟩ := getG c 4 (x := "are_letters") (j := 14) rfl
  obtain ⟨fd_is_field, F_is_field⟩ := getG c 5 (x := "is_field") (j := 17) rfl
  obtain ⟨fd_check_field, F_check_field⟩ := getG c 6 (x := "check_field") (j := 18) rfl
  obtain ⟨fd_is_positive, F_is_positive⟩ := getG c 7 (x := "is_positive") (j := 11) rfl
  obtain ⟨fd_are_books, F_are_books⟩ := getG c 8 (x := "are_books") (j := 21) rfl
  obtain ⟨fd_letters_of, F_letters_of⟩ := getG c 9 (x := "letters_of") (j := 22) rfl
  obtain ⟨fd__is_row, F__is_row⟩ := getG c 10 (x := "_is_row") (j := 28) rfl
  obtain ⟨fd_is_matrix, F_is_matrix⟩ := getG c 11 (x := "is_matrix") (j := 24) rfl
  obtain ⟨fd_width_of_rows, F_width_of_rows⟩ := getG c 12 (x := "width_of_rows") (j := 27) rfl
  obtain ⟨fd_check_matrix, F_check_matrix⟩ := getG c 13 (x := "check_matrix") (j := 26) rfl
  obtain ⟨fd_is_rising, F_is_rising⟩ := getG c 14 (x := "is_rising") (j := 13) rfl
  obtain ⟨fd_check_sizes, F_check_sizes⟩ := getG c 15 (x := "check_sizes") (j := 32) rfl
  obtain ⟨fd_check_places, F_check_places⟩ := getG c 16 (x := "check_places") (j := 34) rfl
  obtain ⟨fd_members_of, F_members_of⟩ := getG c 17 (x := "members_of") (j := 33) rfl
  obtain ⟨fd__is_framed, F__is_framed⟩ := getG c 18 (x := "_is_framed") (j := 48) rfl
  obtain ⟨fd__are_questions, F__are_questions⟩ := getG c 19 (x := "_are_questions") (j := 47) rfl
  obtain ⟨fd_is_draw, F_is_draw⟩ := getG c 20 (x := "is_draw") (j := 39) rfl
  obtain ⟨fd_check_draws, F_check_draws⟩ := getG c 21 (x := "check_draws") (j := 35) rfl
  obtain ⟨fd_kept_questions, F_kept_questions⟩ := getG c 22 (x := "kept_questions") (j := 36) rfl
  obtain ⟨fd_kept_draws, F_kept_draws⟩ := getG c 23 (x := "kept_draws") (j := 37) rfl
  obtain ⟨fd_weight_of, F_weight_of⟩ := getG c 24 (x := "weight_of") (j := 38) rfl
  obtain ⟨fd_check_wish, F_check_wish⟩ := getG c 25 (x := "check_wish") (j := 40) rfl
  obtain ⟨fd_check_ask, F_check_ask⟩ := getG c 26 (x := "check_ask") (j := 41) rfl
  obtain ⟨fd_check_question, F_check_question⟩ := getG c 27 (x := "check_question") (j := 42) rfl
  obtain ⟨fd_check_library, F_check_library⟩ := getG c 28 (x := "check_library") (j := 43) rfl
  obtain ⟨fd__products, F__products⟩ := getG c 29 (x := "_products") (j := 29) rfl
  obtain ⟨fd_products, F_products⟩ := getG c 30 (x := "products") (j := 25) rfl
  obtain ⟨fd_all_houses, F_all_houses⟩ := getG c 31 (x := "all_houses") (j := 45) rfl
  obtain ⟨fd_rows_asked, F_rows_asked⟩ := getG c 32 (x := "rows_asked") (j := 46) rfl
  obtain ⟨fd__law_draws, F__law_draws⟩ := getG c 33 (x := "_law_draws") (j := 50) rfl
  obtain ⟨fd__law_take, F__law_take⟩ := getG c 34 (x := "_law_take") (j := 51) rfl
  obtain ⟨fd__law_product, F__law_product⟩ := getG c 35 (x := "_law_product") (j := 57) rfl
  obtain ⟨fd__law_answer, F__law_answer⟩ := getG c 36 (x := "_law_answer") (j := 58) rfl
  obtain ⟨fd__law_rising, F__law_rising⟩ := getG c 37 (x := "_law_rising") (j := 55) rfl
  obtain ⟨fd__law_books, F__law_books⟩ := getG c 38 (x := "_law_books") (j := 52) rfl
  obtain ⟨fd__law_library_size, F__law_library_size⟩ := getG c 39 (x := "_law_library_size") (j := 53) rfl
  obtain ⟨fd__law_far, F__law_far⟩ := getG c 40 (x := "_law_far") (j := 64) rfl
  obtain ⟨fd__law_questions, F__law_questions⟩ := getG c 41 (x := "_law_questions") (j := 54) rfl
  obtain ⟨fd__law_parts, F__law_parts⟩ := getG c 42 (x := "_law_parts") (j := 56) rfl
  obtain ⟨fd__law_same, F__law_same⟩ := getG c 43 (x := "_law_same") (j := 59) rfl
  obtain ⟨fd__law_is_plan, F__law_is_plan⟩ := getG c 44 (x := "_law_is_plan") (j := 60) rfl
  obtain ⟨fd__law_call, F__law_call⟩ := getG c 45 (x := "_law_call") (j := 61) rfl
  obtain ⟨fd__law_told, F__law_told⟩ := getG c 46 (x := "_law_told") (j := 62) rfl
  obtain ⟨fd__law_other_library, F__law_other_library⟩ := getG c 47 (x := "_law_other_library") (j := 63) rfl
  obtain ⟨fd__law_asks_right, F__law_asks_right⟩ := getG c 48 (x := "_law_asks_right") (j := 65) rfl
  obtain ⟨fd__law_houses_right, F__law_houses_right⟩ := getG c 49 (x := "_law_houses_right") (j := 66) rfl
  obtain ⟨fd_law, F_law⟩ := getG c 50 (x := "law") (j := 67) rfl
  obtain ⟨fd_InvalidNumber___init__, F_InvalidNumber___init__⟩ := getM c 51 (cl := "InvalidNumber") (m := "__init__") (q := "InvalidNumber.__init__") (ds := []) (j := 3) (k := 0) rfl
  obtain ⟨fd_InvalidLibrary___init__, F_InvalidLibrary___init__⟩ := getM c 52 (cl := "InvalidLibrary") (m := "__init__") (q := "InvalidLibrary.__init__") (ds := []) (j := 5) (k := 0) rfl
  obtain ⟨fd_InvalidMatrix___init__, F_InvalidMatrix___init__⟩ := getM c 53 (cl := "InvalidMatrix") (m := "__init__") (q := "InvalidMatrix.__init__") (ds := []) (j := 4) (k := 0) rfl
  obtain ⟨fd_Library___init__, F_Library___init__⟩ := getM c 54 (cl := "Library") (m := "__init__") (q := "Library.__init__") (ds := []) (j := 20) (k := 0) rfl
  obtain ⟨fd_Plan___init__, F_Plan___init__⟩ := getM c 55 (cl := "Plan") (m := "__init__") (q := "Plan.__init__") (ds := []) (j := 31) (k := 0) rfl
  obtain ⟨fd_Plan_asked, F_Plan_asked⟩ := getM c 56 (cl := "Plan") (m := "asked") (q := "Plan.asked") (ds := []) (j := 31) (k := 2) rfl
  obtain ⟨fd_Plan_asked_rows, F_Plan_asked_rows⟩ := getM c 57 (cl := "Plan") (m := "asked_rows") (q := "Plan.asked_rows") (ds := []) (j := 31) (k := 3) rfl
  obtain ⟨fd_Plan_answer_size, F_Plan_answer_size⟩ := getM c 58 (cl := "Plan") (m := "answer_size") (q := "Plan.answer_size") (ds := []) (j := 31) (k := 4) rfl
  obtain ⟨fd_Plan_answer, F_Plan_answer⟩ := getM c 59 (cl := "Plan") (m := "answer") (q := "Plan.answer") (ds := []) (j := 31) (k := 5) rfl
  obtain ⟨fd_Plan_answers, F_Plan_answers⟩ := getM c 60 (cl := "Plan") (m := "answers") (q := "Plan.answers") (ds := []) (j := 31) (k := 6) rfl
  have efa := hfa.symm.trans (gl (x := "law") (by decide +kernel))
  cases efa
  have bl := FunD.bindsA (ps := ["script"]) F_law fun _ _ _ _ _ _ us hl => match us, hl with | [_], _ => rfl
  refine ⟨fd_law, fun s v => bl s [v] rfl, fun base _ _ => ?_⟩
  have GInvalidNumber := ok_init1 (P := P) (w := w) (K := K) (mg := mg) (base := base) (C := He.ga K "InvalidNumber") F_InvalidNumber___init__ scInvalidNumber bodyInvalidNumber
  have bdInvalidNumber : Binds K fd_InvalidNumber___init__ ["self", "value"] [] := FunD.bindsN F_InvalidNumber___init__ fun _ _ _ _ _ _ us hl => match us, hl with | [_, _], _ => rfl
  have GInvalidLibrary := ok_init1 (P := P) (w := w) (K := K) (mg := mg) (base := base) (C := He.ga K "InvalidLibrary") F_InvalidLibrary___init__ scInvalidLibrary bodyInvalidLibrary
  have bdInvalidLibrary : Binds K fd_InvalidLibrary___init__ ["self", "value"] [] := FunD.bindsN F_InvalidLibrary___init__ fun _ _ _ _ _ _ us hl => match us, hl with | [_, _], _ => rfl
  have GInvalidMatrix := ok_init1 (P := P) (w := w) (K := K) (mg := mg) (base := base) (C := He.ga K "InvalidMatrix") F_InvalidMatrix___init__ scInvalidMatrix bodyInvalidMatrix
  have bdInvalidMatrix : Binds K fd_InvalidMatrix___init__ ["self", "value"] [] := FunD.bindsN F_InvalidMatrix___init__ fun _ _ _ _ _ _ us hl => match us, hl with | [_, _], _ => rfl
  have B : Blt5 mg := { isi := fr (by decide +kernel), int := fr (by decide +kernel), bool := fr (by decide +kernel), len := fr (by decide +kernel), abs := fr (by decide +kernel), range := fr (by decide +kernel), tuple := fr (by decide +kernel), lst := fr (by decide +kernel), all := fr (by decide +kernel), any := fr (by decide +kernel), zip := fr (by decide +kernel), max := fr (by decide +kernel), min := fr (by decide +kernel), sum := fr (by decide +kernel) }
  have B4 : Blt4 mg := B.toBlt4
  have B3 : Blt3 mg := B4.toBlt3
  have B2 : Blt2 mg := B3.toBlt2
  have B0 : Blt mg := B2.toBlt
  have CP : PlC K mg (He.ga K "Plan") := { g := gl (by decide +kernel), cl := He.cls_ok p1, nP := He.noat_ok p2, nL := He.noat_ok p3, nC := He.noat_ok p4, nH := He.noat_ok p5, nQ := He.noat_ok p6, nD := He.noat_ok p7, nW := He.noat_ok p8 }
  have CLb : LibC K mg (He.ga K "Library") := { g := gl (by decide +kernel), cl := He.cls_ok l1, nP := He.noat_ok l2, nB := He.noat_ok l3, nC := He.noat_ok l4, nL := He.noat_ok l5, nT := He.noat_ok l6, ha := of_decide_eq_true l8, hn := of_decide_eq_true l9, htk := b0 l10, hm := b0 l11, kS := b0 l12 }
  have NL : NoL K (He.ga K "Library") := ⟨b0 l13, b0 l14, b0 l15, b0 l16⟩
  have MK_Library := He.mkr_ok l7
  have MK_Plan := He.mkr_ok p9
  have m_Plan_asked := He.meth_ok p10
  have m_Plan_asked_rows := He.meth_ok p11
  have m_Plan_answer_size := He.meth_ok p12
  have m_Plan_answer := He.meth_ok p13
  have m_Plan_answers := He.meth_ok p14
  have C_is_integer := cal_mk (P := P) (w := w) (mg := mg) (base := base) (x := "is_integer") F_is_integer (gl (by decide +kernel)) (ok_isInt F_is_integer B0) fun _ _ _ _ _ _ us hl => match us, hl with | [_], _ => rfl
  have C_is_number := cal_mk (P := P) (w := w) (mg := mg) (base := base) (x := "is_number") F_is_number (gl (by decide +kernel)) (ok_isNum F_is_number C_is_integer) fun _ _ _ _ _ _ us hl => match us, hl with | [_], _ => rfl
  have C_is_below := cal_mk (P := P) (w := w) (mg := mg) (base := base) (x := "is_below") F_is_below (gl (by decide +kernel)) (ok_isBel F_is_below C_is_number) fun _ _ _ _ _ _ us hl => match us, hl with | [_, _], _ => rfl
  have C_is_sequence := cal_mk (P := P) (w := w) (mg := mg) (base := base) (x := "is_sequence") F_is_sequence (gl (by decide +kernel)) (ok_seq F_is_sequence B3) fun _ _ _ _ _ _ us hl => match us, hl with | [_], _ => rfl
  have C_are_letters := cal_mk (P := P) (w := w) (mg := mg) (base := base) (x := "are_letters") F_are_letters (gl (by decide +kernel)) (ok_lets F_are_letters B3 C_is_sequence C_is_below) fun _ _ _ _ _ _ us hl => match us, hl with | [_, _, _], _ => rfl
  have C_is_field := cal_mk (P := P) (w := w) (mg := mg) (base := base) (x := "is_field") F_is_field (gl (by decide +kernel)) (ok_isFld F_is_field C_is_integer (gl (by decide +kernel)) tP) fun _ _ _ _ _ _ us hl => match us, hl with | [_], _ => rfl
  have C_check_field := cal_mk (P := P) (w := w) (mg := mg) (base := base) (x := "check_field") F_check_field (gl (by decide +kernel)) (ok_check F_check_field C_is_field TInvalidNumber GInvalidNumber bdInvalidNumber) fun _ _ _ _ _ _ us hl => match us, hl with | [_], _ => rfl
  have C_is_positive := cal_mk (P := P) (w := w) (mg := mg) (base := base) (x := "is_positive") F_is_positive (gl (by decide +kernel)) (ok_Po F_is_positive C_is_integer) fun _ _ _ _ _ _ us hl => match us, hl with | [_], _ => rfl
  have C_are_books := cal_mk (P := P) (w := w) (mg := mg) (base := base) (x := "are_books") F_are_books (gl (by decide +kernel)) (ok_AB F_are_books B3 C_is_sequence C_are_letters) fun _ _ _ _ _ _ us hl => match us, hl with | [_, _], _ => rfl
  have C_letters_of := cal_mk (P := P) (w := w) (mg := mg) (base := base) (x := "letters_of") F_letters_of (gl (by decide +kernel)) (ok_LO F_letters_of B3) fun _ _ _ _ _ _ us hl => match us, hl with | [_], _ => rfl
  have g_Library___init__ := ok_LI (P := P) (w := w) (mg := mg) (base := base) F_Library___init__ B3 CLb C_check_field C_are_books C_letters_of
  have b_Library___init__ : L2.Binds K fd_Library___init__ ["self", "p", "books"] [] := FunD.bindsN F_Library___init__ fun _ _ _ _ _ _ us hl => match us, hl with | [_, _, _], _ => rfl
  have C__is_row := cal_mk (P := P) (w := w) (mg := mg) (base := base) (x := "_is_row") F__is_row (gl (by decide +kernel)) (ok_row F__is_row B4 C_are_letters) fun _ _ _ _ _ _ us hl => match us, hl with | [_, _, _], _ => rfl
  have C_is_matrix := cal_mk (P := P) (w := w) (mg := mg) (base := base) (x := "is_matrix") F_is_matrix (gl (by decide +kernel)) (ok_mat F_is_matrix B4 C__is_row) fun _ _ _ _ _ _ us hl => match us, hl with | [_, _, _], _ => rfl
  have C_width_of_rows := cal_mk (P := P) (w := w) (mg := mg) (base := base) (x := "width_of_rows") F_width_of_rows (gl (by decide +kernel)) (ok_wid F_width_of_rows B4) fun _ _ _ _ _ _ us hl => match us, hl with | [_], _ => rfl
  have C_check_matrix := cal_mk (P := P) (w := w) (mg := mg) (base := base) (x := "check_matrix") F_check_matrix (gl (by decide +kernel)) (ok_chk F_check_matrix C_check_field C_is_matrix C_width_of_rows TInvalidMatrix GInvalidMatrix bdInvalidMatrix) fun _ _ _ _ _ _ us hl => match us, hl with | [_, _], _ => rfl
  have C_is_rising := cal_mk (P := P) (w := w) (mg := mg) (base := base) (x := "is_rising") F_is_rising (gl (by decide +kernel)) (ok_Ri F_is_rising B4) fun _ _ _ _ _ _ us hl => match us, hl with | [_], _ => rfl
  have C_check_sizes := cal_mk (P := P) (w := w) (mg := mg) (base := base) (x := "check_sizes") F_check_sizes (gl (by decide +kernel)) (ok_Sz F_check_sizes C_is_field C_is_positive) fun _ _ _ _ _ _ us hl => match us, hl with | [_, _, _], _ => rfl
  have C_check_places := cal_mk (P := P) (w := w) (mg := mg) (base := base) (x := "check_places") F_check_places (gl (by decide +kernel)) (ok_Ps F_check_places) fun _ _ _ _ _ _ us hl => match us, hl with | [_, _], _ => rfl
  have C_members_of := cal_mk (P := P) (w := w) (mg := mg) (base := base) (x := "members_of") F_members_of (gl (by decide +kernel)) (ok_Mb F_members_of B4 C_is_sequence) fun _ _ _ _ _ _ us hl => match us, hl with | [_], _ => rfl
  have C__is_framed := cal_mk (P := P) (w := w) (mg := mg) (base := base) (x := "_is_framed") F__is_framed (gl (by decide +kernel)) (ok_Fr F__is_framed B4 C_is_sequence C_is_positive) fun _ _ _ _ _ _ us hl => match us, hl with | [_, _, _], _ => rfl
  have C__are_questions := cal_mk (P := P) (w := w) (mg := mg) (base := base) (x := "_are_questions") F__are_questions (gl (by decide +kernel)) (ok_Qu F__are_questions B4 C_is_sequence C_is_matrix C_is_rising) fun _ _ _ _ _ _ us hl => match us, hl with | [_, _, _], _ => rfl
  have C_is_draw := cal_mk (P := P) (w := w) (mg := mg) (base := base) (x := "is_draw") F_is_draw (gl (by decide +kernel)) (ok_Idr F_is_draw B4 C__is_framed C_is_below) fun _ _ _ _ _ _ us hl => match us, hl with | [_, _, _], _ => rfl
  have C_check_draws := cal_mk (P := P) (w := w) (mg := mg) (base := base) (x := "check_draws") F_check_draws (gl (by decide +kernel)) (ok_Cd F_check_draws B4 C_check_places C_members_of C_is_draw) fun _ _ _ _ _ _ us hl => match us, hl with | [_, _, _], _ => rfl
  have C_kept_questions := cal_mk (P := P) (w := w) (mg := mg) (base := base) (x := "kept_questions") F_kept_questions (gl (by decide +kernel)) (ok_Kq stb2 F_kept_questions B4) fun _ _ _ _ _ _ us hl => match us, hl with | [_], _ => rfl
  have C_kept_draws := cal_mk (P := P) (w := w) (mg := mg) (base := base) (x := "kept_draws") F_kept_draws (gl (by decide +kernel)) (ok_Kd2 F_kept_draws B4) fun _ _ _ _ _ _ us hl => match us, hl with | [_], _ => rfl
  have C_weight_of := cal_mk (P := P) (w := w) (mg := mg) (base := base) (x := "weight_of") F_weight_of (gl (by decide +kernel)) (ok_Wt F_weight_of B) fun _ _ _ _ _ _ us hl => match us, hl with | [_], _ => rfl
  have g_Plan___init__ := ok_PI (P := P) (w := w) (mg := mg) (base := base) F_Plan___init__ B CP C_check_sizes C_check_places C_members_of C__are_questions C_check_draws C_kept_questions C_kept_draws C_weight_of
  have b_Plan___init__ : L2.Binds K fd_Plan___init__ ["self", "p", "book_length", "book_count", "questions", "draws"] [] := FunD.bindsN F_Plan___init__ fun _ _ _ _ _ _ us hl => match us, hl with | [_, _, _, _, _, _], _ => rfl
  have C_check_wish := cal_mk (P := P) (w := w) (mg := mg) (base := base) (x := "check_wish") F_check_wish (gl (by decide +kernel)) (ok_CW F_check_wish CP C_is_below TInvalidNumber GInvalidNumber bdInvalidNumber) fun _ _ _ _ _ _ us hl => match us, hl with | [_, _], _ => rfl
  have C_check_ask := cal_mk (P := P) (w := w) (mg := mg) (base := base) (x := "check_ask") F_check_ask (gl (by decide +kernel)) (ok_CA F_check_ask B4 CP C_is_below C_check_wish TInvalidNumber GInvalidNumber bdInvalidNumber) fun _ _ _ _ _ _ us hl => match us, hl with | [_, _, _], _ => rfl
  have C_check_question := cal_mk (P := P) (w := w) (mg := mg) (base := base) (x := "check_question") F_check_question (gl (by decide +kernel)) (ok_CQ F_check_question B4 CP C_is_below TInvalidNumber GInvalidNumber bdInvalidNumber) fun _ _ _ _ _ _ us hl => match us, hl with | [_, _, _], _ => rfl
  have C_check_library := cal_mk (P := P) (w := w) (mg := mg) (base := base) (x := "check_library") F_check_library (gl (by decide +kernel)) (ok_CL F_check_library B4 CP CLb TInvalidLibrary GInvalidLibrary bdInvalidLibrary) fun _ _ _ _ _ _ us hl => match us, hl with | [_, _], _ => rfl
  have C__products := cal_mk (P := P) (w := w) (mg := mg) (base := base) (x := "_products") F__products (gl (by decide +kernel)) (ok_Pr1 F__products B) fun _ _ _ _ _ _ us hl => match us, hl with | [_, _, _], _ => rfl
  have C_products := cal_mk (P := P) (w := w) (mg := mg) (base := base) (x := "products") F_products (gl (by decide +kernel)) (ok_Px F_products C_check_matrix C__products) fun _ _ _ _ _ _ us hl => match us, hl with | [_, _, _], _ => rfl
  have g_Plan_asked := ok_Ad (P := P) (w := w) (mg := mg) (base := base) F_Plan_asked CP C_check_ask
  have b_Plan_asked : L2.Binds K fd_Plan_asked ["self", "wish", "draw"] [] := FunD.bindsN F_Plan_asked fun _ _ _ _ _ _ us hl => match us, hl with | [_, _, _], _ => rfl
  have g_Plan_answer_size := ok_Az (P := P) (w := w) (mg := mg) (base := base) F_Plan_answer_size B4 CP C_check_question
  have b_Plan_answer_size : L2.Binds K fd_Plan_answer_size ["self", "house", "question"] [] := FunD.bindsN F_Plan_answer_size fun _ _ _ _ _ _ us hl => match us, hl with | [_, _, _], _ => rfl
  have g_Plan_answer := ok_Aw (P := P) (w := w) (mg := mg) (base := base) F_Plan_answer B4 CP CLb C_check_question C_check_library C_products
  have b_Plan_answer : L2.Binds K fd_Plan_answer ["self", "house", "question", "library"] [] := FunD.bindsN F_Plan_answer fun _ _ _ _ _ _ us hl => match us, hl with | [_, _, _, _], _ => rfl
  have C_all_houses := cal_mk (P := P) (w := w) (mg := mg) (base := base) (x := "all_houses") F_all_houses (gl (by decide +kernel)) (ok_Hs F_all_houses B4 CP) fun _ _ _ _ _ _ us hl => match us, hl with | [_], _ => rfl
  have C_rows_asked := cal_mk (P := P) (w := w) (mg := mg) (base := base) (x := "rows_asked") F_rows_asked (gl (by decide +kernel)) (ok_Ro F_rows_asked B4 CP) fun _ _ _ _ _ _ us hl => match us, hl with | [_, _, _], _ => rfl
  have g_Plan_asked_rows := ok_Ar (P := P) (w := w) (mg := mg) (base := base) F_Plan_asked_rows CP C_all_houses C_rows_asked m_Plan_asked g_Plan_asked b_Plan_asked
  have b_Plan_asked_rows : L2.Binds K fd_Plan_asked_rows ["self", "wish", "draw"] [] := FunD.bindsN F_Plan_asked_rows fun _ _ _ _ _ _ us hl => match us, hl with | [_, _, _], _ => rfl
  have g_Plan_answers := ok_An (P := P) (w := w) (mg := mg) (base := base) F_Plan_answers B4 (fr (by decide +kernel)) CP C_check_library m_Plan_asked g_Plan_asked b_Plan_asked m_Plan_answer g_Plan_answer b_Plan_answer
  have b_Plan_answers : L2.Binds K fd_Plan_answers ["self", "wish", "draw", "library"] [] := FunD.bindsN F_Plan_answers fun _ _ _ _ _ _ us hl => match us, hl with | [_, _, _, _], _ => rfl
  have k_Ar : KBn K fd_Plan_asked_rows ["self", "wish", "draw"] 1 ["draw", "wish"] (fun us ws => us ++ ws.reverse) (fun vs zs => vs ++ zs.reverse) := binds_kw (ps := ["self", "wish", "draw"]) F_Plan_asked_rows 1 ["draw", "wish"] (fun us ws => us ++ ws.reverse) (fun r z => r.append (vals_rev z)) fun _ _ _ _ _ _ us ws h1 h2 => match us, ws, h1, h2 with | [_], [_, _], _, _ => rfl
  have PM : PlM P w K mg base (He.ga K "Plan") (He.ga K "Library") _ _ _ _ _ _ _ _ _ _ := {mAd := m_Plan_asked, gAd := g_Plan_asked, bAd := b_Plan_asked, mAr := m_Plan_asked_rows, gAr := g_Plan_asked_rows, bAr := b_Plan_asked_rows, mAz := m_Plan_answer_size, gAz := g_Plan_answer_size, bAz := b_Plan_answer_size, mAw := m_Plan_answer, gAw := g_Plan_answer, bAw := b_Plan_answer, mAn := m_Plan_answers, gAn := g_Plan_answers, bAn := b_Plan_answers, kAr := k_Ar }
  have LMk : LbMk P w K mg base (He.ga K "Library") _ _ := { made := MK_Library, gI := g_Library___init__, bI := b_Library___init__ }
  have C__law_draws := cal_mk (P := P) (w := w) (mg := mg) (base := base) (x := "_law_draws") F__law_draws (gl (by decide +kernel)) (ok_draws (many := 700) F__law_draws B2 (by decide) (by decide)) fun _ _ _ _ _ _ us hl => match us, hl with | [_, _], _ => rfl
  have C__law_take := cal_mk (P := P) (w := w) (mg := mg) (base := base) (x := "_law_take") F__law_take (gl (by decide +kernel)) (ok_take F__law_take B2) fun _ _ _ _ _ _ us hl => match us, hl with | [_, _], _ => rfl
  have C__law_product := cal_mk (P := P) (w := w) (mg := mg) (base := base) (x := "_law_product") F__law_product (gl (by decide +kernel)) (ok_LP F__law_product B) fun _ _ _ _ _ _ us hl => match us, hl with | [_, _, _], _ => rfl
  have C__law_answer := cal_mk (P := P) (w := w) (mg := mg) (base := base) (x := "_law_answer") F__law_answer (gl (by decide +kernel)) (ok_LA F__law_answer B C__law_product) fun _ _ _ _ _ _ us hl => match us, hl with | [_, _, _], _ => rfl
  have C__law_rising := cal_mk (P := P) (w := w) (mg := mg) (base := base) (x := "_law_rising") F__law_rising (gl (by decide +kernel)) (ok_Rs F__law_rising B4) fun _ _ _ _ _ _ us hl => match us, hl with | [_], _ => rfl
  have C__law_books := cal_mk (P := P) (w := w) (mg := mg) (base := base) (x := "_law_books") F__law_books (gl (by decide +kernel)) (ok_Bk F__law_books B3 C__law_take) fun _ _ _ _ _ _ us hl => match us, hl with | [_, _, _, _], _ => rfl
  have C__law_library_size := cal_mk (P := P) (w := w) (mg := mg) (base := base) (x := "_law_library_size") F__law_library_size (gl (by decide +kernel)) (ok_Lz F__law_library_size B4 C__law_take) fun _ _ _ _ _ _ us hl => match us, hl with | [_], _ => rfl
  have C__law_far := cal_mk (P := P) (w := w) (mg := mg) (base := base) (x := "_law_far") F__law_far (gl (by decide +kernel)) (ok_Fa F__law_far B4 C__law_take) fun _ _ _ _ _ _ us hl => match us, hl with | [_, _], _ => rfl
  have C__law_questions := cal_mk (P := P) (w := w) (mg := mg) (base := base) (x := "_law_questions") F__law_questions (gl (by decide +kernel)) (ok_LQ F__law_questions B4 C__law_take C__law_rising) fun _ _ _ _ _ _ us hl => match us, hl with | [_, _, _], _ => rfl
  have C__law_parts := cal_mk (P := P) (w := w) (mg := mg) (base := base) (x := "_law_parts") F__law_parts (gl (by decide +kernel)) (ok_LPt F__law_parts B4 C__law_take C__law_library_size C__law_questions) fun _ _ _ _ _ _ us hl => match us, hl with | [_], _ => rfl
  have b_same : L2.Binds K fd__law_same ["found", "due"] [] := FunD.bindsN F__law_same fun _ _ _ _ _ _ us hl => match us, hl with | [_, _], _ => rfl
  have C_same : Cal P w K mg base 5 "_law_same" _ fd__law_same ["found", "due"] (spSm 4) := ⟨gl (by decide +kernel), F__law_same.kp, b_same, ok_Sm F__law_same B3 (gl (by decide +kernel)) b_same 4⟩
  have C__law_is_plan := cal_mk (P := P) (w := w) (mg := mg) (base := base) (x := "_law_is_plan") F__law_is_plan (gl (by decide +kernel)) (ok_Lip F__law_is_plan B CP C_same) fun _ _ _ _ _ _ us hl => match us, hl with | [_, _], _ => rfl
  have C__law_call := cal_mk (P := P) (w := w) (mg := mg) (base := base) (x := "_law_call") F__law_call (gl (by decide +kernel)) (ok_Lcl F__law_call CP PM) fun _ _ _ _ _ _ us hl => match us, hl with | [_, _, _, _, _], _ => rfl
  have C__law_told := cal_mk (P := P) (w := w) (mg := mg) (base := base) (x := "_law_told") F__law_told (gl (by decide +kernel)) (ok_Ltd F__law_told C__law_call TInvalidNumber TInvalidLibrary XInvalidNumber XInvalidLibrary xInvalidNumber_InvalidNumber xInvalidLibrary_InvalidNumber xInvalidLibrary_InvalidLibrary) fun _ _ _ _ _ _ us hl => match us, hl with | [_, _, _, _, _], _ => rfl
  have C__law_other_library := cal_mk (P := P) (w := w) (mg := mg) (base := base) (x := "_law_other_library") F__law_other_library (gl (by decide +kernel)) (ok_Lot F__law_other_library B4 CLb LMk C__law_take) fun _ _ _ _ _ _ us hl => match us, hl with | [_, _, _, _], _ => rfl
  have C__law_asks_right := cal_mk (P := P) (w := w) (mg := mg) (base := base) (x := "_law_asks_right") F__law_asks_right (gl (by decide +kernel)) (ok_Lar F__law_asks_right B CP PM C_same C__law_answer) fun _ _ _ _ _ _ us hl => match us, hl with | [_, _, _, _, _, _], _ => rfl
  have C__law_houses_right := cal_mk (P := P) (w := w) (mg := mg) (base := base) (x := "_law_houses_right") F__law_houses_right (gl (by decide +kernel)) (ok_Lhr F__law_houses_right B CP PM C_same C__law_answer) fun _ _ _ _ _ _ us hl => match us, hl with | [_, _, _, _], _ => rfl
  exact ok_Law F_law { B := B, cP := CP, cL := CLb, nL := NL, draws := ⟨_, _, C__law_draws⟩, take := ⟨_, _, C__law_take⟩, parts := ⟨_, _, C__law_parts⟩, books := ⟨_, _, C__law_books⟩, asks := ⟨_, _, C__law_asks_right⟩, houses := ⟨_, _, C__law_houses_right⟩, other := ⟨_, _, C__law_other_library⟩, far := ⟨_, _, C__law_far⟩, told := ⟨_, _, C__law_told⟩, is := ⟨_, _, C__law_is_plan⟩, same := ⟨_, _, C_same⟩, mkP := ⟨_, _, { made := MK_Plan, gI := g_Plan___init__, bI := b_Plan___init__ }⟩, mkL := ⟨_, _, LMk⟩ }
end WU

namespace WU
open PySem PySem.Spec PyProof.Rows L2
theorem walk {l : PySem.W.OpenLaw} {q : Program} {loose : List Str} {XP : (Str → Option Value) → Heap → Prop} {YP : World → Heap → Prop} {d : DefRec} {K : Params → PySem.W.Frag} (hn : l.most = some 63) (hdf : d.params.defaults = []) (hname : d.name = ("law" : Str))
    (hY : ∀ (w : World) (h : Heap), YP w h → (K w.params).In h) (hD : ∀ w : World, He.SaysD [] fn (K w.params)) (hE : ∀ w : World, ex (K w.params) = true) :
    PySem.W.WalkO q loose XP YP l.row.toRowW d [] (fun f vs => PySem.call f vs) :=
  L2.walk_of (n := 63) (k := 13) (x := "script") (CX := fun _ => CX0) (sp := fun w => spLaw (K w.params)) hn (by decide) hdf ⟨rfl, by decide, by decide⟩ hY
    (fun w mg fa h KX G hmg => facts KX G (by rw [← hname]; exact hmg) (hD w) (hE w)) (fun _ _ a ns hl _ hS => ⟨a, ns, rfl, hS, hl, fun _ => rfl⟩) fun _ _ _ _ _ z => z
end WU
open PySem PySem.W PyProof.Rows
set_option maxRecDepth 100000 in
set_option maxHeartbeats 0 in
theorem PySem.Challenge.cw_wishunseen_k12_answers_of_a_plan_holds : PySem.Challenge.rw_wishunseen_k12_answers_of_a_plan.Holds := by
  w_on; o_law; k_head; (case hw => w_witness2)
  k_fill
  refine WU.walk (l := PySem.Challenge.rw_wishunseen_k12_answers_of_a_plan) rfl rfl (by rfl) (fun w h Y => PySem.W.kIn_of Y) ?D ?E
  case D =>
    intro w
    show He.obsD [] WU.fn _ = He.valD WU.fn
    kernel_rfl
  case E =>
    intro w
    kernel_rfl

