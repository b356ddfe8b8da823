import PyProof.Rows.All
import Wide.All
import OpenK.AllK
import Wide.FinOn
import HandS.Base
import HandS.Call
import HandS.Exc
import HandS.List
import HandS.Comp
import HandS.Ends
import HandS.ExcOwn
import HandS.ExcInit
import HandS.OwnEq
import HandS.Words
import HandS.Defaults
import HandS.Head0
import HandS.Head1
import HandS.Head2
import HandS.HeadHook1
import HandS.HeadHook2
import HandS.IsInst
import HandS.ExcField
import HandS.Gcd
import HandS.Conv
import HandS.WordsExc
import HandS.HeadEnd
import PySem.Challenge.RW_wishunseen_k03_fields_and_inverses
set_option Elab.async false
set_option linter.all false
set_option maxRecDepth 100000
set_option maxHeartbeats 4000000
/-! try with several clauses «except C as n», and with clauses without a name among them -/
namespace WU
open PySem PySem.Spec PyProof.Rows L2
/-- a clause: the class, its name's slot (if it has one), what the suite does -/
abbrev Cl := Value × Option Nat × (Addr → Value → Option Addr → TS)
/-- behind a named suite the slot is empty -/
def wiped (i : Nat) (D : Ends) : Ends := { nx := fun z h => D.nx (z.set i none) h, rt := D.rt, bk := fun z h => D.bk (z.set i none) h, ct := fun z h => D.ct (z.set i none) h }
def suiteOf (i : Option Nat) (ts : TS) (D : Ends) (σ : L2.St) (H : Hp) (a : Addr) : Prop :=
  match i with
  | some j => ts (wiped j D) (σ.set j (some (V.ref a))) H
  | none => ts D σ H
/-- what the clauses wish of an exception that leaves the body -/
def wCls (K : PySem.W.Frag) (Wout : WX) (D : Ends) : List Cl → WX
  | [] => Wout
  | q :: r => fun cls d σ H => ∃ b, PySem.W.exmOne K cls q.1 = some b ∧ (b = true → ∀ a, H a = none → suiteOf q.2.1 (q.2.2 a cls d) D σ H a) ∧ (b = false → wCls K Wout D r cls d σ H)
inductive Clauses (X : Cx) : List ExceptHandler → List Cl → Prop
  | nil : Clauses X [] []
  | named {x n : Str} {i : Nat} {c : Value} {ts : Addr → Value → Option Addr → TS} {b : Stmt} {su : List Stmt} {p q : Pos} {hs : List ExceptHandler} {l : List Cl}
      (hi : X.N[i]? = some n) (hl : X.env.kindOf n = some .local) (hc : Names X x c)
      (hsu : ∀ (a : Addr) (oe : Obj) (cls : Value) (d : Option Addr) (pn : List (Addr × Obj)), Zc cls d oe → (∃ vs, oe.data = .fields vs) → PSs (X.suite a ((a, oe) :: pn)) (b :: su) (ts a cls d))
      (r : Clauses X hs l) : Clauses X (.ExceptHandler (some (.Name x p)) (some n) (b :: su) q :: hs) ((c, some i, ts) :: l)
section
variable {X : Cx} {body : List Stmt} {h₀ : ExceptHandler} {hds : List ExceptHandler} {l : List Cl} {pos : Pos} {tb : WX → TS} {Wout : WX}
theorem ps_try_cls (hst : X.stack = X.env :: X.outer) (hfr : X.env.frame = some X.env.locals) (hN : X.N.Nodup) (tk : Takes X Wout)
    (hb : ∀ (W : WX) (pn : List (Addr × Obj)) (xe : Value → Shared → Prop), Takes (X.tr pn xe) W →
      PassesOwn (model X.prog X.w) X.A X.env xe → PSs (X.tr pn xe) body (tb W))
    (hh : Clauses X (h₀ :: hds) l) : PS X (.Try body (h₀ :: hds) [] [] pos) (fun D σ H => tb (wCls X.K Wout D l) D σ H) := by
  constructor
  intro pins s σ H D I h
  have okX := I.ok
  have frA : X.A.frames = some (X.env :: X.outer) := okX.frames.trans (congrArg some hst)
  apply wpAny_Try_except
  let xe1 : Value → Shared → Prop := fun e s₁ => wpAny (model X.prog X.w) X.A (noteFrame e X.env) (fun _ s₂ =>
    wpAny (model X.prog X.w) X.A (setFlight e none) (fun _ s₃ => wpAny (model X.prog X.w) X.A (handleBy e X.env (h₀ :: hds))
      (SP X pins D) X.xe s₃) X.xe s₂) X.xe s₁
  have taken : Takes (X.tr (X.pn ++ pins) xe1) (wCls X.K Wout D l) := by
    rintro u st ⟨a, B, sI, pins', σ', H', cls, d, rfl, J', nb, up, sky, na, os, ag, wish⟩
    have J : Inv X pins σ' H' sI := J'.ofTry okX
    rw [show (X.tr (X.pn ++ pins) xe1).stack = X.env :: X.outer from hst] at sky
    show wpAny (model X.prog X.w) X.A (noteFrame (Value.ref a) X.env) _ _ _
    refine Sky.land Zc.steady frA hfr sky fun hA flA upA => ?_
    have JA : Inv X pins σ' H' { st with heap := hA } := J.landed nb flA.1 (up.trans upA) os ag
    obtain ⟨oA, vA, eA, zA, dA⟩ := flA.there
    have offF : a ∉ frs (X.env :: X.outer) := fun hm => by
      obtain ⟨_, o', e', hn⟩ := flA.2.2.1.mem hm
      cases eA.symm.trans e'
      exact hn _ dA
    have offL : a ≠ X.env.locals := by
      rintro rfl
      exact offF (List.mem_filterMap.mpr ⟨X.env, .head _, hfr⟩)
    have offO : a ∉ X.fs := fun hm => by
      obtain ⟨en, hen, q⟩ := List.mem_filterMap.mp hm
      exact offF (List.mem_filterMap.mpr ⟨en, .tail _ hen, q⟩)
    have SA := JA.suite eA dA na offL offO
    have isT : PySem.W.Looks (model X.prog X.w) hA (typeOf (.ref a)) cls := by
      intro A Q E s2 kk q
      refine wpAny_typeOf_ref (kk _ _ eA) ?_
      rw [zA.1]
      exact q
    have onward : ∀ {hs : List ExceptHandler} {l' : List Cl}, Clauses X hs l' → wCls X.K Wout D l' cls d σ' H' →
        wpAny (model X.prog X.w) X.A (handleBy (.ref a) X.env hs) (SP X pins D) X.xe { st with heap := hA } := by
      intro hs l' hk
      induction hk with
      | nil =>
        intro wout
        apply wpAny_handleBy_nil
        obtain ⟨_, _, _, oe, vs, T, oT, tt, he, hz, hd, h1, hr⟩ := id flA
        unfold PySem.passOn
        apply wpAny_bind
        refine wpAny_field he hd h1 ?_
        have nn : ¬ ((Value.ref T == Value.none) = true) := by simp
        rw [if_neg nn]
        have fin : wpAny (model X.prog X.w) X.A (setFlight (.ref a) X.env.frame) (fun _ s4 =>
            wpAny (model X.prog X.w) X.A (throw (.ref a) : Sem Flow) (SP X pins D) X.xe s4) X.xe { st with heap := hA } := by
          rw [hfr]
          refine HandSPX.setFlight_upZ flA fun hB hhB upB => ?_
          apply wpAny_throw
          apply tk
          refine ⟨a, B, sI, pins, σ', H', cls, d, rfl, J, nb, (up.trans upA).trans upB, ?_, na, os, ag, wout⟩
          right; right
          rw [hst]
          exact hhB
        first
          | exact wpAny_bind (wpAny_pure (wpAny_bind fin))
          | exact wpAny_bind fin
      | @named x n i c ts b su p q hs2 l2 hi hl hc hsu r ih =>
        rintro ⟨yes, hyn, onYes, onNo⟩
        refine wpAny_handleBy_cons (codeAny_handlers_test ?_) (by intro z; cases z)
        have hits := PySem.W.exm_one (M := model X.prog X.w) JA.kIn isT hyn
        have asked : ∀ {Q E : Value → Shared → Prop}, Q c { st with heap := hA } →
            wpAny (model X.prog X.w) (X.A.mark (some (.ref a))) (eval (.Name x p) X.env) Q E { st with heap := hA } := by
          intro Q E q
          obtain ⟨g1, g2, g3⟩ := hc
          rcases g3 with g3 | ⟨g3, g4, g5⟩
          · exact ld_glob (X := X.suite a ((a, oA) :: (X.pn ++ pins))) SA g1 g3 q g2
          · exact ld_blt (X := X.suite a ((a, oA) :: (X.pn ++ pins))) SA g1 g3 g4 q g5 g2
        apply asked
        refine hits.here ?_
        cases yes with
        | false => exact ih (onNo rfl)
        | true =>
          apply codeAny_handlers_suite_as
          refine HandSPX.lands_againZ flA fun hB flB upB => ?_
          have JB : Inv X pins σ' H' { st with heap := hB } := J.landed nb flB.1 ((up.trans upA).trans upB) os ag
          obtain ⟨oB, vB, eB, zB, dB⟩ := flB.there
          have SB := JB.suite eB dB na offL offO
          refine store_ok (X := X.suite a ((a, oB) :: (X.pn ++ pins))) (v := .ref a) SB hN hi (Or.inl hl) rfl (fun s5 S5 => ?_) (Or.inr hl)
          have runs := (hsu a oB cls d (X.pn ++ pins) zB ⟨_, dB⟩).run [] s5 _ H' _ S5 (onYes rfl a na)
          refine wpAny_mono runs (fun f s6 hsp => ?_) fun _ _ z => z.elim
          have left_ : ∀ {σ6 : L2.St} {H6 : Hp} {Q : Shared → Prop}, Inv (X.suite a ((a, oB) :: (X.pn ++ pins))) [] σ6 H6 s6 →
              (∀ s7, Inv X pins (σ6.set i none) H6 s7 → Q s7) →
              wpAny (model X.prog X.w) X.A (do bindName X.env n .none; unbindBehindTheSuite X.env n q) (fun _ s7 => Q s7) X.xe s6 :=
            fun S6 k => gone_ok (S6.unsuite okX) hN hi hl k
          match f, hsp with
          | .next, ⟨σ6, H6, S6, q6⟩ => exact left_ S6 fun s7 J7 => ⟨_, _, J7, q6⟩
          | .brk, ⟨σ6, H6, S6, q6⟩ => exact left_ S6 fun s7 J7 => ⟨_, _, J7, q6⟩
          | .cont, ⟨σ6, H6, S6, q6⟩ => exact left_ S6 fun s7 J7 => ⟨_, _, J7, q6⟩
          | .ret u, ⟨v6, σ6, H6, S6, r6, q6⟩ => exact left_ S6 fun s7 J7 => ⟨_, _, _, J7, r6, q6⟩
    exact onward hh wish
  have body_ := (hb _ (X.pn ++ pins) xe1 taken PassesOwn.looking).run [] s σ H D (I.toTry _) h
  refine wpAny_mono body_ (fun f s1 hsp => ?_) fun _ _ z => z
  match f, hsp with
  | .next, ⟨σ', H', J', q⟩ => exact wpAny_execs_nil ⟨σ', H', J'.ofTry okX, q⟩
  | .brk, ⟨σ', H', J', q⟩ => exact ⟨σ', H', J'.ofTry okX, q⟩
  | .cont, ⟨σ', H', J', q⟩ => exact ⟨σ', H', J'.ofTry okX, q⟩
  | .ret u, ⟨v, σ', H', J', r, q⟩ => exact ⟨v, σ', H', J'.ofTry okX, r, q⟩
end
end WU

set_option maxRecDepth 100000
set_option maxHeartbeats 4000000
namespace WU
open PySem PySem.Spec PyProof.Rows L2
/-! ### the head's facts -/
/-- the facts of the defs, and one more Bool -/
def hookB (n : Nat) (fn : List He.DefD) (ex : PySem.W.Frag → Bool) : PySem.W.Hook where
  α := He.AlD × Bool
  obs := fun s => (He.obsDG n [] fn s.heap.get?, ex (He.frG s.heap.get? (He.asD s.heap.get? n)))
  val := fun _ => (He.valD fn, true)
  says := fun _ h => ∃ K : PySem.W.Frag, K.In h ∧ He.SaysD [] fn K ∧ ex K = true
  of := fun _ _ e => ⟨_, He.frG_in, congrArg Prod.fst e, congrArg Prod.snd e⟩
  keeps := fun _ _ _ ⟨K, hK, c⟩ k => ⟨K, PySem.W.Frag.In.keeps hK k, c⟩
def obB (n : Nat) (fn : List He.DefD) (ex : PySem.W.Frag → Bool) (s : PySem.W.SharedT) : He.AlD × Bool :=
  (He.obsDG n [] fn (HandSHeadRun.getT s), ex (He.frG (HandSHeadRun.getT s) (He.asD (HandSHeadRun.getT s) n)))
theorem obB_eq {n : Nat} {fn : List He.DefD} {ex : PySem.W.Frag → Bool} (s : PySem.W.SharedT) : obB n fn ex s = (hookB n fn ex).obs s.abs := by
  have e : HandSHeadRun.getT s = s.abs.heap.get? := funext (HandSHeadRun.getT_eq s)
  unfold obB
  rw [e]
  rfl
theorem and2 {a b : Bool} (h : (a && b) = true) : a = true ∧ b = true := Bool.and_eq_true_iff.mp h
/-- names that the module leaves to the built-ins; names that stand for objects -/
def freeB (K : PySem.W.Frag) (xs : List Str) : Bool := xs.all fun x => decide (PySem.W.nsIn K mainGlobals x = some none)
def globB (K : PySem.W.Frag) (xs : List Str) : Bool := xs.all fun x => decide (PySem.W.nsIn K mainGlobals x = some (some (.ref (He.ga K x))))
section
variable {K : PySem.W.Frag} {h : Heap} {mg : Str → Option Value}
theorem freeB_ok (X : K.In h) (G : h.Ns mainGlobals mg) {xs : List Str} (c : freeB K xs = true) {x : Str} (hx : x ∈ xs) : mg x = none :=
  PySem.W.mg_none_of X G (of_decide_eq_true (List.all_eq_true.mp c x hx))
theorem globB_ok (X : K.In h) (G : h.Ns mainGlobals mg) {xs : List Str} (c : globB K xs = true) {x : Str} (hx : x ∈ xs) : mg x = some (.ref (He.ga K x)) :=
  PySem.W.mg_of X G (of_decide_eq_true (List.all_eq_true.mp c x hx))
end
/-! ### an own exception class over ValueError (or over own ones that are) -/
def oexShape (C : Addr) : Option Obj → Bool
  | some ⟨.type t, _, .cls ⟨_, _, .ref C' :: bm, _, _, true, _, _, _, _, false⟩, ⟨[_, _, _, _, some (.builtin id), _]⟩⟩ =>
    decide (t = "type") && (decide (C' = C) && (decide (id = "ValueError.__new__") && PySem.HandSPX.refsVE bm))
  | _ => false
def oexB (K : PySem.W.Frag) (C : Addr) : Bool :=
  oexShape C (K.lookup C) && (decide (PySem.W.findIn K (.ref C) "__setattr__" = some (some (.builtin "object.__setattr__"))) &&
    (decide (PySem.W.subIn K (.ref C) (.type "BaseException") = some true) && (decide (PySem.W.typeIn K (.ref C) = some (.type "type")) && PySem.W.keepIn K (.ref C))))
theorem oexB_ok {K : PySem.W.Frag} {C : Addr} (h : oexB K C = true) : OexC K C := by
  obtain ⟨h1, h⟩ := and2 h
  obtain ⟨h2, h⟩ := and2 h
  obtain ⟨h3, h⟩ := and2 h
  obtain ⟨h4, h5⟩ := and2 h
  refine ⟨?_, of_decide_eq_true h2, of_decide_eq_true h3, of_decide_eq_true h4, h5⟩
  unfold oexShape at h1
  split at h1
  · rename_i t dd nm bs C' bm N q sn sub ab col k0 k1 k2 k3 id k5 heq
    obtain ⟨e1, h1⟩ := and2 h1
    obtain ⟨e2, h1⟩ := and2 h1
    obtain ⟨e3, e4⟩ := and2 h1
    have q1 := of_decide_eq_true e1
    have q2 := of_decide_eq_true e2
    have q3 := of_decide_eq_true e3
    subst q1 q2 q3
    exact ⟨_, _, _, _, _, _, _, _, _, _, _, _, _, _, _, heq, e4⟩
  · cases h1
/-- what every body asks of an exception class X whose __init__ stands at fI and keeps one field f -/
structure Exc1 (K : PySem.W.Frag) (mg : Str → Option Value) (x : Str) (f : Str) : Prop where
  glob : mg x = some (.ref (He.ga K x))
  oex : OexC K (He.ga K x)
  no : PySem.W.findIn K (.ref (He.ga K x)) f = some none
  init : PySem.W.findIn K (.ref (He.ga K x)) "__init__" = some (some (.ref (He.ma K (He.ga K x) "__init__")))
  tI : PySem.W.typeIn K (.ref (He.ma K (He.ga K x) "__init__")) = some (.type "function")
def exc1B (K : PySem.W.Frag) (x f : Str) : Bool :=
  decide (PySem.W.nsIn K mainGlobals x = some (some (.ref (He.ga K x)))) && (oexB K (He.ga K x) && (decide (PySem.W.findIn K (.ref (He.ga K x)) f = some none) &&
    (decide (PySem.W.findIn K (.ref (He.ga K x)) "__init__" = some (some (.ref (He.ma K (He.ga K x) "__init__")))) && decide (PySem.W.typeIn K (.ref (He.ma K (He.ga K x) "__init__")) = some (.type "function")))))
theorem exc1B_ok {K : PySem.W.Frag} {h : Heap} {mg : Str → Option Value} (X : K.In h) (G : h.Ns mainGlobals mg) {x f : Str} (c : exc1B K x f = true) : Exc1 K mg x f := by
  obtain ⟨h1, c⟩ := and2 c
  obtain ⟨h2, c⟩ := and2 c
  obtain ⟨h3, c⟩ := and2 c
  obtain ⟨h4, h5⟩ := and2 c
  exact ⟨PySem.W.mg_of X G (of_decide_eq_true h1), oexB_ok h2, of_decide_eq_true h3, of_decide_eq_true h4, of_decide_eq_true h5⟩
/-- an if whose test is known by an equation -/
theorem iteTb {c : Bool} {A B : Prop} (hc : c = true) (h : A) : if c = true then A else B := by
  rw [if_pos hc]
  exact h
theorem iteFb {c : Bool} {A B : Prop} (hc : c = false) (h : B) : if c = true then A else B := by
  rw [if_neg (by rw [hc]; decide)]
  exact h
theorem iteD {c : Prop} [Decidable c] {A B : Prop} (h1 : c → A) (h2 : ¬ c → B) : if decide c = true then A else B := by
  by_cases h : c
  · rw [decide_eq_true h]
    exact iteT (h1 h)
  · rw [decide_eq_false h]
    exact iteF (h2 h)
theorem ixN_at {n q : Nat} (h : q < n) : ixN n (q : Int) = some q := by
  unfold ixN
  rw [if_pos (by omega), if_pos (by omega)]
  simp
/-! ### calls -/
/-- the name x stands for a def that keeps sp -/
structure Cal (P : Program) (w : World) (K : PySem.W.Frag) (mg : Str → Option Value) (base : Heap) (k : Nat) (x : Str) (f : Addr) (fd : FuncData) (ps : List Str) (sp : Sp) : Prop where
  glob : mg x = some (.ref f)
  kp : PySem.W.keepIn K (.ref f) = true
  binds : Binds K fd ps []
  ok : FnOk P w K mg base (L2.CX P w) k f fd ps sp
theorem passU {X : Cx} : Passes (L2.CX X.prog X.w) X E0 := fun _ _ _ _ _ _ _ ⟨_, _, _, _, _, _, _, _, _, _, _, _, z⟩ => z.elim
section
variable {X : Cx} {k : Nat} {x : Str} {f : Addr} {fd : FuncData} {ps : List Str} {sp : Sp} {E : XK} {e : Expr} {es : List Expr} {t : TA} {p pos : Pos}
theorem pe_cal (C : Cal X.prog X.w X.K X.mg X.base k x f fd ps sp) (hr : Room k X.A) (ha : PA X (e :: es) t) (hx : Passes (L2.CX X.prog X.w) X E) (hg : Gl X x := by rfl) (hdb : (x == ("__debug__" : Str)) = false := by decide)
    (he : starEach (e :: es) X.env = (false, eval e X.env) :: starEach es X.env := by rfl) (hpl : (backTo pos (starEach es X.env)).any (·.1) = false := by rfl) :
    PE X (.Call (.Name x p) (e :: es) [] pos) (tCall sp [] E t) := pe_call C.ok hr hg C.glob C.kp C.binds .nil hx ha hdb he hpl
theorem pe_calS {W : WX} (C : Cal X.prog X.w X.K X.mg X.base k x f fd ps sp) (hr : Room k X.A) (ha : PA X (e :: es) t) (tk : Takes X W) (hg : Gl X x := by rfl) (hdb : (x == ("__debug__" : Str)) = false := by decide)
    (he : starEach (e :: es) X.env = (false, eval e X.env) :: starEach es X.env := by rfl) (hpl : (backTo pos (starEach es X.env)).any (·.1) = false := by rfl) :
    PE X (.Call (.Name x p) (e :: es) [] pos) (tCallS sp (WE W) t) := pe_callS C.ok hr hg C.glob C.kp C.binds (fun σ => passAt tk σ) ha hdb he hpl
end
/-! ### raise X(e), X's __init__ keeping one field -/
/-- self.f = value -/
def spInit1 (K : PySem.W.Frag) (C : Addr) (f : Str) : Sp := fun vs H Q _ => ∃ (a : Addr) (y : V), vs = [.ref a, y] ∧ OexC K C ∧ PySem.W.findIn K (.ref C) f = some none ∧ H a = some (exo a C none) ∧
  ∀ dx, H dx = none → dx ≠ a → Q .non (upd (upd H dx (exd dx [(f, y)])) a (exo a C (some dx)))
/-- the reading: the error's class, its own dict, the heap behind -/
def tMk1 (C : Addr) (f : Str) (ta : TA) : L2.St → Hp → XK → Prop := fun σ H Q => ta σ H fun vs H1 => ∃ v, vs = [v] ∧ ∀ d H', Same H1 H' → H1 d = none → H' d = some (.xd [(f, v)]) → Q (.ref C) (some d) H'
/-- a reading that may be weakened -/
def lax (ta : TA) : TA := fun σ H Q => ∃ Q0 : List V → Hp → Prop, ta σ H Q0 ∧ ∀ vs H1, Q0 vs H1 → Q vs H1
theorem pa_lax {X : Cx} {es : List Expr} {ta : TA} (ha : PA X es ta) : PA X es (lax ta) :=
  ⟨fun pos pins s σ H Q I h => by
    obtain ⟨Q0, h0, hq⟩ := h
    refine wpAny_mono (ha.run pos pins s σ H Q0 I h0) (fun us s1 hu => ?_) fun _ _ z => z
    obtain ⟨vs, H1, I1, r, q⟩ := hu
    exact ⟨vs, H1, I1, r, hq vs H1 q⟩⟩
section
variable {X : Cx} {k : Nat} {x f : Str} {fd : FuncData} {q : Str} {e : Expr} {ta : TA} {p pos pos2 : Pos}
theorem pmk_1 (T : Exc1 X.K X.mg x f) (F : FnOk X.prog X.w X.K X.mg X.base (L2.CX X.prog X.w) k (He.ma X.K (He.ga X.K x) "__init__") fd ["self", q] (spInit1 X.K (He.ga X.K x) f)) (b : Binds X.K fd ["self", q] [])
    (hr : Room (k + 1) X.A) (ha : PA X [e] ta) (hg : Gl X x := by rfl) (hdb : (x == ("__debug__" : Str)) = false := by decide)
    (he : starEach (e :: []) X.env = (false, eval e X.env) :: starEach [] X.env := by rfl) (hpl : (backTo pos (starEach [] X.env)).any (·.1) = false := by rfl) :
    PMk X (.Call (.Name x p) [e] [] pos) (tMk1 (He.ga X.K x) f ta) := by
  intro pins s σ H Q I h
  refine pmk_oex (CX := L2.CX X.prog X.w) (dvs := []) T.oex T.init T.tI F hr b .nil passU hg T.glob (pa_lax ha) hdb he hpl pins s σ H Q I ⟨_, h, fun vs H1 hv => ?_⟩
  obtain ⟨v, rfl, kk⟩ := hv
  refine ⟨(show 1 ≤ 1000 by decide), fun a na => ⟨a, v, rfl, T.oex, T.no, upd_same, fun dx ndx hdx => ⟨rfl, dx, [(f, v)], upd_same, by rw [upd_ne hdx, upd_same], ?_, ?_⟩⟩⟩
  · rw [upd_ne hdx] at ndx
    exact ndx
  · rw [upd_ne hdx] at ndx
    refine kk dx _ (fun c o hc => ?_) ndx upd_same
    have c1 : c ≠ dx := ne_of_none hc ndx
    have c2 : c ≠ a := ne_of_none hc na
    rw [upd_ne c1, del_ne c2, upd_ne c2, upd_ne c1, upd_ne c2]
    exact hc
theorem ps_raise1 {W : WX} (hc : X.calm = true) (tk : Takes X W) (T : Exc1 X.K X.mg x f) (F : FnOk X.prog X.w X.K X.mg X.base (L2.CX X.prog X.w) k (He.ma X.K (He.ga X.K x) "__init__") fd ["self", q] (spInit1 X.K (He.ga X.K x) f)) (b : Binds X.K fd ["self", q] [])
    (hr : Room (k + 1) X.A) (ha : PA X [e] ta) (hg : Gl X x := by rfl) (hdb : (x == ("__debug__" : Str)) = false := by decide)
    (he : starEach (e :: []) X.env = (false, eval e X.env) :: starEach [] X.env := by rfl) (hpl : (backTo pos (starEach [] X.env)).any (·.1) = false := by rfl) :
    PS X (.Raise (some (.Call (.Name x p) [e] [] pos)) none pos2) (fun _ σ H => tMk1 (He.ga X.K x) f ta σ H fun cls d H' => W cls d σ H') :=
  ps_raise hc tk (pmk_1 T F b hr ha hg hdb he hpl)
end
end WU

set_option maxRecDepth 100000
set_option maxHeartbeats 4000000
namespace WU
open PySem PySem.Spec PyProof.Rows L2
def top (i : Nat) : Stmt := PySem.Challenge.pw_wishunseen_k03_fields_and_inverses.main.body.getD i (.Pass ⟨0, 0, 0, 0⟩)
abbrev FnS (K : PySem.W.Frag) (x : Str) (st : Stmt) (f : Addr) (fd : FuncData) : Prop := FunD K x x (defArgs st) (defBody st) (defScope st) [] [] f fd
/-! ### any values -/
def isIB : V → Bool
  | .int _ => true
  | .bl _ => true
  | _ => false
def isB : V → Bool
  | .bl _ => true
  | _ => false
def isI : V → Bool
  | .int _ => true
  | _ => false
/-- the value has a type, of which int and bool are known -/
def Ty3 (K : PySem.W.Frag) (H : Hp) (v : V) : Prop := ∃ t, TyX K H v t ∧ PySem.W.kitOne K t (.type "int") = some (isIB v) ∧ PySem.W.kitOne K t (.type "bool") = some (isB v)
section
variable {K : PySem.W.Frag} {H : Hp}
theorem ty3_int (i : Int) : Ty3 K H (.int i) := ⟨_, .base (.int i), kit_ty (show kitB "int" "int" = some true by decide +kernel), kit_ty (show kitB "int" "bool" = some false by decide +kernel)⟩
theorem ty3_bl (b : Bool) : Ty3 K H (.bl b) := ⟨_, .base (.bl b), kit_ty (show kitB "bool" "int" = some true by decide +kernel), kit_ty (show kitB "bool" "bool" = some true by decide +kernel)⟩
theorem ty3_non : Ty3 K H .non := ⟨_, .base .non, kit_ty (show kitB "NoneType" "int" = some false by decide +kernel), kit_ty (show kitB "NoneType" "bool" = some false by decide +kernel)⟩
theorem ty3_str (z : Str) : Ty3 K H (.str z) := ⟨_, .base (.str z), kit_ty (show kitB "str" "int" = some false by decide +kernel), kit_ty (show kitB "str" "bool" = some false by decide +kernel)⟩
theorem ty3_lst {a : Addr} {xs : List V} (e : H a = some (.lst xs)) : Ty3 K H (.ref a) := ⟨_, .base (.lst e), kit_ty (show kitB "list" "int" = some false by decide +kernel), kit_ty (show kitB "list" "bool" = some false by decide +kernel)⟩
theorem ty3_tup {a : Addr} {xs : List V} (e : H a = some (.tup xs)) : Ty3 K H (.ref a) := ⟨_, .base (.tup e), kit_ty (show kitB "tuple" "int" = some false by decide +kernel), kit_ty (show kitB "tuple" "bool" = some false by decide +kernel)⟩
end
section
variable {P : Program} {w : World} {K : PySem.W.Frag} {mg : Str → Option Value} {base : Heap}
structure Blt (mg : Str → Option Value) : Prop where
  isi : mg "isinstance" = none
  int : mg "int" = none
  bool : mg "bool" = none
def spIsInt (K : PySem.W.Frag) : Sp := fun vs H Q _ => ∃ v, vs = [v] ∧ Ty3 K H v ∧ Q (.bl (isI v)) H
abbrev sIsInt : Stmt := top 8
theorem scIsInt : FnScope ["value"] ["value"] (defScope sIsInt) := ⟨rfl, rfl, rfl, by decide +kernel, rfl, by decide +kernel, by decide +kernel⟩
theorem ok_isInt {f : Addr} {fd : FuncData} (F : FnS K "is_integer" sIsInt f fd) (B : Blt mg) : FnOk P w K mg base (L2.CX P w) 1 f fd ["value"] (spIsInt K) := by
  refine F.ok scIsInt (fun vs H Q E h => ?_) (fun cdv A outer s H vs Q E hr h => ?_)
  · obtain ⟨v, rfl, _⟩ := h
    rfl
  · obtain ⟨v, rfl, ⟨t, ht, h1, h2⟩, k⟩ := h
    refine ⟨_, pss_one (ps_ret (pe_and (pe_callB call_isi (by rfl) B.isi (by decide +kernel) (pa_cons (pv 0) (pa_cons (pe_bltn (v := .ty "int") (by rfl) B.int (by decide +kernel) rfl) pa_nil)))
      (pe_one (pe_not (pe_callB call_isi (by rfl) B.isi (by decide +kernel) (pa_cons (pv 0) (pa_cons (pe_bltn (v := .ty "bool") (by rfl) B.bool (by decide +kernel) rfl) pa_nil))))))), ?_⟩
    refine ⟨_, rfl, _, _, _, _, _, rfl, .ty "int", ht, h1, _, rfl, ?_⟩
    cases v with
    | int n =>
      refine iteT ⟨_, rfl, _, _, _, _, _, rfl, .ty "bool", ht, h2, _, rfl, k⟩
    | bl b => exact iteT ⟨_, rfl, _, _, _, _, _, rfl, .ty "bool", ht, h2, _, rfl, k⟩
    | _ => exact iteF k
theorem bN {x : Str} {st : Stmt} {f : Addr} {fd : FuncData} {ps : List Str} (F : FnS K x st f fd)
    (h : ∀ (kV doc pm : Value) (an : Option Addr) (cdv ct : Value) (us : List Value), us.length = ps.length → bindArgs (PySem.W.fnOf x x (defArgs st) (defBody st) (defScope st) .none kV doc pm an cdv ct) ⟨us, []⟩ = pure (ps.zip us)) : Binds K fd ps [] := F.bindsN h
theorem cal_mk {x : Str} {st : Stmt} {f : Addr} {fd : FuncData} {ps : List Str} {k : Nat} {sp : Sp} (F : FnS K x st f fd) (g : mg x = some (.ref f)) (ok : FnOk P w K mg base (L2.CX P w) k f fd ps sp)
    (h : ∀ (kV doc pm : Value) (an : Option Addr) (cdv ct : Value) (us : List Value), us.length = ps.length → bindArgs (PySem.W.fnOf x x (defArgs st) (defBody st) (defScope st) .none kV doc pm an cdv ct) ⟨us, []⟩ = pure (ps.zip us)) : Cal P w K mg base k x f fd ps sp :=
  ⟨g, F.kp, F.bindsN h, ok⟩
/-- whether it is a number; .. below n -/
def isN : V → Bool
  | .int i => decide (0 ≤ i)
  | _ => false
def isBel (n : Int) : V → Bool
  | .int i => decide (0 ≤ i) && decide (i < n)
  | _ => false
def spIsNum (K : PySem.W.Frag) : Sp := fun vs H Q _ => ∃ v, vs = [v] ∧ Ty3 K H v ∧ Q (.bl (isN v)) H
def spIsBel (K : PySem.W.Frag) : Sp := fun vs H Q _ => ∃ v n, vs = [v, .int n] ∧ Ty3 K H v ∧ Q (.bl (isBel n v)) H
abbrev sIsNum : Stmt := top 9
abbrev sIsBel : Stmt := top 10
theorem scIsNum : FnScope ["value"] ["value"] (defScope sIsNum) := ⟨rfl, rfl, rfl, by decide +kernel, rfl, by decide +kernel, by decide +kernel⟩
theorem ok_isNum {f f1 : Addr} {fd fd1 : FuncData} (F : FnS K "is_number" sIsNum f fd) (C1 : Cal P w K mg base 1 "is_integer" f1 fd1 ["value"] (spIsInt K)) : FnOk P w K mg base (L2.CX P w) 2 f fd ["value"] (spIsNum K) := by
  refine F.ok scIsNum (fun vs H Q E h => ?_) (fun cdv A outer s H vs Q E hr h => ?_)
  · obtain ⟨v, rfl, _⟩ := h
    rfl
  · obtain ⟨v, rfl, ht, k⟩ := h
    refine ⟨_, pss_one (ps_ret (pe_and (pe_cal C1 hr (pa_cons (pv 0) pa_nil) passU) (pe_one (pe_cmp (pc_ge (pv 0) pe_int))))), ?_⟩
    refine ⟨_, rfl, v, rfl, ht, _, rfl, ?_⟩
    cases v with
    | int n => exact iteT ⟨_, rfl, _, _, rfl, rfl, k⟩
    | _ => exact iteF k
theorem scIsBel : FnScope ["value", "limit"] ["value", "limit"] (defScope sIsBel) := ⟨rfl, rfl, rfl, by decide +kernel, rfl, by decide +kernel, by decide +kernel⟩
theorem ok_isBel {f f1 : Addr} {fd fd1 : FuncData} (F : FnS K "is_below" sIsBel f fd) (C1 : Cal P w K mg base 2 "is_number" f1 fd1 ["value"] (spIsNum K)) : FnOk P w K mg base (L2.CX P w) 3 f fd ["value", "limit"] (spIsBel K) := by
  refine F.ok scIsBel (fun vs H Q E h => ?_) (fun cdv A outer s H vs Q E hr h => ?_)
  · obtain ⟨v, n, rfl, _⟩ := h
    rfl
  · obtain ⟨v, n, rfl, ht, k⟩ := h
    refine ⟨_, pss_one (ps_ret (pe_and (pe_cal C1 hr (pa_cons (pv 0) pa_nil) passU) (pe_one (pe_cmp (pc_lt (pv 0) (pv 1)))))), ?_⟩
    refine ⟨_, rfl, v, rfl, ht, _, rfl, ?_⟩
    cases v with
    | int i =>
      have k' : Q (.bl (decide (0 ≤ i) && decide (i < n))) H := k
      show if decide (0 ≤ i) = true then _ else _
      by_cases h0 : 0 ≤ i
      · rw [decide_eq_true h0] at k' ⊢
        exact iteT ⟨_, rfl, _, rfl, _, _, rfl, rfl, k'⟩
      · rw [decide_eq_false h0] at k' ⊢
        exact iteF k'
    | _ => exact iteF k
/-- the primes to 31 -/
def primes : List Int := [2, 3, 5, 7, 11, 13, 17, 19, 23, 29, 31]
def isFld : V → Bool
  | .int i => inV (.int i) (primes.map V.int)
  | _ => false
def spIsFld (K : PySem.W.Frag) : Sp := fun vs H Q _ => ∃ v, vs = [v] ∧ Ty3 K H v ∧ Q (.bl (isFld v)) H
abbrev sIsFld : Stmt := top 14
abbrev sCheck : Stmt := top 15
abbrev sInv : Stmt := top 16
theorem scIsFld : FnScope ["p"] ["p"] (defScope sIsFld) := ⟨rfl, rfl, rfl, by decide +kernel, rfl, by decide +kernel, by decide +kernel⟩
theorem ok_isFld {f f1 fP : Addr} {fd fd1 : FuncData} (F : FnS K "is_field" sIsFld f fd) (C1 : Cal P w K mg base 1 "is_integer" f1 fd1 ["value"] (spIsInt K)) (gP : mg "PRIMES" = some (.ref fP)) (tP : ∀ H, SqT K H fP (primes.map V.int)) :
    FnOk P w K mg base (L2.CX P w) 2 f fd ["p"] (spIsFld K) := by
  refine F.ok scIsFld (fun vs H Q E h => ?_) (fun cdv A outer s H vs Q E hr h => ?_)
  · obtain ⟨v, rfl, _⟩ := h
    rfl
  · obtain ⟨v, rfl, ht, k⟩ := h
    refine ⟨_, pss_one (ps_ret (pe_and (pe_cal C1 hr (pa_cons (pv 0) pa_nil) passU) (pe_one (pe_cmpR op_in_seq (pv 0) (pe_glob (v := .ref fP) rfl gP rfl) rfl)))), ?_⟩
    refine ⟨_, rfl, v, rfl, ht, _, rfl, ?_⟩
    cases v with
    | int n => exact iteT ⟨_, rfl, _, _, rfl, .inr (tP H), rfl, by decide, k⟩
    | _ => exact iteF k
/-- an error of class C with its own dict at d, in a heap that has grown -/
def Errs (C : Addr) (f : Str) (v : V) (H : Hp) (E : XK) : Prop := ∀ d H', Same H H' → H d = none → H' d = some (.xd [(f, v)]) → E (.ref C) (some d) H'
def spCheck (K : PySem.W.Frag) : Sp := fun vs H Q E => ∃ v, vs = [v] ∧ Ty3 K H v ∧ (isFld v = true → Q .non H) ∧ (isFld v = false → Errs (He.ga K "InvalidNumber") "value" v H E)
theorem scCheck : FnScope ["p"] ["p"] (defScope sCheck) := ⟨rfl, rfl, rfl, by decide +kernel, rfl, by decide +kernel, by decide +kernel⟩
theorem ok_check {f f1 : Addr} {fd fd1 fdI : FuncData} (F : FnS K "check_field" sCheck f fd) (C1 : Cal P w K mg base 2 "is_field" f1 fd1 ["p"] (spIsFld K)) (T : Exc1 K mg "InvalidNumber" "value")
    (FI : FnOk P w K mg base (L2.CX P w) 1 (He.ma K (He.ga K "InvalidNumber") "__init__") fdI ["self", "value"] (spInit1 K (He.ga K "InvalidNumber") "value")) (bI : Binds K fdI ["self", "value"] []) :
    FnOk P w K mg base (L2.CX P w) 3 f fd ["p"] (spCheck K) := by
  refine F.ok scCheck (fun vs H Q E h => ?_) (fun cdv A outer s H vs Q E hr h => ?_)
  · obtain ⟨v, rfl, _⟩ := h
    rfl
  · obtain ⟨v, rfl, ht, kY, kN⟩ := h
    refine ⟨_, pss_one (ps_if (pt_not (pt_val (pe_cal C1 hr (pa_cons (pv 0) pa_nil) passU))) (pss_one (ps_raise1 rfl (takes_of rfl rfl rfl rfl) T FI bI hr (pa_cons (pv 0) pa_nil))) pss_nil), ?_⟩
    refine ⟨_, rfl, v, rfl, ht, _, rfl, ?_⟩
    cases e : isFld v with
    | true => exact iteF (kY e)
    | false => exact iteT ⟨_, rfl, v, rfl, kN e⟩
end
end WU

set_option maxRecDepth 100000
set_option maxHeartbeats 4000000
namespace WU
open PySem PySem.Spec PyProof.Rows L2
section
variable {P : Program} {w : World} {K : PySem.W.Frag} {mg : Str → Option Value} {base : Heap}
/-! ### the errors' __init__ -/
theorem ok_init1 {st : Stmt} {qual fld par : Str} {f C : Addr} {fd : FuncData} (F : FunD K "__init__" qual (defArgs st) (defBody st) (defScope st) [] [] f fd) (S : FnScope (("self" : Str) :: [par]) (("self" : Str) :: [par]) (defScope st))
    (body : ∀ X : Cx, X.N = (("self" : Str) :: [par]) → X.env.scope = defScope st → PSs X (defBody st) (tOst X.K fld (tVar 0) (tVar 1))) :
    FnOk P w K mg base (L2.CX P w) 1 f fd (("self" : Str) :: [par]) (spInit1 K C fld) := by
  refine F.ok S (fun vs H Q E h => ?_) (fun cdv A outer s H vs Q E hr h => ?_)
  · obtain ⟨a, y, rfl, _⟩ := h
    rfl
  · obtain ⟨a, y, rfl, hC, hno, ha, k⟩ := h
    refine ⟨_, body _ rfl rfl, ?_⟩
    exact ⟨_, rfl, _, rfl, a, C, rfl, hC, hno, .inl ⟨ha, fun dx n ne => k dx n ne⟩⟩
abbrev sIN : Stmt := inClass (top 4) 0
abbrev sIU : Stmt := inClass (top 6) 0
theorem scIN : FnScope ["self", "value"] ["self", "value"] (defScope sIN) := ⟨rfl, rfl, rfl, by decide +kernel, rfl, by decide +kernel, by decide +kernel⟩
theorem scIU : FnScope ["self", "what"] ["self", "what"] (defScope sIU) := ⟨rfl, rfl, rfl, by decide +kernel, rfl, by decide +kernel, by decide +kernel⟩
theorem bodyIN (X : Cx) (hN : X.N = (["self", "value"] : List Str)) (hs : X.env.scope = defScope sIN) : PSs X (defBody sIN) (tOst X.K "value" (tVar 0) (tVar 1)) :=
  pss_one (ps_ost (pv 0 (by rw [hN] <;> rfl) (by rw [hs]; exact .inl rfl)) (pv 1 (by rw [hN] <;> rfl) (by rw [hs]; exact .inl rfl)))
theorem bodyIU (X : Cx) (hN : X.N = (["self", "what"] : List Str)) (hs : X.env.scope = defScope sIU) : PSs X (defBody sIU) (tOst X.K "what" (tVar 0) (tVar 1)) :=
  pss_one (ps_ost (pv 0 (by rw [hN] <;> rfl) (by rw [hs]; exact .inl rfl)) (pv 1 (by rw [hN] <;> rfl) (by rw [hs]; exact .inl rfl)))
/-! ### inverse_of -/
/-- whether 1 + j is an inverse -/
def hit (p a : Int) (j : Nat) : Bool := decide ((a * (1 + (j : Int))).fmod p = 1)
def cnd (p a : Int) (n : Nat) : List Int := ((List.range n).filter (hit p a)).map fun (j : Nat) => 1 + (j : Int)
theorem cnd_succ (p a : Int) (n : Nat) : cnd p a (n + 1) = if hit p a n = true then cnd p a n ++ [1 + (n : Int)] else cnd p a n := by
  unfold cnd
  rw [List.range_succ, List.filter_append, List.map_append]
  by_cases h : hit p a n = true
  · rw [if_pos h]
    simp [h]
  · rw [if_neg h]
    simp [h]
theorem cnd_len (p a : Int) (n : Nat) : (cnd p a n).length ≤ n := by
  unfold cnd
  rw [List.length_map]
  exact Nat.le_trans (List.length_filter_le _ _) (by simp)
theorem cnd_none (p a : Int) (n : Nat) (h : ∀ j, j < n → hit p a j = false) : cnd p a n = [] := by
  induction n with
  | zero => rfl
  | succ n ih =>
    rw [cnd_succ, ih fun j hj => h j (by omega), if_neg (by rw [h n (by omega)]; decide)]
theorem cnd_grow (p a : Int) (n : Nat) : ∀ m, ∃ l, cnd p a (n + m) = cnd p a n ++ l
  | 0 => ⟨[], by simp⟩
  | m + 1 => by
    obtain ⟨l, e⟩ := cnd_grow p a n m
    rw [show n + (m + 1) = n + m + 1 from rfl, cnd_succ, e]
    split
    · exact ⟨l ++ [1 + ((n + m : Nat) : Int)], by simp⟩
    · exact ⟨l, rfl⟩
/-- the inverse: the first one -/
def inv (p a : Int) : Int := (cnd p a (p - 1).toNat).headD 0
theorem inv_first {p a : Int} {n : Nat} (hn : n < (p - 1).toNat) (h : ∀ j, j < n → hit p a j = false) (hh : hit p a n = true) : inv p a = 1 + (n : Int) := by
  obtain ⟨l, e⟩ := cnd_grow p a (n + 1) ((p - 1).toNat - (n + 1))
  rw [show n + 1 + ((p - 1).toNat - (n + 1)) = (p - 1).toNat by omega] at e
  unfold inv
  rw [e, cnd_succ, if_pos hh, cnd_none p a n h]
  rfl
theorem fld_mem {p : Int} (h : isFld (.int p) = true) : p ∈ primes := by
  have h' : ((primes.map V.int).any fun y => eqV y (.int p)) = true := h
  obtain ⟨y, hy, e⟩ := List.any_eq_true.mp h'
  obtain ⟨q, hq, rfl⟩ := List.mem_map.mp hy
  have e' : (q == p) = true := e
  rw [← beq_iff_eq.mp e']
  exact hq
theorem mem_fld {p : Int} (h : p ∈ primes) : isFld (.int p) = true := by
  show ((primes.map V.int).any fun y => eqV y (.int p)) = true
  exact List.any_eq_true.mpr ⟨.int p, List.mem_map.mpr ⟨p, h, rfl⟩, by show (p == p) = true; simp⟩
theorem fld_le {p : Int} (h : p ∈ primes) : 2 ≤ p ∧ p ≤ 31 := by
  have all : ∀ q ∈ primes, 2 ≤ q ∧ q ≤ 31 := by decide
  exact all p h
theorem inv_there {p a : Int} (hp : p ∈ primes) (h0 : 0 < a) (h1 : a < p) : ∃ l, cnd p a (p - 1).toNat = inv p a :: l := by
  have all : ∀ q ∈ primes, ∀ n ∈ List.range 31, ¬ n = 0 → (n : Int) < q → (cnd q n (q - 1).toNat).isEmpty = false := by decide +kernel
  have hb := fld_le hp
  have e := all p hp a.toNat (List.mem_range.mpr (by omega)) (by omega) (by omega)
  rw [show ((a.toNat : Nat) : Int) = a by omega] at e
  unfold inv
  cases q : cnd p a (p - 1).toNat with
  | nil =>
    rw [q] at e
    cases e
  | cons x l => exact ⟨l, rfl⟩
def spInv (K : PySem.W.Frag) : Sp := fun vs H Q E => ∃ v u, vs = [v, u] ∧ Ty3 K H v ∧ Ty3 K H u ∧ (isFld v = false → Errs (He.ga K "InvalidNumber") "value" v H E) ∧
  ∀ p, v = .int p → isFld v = true → (isBel p u = false → Errs (He.ga K "InvalidNumber") "value" u H E) ∧ (u = .int 0 → Errs (He.ga K "Undefined") "what" (.str "inverse") H E) ∧
    ∀ a, u = .int a → 0 < a → a < p → ∀ H', Same H H' → Q (.int (inv p a)) H'
theorem scInv : FnScope ["p", "a", "b"] ["p", "a"] (defScope sInv) := ⟨rfl, rfl, rfl, by decide +kernel, rfl, by decide +kernel, by decide +kernel⟩
theorem ok_inv {f f1 f2 : Addr} {fd fd1 fd2 fdI fdU : FuncData} (F : FnS K "inverse_of" sInv f fd) (C1 : Cal P w K mg base 3 "check_field" f1 fd1 ["p"] (spCheck K)) (C2 : Cal P w K mg base 3 "is_below" f2 fd2 ["value", "limit"] (spIsBel K))
    (T : Exc1 K mg "InvalidNumber" "value") (TU : Exc1 K mg "Undefined" "what") (gR : mg "range" = none)
    (FI : FnOk P w K mg base (L2.CX P w) 1 (He.ma K (He.ga K "InvalidNumber") "__init__") fdI ["self", "value"] (spInit1 K (He.ga K "InvalidNumber") "value")) (bI : Binds K fdI ["self", "value"] [])
    (FU : FnOk P w K mg base (L2.CX P w) 1 (He.ma K (He.ga K "Undefined") "__init__") fdU ["self", "what"] (spInit1 K (He.ga K "Undefined") "what")) (bU : Binds K fdU ["self", "what"] []) :
    FnOk P w K mg base (L2.CX P w) 4 f fd ["p", "a"] (spInv K) := by
  refine F.ok scInv (fun vs H Q E h => ?_) (fun cdv A outer s H vs Q E hr h => ?_)
  · obtain ⟨v, u, rfl, _⟩ := h
    rfl
  · obtain ⟨v, u, rfl, hv, hu, kF, kk⟩ := h
    have nd := scInv.nd
    have hr2 : Room 2 _ := hr.mono (by decide)
    refine ⟨_, pss_cons (ps_expr (pe_cal (E := E) C1 hr (pa_cons (pv 0) pa_nil) (passes_call (takes_of rfl rfl rfl rfl) (fun _ _ _ _ h => h))))
      (pss_cons (ps_if (pt_not (pt_val (pe_cal C2 hr (pa_cons (pv 1) (pa_cons (pv 0) pa_nil)) passU))) (pss_one (ps_raise1 rfl (takes_of rfl rfl rfl rfl) T FI bI hr2 (pa_cons (pv 1) pa_nil))) pss_nil)
      (pss_cons (ps_if (pt_cmpR op_eq (pv 1) pe_int (nomark _)) (pss_one (ps_raise1 rfl (takes_of rfl rfl rfl rfl) TU FU bU hr2 (pa_cons pe_str pa_nil))) pss_nil)
      (pss_one (ps_ret (pe_ix ix_list (pe_lc (own := [("b", 2)]) (g := gName 2) (by rfl) nd (pi_range2 (by rfl) gR (pa_cons pe_int (pa_cons (pv 0) pa_nil))) (blkOk_by (own := [("b", 2)]) (N := ["p", "a", "b"]) (sc := defScope sInv) (by decide +kernel))
        (fun _ _ _ _ _ => pg_name (i := 2) nd rfl (Or.inl rfl)) (fun _ _ _ _ _ => pts_one (pt_cmpR op_eq (pe_op op_modN (pe_op op_mul (pv 1) (pv 2)) (pv 0)) pe_int (nomark _))) (fun _ _ _ _ _ => pv 2)) pe_int (fun _ _ => rfl)))))), ?_⟩
    refine ⟨_, rfl, v, rfl, hv, fun e => ?_, kF⟩
    cases v with
    | int p =>
      obtain ⟨kB, k0, kI⟩ := kk p rfl e
      refine ⟨_, rfl, _, rfl, u, p, rfl, hu, _, rfl, ?_⟩
      cases eb : isBel p u with
      | false => exact iteT ⟨_, rfl, u, rfl, kB eb⟩
      | true =>
        refine iteF ?_
        cases u with
        | int a =>
          have eb' : (decide (0 ≤ a) && decide (a < p)) = true := eb
          obtain ⟨e0, e1⟩ := and2 eb'
          have h0 := of_decide_eq_true e0
          have h1 := of_decide_eq_true e1
          refine ⟨_, rfl, rfl, _, rfl, ?_⟩
          show if decide (V.int a = V.int 0) = true then _ else _
          by_cases ha : a = 0
          · subst ha
            exact iteT ⟨.str "inverse", rfl, k0 rfl⟩
          · rw [decide_eq_false fun z => ha (V.int.inj z)]
            refine iteF ?_
            have hp := fld_mem e
            have hb := fld_le hp
            refine ⟨_, rfl, ?_⟩
            refine ⟨1, p, rfl, (by omega), fun D hD => ?_⟩
            refine lc_range (lo := 1) (n := (p - 1).toNat) (fun i H' => Same H H' ∧ H' D = some (.lst ((cnd p a i).map V.int))) ⟨fun c o hc => by rw [upd_ne (ne_of_none hc hD)]; exact hc, upd_same⟩ ?_ ?_
            · rintro i H' hi ⟨s1, s2⟩
              refine ⟨rfl, ?_⟩
              refine ⟨_, rfl, _, rfl, a, _, rfl, rfl, .inl ⟨by omega, by omega⟩, _, rfl, _, p, rfl, rfl, (by omega), rfl, _, rfl, ?_⟩
              have ec := cnd_succ p a i
              have ed : decide (V.int ((a * (1 + (i : Int))).fmod p) = V.int 1) = hit p a i := by
                unfold hit
                by_cases z : (a * (1 + (i : Int))).fmod p = 1
                · rw [decide_eq_true z, decide_eq_true (congrArg V.int z)]
                · rw [decide_eq_false z, decide_eq_false fun q => z (V.int.inj q)]
              show if decide (V.int ((a * (1 + (i : Int))).fmod p) = V.int 1) = true then _ else _
              rw [ed]
              cases q : hit p a i with
              | true =>
                rw [if_pos q] at ec
                refine iteT ⟨_, rfl, _, s2, ?_, fun c o hc => ?_, ?_⟩
                · rw [List.length_map]
                  exact small1000 (Nat.le_trans (cnd_len p a i) (by omega))
                · rw [upd_ne (ne_of_none hc hD)]
                  exact s1 c o hc
                · rw [upd_same, ec, List.map_append]
                  rfl
              | false =>
                rw [if_neg (by rw [q]; decide)] at ec
                refine iteF ⟨s1, ?_⟩
                rw [ec]
                exact s2
            · rintro H' ⟨s1, s2⟩
              obtain ⟨l, el⟩ := inv_there hp (show 0 < a by omega) h1
              rw [el] at s2
              refine ⟨_, _, _, _, rfl, rfl, SqL.of s2, atI_nat (j := 0) rfl, kI a rfl (by omega) h1 H' s1⟩
        | _ => cases eb
    | _ => cases e
end
end WU

set_option maxRecDepth 100000
set_option maxHeartbeats 4000000
namespace WU
open PySem PySem.Spec PyProof.Rows L2
section
variable {P : Program} {w : World} {K : PySem.W.Frag} {mg : Str → Option Value} {base : Heap} {S : Addr}
/-- what is asked of the class Share, at S -/
structure ShC (K : PySem.W.Frag) (mg : Str → Option Value) (S : Addr) : Prop where
  g : mg "Share" = some (.ref S)
  cl : Cls K S
  nT : NoAttr K S "top"
  nB : NoAttr K S "bottom"
  ha : PySem.W.findIn K (.ref S) "__class__" = some (some (.builtin "object.__class__"))
  hn : PySem.W.specialIn K (.builtin "object.__class__") "__get__" = some (some (.builtin "getset_descriptor.__get__"))
  htk : PySem.W.takesIn K (.builtin "object.__class__") = some true
  hm : PySem.W.mroIn K S (.type "object") = some true
  kS : PySem.W.kitOne K (.ref S) (.ref S) = some true
  kI : PySem.W.kitOne K (.ref S) (.type "int") = some false
  kB : PySem.W.kitOne K (.ref S) (.type "bool") = some false
theorem nTB : ¬ (("top" : Str) = "bottom") := by decide +kernel
def shf (t b : Int) : List (Str × V) := putF "bottom" (.int b) (putF "top" (.int t) [])
theorem shf_top (t b : Int) : (shf t b).lookup ("top" : Str) = some (.int t) := by
  unfold shf
  rw [lookup_putF, if_neg nTB, lookup_putF, if_pos rfl]
theorem shf_bot (t b : Int) : (shf t b).lookup ("bottom" : Str) = some (.int b) := by
  unfold shf
  rw [lookup_putF, if_pos rfl]
/-- a Share stands at p -/
def ShAt (S : Addr) (H : Hp) (p : Addr) (t b : Int) : Prop := ∃ dx, H p = some (.ins S dx (shf t b))
theorem ShC.ty {H : Hp} {p : Addr} {t b : Int} (C : ShC K mg S) (h : ShAt S H p t b) : TyX K H (.ref p) (.ref S) := by
  obtain ⟨dx, h⟩ := h
  exact .base (.ins h C.cl C.ha C.hn C.htk C.hm)
theorem ShC.ty3 {H : Hp} {p : Addr} {t b : Int} (C : ShC K mg S) (h : ShAt S H p t b) : Ty3 K H (.ref p) := ⟨_, C.ty h, C.kI, C.kB⟩
abbrev sSI : Stmt := inClass (top 18) 0
abbrev sSE : Stmt := inClass (top 18) 8
def spSI (S : Addr) : Sp := fun vs H Q _ => ∃ (p dx : Addr) (n : Int), vs = [.ref p, .int n, .int 1] ∧ H p = some (.ins S dx []) ∧ 0 ≤ n ∧
  ∀ H', ShAt S H' p n 1 → (∀ b o, b ≠ p → H b = some o → H' b = some o) → Q .non H'
theorem scSI : FnScope ["self", "top", "bottom", "common"] ["self", "top", "bottom"] (defScope sSI) := ⟨rfl, rfl, rfl, by decide +kernel, rfl, by decide +kernel, by decide +kernel⟩
theorem ok_SI {f f1 : Addr} {fd fd1 : FuncData} (F : FunD K "__init__" "Share.__init__" (defArgs sSI) (defBody sSI) (defScope sSI) [.int 1] [] f fd) (C1 : Cal P w K mg base 1 "is_integer" f1 fd1 ["value"] (spIsInt K)) (C : ShC K mg S)
    (gG : mg "gcd" = some (.builtin "math.gcd")) : FnOk P w K mg base (L2.CX P w) 2 f fd ["self", "top", "bottom"] (spSI S) := by
  refine F.ok scSI (fun vs H Q E h => ?_) (fun cdv A outer s H vs Q E hr h => ?_)
  · obtain ⟨p, dx, n, rfl, _⟩ := h
    rfl
  · obtain ⟨p, dx, n, rfl, hp, hn, k⟩ := h
    have nd := scSI.nd
    refine ⟨_, pss_cons (ps_if (PW.pt (pw_or (pt_not (pt_val (pe_cal C1 hr (pa_cons (pv 1) pa_nil) passU))) (pw_or (pt_not (pt_val (pe_cal C1 hr (pa_cons (pv 2) pa_nil) passU))) (pw_or1 (pt_cmpR op_eq (pv 2) pe_int (nomark _)))))) (pss_one ps_never) pss_nil)
      (pss_cons (ps_set (i := 3) nd rfl (Or.inl rfl) (pe_ifExp (pt_cmpR op_gt (pv 2) pe_int (nomark _)) (pe_callBfun cr_gcd (by rfl) gG (pa_cons (pv 1) (pa_cons (pv 2) pa_nil))) (pe_un un_neg (pe_callBfun cr_gcd (by rfl) gG (pa_cons (pv 1) (pa_cons (pv 2) pa_nil))))))
      (pss_cons (ps_fld (pv 0) (pe_op op_fdivN (pv 1) (pv 3)) rfl)
      (pss_one (ps_fld (pv 0) (pe_op op_fdivN (pv 2) (pv 3)) rfl)))), ?_⟩
    have ti : ∀ i : Int, Ty3 K H (.int i) := ty3_int
    refine ⟨_, rfl, .int n, rfl, ti n, _, rfl, ?_⟩
    refine iteF ⟨_, rfl, .int 1, rfl, ti 1, _, rfl, iteF ⟨_, rfl, rfl, _, rfl, ?_⟩⟩
    rw [decide_eq_false fun z => absurd (V.int.inj z) (by decide)]
    refine iteF ⟨_, rfl, _, _, rfl, rfl, _, rfl, iteT ?_⟩
    refine ⟨_, rfl, _, rfl, n, 1, rfl, ?_⟩
    rw [show Nat.gcd n.natAbs (1 : Int).natAbs = 1 from Nat.gcd_one_right _]
    refine ⟨_, rfl, _, rfl, n, ((1 : Nat) : Int), rfl, rfl, ⟨by decide, by decide⟩, _, rfl, p, S, dx, [], rfl, hp, C.cl, C.nT, (by show 0 < 1000; decide), ?_⟩
    refine ⟨_, rfl, _, rfl, 1, ((1 : Nat) : Int), rfl, rfl, ⟨by decide, by decide⟩, _, rfl, p, S, dx, _, rfl, upd_same, C.cl, C.nB, (by show 1 < 1000; decide), ?_⟩
    have q1 : n.fdiv ((1 : Nat) : Int) = n := Int.fdiv_one n
    have q2 : (1 : Int).fdiv ((1 : Nat) : Int) = 1 := rfl
    dsimp only
    rw [q1, q2]
    exact k _ ⟨dx, upd_same⟩ fun b o hb e => by rw [upd_ne hb, upd_ne hb]; exact e
theorem scSE : FnScope ["self", "other"] ["self", "other"] (defScope sSE) := ⟨rfl, rfl, rfl, by decide +kernel, rfl, by decide +kernel, by decide +kernel⟩
/-- two Shares of the same numbers -/
def ShR (S : Addr) : Addr → Addr → Hp → Prop := fun a b H => ∃ t u, ShAt S H a t u ∧ ShAt S H b t u
theorem ok_SE {f : Addr} {fd : FuncData} (F : FunD K "__eq__" "Share.__eq__" (defArgs sSE) (defBody sSE) (defScope sSE) [] [] f fd) (C : ShC K mg S) (B : Blt mg) : FnOk P w K mg base (L2.CX P w) 1 f fd ["self", "other"] (spEq (ShR S)) := by
  refine F.ok scSE (fun vs H Q E h => ?_) (fun cdv A outer s H vs Q E hr h => ?_)
  · obtain ⟨a, b, rfl, _⟩ := h
    rfl
  · obtain ⟨a, b, rfl, ⟨t, u, h1, h2⟩, k⟩ := h
    refine ⟨_, pss_cons (ps_if (pt_val (pe_callB call_isi (by rfl) B.isi (by decide +kernel) (pa_cons (pv 1) (pa_cons (pe_glob (v := .ref S) rfl C.g rfl) pa_nil))))
      (pss_one (ps_ret (pe_and (pe_cmp (pc_eqI (pe_fld (pv 0) rfl) (pe_fld (pv 1) rfl))) (pe_one (pe_cmp (pc_eqI (pe_fld (pv 0) rfl) (pe_fld (pv 1) rfl))))))) pss_nil) (pss_one ps_never), ?_⟩
    refine ⟨_, rfl, _, _, _, _, _, rfl, .own S, C.ty h2, C.kS, _, rfl, iteT ?_⟩
    obtain ⟨dx, e1⟩ := h1
    obtain ⟨dy, e2⟩ := h2
    refine ⟨_, rfl, a, S, dx, _, _, rfl, e1, C.cl, C.nT, shf_top t u, _, rfl, b, S, dy, _, _, rfl, e2, C.cl, C.nT, shf_top t u, _, _, rfl, rfl, _, rfl, ?_⟩
    refine iteTb (decide_eq_true (rfl : t = t)) ⟨_, rfl, a, S, dx, _, _, rfl, e1, C.cl, C.nB, shf_bot t u, _, rfl, b, S, dy, _, _, rfl, e2, C.cl, C.nB, shf_bot t u, _, _, rfl, rfl, ?_⟩
    have k' := k H Ext.rfl'
    rw [← decide_eq_true (rfl : u = u)] at k'
    exact k'
end
end WU

set_option maxRecDepth 100000
set_option maxHeartbeats 4000000
namespace WU
open PySem PySem.Spec PyProof.Rows L2
section
variable {P : Program} {w : World} {K : PySem.W.Frag} {mg : Str → Option Value} {base : Heap} {S : Addr}
/-- the built-ins that the law's helpers call -/
structure Blt2 (mg : Str → Option Value) : Prop extends Blt mg where
  len : mg "len" = none
  abs : mg "abs" = none
  range : mg "range" = none
  tuple : mg "tuple" = none
abbrev sDraws : Stmt := top 23
abbrev sTake : Stmt := top 24
/-- numbers from 0 on -/
def Nn (ns : List Int) : Prop := ∀ n ∈ ns, 0 ≤ n
/-- _law_draws(script, many) -/
def spDraws (K : PySem.W.Frag) (many : Int) : Sp := fun vs H Q _ => ∃ (a : Addr) (ns : List Int), vs = [.ref a, .int many] ∧ SqL K H a (ns.map V.int) ∧ ns.length ≤ 63 ∧
  ∀ p ds H', Same H H' → H p = none → H' p = some (.lst (ds.map V.int)) → Nn ds → ds.length ≤ many.toNat → Q (.ref p) H'
theorem scDraws : FnScope ["script", "many", "cell", "rests", "draws", "k", "at", "mixed"] ["script", "many"] (defScope sDraws) := ⟨rfl, rfl, rfl, by decide +kernel, rfl, by decide +kernel, by decide +kernel⟩
def rMd : R2 := rI (fun _ j => j ≠ 0) fun i j => .int (i.fmod j)
def rDv : R2 := rI CDivN fun i j => .int (i.fdiv j)
def rMl : R2 := rI CMul fun i j => .int (i * j)
def rAd : R2 := rI0 fun i j => .int (i + j)
def tI1 (t : TE) : TE := tCB (fun xs H Q => (∃ i, xs = [V.int i] ∧ Q (.int i) H) ∨ ∃ k, xs = [V.bl k] ∧ Q (.int (if k then 1 else 0)) H) (tCons t tNil)
/-- the end of a turn: two mixings, one number put behind the others -/
def tTail (K : PySem.W.Frag) : TS := tSeq (tAsg (tOp rMd (tI1 (tOp rAd (tOp rAd (tOp rMl (tVar 2) (tC (.int 48271))) (tOp rMl (tVar 5) (tC (.int 69621)))) (tC (.int 11)))) (tC (.int 2147483647))) (gName 7))
  (tSeq (tAsg (tOp rMd (tI1 (tOp rAd (tOp rDv (tOp rMl (tVar 7) (tVar 7)) (tC (.int 4096))) (tVar 7))) (tC (.int 2147483629))) (gName 7))
    (tDrop (tBM K "list" rAppend (tVar 4) (tCons (tOp rMd (tI1 (tOp rAd (tOp rDv (tOp rMl (tVar 7) (tVar 7)) (tC (.int 4096))) (tOp rMl (tVar 5) (tC (.int 7919))))) (tC (.int 2147483629))) tNil))))
theorem fmod_bd (x : Int) {m : Int} (h : 0 < m) : 0 ≤ x.fmod m ∧ x.fmod m < m := ⟨Int.fmod_nonneg_of_pos x h, Int.fmod_lt_of_pos x h⟩
theorem tail_ok {D : Ends} {s0 s1 s3 s6 s7 : Option V} {c k : Int} {L : Addr} {ds : List Int} {H : Hp} (hL : H L = some (.lst (ds.map V.int))) (hl : ds.length ≤ 1000)
    (kk : ∀ (x : Int) (y : Option V), 0 ≤ x → D.nx [s0, s1, some (.int c), s3, some (.ref L), some (.int k), s6, y] (upd H L (.lst ((ds ++ [x]).map V.int)))) :
    tTail K D [s0, s1, some (.int c), s3, some (.ref L), some (.int k), s6, s7] H := by
  have b1 := fmod_bd (c * 48271 + k * 69621 + 11) (m := 2147483647) (by decide)
  refine ⟨_, rfl, _, _, rfl, rfl, .inr ⟨by decide, by decide⟩, _, rfl, _, _, rfl, rfl, .inr ⟨by decide, by decide⟩, _, _, rfl, rfl, _, _, rfl, rfl, .inl ⟨_, rfl, _, _, rfl, rfl, (show (2147483647 : Int) ≠ 0 by decide), ?_⟩⟩
  dsimp only
  generalize (c * 48271 + k * 69621 + 11).fmod 2147483647 = m at b1 ⊢
  have b2 := fmod_bd ((m * m).fdiv 4096 + m) (m := 2147483629) (by decide)
  refine ⟨_, rfl, _, rfl, _, _, rfl, rfl, .inl ⟨by omega, by omega⟩, _, _, rfl, rfl, ⟨by decide, by decide⟩, _, rfl, _, _, rfl, rfl, .inl ⟨_, rfl, _, _, rfl, rfl, (show (2147483629 : Int) ≠ 0 by decide), ?_⟩⟩
  dsimp only
  generalize ((m * m).fdiv 4096 + m).fmod 2147483629 = n at b2 ⊢
  refine ⟨_, rfl, .inl ⟨rfl, _, SqL.of hL⟩, ?_⟩
  refine ⟨_, rfl, _, rfl, _, _, rfl, rfl, .inl ⟨by omega, by omega⟩, _, _, rfl, rfl, ⟨by decide, by decide⟩, _, rfl, _, _, rfl, rfl, .inr ⟨by decide, by decide⟩, _, _, rfl, rfl, .inl ⟨_, rfl, _, _, rfl, rfl, (show (2147483629 : Int) ≠ 0 by decide), ?_⟩⟩
  refine ⟨L, _, _, rfl, rfl, hL, ?_, ?_⟩
  · rw [List.length_map]
    exact small1000 hl
  · have b3 := fmod_bd ((n * n).fdiv 4096 + k * 7919) (m := 2147483629) (by decide)
    have q := kk _ (some (.int n)) b3.1
    rw [List.map_append] at q
    exact q
theorem ok_draws {f : Addr} {fd : FuncData} (F : FnS K "_law_draws" sDraws f fd) (B : Blt2 mg) {many : Int} (hm0 : 0 ≤ many) (hm : many ≤ 1000) : FnOk P w K mg base (L2.CX P w) 1 f fd ["script", "many"] (spDraws K many) := by
  refine F.ok scDraws (fun vs H Q E h => ?_) (fun cdv A outer s H vs Q E hr h => ?_)
  · obtain ⟨a, ns, rfl, _⟩ := h
    rfl
  · obtain ⟨a, ns, rfl, hS, hl, k⟩ := h
    have nd := scDraws.nd
    refine ⟨_, (pss_cons (ps_setLc (i := 3) (own := [("cell", 2)]) (g := gName 2) (by rfl) nd rfl rfl (sw_true rfl rfl rfl (by decide +kernel)) (pi_list (pv 0)) (blkOk_by (own := [("cell", 2)]) (N := ["script", "many", "cell", "rests", "draws", "k", "at", "mixed"]) (sc := defScope sDraws) (by decide +kernel)) (fun _ _ _ _ _ => pg_name (i := 2) nd rfl (Or.inl rfl)) (fun _ _ _ _ _ => pts_nil) (fun _ _ _ _ _ => (pe_callB call_abs (by rfl) B.abs (by decide +kernel) (pa_cons (pe_callTy call_int1 (by rfl) B.int (by decide +kernel) (pa_cons (pv 2) pa_nil)) pa_nil))))
      (pss_cons (ps_set (i := 4) nd rfl (Or.inl rfl) (pe_lst pa_nil))
      (pss_cons (ps_for (passes_of rfl) rfl (pi_range1 rfl B.range (pa_cons (pv 1) pa_nil)) (pg_name (i := 5) nd rfl (Or.inl rfl)) (pss_cons (ps_set (i := 2) nd rfl (Or.inl rfl) (pv 5))
      (pss_cons (ps_if (pt_cmpR op_gt (pe_callB call_len_seq (by rfl) B.len (by decide +kernel) (pa_cons (pv 0) pa_nil)) pe_int (nomark _)) (pss_cons (ps_set (i := 6) nd rfl (Or.inl rfl) (pe_op op_modN (pv 5) (pe_callB call_len_seq (by rfl) B.len (by decide +kernel) (pa_cons (pv 0) pa_nil))))
      (pss_cons (ps_set (i := 2) nd rfl (Or.inl rfl) (pe_callTy call_int1 (by rfl) B.int (by decide +kernel) (pa_cons (pe_ix ix_list (pv 0) (pv 6) (fun _ _ => rfl)) pa_nil)))
      (pss_one (ps_if (PW.pt (pw_and (pt_cmpR op_ge (pv 2) (pe_op op_pow pe_int pe_int) (nomark _)) (pw_and1 (pt_cmpR op_gt (pe_ix ix_list (pv 3) (pv 6) (fun _ _ => rfl)) pe_int (nomark _))))) (pss_cons (ps_expr (pe_bm PySem.F.plainAttrs_list PySem.F.slot_list_append PySem.F.type_list_append mt_append (pv 4) (pa_cons (pe_op op_modN (pe_callTy call_int1 (by rfl) B.int (by decide +kernel) (pa_cons (pe_ix ix_list (pv 3) (pv 6) (fun _ _ => rfl)) pa_nil)) pe_int) pa_nil)))
      (pss_cons (ps_asg (pe_op op_fdivN (pe_callTy call_int1 (by rfl) B.int (by decide +kernel) (pa_cons (pe_ix ix_list (pv 3) (pv 6) (fun _ _ => rfl)) pa_nil)) pe_int) (pg_sub (pv 3) (pv 6) set_list))
      (pss_one ps_continue))) pss_nil)))) pss_nil)
      (pss_cons (ps_set (i := 7) nd rfl (Or.inl rfl) (pe_op op_modN (pe_callTy call_int1 (by rfl) B.int (by decide +kernel) (pa_cons (pe_op op_add (pe_op op_add (pe_op op_mul (pv 2) pe_int) (pe_op op_mul (pv 5) pe_int)) pe_int) pa_nil)) pe_int))
      (pss_cons (ps_set (i := 7) nd rfl (Or.inl rfl) (pe_op op_modN (pe_callTy call_int1 (by rfl) B.int (by decide +kernel) (pa_cons (pe_op op_add (pe_op op_fdivN (pe_op op_mul (pv 7) (pv 7)) pe_int) (pv 7)) pa_nil)) pe_int))
      (pss_one (ps_expr (pe_bm PySem.F.plainAttrs_list PySem.F.slot_list_append PySem.F.type_list_append mt_append (pv 4) (pa_cons (pe_op op_modN (pe_callTy call_int1 (by rfl) B.int (by decide +kernel) (pa_cons (pe_op op_add (pe_op op_fdivN (pe_op op_mul (pv 7) (pv 7)) pe_int) (pe_op op_mul (pv 5) pe_int)) pa_nil)) pe_int) pa_nil)))))))))
      (pss_one (ps_ret (pv 4)))))), ?_⟩
    refine ⟨_, rfl, a, rfl, ⟨_, hS⟩, fun D hD => lc_list (K := K) (a := a) (xs := ns.map V.int) (fun i H' => Same H H' ∧ ∃ rs : List Int, H' D = some (.lst (rs.map V.int)) ∧ rs.length = i ∧ Nn rs)
      ⟨fun c o hc => by rw [upd_ne (ne_of_none hc hD)]; exact hc, [], upd_same, rfl, fun n hn => by cases hn⟩ (fun i H' _ z => z.1.seq hS) ?_ ?_⟩
    · rintro i x H' hi ⟨s1, rs, e, l, n⟩
      obtain ⟨z, hz, rfl⟩ : ∃ z, ns[i]? = some z ∧ x = V.int z := by
        rw [List.getElem?_map] at hi
        cases q : ns[i]? with
        | none => rw [q] at hi; cases hi
        | some z => rw [q] at hi; exact ⟨z, rfl, (Option.some.inj hi).symm⟩
      have hi2 : i < ns.length := (List.getElem?_eq_some_iff.mp hz).1
      refine ⟨rfl, _, rfl, .inl ⟨z, rfl, z, rfl, _, e, ?_, fun c o hc => ?_, rs ++ [if z < 0 then -z else z], ?_, ?_, ?_⟩⟩
      · rw [List.length_map]
        exact small1000 (by omega)
      · rw [upd_ne (ne_of_none hc hD)]
        exact s1 c o hc
      · rw [upd_same, List.map_append]
        rfl
      · rw [List.length_append, l]
        rfl
      · intro m hm
        rcases List.mem_append.mp hm with hm | hm
        · exact n m hm
        · rw [List.mem_singleton.mp hm]
          split <;> omega
    · rintro H1 ⟨s1, rs, e, l, n⟩
      rw [List.length_map] at l
      refine ⟨(by show 0 ≤ sizeLine; omega), fun L hL => ?_⟩
      have hDL : D ≠ L := ne_of_none e hL
      have hL0 : H L = none := s1.free hL
      refine ⟨_, rfl, many, rfl, (by omega), (by omega), for_range (lo := 0) (n := many.toNat) (fun i σ H' => ∃ (v2 v5 v6 v7 : Option V) (rs ds : List Int), σ = [some (.ref a), some (.int many), v2, some (.ref D), some (.ref L), v5, v6, v7] ∧ Same H H' ∧
        H' D = some (.lst (rs.map V.int)) ∧ rs.length = ns.length ∧ Nn rs ∧ H' L = some (.lst (ds.map V.int)) ∧ Nn ds ∧ ds.length ≤ i)
        ⟨none, none, none, none, rs, [], rfl, fun c o hc => by rw [upd_ne (ne_of_none hc hL0)]; exact s1 c o hc, by rw [upd_ne hDL]; exact e, l, n, upd_same, (fun m hm => nomatch hm), Nat.le_refl _⟩ ?_ ?_⟩
      · rintro i σ H2 hi ⟨v2, v5, v6, v7, rs, ds, rfl, s2, eD, lD, nD, eL, nL, lL⟩
        have s2S := s2.seq hS
        have put : ∀ (x : Int) (v2 v5 v6 v7 : Option V), 0 ≤ x → ∃ (v2' v5' v6' v7' : Option V) (rs' ds' : List Int), [some (V.ref a), some (V.int many), v2, some (V.ref D), some (V.ref L), v5, v6, v7] = [some (V.ref a), some (V.int many), v2', some (V.ref D), some (V.ref L), v5', v6', v7'] ∧
            Same H (upd H2 L (.lst ((ds ++ [x]).map V.int))) ∧ upd H2 L (.lst ((ds ++ [x]).map V.int)) D = some (.lst (rs'.map V.int)) ∧ rs'.length = ns.length ∧ Nn rs' ∧ upd H2 L (.lst ((ds ++ [x]).map V.int)) L = some (.lst (ds'.map V.int)) ∧ Nn ds' ∧ ds'.length ≤ i + 1 := by
          intro x v2 v5 v6 v7 hx
          refine ⟨v2, v5, v6, v7, rs, ds ++ [x], rfl, fun c o hc => by rw [upd_ne (ne_of_none hc hL0)]; exact s2 c o hc, by rw [upd_ne hDL]; exact eD, lD, nD, upd_same, ?_, by rw [List.length_append]; show ds.length + 1 ≤ i + 1; omega⟩
          intro m hm
          rcases List.mem_append.mp hm with hm | hm
          · exact nL m hm
          · rw [List.mem_singleton.mp hm]
            exact hx
        refine ⟨_, rfl, _, rfl, _, _, rfl, .inl s2S, _, _, rfl, rfl, _, rfl, ?_⟩
        rw [List.length_map]
        by_cases h0 : ns.length = 0
        · rw [decide_eq_false (by omega)]
          refine iteF ?_
          show tTail K _ [some (.ref a), some (.int many), some (.int _), some (.ref D), some (.ref L), some (.int _), _, _] H2
          exact tail_ok eL (by omega) fun x y hx => put x _ _ _ y hx
        · rw [decide_eq_true (by omega)]
          refine iteT ?_
          refine ⟨_, rfl, _, rfl, _, _, rfl, .inl s2S, _, _, rfl, rfl, (by rw [List.length_map]; omega), ?_⟩
          have bq := fmod_bd (0 + (i : Int)) (m := ((ns.map V.int).length : Int)) (by rw [List.length_map]; omega)
          obtain ⟨q, hq⟩ : ∃ q : Nat, (0 + (i : Int)).fmod ((ns.map V.int).length : Int) = (q : Int) := ⟨((0 + (i : Int)).fmod ((ns.map V.int).length : Int)).toNat, by omega⟩
          rw [hq] at bq
          have hql : q < ns.length := by
            have := bq.2
            rw [List.length_map] at this
            omega
          have e1 : (ns.map V.int)[q]? = some (V.int ns[q]) := by rw [List.getElem?_map, List.getElem?_eq_getElem hql] <;> rfl
          have e2 : (rs.map V.int)[q]? = some (V.int (rs[q]'(by omega))) := by rw [List.getElem?_map, List.getElem?_eq_getElem (by omega)] <;> rfl
          refine ⟨_, rfl, _, rfl, a, _, _, _, rfl, rfl, s2S, (by rw [hq]; exact atI_nat e1), .inl ⟨_, rfl, ?_⟩⟩
          have ea2 : atI (rs.map V.int) ((0 + (i : Int)).fmod ((ns.map V.int).length : Int)) = some (.int (rs[q]'(by omega))) := by rw [hq]; exact atI_nat e2
          have nq : 0 ≤ rs[q]'(by omega) := nD _ (List.getElem_mem _)
          refine ⟨_, rfl, _, _, rfl, rfl, ⟨by decide, by decide, by decide⟩, _, _, rfl, rfl, _, rfl, ?_⟩
          refine iteD (fun hc => ?_) (fun hc => ?_)
          · refine ⟨_, rfl, _, rfl, D, _, _, _, rfl, rfl, SqL.of eD, ea2, _, _, rfl, rfl, _, rfl, ?_⟩
            refine iteD (fun hd => ?_) (fun hd => ?_)
            · refine ⟨_, rfl, .inl ⟨rfl, _, SqL.of eL⟩, _, rfl, _, rfl, D, _, _, _, rfl, rfl, SqL.of eD, ea2, .inl ⟨_, rfl, _, _, rfl, rfl, (show (1000003 : Int) ≠ 0 by decide), L, _, _, rfl, rfl, eL, (by rw [List.length_map]; exact small1000 (by omega)), ?_⟩⟩
              have eD2 : ∀ o, upd H2 L o D = some (.lst (rs.map V.int)) := fun o => by rw [upd_ne hDL]; exact eD
              refine ⟨_, rfl, _, rfl, D, _, _, _, rfl, rfl, SqL.of (eD2 _), ea2, .inl ⟨_, rfl, _, _, rfl, rfl, ⟨by decide, by decide⟩, _, rfl, _, rfl, D, _, _, q, rfl, rfl, eD2 _, (by rw [hq, List.length_map]; exact ixN_at (by omega)), ?_⟩⟩
              have b4 := fmod_bd (rs[q]'(by omega)) (m := 1000003) (by decide)
              have b5 : 0 ≤ (rs[q]'(by omega)).fdiv 1000003 := Int.fdiv_nonneg nq (by decide)
              have hDc : ∀ {c : Addr} {o : HO}, H c = some o → c ≠ D := fun hc => ne_of_none hc hD
              refine ⟨_, _, _, _, rs.set q ((rs[q]'(by omega)).fdiv 1000003), ds ++ [(rs[q]'(by omega)).fmod 1000003], rfl, fun c o hc => ?_, ?_, ?_, ?_, ?_, ?_, ?_⟩
              · rw [upd_ne (hDc hc), upd_ne (ne_of_none hc hL0)]
                exact s2 c o hc
              · rw [upd_same, List.map_set]
              · rw [List.length_set]
                exact lD
              · intro m hm
                rcases List.mem_or_eq_of_mem_set hm with h | h
                · exact nD m h
                · rw [h]; exact b5
              · rw [upd_ne hDL.symm, upd_same, List.map_append]
                rfl
              · intro m hm
                rcases List.mem_append.mp hm with hm | hm
                · exact nL m hm
                · rw [List.mem_singleton.mp hm]
                  exact b4.1
              · rw [List.length_append]
                show ds.length + 1 ≤ i + 1
                omega
            · show tTail K _ [some (.ref a), some (.int many), some (.int _), some (.ref D), some (.ref L), some (.int _), _, _] H2
              exact tail_ok eL (by omega) fun x y hx => put x _ _ _ y hx
          · show tTail K _ [some (.ref a), some (.int many), some (.int _), some (.ref D), some (.ref L), some (.int _), _, _] H2
            exact tail_ok eL (by omega) fun x y hx => put x _ _ _ y hx
      · rintro σ H2 ⟨v2, v5, v6, v7, rs, ds, rfl, s2, eD, lD, nD, eL, nL, lL⟩
        exact ⟨_, rfl, k L ds H2 s2 hL0 eL nL lL⟩
end
end WU

set_option maxRecDepth 100000
set_option maxHeartbeats 4000000
namespace WU
open PySem PySem.Spec PyProof.Rows L2
section
variable {P : Program} {w : World} {K : PySem.W.Frag} {mg : Str → Option Value} {base : Heap} {S : Addr}
/-- the hand: the draws and the place in them -/
def HandAt (H : Hp) (a d : Addr) : Prop := ∃ (ds : List Int) (i : Int), H a = some (.lst [.ref d, .int i]) ∧ H d = some (.lst (ds.map V.int)) ∧ Nn ds ∧ 0 ≤ i
theorem hand_ne {H : Hp} {a d : Addr} {ds : List Int} {i : Int} (h1 : H a = some (.lst [.ref d, .int i])) (h2 : H d = some (.lst (ds.map V.int))) : a ≠ d := by
  refine ne_of h1 h2 fun z => ?_
  have z' : [V.ref d, V.int i] = ds.map V.int := HO.lst.inj z
  cases ds with
  | nil => cases z'
  | cons x r =>
    have z2 : V.ref d = V.int x := (List.cons.inj z').1
    cases z2
/-- all but what stands at a is as it was -/
def Keep (a : Addr) (H H' : Hp) : Prop := ∀ b o, b ≠ a → H b = some o → H' b = some o
theorem Keep.refl {a : Addr} {H : Hp} : Keep a H H := fun _ _ _ h => h
theorem Keep.trans {a : Addr} {H H1 H2 : Hp} (x : Keep a H H1) (y : Keep a H1 H2) : Keep a H H2 := fun b o n h => y b o n (x b o n h)
theorem Keep.of {a : Addr} {H H' : Hp} (h : Same H H') : Keep a H H' := fun b o _ e => h b o e
theorem Keep.new {a p : Addr} {o : HO} {H : Hp} (h : H p = none) : Keep a H (upd H p o) := fun b u _ e => by rw [upd_ne (ne_of_none e h)]; exact e
theorem same_new {p : Addr} {o : HO} {H : Hp} (h : H p = none) : Same H (upd H p o) := fun b u e => by rw [upd_ne (ne_of_none e h)]; exact e
theorem HandAt.same {H H' : Hp} {a d : Addr} (h : HandAt H a d) (s : Same H H') : HandAt H' a d := by
  obtain ⟨ds, i, h1, h2, h3, h4⟩ := h
  exact ⟨ds, i, s _ _ h1, s _ _ h2, h3, h4⟩
theorem HandAt.one {H : Hp} {a d : Addr} (h : HandAt H a d) : ∃ o, H a = some o := by
  obtain ⟨ds, i, h1, _⟩ := h
  exact ⟨_, h1⟩
theorem HandAt.two {H : Hp} {a d : Addr} (h : HandAt H a d) : ∃ o, H d = some o := by
  obtain ⟨ds, i, _, h2, _⟩ := h
  exact ⟨_, h2⟩
theorem HandAt.ne {H : Hp} {a d p : Addr} (h : HandAt H a d) (n : H p = none) : a ≠ p ∧ d ≠ p := by
  obtain ⟨o, e⟩ := h.one
  obtain ⟨u, e2⟩ := h.two
  exact ⟨ne_of_none e n, ne_of_none e2 n⟩
theorem HandAt.put {H : Hp} {a d p : Addr} {o : HO} (h : HandAt H a d) (n1 : a ≠ p) (n2 : d ≠ p) : HandAt (upd H p o) a d := by
  obtain ⟨ds, i, h1, h2, h3, h4⟩ := h
  exact ⟨ds, i, by rw [upd_ne n1]; exact h1, by rw [upd_ne n2]; exact h2, h3, h4⟩
theorem HandAt.new {H : Hp} {a d p : Addr} {o : HO} (h : HandAt H a d) (n : H p = none) : HandAt (upd H p o) a d := h.put (h.ne n).1 (h.ne n).2
def spTake : Sp := fun vs H Q _ => ∃ (a d : Addr) (many : Int), vs = [.ref a, .int many] ∧ 0 < many ∧ HandAt H a d ∧ ∀ r H', 0 ≤ r → r < many → HandAt H' a d → Keep a H H' → Q (.int r) H'
theorem scTake : FnScope ["hand", "many", "at", "draws"] ["hand", "many"] (defScope sTake) := ⟨rfl, rfl, rfl, by decide +kernel, rfl, by decide +kernel, by decide +kernel⟩
theorem ok_take {f : Addr} {fd : FuncData} (F : FnS K "_law_take" sTake f fd) (B : Blt2 mg) : FnOk P w K mg base (L2.CX P w) 1 f fd ["hand", "many"] spTake := by
  refine F.ok scTake (fun vs H Q E h => ?_) (fun cdv A outer s H vs Q E hr h => ?_)
  · obtain ⟨a, d, m, rfl, _⟩ := h
    rfl
  · obtain ⟨a, d, m, rfl, hm, ⟨ds, i, h1, h2, h3, h4⟩, k⟩ := h
    have nd := scTake.nd
    have nad := hand_ne h1 h2
    refine ⟨_, (pss_cons (ps_set (i := 2) nd rfl (Or.inl rfl) (pe_ix ix_list (pv 0) pe_int (fun _ _ => rfl)))
      (pss_cons (ps_asg (pe_op op_add (pv 2) pe_int) (pg_sub (pv 0) pe_int set_list))
      (pss_cons (ps_set (i := 3) nd rfl (Or.inl rfl) (pe_ix ix_list (pv 0) pe_int (fun _ _ => rfl)))
      (pss_cons (ps_if (pt_cmpR op_ge (pv 2) (pe_callB call_len_seq (by rfl) B.len (by decide +kernel) (pa_cons (pv 3) pa_nil)) (nomark _)) (pss_one (ps_ret pe_int)) pss_nil)
      (pss_one (ps_ret (pe_op op_modN (pe_op op_fdivN (pe_callTy call_int1 (by rfl) B.int (by decide +kernel) (pa_cons (pe_ix ix_list (pv 3) (pv 2) (fun _ _ => rfl)) pa_nil)) pe_int) (pv 1)))))))), ?_⟩
    refine ⟨_, rfl, a, _, _, _, rfl, rfl, SqL.of h1, atI_nat (j := 1) rfl, ?_⟩
    refine ⟨_, rfl, _, _, rfl, rfl, _, rfl, a, _, _, 1, rfl, rfl, h1, rfl, ?_⟩
    have h2' : ∀ o, upd H a o d = some (.lst (ds.map V.int)) := fun o => by rw [upd_ne nad.symm]; exact h2
    have done : ∀ r, 0 ≤ r → r < m → Q (.int r) (upd H a (.lst [.ref d, .int (i + 1)])) := fun r r0 r1 =>
      k r _ r0 r1 ⟨ds, i + 1, upd_same, h2' _, h3, by omega⟩ fun b o hb e => by rw [upd_ne hb]; exact e
    refine ⟨_, rfl, a, _, _, _, rfl, rfl, SqL.of upd_same, atI_nat (j := 0) rfl, ?_⟩
    refine ⟨_, rfl, _, rfl, d, _, rfl, .inl (SqL.of (h2' _)), _, _, rfl, rfl, _, rfl, ?_⟩
    rw [List.length_map]
    refine iteD (fun hc => ?_) (fun hc => ?_)
    · exact done 0 (by omega) (by omega)
    · obtain ⟨q, hq⟩ : ∃ q : Nat, i = (q : Int) := ⟨i.toNat, by omega⟩
      subst hq
      have hql : q < ds.length := by omega
      have e1 : (ds.map V.int)[q]? = some (V.int ds[q]) := by rw [List.getElem?_map, List.getElem?_eq_getElem hql] <;> rfl
      have b := fmod_bd (ds[q].fdiv 7) hm
      refine ⟨_, rfl, _, rfl, d, _, _, _, rfl, rfl, SqL.of (h2' _), atI_nat e1, .inl ⟨_, rfl, _, _, rfl, rfl, ⟨by decide, by decide⟩, _, rfl, _, _, rfl, rfl, (by omega), done _ b.1 b.2⟩⟩
end
end WU

set_option maxRecDepth 100000
set_option maxHeartbeats 8000000
namespace WU
open PySem PySem.Spec PyProof.Rows L2
section
variable {P : Program} {w : World} {K : PySem.W.Frag} {mg : Str → Option Value} {base : Heap} {S : Addr}
/-- flat, or an object -/
def FR (x : V) : Prop := flatV x = true ∨ ∃ p, x = .ref p
/-- one of the odd values, none of them the hand at a -/
def OddV (S a : Addr) (H : Hp) (v : V) : Prop := flatV v = true ∨ ∃ p, v = .ref p ∧ p ≠ a ∧ ((∃ t b, ShAt S H p t b) ∨ ∃ xs, (H p = some (.lst xs) ∨ H p = some (.tup xs)) ∧ ∀ x ∈ xs, FR x)
theorem OddV.keep {a : Addr} {H H' : Hp} {v : V} (h : OddV S a H v) (k : Keep a H H') : OddV S a H' v := by
  rcases h with h | ⟨p, rfl, ne, h⟩
  · exact .inl h
  · refine .inr ⟨p, rfl, ne, ?_⟩
    rcases h with ⟨t, b, dx, h⟩ | ⟨xs, h, hx⟩
    · exact .inl ⟨t, b, dx, k _ _ ne h⟩
    · exact .inr ⟨xs, h.elim (fun h => .inl (k _ _ ne h)) fun h => .inr (k _ _ ne h), hx⟩
theorem OddV.fr {a : Addr} {H : Hp} {v : V} (h : OddV S a H v) : FR v := by
  rcases h with h | ⟨p, rfl, _⟩
  · exact .inl h
  · exact .inr ⟨p, rfl⟩
theorem OddV.ty3 {a : Addr} {H : Hp} {v : V} (C : ShC K mg S) (h : OddV S a H v) : Ty3 K H v := by
  rcases h with h | ⟨p, rfl, _, h⟩
  · cases v with
    | non => exact ty3_non
    | bl b => exact ty3_bl b
    | int i => exact ty3_int i
    | str z => exact ty3_str z
    | _ => cases h
  · rcases h with ⟨t, b, h⟩ | ⟨xs, h | h, _⟩
    · exact C.ty3 h
    · exact ty3_lst h
    · exact ty3_tup h
theorem sh_make {H : Hp} {x y : Addr} {n : Int} {G : Hp → Prop} {E : XK} (hx : H x = none) (hy : H y = none) (hn : 0 ≤ n) (k : ∀ H', ShAt S H' x n 1 → Same H H' → G H') :
    spSI S [.ref x, .int n, .int 1] (upd (upd H y (.own x)) x (.ins S y [])) (fun v H2 => v = .non ∧ G H2) E :=
  ⟨x, y, n, rfl, upd_same, hn, fun H' sh kp => ⟨rfl, k H' sh fun b o hb => kp b o (ne_of_none hb hx) (by rw [upd_ne (ne_of_none hb hx), upd_ne (ne_of_none hb hy)]; exact hb)⟩⟩
theorem ShAt.same {H H' : Hp} {p : Addr} {t b : Int} (h : ShAt S H p t b) (s : Same H H') : ShAt S H' p t b := by
  obtain ⟨dx, e⟩ := h
  exact ⟨dx, s _ _ e⟩
abbrev sOdd : Stmt := top 25
def spOdd (S : Addr) (n : Nat) : Sp := fun vs H Q _ => ∃ (a d : Addr) (m : Int), vs = [.ref a, .int m] ∧ 0 ≤ m ∧ m < n ∧ HandAt H a d ∧ ∀ v H', OddV S a H' v → HandAt H' a d → Keep a H H' → Q v H'
theorem scOdd : FnScope ["hand", "depth", "kind", "parts", "values", "k"] ["hand", "depth"] (defScope sOdd) := ⟨rfl, rfl, rfl, by decide +kernel, rfl, by decide +kernel, by decide +kernel⟩
theorem ok_odd {f fT fI : Addr} {fd fdT fdI : FuncData} {dI : List Value} (F : FnS K "_law_odd" sOdd f fd) (B : Blt2 mg) (C : ShC K mg S) (CT : Cal P w K mg base 1 "_law_take" fT fdT ["hand", "many"] spTake)
    (MK : Mk K S fI) (GI : FnOk P w K mg base (L2.CX P w) 2 fI fdI ["self", "top", "bottom"] (spSI S)) (bI : Binds K fdI ["self", "top", "bottom"] dI) (vI : Vals [.int 1] dI) (n : Nat)
    (CO : Cal P w K mg base (3 + n) "_law_odd" f fd ["hand", "depth"] (spOdd S n)) : FnOk P w K mg base (L2.CX P w) (3 + n + 1) f fd ["hand", "depth"] (spOdd S (n + 1)) := by
  refine F.ok scOdd (fun vs H Q E h => ?_) (fun cdv A outer s H vs Q E hr h => ?_)
  · obtain ⟨a, d, m, rfl, _⟩ := h
    rfl
  · obtain ⟨a, d, m, rfl, m0, m1, hH, k⟩ := h
    have nd := scOdd.nd
    have hr1 := hr.mono (show 1 ≤ 3 + n by omega)
    have hr3 := hr.mono (show 3 ≤ 3 + n by omega)
    refine ⟨_, (pss_cons (ps_set (i := 2) nd rfl (Or.inl rfl) (pe_cal CT hr1 (pa_cons (pv 0) (pa_cons pe_int pa_nil)) passU))
      (pss_cons (ps_if (PW.pt (pw_and (pt_cmpR op_gt (pv 1) pe_int (nomark _)) (pw_and1 (pt_cmpR op_gt (pv 2) pe_int (nomark _))))) (pss_cons (ps_setLc (i := 3) (own := [("k", 5)]) (g := gName 5) (by rfl) nd rfl rfl (sw_true rfl rfl rfl (by decide +kernel)) (pi_range1 rfl B.range (pa_cons (pe_cal CT hr1 (pa_cons (pv 0) (pa_cons pe_int pa_nil)) passU) pa_nil)) (blkOk_by (own := [("k", 5)]) (N := ["hand", "depth", "kind", "parts", "values", "k"]) (sc := defScope sOdd) (by decide +kernel)) (fun _ _ _ _ _ => pg_name (i := 5) nd rfl (Or.inl rfl)) (fun _ _ _ _ _ => pts_nil) (fun _ _ _ _ _ => (pe_cal CO hr (pa_cons (pv 0) (pa_cons (pe_op op_sub (pv 1) pe_int) pa_nil)) passU)))
      (pss_one (ps_ret (pe_ix ix_list (pe_lst (pa_cons (pv 3) (pa_cons (pe_callTy call_tuple_of (by rfl) B.tuple (by decide +kernel) (pa_cons (pv 3) pa_nil)) pa_nil))) (pe_op op_sub (pv 2) pe_int) (fun _ _ => rfl))))) pss_nil)
      (pss_cons (ps_set (i := 4) nd rfl (Or.inl rfl) (pe_lst (pa_cons pe_bl (pa_cons pe_bl (pa_cons pe_non (pa_cons pe_str (pa_cons pe_str (pa_cons pe_int (pa_cons pe_int (pa_cons (pe_un un_neg pe_int) (pa_cons pe_int (pa_cons pe_int (pa_cons pe_int (pa_cons pe_int (pa_cons (pe_op op_pow pe_int pe_int) (pa_cons (pe_un un_neg (pe_op op_pow pe_int pe_int)) (pa_cons (pe_tup pa_nil) (pa_cons (pe_lst pa_nil) (pa_cons (pe_make MK GI hr3 (by rfl) C.g bI vI passU (pa_cons pe_int pa_nil)) (pa_cons (pe_make MK GI hr3 (by rfl) C.g bI vI passU (pa_cons pe_int pa_nil)) (pa_cons (pe_make MK GI hr3 (by rfl) C.g bI vI passU (pa_cons pe_int pa_nil)) pa_nil)))))))))))))))))))))
      (pss_one (ps_ret (pe_ix ix_list (pv 4) (pe_cal CT hr1 (pa_cons (pv 0) (pa_cons pe_int pa_nil)) passU) (fun _ _ => rfl))))))), ?_⟩
    refine ⟨_, rfl, a, d, 9, rfl, by decide, hH, fun kind H1 r0 r1 hH1 k1 => ?_⟩
    have vals : ∀ w3 : Option V, tSeq (tAsg (tLst (tCons (tC (.bl true)) (tCons (tC (.bl false)) (tCons (tC .non) (tCons (tC (.str "")) (tCons (tC (.str "a1")) (tCons (tC (.int 0)) (tCons (tC (.int 1)) (tCons (tUn (rU fun i => .int (-i)) (tC (.int 1))) (tCons (tC (.int 2)) (tCons (tC (.int 7)) (tCons (tC (.int 31)) (tCons (tC (.int 37))
        (tCons (tOp (rI CPow fun i j => .int (i ^ j.toNat)) (tC (.int 10)) (tC (.int 30))) (tCons (tUn (rU fun i => .int (-i)) (tOp (rI CPow fun i j => .int (i ^ j.toNat)) (tC (.int 10)) (tC (.int 30)))) (tCons (tTup tNil) (tCons (tLst tNil)
        (tCons (tMake S (spSI S) [.int 1] E0 (tCons (tC (.int 7)) tNil)) (tCons (tMake S (spSI S) [.int 1] E0 (tCons (tC (.int 1)) tNil)) (tCons (tMake S (spSI S) [.int 1] E0 (tCons (tC (.int 0)) tNil)) tNil)))))))))))))))))))) (gName 4))
        (tRet (tOp (rIxL K) (tVar 4) (tCall spTake [] E0 (tCons (tVar 0) (tCons (tC (.int 19)) tNil))))) { nx := fun _ H' => Q .non H', rt := Q } [some (.ref a), some (.int m), some (.int kind), w3, none, none] H1 := by
      intro w3
      refine ⟨_, rfl, _, _, rfl, rfl, ⟨by decide, by decide, by decide⟩, _, _, rfl, rfl, ⟨by decide, by decide, by decide⟩, _, rfl, (by show 0 ≤ sizeLine; omega), fun T hT => ⟨(by show 0 ≤ sizeLine; omega), fun L hL => fun x1 y1 hx1 hy1 n1 => ?_⟩⟩
      have n0 := hH1.ne hT
      have h0 := hH1.new (o := .tup []) hT
      have n0' := h0.ne hL
      have h0' := h0.new (o := .lst []) hL
      have s0 : Same H1 (upd (upd H1 T (.tup [])) L (.lst [])) := (same_new hT).trans (same_new hL)
      have eT : upd (upd H1 T (.tup [])) L (.lst []) T = some (.tup []) := by rw [upd_ne (ne_of_none upd_same hL), upd_same]
      have eL : upd (upd H1 T (.tup [])) L (.lst []) L = some (.lst []) := upd_same
      have nx1 := h0'.ne hx1
      refine sh_make hx1 hy1 (by decide) fun H2 sh1 s1 => ?_
      intro x2 y2 hx2 hy2 _
      have nx2 := (h0'.same s1).ne hx2
      refine sh_make hx2 hy2 (by decide) fun H3 sh2 s2 => ?_
      intro x3 y3 hx3 hy3 _
      have nx3 := ((h0'.same s1).same s2).ne hx3
      refine sh_make hx3 hy3 (by decide) fun H4 sh3 s3 => ?_
      have s14 : Same (upd (upd H1 T (.tup [])) L (.lst [])) H4 := (s1.trans s2).trans s3
      have h4 := h0'.same s14
      refine ⟨(by show 19 ≤ sizeLine; decide), fun Z hZ => ?_⟩
      have nZ := h4.ne hZ
      refine ⟨_, rfl, _, rfl, a, d, 19, rfl, by decide, h4.new hZ, fun r H5 r0 r1 h5 k5 => ?_⟩
      have kz : Keep a H4 H5 := (Keep.new hZ).trans k5
      have all : ∀ v ∈ ([.bl true, .bl false, .non, .str "", .str "a1", .int 0, .int 1, .int (-1), .int 2, .int 7, .int 31, .int 37, .int (10 ^ (30 : Int).toNat), .int (-(10 ^ (30 : Int).toNat)), .ref T, .ref L, .ref x1, .ref x2, .ref x3] : List V), OddV S a H5 v := by
        have fl : ∀ v, flatV v = true → OddV S a H5 v := fun v h => .inl h
        have e1 : ∀ p, a ≠ p → ShAt S H4 p 7 1 ∨ ShAt S H4 p 1 1 ∨ ShAt S H4 p 0 1 → OddV S a H5 (.ref p) := fun p ne h => by
          refine OddV.keep (H := H4) (.inr ⟨p, rfl, ne.symm, .inl ?_⟩) kz
          rcases h with h | h | h
          · exact ⟨_, _, h⟩
          · exact ⟨_, _, h⟩
          · exact ⟨_, _, h⟩
        intro v hv
        simp only [List.mem_cons, List.not_mem_nil, or_false] at hv
        rcases hv with rfl | rfl | rfl | rfl | rfl | rfl | rfl | rfl | rfl | rfl | rfl | rfl | rfl | rfl | rfl | rfl | rfl | rfl | rfl
        · exact fl _ rfl
        · exact fl _ rfl
        · exact fl _ rfl
        · exact fl _ rfl
        · exact fl _ rfl
        · exact fl _ rfl
        · exact fl _ rfl
        · exact fl _ rfl
        · exact fl _ rfl
        · exact fl _ rfl
        · exact fl _ rfl
        · exact fl _ rfl
        · exact fl _ rfl
        · exact fl _ rfl
        · exact OddV.keep (H := H4) (.inr ⟨_, rfl, n0.1.symm, .inr ⟨[], .inr (s14 _ _ eT), fun x hx => nomatch hx⟩⟩) kz
        · exact OddV.keep (H := H4) (.inr ⟨_, rfl, n0'.1.symm, .inr ⟨[], .inl (s14 _ _ eL), fun x hx => nomatch hx⟩⟩) kz
        · exact e1 _ nx1.1 (.inl ((sh1.same s2).same s3))
        · exact e1 _ nx2.1 (.inr (.inl (sh2.same s3)))
        · exact e1 _ nx3.1 (.inr (.inr sh3))
      obtain ⟨q, rfl⟩ : ∃ q : Nat, r = (q : Int) := ⟨r.toNat, by omega⟩
      have hq : q < 19 := by omega
      obtain ⟨v, hv⟩ : ∃ v, ([.bl true, .bl false, .non, .str "", .str "a1", .int 0, .int 1, .int (-1), .int 2, .int 7, .int 31, .int 37, .int (10 ^ (30 : Int).toNat), .int (-(10 ^ (30 : Int).toNat)), .ref T, .ref L, .ref x1, .ref x2, .ref x3] : List V)[q]? = some v := ⟨_, List.getElem?_eq_getElem (show q < 19 from hq)⟩
      have ez : H5 Z = some (.lst [.bl true, .bl false, .non, .str "", .str "a1", .int 0, .int 1, .int (-1), .int 2, .int 7, .int 31, .int 37, .int (10 ^ (30 : Int).toNat), .int (-(10 ^ (30 : Int).toNat)), .ref T, .ref L, .ref x1, .ref x2, .ref x3]) := k5 _ _ nZ.1.symm upd_same
      exact ⟨Z, _, _, v, rfl, rfl, SqL.of ez, atI_nat hv, k v H5 (all v (List.mem_of_getElem? hv)) h5 (k1.trans ((Keep.of (s0.trans s14)).trans kz))⟩
    refine ⟨_, rfl, _, _, rfl, rfl, _, rfl, iteD (fun hc => ⟨_, rfl, _, _, rfl, rfl, _, rfl, iteD (fun hd => ?_) (fun hd => ?_)⟩) (fun hc => ?_)⟩
    · refine ⟨_, rfl, a, d, 4, rfl, by decide, hH1, fun cnt H2 c0 c1 hH2 k2 => ⟨cnt, rfl, (by omega), (by omega), fun D hD => ?_⟩⟩
      obtain ⟨naD, ndD⟩ := hH2.ne hD
      refine lc_range (lo := 0) (n := cnt.toNat) (fun i H' => ∃ xs, H' D = some (.lst xs) ∧ xs.length = i ∧ (∀ x ∈ xs, FR x) ∧ HandAt H' a d ∧ Keep a H2 H') ⟨[], upd_same, rfl, (fun x hx => nomatch hx), hH2.new hD, Keep.new hD⟩ ?_ ?_
      · rintro i H3 hi ⟨xs, e, hl, hx, h3, k3⟩
        refine ⟨rfl, _, rfl, _, rfl, _, _, rfl, rfl, a, d, _, rfl, (by omega), (by omega), h3, fun v H4 o h4 k4 => ⟨xs, k4 _ _ naD.symm e, small1000 (by omega), xs ++ [v], upd_same, (by rw [List.length_append, hl]; rfl), ?_, h4.put naD ndD, ?_⟩⟩
        · intro x hm
          rcases List.mem_append.mp hm with hm | hm
          · exact hx x hm
          · rw [List.mem_singleton.mp hm]
            exact o.fr
        · intro b o hb hbo
          have nb : b ≠ D := ne_of_none hbo hD
          rw [upd_ne nb]
          exact k4 b o hb (k3 b o hb hbo)
      · rintro H3 ⟨xs, e, hl, hx, h3, k3⟩
        refine ⟨_, rfl, _, rfl, D, xs, rfl, .inl ⟨SqL.of e, fun T hT => ⟨(by show 2 ≤ sizeLine; decide), fun q hq => ?_⟩⟩⟩
        have nT := h3.ne hT
        have nq := (h3.new hT).ne hq
        have nDT : D ≠ T := ne_of_none e hT
        have nDq : D ≠ q := ne_of_none (show upd H3 T (.tup xs) D = some (.lst xs) by rw [upd_ne nDT]; exact e) hq
        have nTq : T ≠ q := ne_of_none (upd_same (H := H3) (a := T) (o := .tup xs)) hq
        have kk : Keep a H (upd (upd H3 T (.tup xs)) q (.lst [.ref D, .ref T])) := k1.trans (k2.trans (k3.trans ((Keep.new hT).trans (Keep.new hq))))
        have hh := (h3.new (o := .tup xs) hT).new (o := .lst [.ref D, .ref T]) hq
        have hk : kind = 7 ∨ kind = 8 := by omega
        rcases hk with rfl | rfl
        · refine ⟨_, rfl, _, _, rfl, rfl, q, _, _, .ref D, rfl, rfl, SqL.of upd_same, rfl, k _ _ (.inr ⟨D, rfl, naD.symm, .inr ⟨xs, .inl ?_, hx⟩⟩) hh kk⟩
          rw [upd_ne nDq, upd_ne nDT]
          exact e
        · refine ⟨_, rfl, _, _, rfl, rfl, q, _, _, .ref T, rfl, rfl, SqL.of upd_same, rfl, k _ _ (.inr ⟨T, rfl, nT.1.symm, .inr ⟨xs, .inr ?_, hx⟩⟩) hh kk⟩
          rw [upd_ne nTq, upd_same]
    · exact vals _
    · exact vals _
end
end WU

set_option maxRecDepth 100000
set_option maxHeartbeats 8000000
namespace WU
open PySem PySem.Spec PyProof.Rows L2
section
variable {P : Program} {w : World} {K : PySem.W.Frag} {mg : Str → Option Value} {base : Heap} {S : Addr}
abbrev sLF : Stmt := top 26
abbrev sLFd : Stmt := top 27
abbrev sLN : Stmt := top 28
abbrev sLI : Stmt := top 29
abbrev sLk : Stmt := top 30
theorem fld_all {p : Int} (h2 : 2 ≤ p) (h31 : p ≤ 31) : (isFld (.int p) = true → ∀ j : Nat, (j : Int) < p - 2 → ¬ p.fmod (2 + (j : Int)) = 0) ∧ (isFld (.int p) = false → ∃ j : Nat, (j : Int) < p - 2 ∧ p.fmod (2 + (j : Int)) = 0) := by
  have t1 : ∀ n ∈ List.range 32, isFld (.int (n : Int)) = true → ∀ j ∈ List.range 32, (j : Int) < (n : Int) - 2 → ¬ (n : Int).fmod (2 + (j : Int)) = 0 := by decide +kernel
  have t2 : ∀ n ∈ List.range 32, 2 ≤ n → isFld (.int (n : Int)) = false → ∃ j ∈ List.range 32, (j : Int) < (n : Int) - 2 ∧ (n : Int).fmod (2 + (j : Int)) = 0 := by decide +kernel
  obtain ⟨n, rfl⟩ : ∃ n : Nat, p = (n : Int) := ⟨p.toNat, by omega⟩
  have hn : n ∈ List.range 32 := List.mem_range.mpr (by omega)
  refine ⟨fun h j hj => t1 n hn h j (List.mem_range.mpr (by omega)) hj, fun h => ?_⟩
  obtain ⟨j, _, h1, h2⟩ := t2 n hn (by omega) h
  exact ⟨j, h1, h2⟩
theorem fld_out {p : Int} (h : p < 2 ∨ 31 < p) : isFld (.int p) = false := by
  cases e : isFld (.int p) with
  | false => rfl
  | true =>
    have := fld_le (fld_mem e)
    omega
theorem scLF : FnScope ["p", "d"] ["p"] (defScope sLF) := ⟨rfl, rfl, rfl, by decide +kernel, rfl, by decide +kernel, by decide +kernel⟩
theorem ok_LF {f : Addr} {fd : FuncData} (F : FnS K "_law_is_field" sLF f fd) (B : Blt2 mg) : FnOk P w K mg base (L2.CX P w) 1 f fd ["p"] (spIsFld K) := by
  refine F.ok scLF (fun vs H Q E h => ?_) (fun cdv A outer s H vs Q E hr h => ?_)
  · obtain ⟨v, rfl, _⟩ := h
    rfl
  · obtain ⟨v, rfl, ⟨t, ht, h1, h2⟩, k⟩ := h
    have nd := scLF.nd
    refine ⟨_, (pss_cons (ps_if (PW.pt (pw_or (pt_not (pt_val (pe_callB call_isi (by rfl) B.isi (by decide +kernel) (pa_cons (pv 0) (pa_cons (pe_bltn (v := .ty "int") (by rfl) B.int (by decide +kernel) rfl) pa_nil))))) (pw_or (pt_val (pe_callB call_isi (by rfl) B.isi (by decide +kernel) (pa_cons (pv 0) (pa_cons (pe_bltn (v := .ty "bool") (by rfl) B.bool (by decide +kernel) rfl) pa_nil)))) (pw_or (pt_cmpR op_lt (pv 0) pe_int (nomark _)) (pw_or1 (pt_cmpR op_gt (pv 0) pe_int (nomark _))))))) (pss_one (ps_ret pe_bl)) pss_nil)
      (pss_cons (ps_for (passes_of rfl) rfl (pi_range2 rfl B.range (pa_cons pe_int (pa_cons (pe_callTy call_int1 (by rfl) B.int (by decide +kernel) (pa_cons (pv 0) pa_nil)) pa_nil))) (pg_name (i := 1) nd rfl (Or.inl rfl)) (pss_one (ps_if (pt_cmpR op_eq (pe_op op_modN (pe_callTy call_int1 (by rfl) B.int (by decide +kernel) (pa_cons (pv 0) pa_nil)) (pv 1)) pe_int (nomark _)) (pss_one (ps_ret pe_bl)) pss_nil)))
      (pss_one (ps_ret pe_bl)))), ?_⟩
    refine ⟨_, rfl, _, _, _, _, _, rfl, .ty "int", ht, h1, _, rfl, ?_⟩
    cases v with
    | int p =>
      refine iteF ⟨_, rfl, _, _, _, _, _, rfl, .ty "bool", ht, h2, _, rfl, iteF ⟨_, rfl, _, _, rfl, rfl, _, rfl, iteD (fun hc => ?_) (fun hc => ⟨_, rfl, _, _, rfl, rfl, _, rfl, iteD (fun hd => ?_) (fun hd => ?_)⟩)⟩⟩
      · rw [fld_out (.inl hc)] at k
        exact k
      · rw [fld_out (.inr hd)] at k
        exact k
      · have fa := fld_all (p := p) (by omega) (by omega)
        refine ⟨_, rfl, .inl ⟨p, rfl, 2, p, rfl, (by omega), for_range (lo := 2) (n := (p - 2).toNat) (fun i σ H' => ∃ x, σ = [some (.int p), x] ∧ H' = H ∧ ∀ j : Nat, j < i → ¬ p.fmod (2 + (j : Int)) = 0) ⟨none, rfl, rfl, fun j hj => by omega⟩ ?_ ?_⟩⟩
        · rintro i σ H' hi ⟨x, rfl, rfl, hj⟩
          refine ⟨_, rfl, .inl ⟨p, rfl, _, rfl, _, _, rfl, rfl, (by omega), rfl, _, rfl, ?_⟩⟩
          refine iteD (fun he => ?_) (fun he => ?_)
          · have he' : p.fmod (2 + (i : Int)) = 0 := V.int.inj he
            have e : isFld (.int p) = false := by
              cases q : isFld (.int p) with
              | false => rfl
              | true => exact absurd he' (fa.1 q i (by omega))
            rw [e] at k
            exact k
          · refine ⟨_, rfl, rfl, fun j hjj => ?_⟩
            by_cases z : j = i
            · subst z
              exact fun q => he (congrArg V.int q)
            · exact hj j (by omega)
        · rintro σ H' ⟨x, rfl, rfl, hj⟩
          have e : isFld (.int p) = true := by
            cases q : isFld (.int p) with
            | true => rfl
            | false =>
              obtain ⟨j, h3, h4⟩ := fa.2 q
              exact absurd h4 (hj j (by omega))
          rw [e] at k
          exact k
    | bl b => exact iteF ⟨_, rfl, _, _, _, _, _, rfl, .ty "bool", ht, h2, _, rfl, iteT k⟩
    | _ => exact iteT k
def ups (n : Nat) : List Int := ((List.range n).filter fun (j : Nat) => isFld (.int (2 + (j : Int)))).map fun (j : Nat) => 2 + (j : Int)
theorem ups_succ (n : Nat) : ups (n + 1) = if isFld (.int (2 + (n : Int))) = true then ups n ++ [2 + (n : Int)] else ups n := by
  unfold ups
  rw [List.range_succ, List.filter_append, List.map_append]
  cases h : isFld (.int (2 + (n : Int))) <;> simp [h]
theorem ups_len (n : Nat) : (ups n).length ≤ n := by
  unfold ups
  rw [List.length_map]
  exact Nat.le_trans (List.length_filter_le _ _) (by simp)
theorem ups_all : ups 30 = primes := by decide +kernel
def spLFd : Sp := fun vs H Q _ => ∃ (a d : Addr), vs = [.ref a] ∧ HandAt H a d ∧ ∀ p H', p ∈ primes → HandAt H' a d → Keep a H H' → Q (.int p) H'
theorem scLFd : FnScope ["hand", "primes", "p"] ["hand"] (defScope sLFd) := ⟨rfl, rfl, rfl, by decide +kernel, rfl, by decide +kernel, by decide +kernel⟩
theorem ok_LFd {f fF fT : Addr} {fd fdF fdT : FuncData} (F : FnS K "_law_field" sLFd f fd) (B : Blt2 mg) (CF : Cal P w K mg base 1 "_law_is_field" fF fdF ["p"] (spIsFld K)) (CT : Cal P w K mg base 1 "_law_take" fT fdT ["hand", "many"] spTake) :
    FnOk P w K mg base (L2.CX P w) 2 f fd ["hand"] spLFd := by
  refine F.ok scLFd (fun vs H Q E h => ?_) (fun cdv A outer s H vs Q E hr h => ?_)
  · obtain ⟨a, d, rfl, _⟩ := h
    rfl
  · obtain ⟨a, d, rfl, hH, k⟩ := h
    have nd := scLFd.nd
    have hr1 := hr
    refine ⟨_, (pss_cons (ps_setLc (i := 1) (own := [("p", 2)]) (g := gName 2) (by rfl) nd rfl rfl (sw_true rfl rfl rfl (by decide +kernel)) (pi_range2 rfl B.range (pa_cons pe_int (pa_cons pe_int pa_nil))) (blkOk_by (own := [("p", 2)]) (N := ["hand", "primes", "p"]) (sc := defScope sLFd) (by decide +kernel)) (fun _ _ _ _ _ => pg_name (i := 2) nd rfl (Or.inl rfl)) (fun _ _ _ _ _ => pts_one (pt_val (pe_cal CF hr (pa_cons (pv 2) pa_nil) passU))) (fun _ _ _ _ _ => (pv 2)))
      (pss_one (ps_ret (pe_ix ix_list (pv 1) (pe_ix ix_list (pe_lst (pa_cons (pe_cal CT hr1 (pa_cons (pv 0) (pa_cons pe_int pa_nil)) passU) (pa_cons (pe_cal CT hr1 (pa_cons (pv 0) (pa_cons pe_int pa_nil)) passU) pa_nil))) (pe_cal CT hr1 (pa_cons (pv 0) (pa_cons pe_int pa_nil)) passU) (fun _ _ => rfl)) (fun _ _ => rfl))))), ?_⟩
    refine ⟨2, 32, rfl, (by omega), fun D hD => lc_range (lo := 2) (n := 30) (fun i H' => Same H H' ∧ H' D = some (.lst ((ups i).map V.int))) ⟨same_new hD, upd_same⟩ ?_ ?_⟩
    · rintro i H' hi ⟨s1, e⟩
      have eu := ups_succ i
      refine ⟨rfl, _, rfl, _, rfl, ty3_int _, _, rfl, ?_⟩
      cases q : isFld (.int (2 + (i : Int))) with
      | true =>
        rw [if_pos q] at eu
        refine iteT ⟨_, rfl, _, e, (by rw [List.length_map]; exact small1000 (Nat.le_trans (ups_len i) (by omega))), fun c o hc => by rw [upd_ne (ne_of_none hc hD)]; exact s1 c o hc, ?_⟩
        rw [upd_same, eu, List.map_append]
        rfl
      | false =>
        rw [if_neg (by rw [q]; decide)] at eu
        refine iteF ⟨s1, ?_⟩
        rw [eu]
        exact e
    · rintro H1 ⟨s1, e⟩
      rw [ups_all] at e
      have h1 := hH.same s1
      refine ⟨_, rfl, _, rfl, a, d, 11, rfl, by decide, h1, fun r1 H2 a0 a1 h2 k2 => ⟨_, rfl, a, d, 3, rfl, by decide, h2, fun r2 H3 b0 b1 h3 k3 => ⟨(by show 2 ≤ sizeLine; decide), fun q hq => ⟨_, rfl, a, d, 2, rfl, by decide, h3.new hq, fun r3 H4 c0 c1 h4 k4 => ?_⟩⟩⟩⟩
      have nq := h3.ne hq
      have nD := hH.ne hD
      have eq : H4 q = some (.lst [.int r1, .int r2]) := k4 _ _ nq.1.symm upd_same
      have eD : H4 D = some (.lst (primes.map V.int)) := k4 _ _ nD.1.symm (by
        have e3 := k3 _ _ nD.1.symm (k2 _ _ nD.1.symm e)
        rw [upd_ne (ne_of_none e3 hq)]
        exact e3)
      have kk : Keep a H H4 := (Keep.of s1).trans (k2.trans (k3.trans ((Keep.new hq).trans k4)))
      have out : ∀ r : Int, 0 ≤ r → r < 11 → rIxL K (.ref D) (.int r) H4 Q := fun r z0 z1 => by
        obtain ⟨m, rfl⟩ : ∃ m : Nat, r = (m : Int) := ⟨r.toNat, by omega⟩
        have hm : m < primes.length := by show m < 11; omega
        have em : (primes.map V.int)[m]? = some (V.int primes[m]) := by rw [List.getElem?_map, List.getElem?_eq_getElem hm] <;> rfl
        exact ⟨D, _, _, _, rfl, rfl, SqL.of eD, atI_nat em, k _ _ (List.getElem_mem hm) h4 kk⟩
      have hc : r3 = 0 ∨ r3 = 1 := by omega
      rcases hc with rfl | rfl
      · exact ⟨q, _, _, .int r1, rfl, rfl, SqL.of eq, rfl, out r1 a0 a1⟩
      · exact ⟨q, _, _, .int r2, rfl, rfl, SqL.of eq, rfl, out r2 b0 (by omega)⟩
def spLN (S : Addr) : Sp := fun vs H Q _ => ∃ (a d : Addr), vs = [.ref a] ∧ HandAt H a d ∧ ∀ v H', OddV S a H' v → isFld v = false → HandAt H' a d → Keep a H H' → Q v H'
theorem scLN : FnScope ["hand", "value"] ["hand"] (defScope sLN) := ⟨rfl, rfl, rfl, by decide +kernel, rfl, by decide +kernel, by decide +kernel⟩
theorem ok_LN {f fF fT fO fI : Addr} {fd fdF fdT fdO fdI : FuncData} {dI : List Value} (F : FnS K "_law_no_field" sLN f fd) (B : Blt2 mg) (C : ShC K mg S) (CF : Cal P w K mg base 1 "_law_is_field" fF fdF ["p"] (spIsFld K)) (CT : Cal P w K mg base 1 "_law_take" fT fdT ["hand", "many"] spTake)
    (CO : Cal P w K mg base 5 "_law_odd" fO fdO ["hand", "depth"] (spOdd S 2)) (MK : Mk K S fI) (GI : FnOk P w K mg base (L2.CX P w) 2 fI fdI ["self", "top", "bottom"] (spSI S)) (bI : Binds K fdI ["self", "top", "bottom"] dI) (vI : Vals [.int 1] dI) :
    FnOk P w K mg base (L2.CX P w) 6 f fd ["hand"] (spLN S) := by
  refine F.ok scLN (fun vs H Q E h => ?_) (fun cdv A outer s H vs Q E hr h => ?_)
  · obtain ⟨a, d, rfl, _⟩ := h
    rfl
  · obtain ⟨a, d, rfl, hH, k⟩ := h
    have nd := scLN.nd
    have hr1 := hr.mono (show 1 ≤ 5 by decide)
    have hr3 := hr.mono (show 3 ≤ 5 by decide)
    refine ⟨_, (pss_cons (ps_set (i := 1) nd rfl (Or.inl rfl) (pe_ix ix_list (pe_lst (pa_cons (pe_op op_sub (pe_cal CT hr1 (pa_cons (pv 0) (pa_cons pe_int pa_nil)) passU) pe_int) (pa_cons (pe_cal CO hr (pa_cons (pv 0) (pa_cons pe_int pa_nil)) passU) (pa_cons pe_int (pa_cons pe_int (pa_cons pe_int (pa_cons (pe_un un_neg pe_int) (pa_cons pe_int (pa_cons pe_int (pa_cons (pe_make MK GI hr3 (by rfl) C.g bI vI passU (pa_cons pe_int pa_nil)) (pa_cons (pe_make MK GI hr3 (by rfl) C.g bI vI passU (pa_cons pe_int pa_nil)) pa_nil))))))))))) (pe_cal CT hr1 (pa_cons (pv 0) (pa_cons pe_int pa_nil)) passU) (fun _ _ => rfl)))
      (pss_cons (ps_if (pt_val (pe_cal CF hr1 (pa_cons (pv 1) pa_nil) passU)) (pss_one (ps_ret pe_int)) pss_nil)
      (pss_one (ps_ret (pv 1))))), ?_⟩
    refine ⟨_, rfl, a, d, 60, rfl, by decide, hH, fun r1 H1 a0 a1 h1 k1 => ⟨_, _, rfl, rfl, _, rfl, a, d, 1, rfl, by decide, by decide, h1, fun o H2 oo h2 k2 => ⟨_, rfl, fun x1 y1 hx1 hy1 _ => ?_⟩⟩⟩
    have nx1 := h2.ne hx1
    refine sh_make hx1 hy1 (by decide) fun H3 sh1 s1 => ?_
    intro x2 y2 hx2 hy2 _
    have nx2 := (h2.same s1).ne hx2
    refine sh_make hx2 hy2 (by decide) fun H4 sh2 s2 => ⟨(by show 10 ≤ sizeLine; decide), fun Z hZ => ?_⟩
    have h4 := (h2.same s1).same s2
    have nZ := h4.ne hZ
    refine ⟨_, rfl, a, d, 10, rfl, by decide, h4.new hZ, fun r H5 c0 c1 h5 k5 => ?_⟩
    have kz : Keep a H4 H5 := (Keep.new hZ).trans k5
    have ez : H5 Z = some (.lst [.int (r1 - 9), o, .int 37, .int 1, .int 0, .int (-2), .int 33, .int 961, .ref x1, .ref x2]) := k5 _ _ nZ.1.symm upd_same
    have kk : Keep a H H5 := k1.trans (k2.trans ((Keep.of (s1.trans s2)).trans kz))
    have all : ∀ v ∈ ([.int (r1 - 9), o, .int 37, .int 1, .int 0, .int (-2), .int 33, .int 961, .ref x1, .ref x2] : List V), OddV S a H5 v := by
      have fl : ∀ v, flatV v = true → OddV S a H5 v := fun v h => .inl h
      intro v hv
      simp only [List.mem_cons, List.not_mem_nil, or_false] at hv
      rcases hv with rfl | rfl | rfl | rfl | rfl | rfl | rfl | rfl | rfl | rfl
      · exact fl _ rfl
      · exact (oo.keep (Keep.of (s1.trans s2))).keep kz
      · exact fl _ rfl
      · exact fl _ rfl
      · exact fl _ rfl
      · exact fl _ rfl
      · exact fl _ rfl
      · exact fl _ rfl
      · exact OddV.keep (H := H4) (.inr ⟨_, rfl, nx1.1.symm, .inl ⟨_, _, sh1.same s2⟩⟩) kz
      · exact OddV.keep (H := H4) (.inr ⟨_, rfl, nx2.1.symm, .inl ⟨_, _, sh2⟩⟩) kz
    obtain ⟨q, rfl⟩ : ∃ q : Nat, r = (q : Int) := ⟨r.toNat, by omega⟩
    have hq : q < 10 := by omega
    obtain ⟨v, hv⟩ : ∃ v, ([.int (r1 - 9), o, .int 37, .int 1, .int 0, .int (-2), .int 33, .int 961, .ref x1, .ref x2] : List V)[q]? = some v := ⟨_, List.getElem?_eq_getElem (show q < 10 from hq)⟩
    have ov := all v (List.mem_of_getElem? hv)
    refine ⟨Z, _, _, v, rfl, rfl, SqL.of ez, atI_nat hv, _, rfl, v, rfl, ov.ty3 C, _, rfl, ?_⟩
    cases e : isFld v with
    | true => exact iteT (k (.int 4) H5 (.inl rfl) (by decide) h5 kk)
    | false => exact iteF ⟨_, rfl, k v H5 ov e h5 kk⟩
def spLI : Sp := fun vs H Q _ => ∃ (a p : Int), vs = [.int a, .int p] ∧ p ∈ primes ∧ 0 < a ∧ a < p ∧ Q (.int (inv p a)) H
theorem scLI : FnScope ["a", "p", "b"] ["a", "p"] (defScope sLI) := ⟨rfl, rfl, rfl, by decide +kernel, rfl, by decide +kernel, by decide +kernel⟩
theorem cnd_hit {p a : Int} {n : Nat} {x : Int} {l : List Int} (h : cnd p a n = x :: l) : ∃ j : Nat, j < n ∧ hit p a j = true := by
  have hx : x ∈ cnd p a n := by rw [h]; exact List.mem_cons_self
  unfold cnd at hx
  obtain ⟨j, hj, _⟩ := List.mem_map.mp hx
  obtain ⟨h1, h2⟩ := List.mem_filter.mp hj
  exact ⟨j, List.mem_range.mp h1, h2⟩
theorem ok_LI {f : Addr} {fd : FuncData} (F : FnS K "_law_inverse" sLI f fd) (B : Blt2 mg) : FnOk P w K mg base (L2.CX P w) 1 f fd ["a", "p"] spLI := by
  refine F.ok scLI (fun vs H Q E h => ?_) (fun cdv A outer s H vs Q E hr h => ?_)
  · obtain ⟨a, p, rfl, _⟩ := h
    rfl
  · obtain ⟨a, p, rfl, hp, h0, h1, k⟩ := h
    have nd := scLI.nd
    have hb := fld_le hp
    refine ⟨_, (pss_cons (ps_for (passes_of rfl) rfl (pi_range2 rfl B.range (pa_cons pe_int (pa_cons (pv 1) pa_nil))) (pg_name (i := 2) nd rfl (Or.inl rfl)) (pss_one (ps_if (pt_cmpR op_eq (pe_op op_modN (pe_callTy call_int1 (by rfl) B.int (by decide +kernel) (pa_cons (pe_op op_mul (pv 0) (pv 2)) pa_nil)) (pv 1)) pe_int (nomark _)) (pss_one (ps_ret (pv 2))) pss_nil)))
      (pss_one (ps_ret pe_int))), ?_⟩
    refine ⟨_, rfl, 1, p, rfl, (by omega), for_range (lo := 1) (n := (p - 1).toNat) (fun i σ H' => ∃ x, σ = [some (.int a), some (.int p), x] ∧ H' = H ∧ ∀ j : Nat, j < i → hit p a j = false) ⟨none, rfl, rfl, fun j hj => by omega⟩ ?_ ?_⟩
    · rintro i σ H' hi ⟨x, rfl, rfl, hj⟩
      refine ⟨_, rfl, _, rfl, _, _, rfl, rfl, .inl ⟨by omega, by omega⟩, .inl ⟨_, rfl, _, rfl, _, _, rfl, rfl, (by omega), rfl, _, rfl, ?_⟩⟩
      refine iteD (fun he => ?_) (fun he => ?_)
      · have hh : hit p a i = true := decide_eq_true (V.int.inj he)
        rw [inv_first hi hj hh] at k
        exact ⟨_, rfl, k⟩
      · refine ⟨_, rfl, rfl, fun j hjj => ?_⟩
        by_cases z : j = i
        · subst z
          exact decide_eq_false fun q => he (congrArg V.int q)
        · exact hj j (by omega)
    · rintro σ H' ⟨x, rfl, rfl, hj⟩
      obtain ⟨l, el⟩ := inv_there hp h0 h1
      obtain ⟨j, hj1, hj2⟩ := cnd_hit el
      rw [hj j hj1] at hj2
      cases hj2
def spLk : Sp := fun vs H Q _ => ∃ i : Int, vs = [.int i, .int i] ∧ Q (.bl true) H
theorem scLk : FnScope ["found", "due"] ["found", "due"] (defScope sLk) := ⟨rfl, rfl, rfl, by decide +kernel, rfl, by decide +kernel, by decide +kernel⟩
theorem ok_Lk {f : Addr} {fd : FuncData} (F : FnS K "_law_like" sLk f fd) (B : Blt2 mg) : FnOk P w K mg base (L2.CX P w) 1 f fd ["found", "due"] spLk := by
  refine F.ok scLk (fun vs H Q E h => ?_) (fun cdv A outer s H vs Q E hr h => ?_)
  · obtain ⟨i, rfl, _⟩ := h
    rfl
  · obtain ⟨i, rfl, k⟩ := h
    obtain ⟨t, ht, h1, h2⟩ := ty3_int (K := K) (H := H) i
    refine ⟨_, (pss_cons (ps_if (PW.pt (pw_and (pt_val (pe_callB call_isi (by rfl) B.isi (by decide +kernel) (pa_cons (pv 1) (pa_cons (pe_bltn (v := .ty "int") (by rfl) B.int (by decide +kernel) rfl) pa_nil)))) (pw_and1 (pt_not (pt_val (pe_callB call_isi (by rfl) B.isi (by decide +kernel) (pa_cons (pv 1) (pa_cons (pe_bltn (v := .ty "bool") (by rfl) B.bool (by decide +kernel) rfl) pa_nil)))))))) (pss_one (ps_ret (pe_and (pe_callB call_isi (by rfl) B.isi (by decide +kernel) (pa_cons (pv 0) (pa_cons (pe_bltn (v := .ty "int") (by rfl) B.int (by decide +kernel) rfl) pa_nil))) (pe_and (pe_not (pe_callB call_isi (by rfl) B.isi (by decide +kernel) (pa_cons (pv 0) (pa_cons (pe_bltn (v := .ty "bool") (by rfl) B.bool (by decide +kernel) rfl) pa_nil)))) (pe_one (pe_cmpR op_eq (pv 0) (pv 1) (nomark _))))))) pss_nil)
      (pss_one (ps_ret (pe_or (pe_not (pe_callB call_isi (by rfl) B.isi (by decide +kernel) (pa_cons (pv 0) (pa_cons (pe_bltn (v := .ty "int") (by rfl) B.int (by decide +kernel) rfl) pa_nil)))) (pe_one (pe_and (pe_cmpR op_eq (pe_callB call_isi (by rfl) B.isi (by decide +kernel) (pa_cons (pv 0) (pa_cons (pe_bltn (v := .ty "bool") (by rfl) B.bool (by decide +kernel) rfl) pa_nil))) (pe_callB call_isi (by rfl) B.isi (by decide +kernel) (pa_cons (pv 1) (pa_cons (pe_bltn (v := .ty "bool") (by rfl) B.bool (by decide +kernel) rfl) pa_nil))) (nomark _)) (pe_one (pe_cmpR op_eq (pv 0) (pv 1) (nomark _))))))))), ?_⟩
    refine ⟨_, rfl, _, _, _, _, _, rfl, .ty "int", ht, h1, _, rfl, iteT ⟨_, rfl, _, _, _, _, _, rfl, .ty "bool", ht, h2, _, rfl, iteT ?_⟩⟩
    refine ⟨_, rfl, _, _, _, _, _, rfl, .ty "int", ht, h1, _, rfl, iteT ⟨_, rfl, _, _, _, _, _, rfl, .ty "bool", ht, h2, _, rfl, _, rfl, iteT ⟨_, rfl, _, rfl, rfl, ?_⟩⟩⟩
    rw [decide_eq_true rfl]
    exact k
end
end WU

set_option maxRecDepth 100000
set_option maxHeartbeats 8000000
namespace WU
open PySem PySem.Spec PyProof.Rows L2
/-! ### a value is equal to itself -/
def DFR : Eqv := fun x y _ => x = y ∧ FR x
theorem mon_DFR : Mon DFR := fun _ _ _ _ _ h => h
theorem eqV_self {x : V} (h : flatV x = true) : eqV x x = true := by
  cases x with
  | non => rfl
  | bl b => show (b == b) = true; simp
  | int i => show (i == i) = true; simp
  | str z => show decide (z = z) = true; simp
  | _ => cases h
section
variable {X : Cx} {S : Addr}
theorem eqG_DFR : EqG X 0 DFR := by
  intro A pins s σ H x y u v sb I rx ry d
  obtain ⟨rfl, h | ⟨p, rfl⟩⟩ := d
  · exact eqG_flat A pins s σ H x x u v sb I rx ry ⟨h, h, eqV_self h⟩
  · cases rx
    cases ry
    exact SeqAt.EqAt.same (A := A) (s := s) (.ref p) X.prog X.w X.xe _ ⟨rfl, H, I, Ext.rfl'⟩
/-- one of the odd values -/
def Slf (S : Addr) (H : Hp) (x : V) : Prop := flatV x = true ∨ ∃ p, x = .ref p ∧ ((∃ t b, ShAt S H p t b) ∨ ∃ xs, (H p = some (.lst xs) ∨ H p = some (.tup xs)) ∧ ∀ z ∈ xs, FR z)
theorem OddV.slf {a : Addr} {H : Hp} {v : V} (h : OddV S a H v) : Slf S H v := by
  rcases h with h | ⟨p, rfl, _, h⟩
  · exact .inl h
  · exact .inr ⟨p, rfl, h⟩
theorem Slf.same {H H' : Hp} {v : V} (h : Slf S H v) (s : Same H H') : Slf S H' v := by
  rcases h with h | ⟨p, rfl, h⟩
  · exact .inl h
  · refine .inr ⟨p, rfl, ?_⟩
    rcases h with ⟨t, b, h⟩ | ⟨xs, h, hx⟩
    · exact .inl ⟨t, b, h.same s⟩
    · exact .inr ⟨xs, h.elim (fun h => .inl (s _ _ h)) fun h => .inr (s _ _ h), hx⟩
theorem fr_prs {xs : List V} {H : Hp} (h : ∀ z ∈ xs, FR z) : Prs DFR xs xs H := ⟨rfl, fun i x y h1 h2 => by
  rw [h1] at h2
  cases h2
  exact ⟨rfl, h x (List.mem_of_getElem? h1)⟩⟩
def rSelf (S : Addr) : R2 := fun x y H Q => x = y ∧ Slf S H x ∧ ∀ H', Ext H H' → Q (.bl true) H'
theorem op_self {f : Addr} {fd : FuncData} {ps : List Str} (F : FnOk X.prog X.w X.K X.mg X.base (L2.CX X.prog X.w) 1 f fd ps (spEq (ShR S)))
    (hs : PySem.W.findIn X.K (.ref S) "__eq__" = some (some (.ref f))) (hf : PySem.W.isFn X.K (.ref f) = true) (hb : Binds X.K fd ps []) (hr : Room 1 X.A) : OpR X (compareOp .Eq) (rSelf S) := by
  intro pins s σ H x y v u Q I rx ry hq
  obtain ⟨rfl, h, q⟩ := hq
  rcases h with h | ⟨p, rfl, h⟩
  · have sc : scal x x = true := by
      cases x <;> first | rfl | (cases h)
    refine op_eq pins s σ H x x v u Q I rx ry ⟨sc, ?_⟩
    rw [decide_eq_true rfl]
    exact q H Ext.rfl'
  · rcases h with ⟨t, b, h⟩ | ⟨xs, h | h, hx⟩
    · refine op_eqG (rcG_ins (C := S) (R := ShR S) (E := E0) F hs hf hb passU) hr pins s σ H _ _ v u Q I rx ry ⟨?_, q⟩
      obtain ⟨dx, e⟩ := h
      exact ⟨p, p, dx, dx, _, _, rfl, rfl, e, e, t, b, ⟨dx, e⟩, ⟨dx, e⟩⟩
    · exact op_eqG (rcG_list mon_DFR eqG_DFR) hr pins s σ H _ _ v u Q I rx ry ⟨⟨p, p, xs, xs, rfl, rfl, h, h, fr_prs hx⟩, q⟩
    · exact op_eqG (rcG_tup mon_DFR eqG_DFR) hr pins s σ H _ _ v u Q I rx ry ⟨⟨p, p, xs, xs, rfl, rfl, SqT.of h, SqT.of h, fr_prs hx⟩, q⟩
end
section
variable {P : Program} {w : World} {K : PySem.W.Frag} {mg : Str → Option Value} {base : Heap} {S : Addr}
abbrev sLT : Stmt := top 31
abbrev sLR : Stmt := top 32
/-- the list that _law_told hands back -/
def Told (x : Str) (v : V) (H : Hp) (Q : VK) : Prop := ∀ q H', Same H H' → H' q = some (.lst [.str x, v]) → Q (.ref q) H'
def spTold (K : PySem.W.Frag) : Sp := fun vs H Q _ => ∃ v u, vs = [v, u] ∧ Ty3 K H v ∧ Ty3 K H u ∧ (isFld v = false → Told "number" v H Q) ∧
  ∀ p, v = .int p → isFld v = true → (isBel p u = false → Told "number" u H Q) ∧ (u = .int 0 → Told "undefined" (.str "inverse") H Q) ∧ ∀ a, u = .int a → 0 < a → a < p → Told "letter" (.int (inv p a)) H Q
theorem scLT : FnScope ["p", "a", "e"] ["p", "a"] (defScope sLT) := ⟨rfl, rfl, rfl, by decide +kernel, rfl, by decide +kernel, by decide +kernel⟩
theorem ok_LT {f f1 : Addr} {fd fd1 : FuncData} (F : FnS K "_law_told" sLT f fd) (CI : Cal P w K mg base 4 "inverse_of" f1 fd1 ["p", "a"] (spInv K)) (T : Exc1 K mg "InvalidNumber" "value") (TU : Exc1 K mg "Undefined" "what")
    (XN : XfC K (He.ga K "InvalidNumber")) (XU : XfC K (He.ga K "Undefined")) (eNN : PySem.W.exmOne K (.ref (He.ga K "InvalidNumber")) (.ref (He.ga K "InvalidNumber")) = some true)
    (eUN : PySem.W.exmOne K (.ref (He.ga K "Undefined")) (.ref (He.ga K "InvalidNumber")) = some false) (eUU : PySem.W.exmOne K (.ref (He.ga K "Undefined")) (.ref (He.ga K "Undefined")) = some true) :
    FnOk P w K mg base (L2.CX P w) 5 f fd ["p", "a"] (spTold K) := by
  refine F.ok scLT (fun vs H Q E h => ?_) (fun cdv A outer s H vs Q E hr h => ?_)
  · obtain ⟨v, u, rfl, _⟩ := h
    rfl
  · obtain ⟨v, u, rfl, hv, hu, kN, kk⟩ := h
    have nd := scLT.nd
    refine ⟨_, pss_one (ps_try_cls rfl rfl nd takes0 (fun W pn xe tk _ => pss_one (ps_ret (pe_lst (pa_cons pe_str (pa_cons (pe_calS CI hr (pa_cons (pv 0) (pa_cons (pv 1) pa_nil)) tk) pa_nil)))))
      (.named (i := 2) rfl rfl ⟨rfl, by decide, .inl T.glob⟩ (fun a oe cls d pn hz hf => pss_one (ps_ret (pe_lst (pa_cons pe_str (pa_cons (pe_xf XN T.no hz hf (pv 2)) pa_nil)))))
      (.named (i := 2) rfl rfl ⟨rfl, by decide, .inl TU.glob⟩ (fun a oe cls d pn hz hf => pss_one (ps_ret (pe_lst (pa_cons pe_str (pa_cons (pe_xf XU TU.no hz hf (pv 2)) pa_nil))))) .nil))), ?_⟩
    refine ⟨_, rfl, _, rfl, v, u, rfl, hv, hu, ?_⟩
    refine ⟨fun e => ?_, fun p ep e => ⟨fun eb => ?_, fun e0 => ?_, fun a ea a0 a1 H' s1 => ?_⟩⟩
    · intro d H' s1 n1 hd
      exact ⟨true, eNN, fun _ ax hax => ⟨_, rfl, rfl, rfl, d, _, v, rfl, hd, (by simp [List.lookup]), (by show 2 ≤ sizeLine; decide), fun q hq => kN e q _ (s1.trans (same_new hq)) upd_same⟩, fun q => nomatch q⟩
    · intro d H' s1 n1 hd
      exact ⟨true, eNN, fun _ ax hax => ⟨_, rfl, rfl, rfl, d, _, u, rfl, hd, (by simp [List.lookup]), (by show 2 ≤ sizeLine; decide), fun q hq => (kk p ep e).1 eb q _ (s1.trans (same_new hq)) upd_same⟩, fun q => nomatch q⟩
    · intro d H' s1 n1 hd
      exact ⟨false, eUN, (fun q => nomatch q), fun _ => ⟨true, eUU, fun _ ax hax => ⟨_, rfl, rfl, rfl, d, _, .str "inverse", rfl, hd, (by simp [List.lookup]), (by show 2 ≤ sizeLine; decide), fun q hq => (kk p ep e).2.1 e0 q _ (s1.trans (same_new hq)) upd_same⟩, fun q => nomatch q⟩⟩
    · exact ⟨(by show 2 ≤ sizeLine; decide), fun q hq => (kk p ep e).2.2 a ea a0 a1 q _ (s1.trans (same_new hq)) upd_same⟩
/-- the value is told back by InvalidNumber -/
def spRef (K : PySem.W.Frag) (S : Addr) : Sp := fun vs H Q _ => ∃ v u x, vs = [v, u, x] ∧ Ty3 K H v ∧ Ty3 K H u ∧ Ty3 K H x ∧ Slf S H x ∧ ((isFld v = false ∧ x = v) ∨ ∃ p, v = .int p ∧ isFld v = true ∧ isBel p u = false ∧ x = u) ∧ ∀ H', Same H H' → Q (.bl true) H'
theorem scLR : FnScope ["p", "a", "value", "found"] ["p", "a", "value"] (defScope sLR) := ⟨rfl, rfl, rfl, by decide +kernel, rfl, by decide +kernel, by decide +kernel⟩
theorem Ty3.same {H H' : Hp} {v : V} (h : Ty3 K H v) (s : Same H H') : Ty3 K H' v := by
  obtain ⟨t, ht, h1, h2⟩ := h
  refine ⟨t, ?_, h1, h2⟩
  cases ht with
  | base b =>
    refine .base ?_
    cases b with
    | non => exact .non
    | bl x => exact .bl x
    | int i => exact .int i
    | str x => exact .str x
    | flt x => exact .flt x
    | lst e => exact .lst (s _ _ e)
    | frz e => exact .frz (s _ _ e)
    | tup e => exact .tup (s _ _ e)
    | dK e => exact .dK (s _ _ e)
    | dT e => exact .dT (s _ _ e)
    | ins e cl ha hn htk hm => exact .ins (s _ _ e) cl ha hn htk hm
  | byt b => exact .byt b
  | set e => exact .set (s _ _ e)
  | kList e c => exact .kList e c
  | kTuple e c => exact .kTuple e c
  | kDict e c => exact .kDict e c
  | fTuple e => exact .fTuple (s _ _ e)
  | fDict e => exact .fDict (s _ _ e)
theorem ok_LR {f f1 fE : Addr} {fd fd1 fdE : FuncData} (F : FnS K "_law_refuses" sLR f fd) (B : Blt2 mg) (CT : Cal P w K mg base 5 "_law_told" f1 fd1 ["p", "a"] (spTold K))
    (GE : FnOk P w K mg base (L2.CX P w) 1 fE fdE ["self", "other"] (spEq (ShR S))) (hsE : PySem.W.findIn K (.ref S) "__eq__" = some (some (.ref fE))) (hfE : PySem.W.isFn K (.ref fE) = true) (bE : Binds K fdE ["self", "other"] []) :
    FnOk P w K mg base (L2.CX P w) 6 f fd ["p", "a", "value"] (spRef K S) := by
  refine F.ok scLR (fun vs H Q E h => ?_) (fun cdv A outer s H vs Q E hr h => ?_)
  · obtain ⟨v, u, x, rfl, _⟩ := h
    rfl
  · obtain ⟨v, u, x, rfl, hv, hu, hx, sx, hc, k⟩ := h
    have nd := scLR.nd
    have hr1 := hr.mono (show 1 ≤ 5 by decide)
    have fE := hfE
    refine ⟨_, (pss_cons (ps_set (i := 3) nd rfl (Or.inl rfl) (pe_cal CT hr (pa_cons (pv 0) (pa_cons (pv 1) pa_nil)) passU))
      (pss_one (ps_ret (pe_and (pe_cmpR op_eq (pe_ix ix_list (pv 3) pe_int (fun _ _ => rfl)) pe_str (nomark _)) (pe_and (pe_cmpR (op_self GE hsE fE bE hr1) (pe_ix ix_list (pv 3) pe_int (fun _ _ => rfl)) (pv 2) (nomark _)) (pe_one (pe_cmpR op_eq (pe_callB call_isi (by rfl) B.isi (by decide +kernel) (pa_cons (pe_ix ix_list (pv 3) pe_int (fun _ _ => rfl)) (pa_cons (pe_bltn (v := .ty "bool") (by rfl) B.bool (by decide +kernel) rfl) pa_nil))) (pe_callB call_isi (by rfl) B.isi (by decide +kernel) (pa_cons (pv 2) (pa_cons (pe_bltn (v := .ty "bool") (by rfl) B.bool (by decide +kernel) rfl) pa_nil))) (nomark _)))))))), ?_⟩
    refine ⟨_, rfl, _, rfl, v, u, rfl, hv, hu, ?_⟩
    rcases hc with ⟨e, rfl⟩ | ⟨p, rfl, e, eb, rfl⟩
    · refine ⟨fun _ q H' s1 eq => ?_, fun p' _ e' => by rw [e] at e'; cases e'⟩
      refine ⟨_, rfl, q, _, _, _, rfl, rfl, SqL.of eq, rfl, rfl, _, rfl, iteTb (decide_eq_true rfl) ⟨_, rfl, q, _, _, _, rfl, rfl, SqL.of eq, rfl, _, rfl, rfl, sx.same s1, fun H2 x2 => ⟨_, rfl, iteT ?_⟩⟩⟩
      obtain ⟨t, ht, h1, h2⟩ := (hx.same s1).same x2
      refine ⟨_, rfl, q, _, _, _, rfl, rfl, SqL.of (x2 _ _ eq), rfl, _, _, _, _, _, rfl, .ty "bool", ht, h2, _, rfl, _, _, _, _, _, rfl, .ty "bool", ht, h2, rfl, ?_⟩
      rw [decide_eq_true rfl]
      exact k H2 (s1.trans x2)
    · have hb := fld_le (fld_mem e)
      refine ⟨fun e' => (by rw [e] at e'; cases e'), fun p' ep _ => ?_⟩
      cases ep
      refine ⟨fun _ q H' s1 eq => ?_, fun e0 => ?_, fun a ea a0 a1 => ?_⟩
      rotate_left
      · rw [e0] at eb
        have z : (decide ((0 : Int) ≤ 0) && decide ((0 : Int) < p)) = false := eb
        rw [decide_eq_true (show (0 : Int) < p by omega)] at z
        cases z
      · rw [ea] at eb
        have z : (decide (0 ≤ a) && decide (a < p)) = false := eb
        rw [decide_eq_true (show 0 ≤ a by omega), decide_eq_true a1] at z
        cases z
      refine ⟨_, rfl, q, _, _, _, rfl, rfl, SqL.of eq, rfl, rfl, _, rfl, iteTb (decide_eq_true rfl) ⟨_, rfl, q, _, _, _, rfl, rfl, SqL.of eq, rfl, _, rfl, rfl, sx.same s1, fun H2 x2 => ⟨_, rfl, iteT ?_⟩⟩⟩
      obtain ⟨t, ht, h1, h2⟩ := (hx.same s1).same x2
      refine ⟨_, rfl, q, _, _, _, rfl, rfl, SqL.of (x2 _ _ eq), rfl, _, _, _, _, _, rfl, .ty "bool", ht, h2, _, rfl, _, _, _, _, _, rfl, .ty "bool", ht, h2, rfl, ?_⟩
      rw [decide_eq_true rfl]
      exact k H2 (s1.trans x2)
end
end WU

set_option maxRecDepth 100000
set_option maxHeartbeats 8000000
namespace WU
open PySem PySem.Spec PyProof.Rows L2
section
variable {P : Program} {w : World} {K : PySem.W.Frag} {mg : Str → Option Value} {base : Heap} {S : Addr}
abbrev sLaw : Stmt := top 33
def spLaw (K : PySem.W.Frag) : Sp := fun vs H Q _ => ∃ (a : Addr) (ns : List Int), vs = [.ref a] ∧ SqL K H a (ns.map V.int) ∧ ns.length ≤ 63 ∧ ∀ H', Q (.bl true) H'
theorem scLaw : FnScope ["script", "hand", "value", "answer", "p", "a", "found", "wrong", "no_field"] ["script"] (defScope sLaw) := ⟨rfl, rfl, rfl, by decide +kernel, rfl, by decide +kernel, by decide +kernel⟩
theorem isBel_in {p a : Int} (h0 : 0 ≤ a) (h1 : a < p) : isBel p (.int a) = true := by
  show (decide (0 ≤ a) && decide (a < p)) = true
  rw [decide_eq_true h0, decide_eq_true h1]
  rfl
theorem isBel_out {p a : Int} (h : a < 0 ∨ p ≤ a) : isBel p (.int a) = false := by
  show (decide (0 ≤ a) && decide (a < p)) = false
  rcases h with h | h
  · rw [decide_eq_false (show ¬ 0 ≤ a by omega)]
    rfl
  · rw [decide_eq_false (show ¬ a < p by omega), Bool.and_false]
theorem ok_Law {f fD fO fT fFd fIF fLF fTd fLk fLI fLN fLR fI : Addr} {fd fdD fdO fdT fdFd fdIF fdLF fdTd fdLk fdLI fdLN fdLR fdI : FuncData} {dI : List Value} (F : FnS K "law" sLaw f fd) (B : Blt2 mg) (C : ShC K mg S)
    (CD : Cal P w K mg base 1 "_law_draws" fD fdD ["script", "many"] (spDraws K 120)) (CO : Cal P w K mg base 6 "_law_odd" fO fdO ["hand", "depth"] (spOdd S 3)) (CT : Cal P w K mg base 1 "_law_take" fT fdT ["hand", "many"] spTake)
    (CFd : Cal P w K mg base 2 "_law_field" fFd fdFd ["hand"] spLFd) (CIF : Cal P w K mg base 2 "is_field" fIF fdIF ["p"] (spIsFld K)) (CLF : Cal P w K mg base 1 "_law_is_field" fLF fdLF ["p"] (spIsFld K))
    (CTd : Cal P w K mg base 5 "_law_told" fTd fdTd ["p", "a"] (spTold K)) (CLk : Cal P w K mg base 1 "_law_like" fLk fdLk ["found", "due"] spLk) (CLI : Cal P w K mg base 1 "_law_inverse" fLI fdLI ["a", "p"] spLI)
    (CLN : Cal P w K mg base 6 "_law_no_field" fLN fdLN ["hand"] (spLN S)) (CLR : Cal P w K mg base 6 "_law_refuses" fLR fdLR ["p", "a", "value"] (spRef K S))
    (MK : Mk K S fI) (GI : FnOk P w K mg base (L2.CX P w) 2 fI fdI ["self", "top", "bottom"] (spSI S)) (bI : Binds K fdI ["self", "top", "bottom"] dI) (vI : Vals [.int 1] dI) :
    FnOk P w K mg base CX0 7 f fd ["script"] (spLaw K) := by
  refine F.ok scLaw (fun vs H Q E h => ?_) (fun cdv A outer s H vs Q E hr h => ?_)
  · obtain ⟨a, ns, rfl, _⟩ := h
    rfl
  · obtain ⟨a0, ns, rfl, hS, hl, k⟩ := h
    have nd := scLaw.nd
    have hu := hr.units
    have hr3 := hr.mono (show 3 ≤ 6 by decide)
    obtain ⟨t9, p9, k9⟩ : ∃ t : TS, PSs (cxOf CX0 P w K mg base ["script", "hand", "value", "answer", "p", "a", "found", "wrong", "no_field"] "law" (defScope sLaw) f cdv A outer s H E) ((defBody sLaw).drop 6) t ∧
        ∀ (q d : Addr) (p a : Int) (v2 v3 fv : Option V) (H' : Hp), p ∈ primes → 0 ≤ a → a < p → HandAt H' q d → t { nx := fun _ H' => Q .non H', rt := Q } [some (.ref a0), some (.ref q), v2, v3, some (.int p), some (.int a), fv, none, none] H' := by
      refine ⟨_, (pss_cons (ps_set (i := 7) nd rfl (Or.inl rfl) (pe_ix ix_list (pe_lst (pa_cons (pv 4) (pa_cons (pe_un un_neg pe_int) (pa_cons pe_bl (pa_cons pe_non (pa_cons pe_str (pa_cons (pe_tup (pa_cons pe_int pa_nil)) (pa_cons (pe_op op_pow pe_int pe_int) (pa_cons pe_bl (pa_cons (pe_op op_add (pv 4) pe_int) (pa_cons (pe_make MK GI hr3 (by rfl) C.g bI vI passU (pa_cons pe_int pa_nil)) pa_nil))))))))))) (pe_cal CT (hr.mono (by decide)) (pa_cons (pv 1) (pa_cons pe_int pa_nil)) passU) (fun _ _ => rfl)))
      (pss_cons (ps_set (i := 8) nd rfl (Or.inl rfl) (pe_cal CLN hr (pa_cons (pv 1) pa_nil) passU))
      (pss_cons (ps_if (PW.pt (pw_or (pt_not (pt_val (pe_cal CLR hr (pa_cons (pv 4) (pa_cons (pv 7) (pa_cons (pv 7) pa_nil))) passU))) (pw_or1 (pt_not (pt_val (pe_cal CLR hr (pa_cons (pv 8) (pa_cons (pv 7) (pa_cons (pv 8) pa_nil))) passU)))))) (pss_one (ps_ret pe_bl)) pss_nil)
      (pss_one (ps_ret (pe_cal CLR hr (pa_cons (pv 8) (pa_cons (pv 5) (pa_cons (pv 8) pa_nil))) passU)))))), ?_⟩
      intro q d p a v2 v3 fv H1 hp ha0 ha1 hH
      have hb := fld_le hp
      refine ⟨_, rfl, _, rfl, (by show 1 ≤ sizeLine; decide), fun T hT => ⟨_, _, rfl, rfl, ⟨by decide, by decide, by decide⟩, _, rfl, _, _, rfl, rfl, fun x y hx hy _ => ?_⟩⟩
      have nT := hH.ne hT
      have hH2 := hH.new (o := .tup [.int 1]) hT
      have nx := hH2.ne hx
      refine sh_make hx hy (by decide) fun H2 sh s2 => ⟨(by show 10 ≤ sizeLine; decide), fun Z hZ => ?_⟩
      have h2 := hH2.same s2
      have nZ := h2.ne hZ
      refine ⟨_, rfl, q, d, 10, rfl, by decide, h2.new hZ, fun r H5 c0 c1 h5 k5 => ?_⟩
      have kz : Keep q H2 H5 := (Keep.new hZ).trans k5
      have ez : H5 Z = some (.lst [.int p, .int (-1), .bl true, .non, .str "1", .ref T, .int (10 ^ (30 : Int).toNat), .bl false, .int (p + 1), .ref x]) := k5 _ _ nZ.1.symm upd_same
      have all : ∀ v ∈ ([.int p, .int (-1), .bl true, .non, .str "1", .ref T, .int (10 ^ (30 : Int).toNat), .bl false, .int (p + 1), .ref x] : List V), OddV S q H5 v ∧ isBel p v = false := by
        have fl : ∀ v, flatV v = true → OddV S q H5 v := fun v h => .inl h
        intro v hv
        simp only [List.mem_cons, List.not_mem_nil, or_false] at hv
        rcases hv with rfl | rfl | rfl | rfl | rfl | rfl | rfl | rfl | rfl | rfl
        · exact ⟨fl _ rfl, isBel_out (.inr (by omega))⟩
        · exact ⟨fl _ rfl, isBel_out (.inl (by omega))⟩
        · exact ⟨fl _ rfl, rfl⟩
        · exact ⟨fl _ rfl, rfl⟩
        · exact ⟨fl _ rfl, rfl⟩
        · refine ⟨OddV.keep (H := H2) (.inr ⟨T, rfl, nT.1.symm, .inr ⟨[.int 1], .inr (s2 _ _ upd_same), fun z hz => ?_⟩⟩) kz, rfl⟩
          rw [List.mem_singleton.mp hz]
          exact .inl rfl
        · have big : (31 : Int) ≤ 10 ^ (30 : Int).toNat := by decide +kernel
          exact ⟨fl _ rfl, isBel_out (.inr (by omega))⟩
        · exact ⟨fl _ rfl, rfl⟩
        · exact ⟨fl _ rfl, isBel_out (.inr (by omega))⟩
        · exact ⟨OddV.keep (H := H2) (.inr ⟨x, rfl, nx.1.symm, .inl ⟨_, _, sh⟩⟩) kz, rfl⟩
      obtain ⟨m, rfl⟩ : ∃ m : Nat, r = (m : Int) := ⟨r.toNat, by omega⟩
      have hm : m < 10 := by omega
      obtain ⟨v, hv⟩ : ∃ v, ([.int p, .int (-1), .bl true, .non, .str "1", .ref T, .int (10 ^ (30 : Int).toNat), .bl false, .int (p + 1), .ref x] : List V)[m]? = some v := ⟨_, List.getElem?_eq_getElem (show m < 10 from hm)⟩
      obtain ⟨ow, bw⟩ := all v (List.mem_of_getElem? hv)
      refine ⟨Z, _, _, v, rfl, rfl, SqL.of ez, atI_nat hv, ?_⟩
      refine ⟨_, rfl, q, d, rfl, h5, fun nf H6 onf fnf h6 k6 => ?_⟩
      have ow6 := ow.keep k6
      have tp := ty3_int (K := K) (H := H6) p
      refine ⟨_, rfl, _, rfl, _, rfl, .int p, v, v, rfl, tp, ow6.ty3 C, ow6.ty3 C, ow6.slf, .inr ⟨p, rfl, mem_fld hp, bw, rfl⟩, fun H7 s7 => ⟨_, rfl, iteF ?_⟩⟩
      refine ⟨_, rfl, _, rfl, _, rfl, nf, v, nf, rfl, (onf.ty3 C).same s7, (ow6.ty3 C).same s7, (onf.ty3 C).same s7, onf.slf.same s7, .inl ⟨fnf, rfl⟩, fun H8 s8 => ⟨_, rfl, iteF ?_⟩⟩
      have s68 := s7.trans s8
      exact ⟨_, rfl, _, rfl, _, rfl, nf, .int a, nf, rfl, (onf.ty3 C).same s68, ty3_int a, (onf.ty3 C).same s68, onf.slf.same s68, .inl ⟨fnf, rfl⟩, fun H9 s9 => k H9⟩
    refine ⟨_, (pss_cons (ps_set (i := 1) nd rfl (Or.inl rfl) (pe_lst (pa_cons (pe_cal CD (hr.mono (by decide)) (pa_cons (pv 0) (pa_cons pe_int pa_nil)) passU) (pa_cons pe_int pa_nil))))
      (pss_cons (ps_for (passes_of rfl) rfl (pi_list (pe_lst (pa_cons (pe_cal CO hr (pa_cons (pv 1) (pa_cons pe_int pa_nil)) passU) (pa_cons (pe_op op_sub (pe_cal CT (hr.mono (by decide)) (pa_cons (pv 1) (pa_cons pe_int pa_nil)) passU) pe_int) (pa_cons (pe_cal CO hr (pa_cons (pv 1) (pa_cons pe_int pa_nil)) passU) (pa_cons (pe_cal CFd (hr.mono (by decide)) (pa_cons (pv 1) pa_nil) passU) (pa_cons (pe_lst (pa_cons (pe_cal CFd (hr.mono (by decide)) (pa_cons (pv 1) pa_nil) passU) pa_nil)) pa_nil))))))) (pg_name (i := 2) nd rfl (Or.inl rfl)) (pss_cons (ps_set (i := 3) nd rfl (Or.inl rfl) (pe_cal CIF (hr.mono (by decide)) (pa_cons (pv 2) pa_nil) passU))
      (pss_one (ps_if (PW.pt (pw_or (pt_not (pt_val (pe_callB call_isi (by rfl) B.isi (by decide +kernel) (pa_cons (pv 3) (pa_cons (pe_bltn (v := .ty "bool") (by rfl) B.bool (by decide +kernel) rfl) pa_nil))))) (pw_or1 (pt_cmpR op_ne (pv 3) (pe_cal CLF (hr.mono (by decide)) (pa_cons (pv 2) pa_nil) passU) (nomark _))))) (pss_one (ps_ret pe_bl)) pss_nil))))
      (pss_cons (ps_set (i := 4) nd rfl (Or.inl rfl) (pe_cal CFd (hr.mono (by decide)) (pa_cons (pv 1) pa_nil) passU))
      (pss_cons (ps_set (i := 5) nd rfl (Or.inl rfl) (pe_cal CT (hr.mono (by decide)) (pa_cons (pv 1) (pa_cons (pv 4) pa_nil)) passU))
      (pss_cons (ps_set (i := 6) nd rfl (Or.inl rfl) (pe_cal CTd (hr.mono (by decide)) (pa_cons (pv 4) (pa_cons (pv 5) pa_nil)) passU))
      (pss_cons (ps_if (pt_cmpR op_eq (pv 5) pe_int (nomark _)) (pss_one (ps_if (pt_cmpR (op_neD hu) (pv 6) (pe_lst (pa_cons pe_str (pa_cons pe_str pa_nil))) (nomark _)) (pss_one (ps_ret pe_bl)) pss_nil)) (pss_one (ps_if (PW.pt (pw_or (pt_cmpR op_ne (pe_ix ix_list (pv 6) pe_int (fun _ _ => rfl)) pe_str (nomark _)) (pw_or1 (pt_not (pt_val (pe_cal CLk (hr.mono (by decide)) (pa_cons (pe_ix ix_list (pv 6) pe_int (fun _ _ => rfl)) (pa_cons (pe_cal CLI (hr.mono (by decide)) (pa_cons (pv 5) (pa_cons (pv 4) pa_nil)) passU) pa_nil)) passU)))))) (pss_one (ps_ret pe_bl)) pss_nil)))
      p9)))))), ?_⟩
    refine ⟨_, rfl, a0, ns, rfl, hS, hl, fun d ds H1 s1 nd1 e1 nn ln => ⟨(by show 2 ≤ sizeLine; decide), fun q hq => ?_⟩⟩
    have hH2 : HandAt (upd H1 q (.lst [.ref d, .int 0])) q d := ⟨ds, 0, upd_same, by rw [upd_ne (ne_of_none e1 hq)]; exact e1, nn, by decide⟩
    refine ⟨_, rfl, q, d, 2, rfl, by decide, by decide, hH2, fun o1 H3 oo1 h3 k3 => ?_⟩
    refine ⟨_, rfl, q, d, 50, rfl, by decide, h3, fun r H4 r0 r1 h4 k4 => ⟨_, _, rfl, rfl, ?_⟩⟩
    refine ⟨_, rfl, q, d, 0, rfl, by decide, by decide, h4, fun o2 H5 oo2 h5 k5 => ?_⟩
    refine ⟨_, rfl, q, d, rfl, h5, fun pf H6 hpf h6 k6 => ?_⟩
    refine ⟨_, rfl, q, d, rfl, h6, fun pg H7 hpg h7 k7 => ⟨(by show 1 ≤ sizeLine; decide), fun T hT => ?_⟩⟩
    have nT := h7.ne hT
    have h8 := h7.new (o := .lst [.int pg]) hT
    refine ⟨(by show 5 ≤ sizeLine; decide), fun Z hZ => ?_⟩
    have nZ := h8.ne hZ
    generalize hHZ : upd (upd H7 T (.lst [.int pg])) Z (.lst [o1, .int (r - 9), o2, .int pf, .ref T]) = HZ
    have h9 : HandAt HZ q d := by rw [← hHZ]; exact h8.new hZ
    have k9' : Keep q H7 HZ := by rw [← hHZ]; exact (Keep.new hT).trans (Keep.new hZ)
    have eZ : HZ Z = some (.lst [o1, .int (r - 9), o2, .int pf, .ref T]) := by rw [← hHZ]; exact upd_same
    have eT : HZ T = some (.lst [.int pg]) := by
      rw [← hHZ, upd_ne (ne_of_none upd_same hZ)]
      exact upd_same
    have ty : ∀ v ∈ ([o1, .int (r - 9), o2, .int pf, .ref T] : List V), Ty3 K HZ v := by
      intro v hv
      simp only [List.mem_cons, List.not_mem_nil, or_false] at hv
      rcases hv with rfl | rfl | rfl | rfl | rfl
      · exact OddV.ty3 C ((((((oo1.keep k4).keep k5).keep k6).keep k7).keep k9'))
      · exact ty3_int _
      · exact OddV.ty3 C ((((oo2.keep k6).keep k7).keep k9'))
      · exact ty3_int _
      · exact ty3_lst eT
    refine ⟨Z, rfl, ⟨_, SqL.of eZ⟩, for_list (K := K) (a := Z) (xs := [o1, .int (r - 9), o2, .int pf, .ref T]) (fun i σ H' => ∃ v2 v3 : Option V, σ = [some (.ref a0), some (.ref q), v2, v3, none, none, none, none, none] ∧ H' = HZ)
      ⟨none, none, rfl, rfl⟩ (fun i σ H' _ ⟨_, _, _, e⟩ => by rw [e]; exact SqL.of eZ) ?_ ?_⟩
    · rintro i y σ H' hi ⟨v2, v3, rfl, rfl⟩
      have ty1 := ty y (List.mem_of_getElem? hi)
      obtain ⟨tb, htb, _, hb2⟩ := ty3_bl (K := K) (H := H') (isFld y)
      refine ⟨_, rfl, y, rfl, ty1, _, rfl, _, _, _, _, _, rfl, .ty "bool", htb, hb2, _, rfl, iteF ⟨_, rfl, _, rfl, y, rfl, ty1, rfl, _, rfl, ?_⟩⟩
      rw [decide_eq_true rfl]
      exact iteF ⟨_, _, rfl, rfl⟩
    · rintro σ H' ⟨v2, v3, rfl, rfl⟩
      refine ⟨_, rfl, q, d, rfl, h9, fun p H8 hp h8 k8 => ?_⟩
      have hb := fld_le hp
      refine ⟨_, rfl, _, rfl, q, d, p, rfl, (by omega), h8, fun a H9 a0 a1 h9' k9'' => ?_⟩
      refine ⟨_, rfl, _, rfl, .int p, .int a, rfl, ty3_int p, ty3_int a, (fun e => by rw [mem_fld hp] at e; cases e), fun p' ep _ => ?_⟩
      cases ep
      refine ⟨(fun e => by rw [isBel_in a0 a1] at e; cases e), fun e0 q' H10 s10 eq => ?_, fun a' ea b0 b1 q' H10 s10 eq => ?_⟩
      · cases e0
        refine ⟨_, rfl, rfl, _, rfl, iteTb (decide_eq_true rfl) ⟨_, rfl, (by show 2 ≤ sizeLine; decide), fun z hz => ⟨.list [.str "undefined", .str "inverse"], .list [.str "undefined", .str "inverse"], ?_, ?_, (by decide +kernel), (by decide +kernel), _, rfl, iteFb (by decide +kernel) ?_⟩⟩⟩
        · exact .lst (SqL.of (same_new hz _ _ eq)) (.cons (.str _) (.cons (.str _) .nil))
        · exact .lst (SqL.of upd_same) (.cons (.str _) (.cons (.str _) .nil))
        · exact k9 q d p 0 _ _ _ _ hp a0 a1 ((h9'.same s10).new hz)
      · cases ea
        refine ⟨_, rfl, rfl, _, rfl, iteFb (decide_eq_false fun z => absurd (V.int.inj z) (by omega)) ⟨_, rfl, q', _, _, _, rfl, rfl, SqL.of eq, rfl, rfl, _, rfl, iteF ⟨_, rfl, q', _, _, _, rfl, rfl, SqL.of eq, rfl, _, rfl, _, rfl, a, p, rfl, hp, b0, b1, inv p a, rfl, _, rfl, iteF ?_⟩⟩⟩
        exact k9 q d p a _ _ _ _ hp a0 a1 (h9'.same s10)
end
end WU

set_option maxRecDepth 100000
set_option maxHeartbeats 0
namespace WU
open PySem PySem.Spec PyProof.Rows L2
def dG (x : Str) (i : Nat) : He.DefD := ⟨(x, none), x, x, defArgs (top i), defBody (top i), defScope (top i), [], []⟩
def dM (c m : Str) (i j : Nat) (q : Str) (ds : List He.Dv) : He.DefD := ⟨(c, some m), m, q, defArgs (inClass (top i) j), defBody (inClass (top i) j), defScope (inClass (top i) j), ds, []⟩
def fn : List He.DefD := [dG "is_integer" 8, dG "is_number" 9, dG "is_below" 10, dG "is_field" 14, dG "check_field" 15, dG "inverse_of" 16,
  dM "InvalidNumber" "__init__" 4 0 "InvalidNumber.__init__" [], dM "Undefined" "__init__" 6 0 "Undefined.__init__" [], dM "Share" "__init__" 18 0 "Share.__init__" [.int 1], dM "Share" "__eq__" 18 8 "Share.__eq__" [],
  dG "_law_draws" 23, dG "_law_take" 24, dG "_law_odd" 25, dG "_law_is_field" 26, dG "_law_field" 27, dG "_law_no_field" 28, dG "_law_inverse" 29, dG "_law_like" 30, dG "_law_told" 31, dG "_law_refuses" 32, dG "law" 33]
def frees : List Str := ["isinstance", "int", "bool", "len", "abs", "range", "tuple"]
def globs : List Str := ["is_integer", "is_number", "is_below", "is_field", "check_field", "inverse_of", "PRIMES", "Share", "_law_draws", "_law_take", "_law_odd", "_law_is_field", "_law_field", "_law_no_field", "_law_inverse", "_law_like", "_law_told", "_law_refuses", "law"]
def isB0 (o : Option Bool) (b : Bool) : Bool := decide (o = some b)
def shB (K : PySem.W.Frag) (S : Addr) : Bool :=
  (He.Fa.cls "Share").ok K && ((He.Fa.noat "Share" "top").ok K && ((He.Fa.noat "Share" "bottom").ok K && ((He.Fa.mkr "Share").ok K && ((He.Fa.meth "Share" "__eq__").ok K &&
    (decide (PySem.W.findIn K (.ref S) "__class__" = some (some (.builtin "object.__class__"))) && (decide (PySem.W.specialIn K (.builtin "object.__class__") "__get__" = some (some (.builtin "getset_descriptor.__get__"))) &&
      (isB0 (PySem.W.takesIn K (.builtin "object.__class__")) true && (isB0 (PySem.W.mroIn K S (.type "object")) true && (isB0 (PySem.W.kitOne K (.ref S) (.ref S)) true && (isB0 (PySem.W.kitOne K (.ref S) (.type "int")) false && isB0 (PySem.W.kitOne K (.ref S) (.type "bool")) false))))))))))
def exmB (K : PySem.W.Frag) (x y : Str) (b : Bool) : Bool := isB0 (PySem.W.exmOne K (.ref (He.ga K x)) (.ref (He.ga K y))) b
def ex (K : PySem.W.Frag) : Bool :=
  freeB K frees && (globB K globs && (exc1B K "InvalidNumber" "value" && (exc1B K "Undefined" "what" && (xfB K (He.ga K "InvalidNumber") && (xfB K (He.ga K "Undefined") &&
    (exmB K "InvalidNumber" "InvalidNumber" true && (exmB K "Undefined" "InvalidNumber" false && (exmB K "Undefined" "Undefined" true &&
      (He.tupB K "PRIMES" (primes.map He.Dv.int) && (decide (PySem.W.nsIn K mainGlobals "gcd" = some (some (.builtin "math.gcd"))) && shB K (He.ga K "Share")))))))))))
theorem getG {K : PySem.W.Frag} (c : He.SaysD [] fn K) (i : Nat) {x : Str} {j : Nat} (h : fn[i]? = some (dG x j)) : ∃ fd, FnS K x (top j) (He.ga K x) fd := c.def_ i h
theorem getM {K : PySem.W.Frag} (c : He.SaysD [] fn K) (i : Nat) {cl m q : Str} {ds : List He.Dv} {j k : Nat} (h : fn[i]? = some (dM cl m j k q ds)) :
    ∃ fd, FunD K m q (defArgs (inClass (top j) k)) (defBody (inClass (top j) k)) (defScope (inClass (top j) k)) (ds.map (He.Dv.v K)) [] (He.ma K (He.ga K cl) m) fd := c.def_ i h
theorem facts {P : Program} {w : World} {K : PySem.W.Frag} {h : Heap} {mg : Str → Option Value} {fa : Addr} (X : K.In h) (G : h.Ns mainGlobals mg) (hfa : mg "law" = some (.ref fa)) (c : He.SaysD [] fn K) (e : ex K = true) :
    ∃ fd : FuncData, (∀ (s : Shared) (v : Value), BindsTo s fd ⟨[v], []⟩ [("script", v)]) ∧ ∀ base : Heap, K.In base → base.Ns mainGlobals mg → FnOk P w K mg base CX0 7 fa fd ["script"] (spLaw K) := by
  obtain ⟨e1, e⟩ := and2 e
  obtain ⟨e2, e⟩ := and2 e
  obtain ⟨e3, e⟩ := and2 e
  obtain ⟨e4, e⟩ := and2 e
  obtain ⟨e5, e⟩ := and2 e
  obtain ⟨e6, e⟩ := and2 e
  obtain ⟨e7, e⟩ := and2 e
  obtain ⟨e8, e⟩ := and2 e
  obtain ⟨e9, e⟩ := and2 e
  obtain ⟨e10, e⟩ := and2 e
  obtain ⟨e11, e⟩ := and2 e
  obtain ⟨s1, e⟩ := and2 e
  obtain ⟨s2, e⟩ := and2 e
  obtain ⟨s3, e⟩ := and2 e
  obtain ⟨s4, e⟩ := and2 e
  obtain ⟨s5, e⟩ := and2 e
  obtain ⟨s6, e⟩ := and2 e
  obtain ⟨s7, e⟩ := and2 e
  obtain ⟨s8, e⟩ := and2 e
  obtain ⟨s9, e⟩ := and2 e
  obtain ⟨s10, e⟩ := and2 e
  obtain ⟨s11, s12⟩ := and2 e
  have fr : ∀ {x : Str}, x ∈ frees → mg x = none := fun hx => freeB_ok X G e1 hx
  have gl : ∀ {x : Str}, x ∈ globs → mg x = some (.ref (He.ga K x)) := fun hx => globB_ok X G e2 hx
  have B : Blt2 mg := { isi := fr (by decide +kernel), int := fr (by decide +kernel), bool := fr (by decide +kernel), len := fr (by decide +kernel), abs := fr (by decide +kernel), range := fr (by decide +kernel), tuple := fr (by decide +kernel) }
  have TN : Exc1 K mg "InvalidNumber" "value" := exc1B_ok X G e3
  have TU : Exc1 K mg "Undefined" "what" := exc1B_ok X G e4
  have XN := xfB_ok e5
  have XU := xfB_ok e6
  have b0 : ∀ {o : Option Bool} {b : Bool}, isB0 o b = true → o = some b := fun h => of_decide_eq_true h
  have C : ShC K mg (He.ga K "Share") := ⟨gl (by decide +kernel), He.cls_ok s1, He.noat_ok s2, He.noat_ok s3, of_decide_eq_true s6, of_decide_eq_true s7, b0 s8, b0 s9, b0 s10, b0 s11, b0 s12⟩
  have MK := He.mkr_ok s4
  have ME := He.meth_ok s5
  have gG : mg "gcd" = some (.builtin "math.gcd") := PySem.W.mg_of X G (of_decide_eq_true e11)
  obtain ⟨fd0, F0⟩ := getG c 0 (x := "is_integer") (j := 8) rfl
  obtain ⟨fd1, F1⟩ := getG c 1 (x := "is_number") (j := 9) rfl
  obtain ⟨fd2, F2⟩ := getG c 2 (x := "is_below") (j := 10) rfl
  obtain ⟨fd3, F3⟩ := getG c 3 (x := "is_field") (j := 14) rfl
  obtain ⟨fd4, F4⟩ := getG c 4 (x := "check_field") (j := 15) rfl
  obtain ⟨fd5, F5⟩ := getG c 5 (x := "inverse_of") (j := 16) rfl
  obtain ⟨fd6, F6⟩ := getM c 6 (cl := "InvalidNumber") (m := "__init__") (q := "InvalidNumber.__init__") (ds := []) (j := 4) (k := 0) rfl
  obtain ⟨fd7, F7⟩ := getM c 7 (cl := "Undefined") (m := "__init__") (q := "Undefined.__init__") (ds := []) (j := 6) (k := 0) rfl
  obtain ⟨fd8, F8⟩ := getM c 8 (cl := "Share") (m := "__init__") (q := "Share.__init__") (ds := [.int 1]) (j := 18) (k := 0) rfl
  obtain ⟨fd9, F9⟩ := getM c 9 (cl := "Share") (m := "__eq__") (q := "Share.__eq__") (ds := []) (j := 18) (k := 8) rfl
  obtain ⟨fd10, F10⟩ := getG c 10 (x := "_law_draws") (j := 23) rfl
  obtain ⟨fd11, F11⟩ := getG c 11 (x := "_law_take") (j := 24) rfl
  obtain ⟨fd12, F12⟩ := getG c 12 (x := "_law_odd") (j := 25) rfl
  obtain ⟨fd13, F13⟩ := getG c 13 (x := "_law_is_field") (j := 26) rfl
  obtain ⟨fd14, F14⟩ := getG c 14 (x := "_law_field") (j := 27) rfl
  obtain ⟨fd15, F15⟩ := getG c 15 (x := "_law_no_field") (j := 28) rfl
  obtain ⟨fd16, F16⟩ := getG c 16 (x := "_law_inverse") (j := 29) rfl
  obtain ⟨fd17, F17⟩ := getG c 17 (x := "_law_like") (j := 30) rfl
  obtain ⟨fd18, F18⟩ := getG c 18 (x := "_law_told") (j := 31) rfl
  obtain ⟨fd19, F19⟩ := getG c 19 (x := "_law_refuses") (j := 32) rfl
  obtain ⟨fd20, F20⟩ := getG c 20 (x := "law") (j := 33) rfl
  have efa := hfa.symm.trans (gl (x := "law") (by decide +kernel))
  cases efa
  have bl := FunD.bindsA (ps := ["script"]) F20 fun _ _ _ _ _ _ us hl => match us, hl with | [_], _ => rfl
  obtain ⟨dI, vI, bI⟩ := FunD.binds1 (ps := ["self", "top", "bottom"]) F8 2 0 (by intro z; cases z) rfl fun T kV doc pm an cdv ct us its hu hi => match us, its, hu, hi with | [_, _], [_], _, _ => ⟨_, rfl, rfl⟩
  refine ⟨fd20, fun s v => bl s [v] rfl, fun base _ _ => ?_⟩
  have C0 : Cal P w K mg base 1 "is_integer" _ fd0 ["value"] (spIsInt K) := cal_mk F0 (gl (by decide +kernel)) (ok_isInt F0 B.toBlt) fun _ _ _ _ _ _ us hl => match us, hl with | [_], _ => rfl
  have C1 : Cal P w K mg base 2 "is_number" _ fd1 ["value"] (spIsNum K) := cal_mk F1 (gl (by decide +kernel)) (ok_isNum F1 C0) fun _ _ _ _ _ _ us hl => match us, hl with | [_], _ => rfl
  have C2 : Cal P w K mg base 3 "is_below" _ fd2 ["value", "limit"] (spIsBel K) := cal_mk F2 (gl (by decide +kernel)) (ok_isBel F2 C1) fun _ _ _ _ _ _ us hl => match us, hl with | [_, _], _ => rfl
  have tP : ∀ H, SqT K H (He.ga K "PRIMES") (primes.map V.int) := fun H => He.tupB_ok e10 H
  have C3 : Cal P w K mg base 2 "is_field" _ fd3 ["p"] (spIsFld K) := cal_mk F3 (gl (by decide +kernel)) (ok_isFld F3 C0 (gl (by decide +kernel)) tP) fun _ _ _ _ _ _ us hl => match us, hl with | [_], _ => rfl
  have GN := ok_init1 (P := P) (w := w) (K := K) (mg := mg) (base := base) (C := He.ga K "InvalidNumber") F6 scIN bodyIN
  have bN : Binds K fd6 ["self", "value"] [] := FunD.bindsN F6 fun _ _ _ _ _ _ us hl => match us, hl with | [_, _], _ => rfl
  have GU := ok_init1 (P := P) (w := w) (K := K) (mg := mg) (base := base) (C := He.ga K "Undefined") F7 scIU bodyIU
  have bU : Binds K fd7 ["self", "what"] [] := FunD.bindsN F7 fun _ _ _ _ _ _ us hl => match us, hl with | [_, _], _ => rfl
  have C4 : Cal P w K mg base 3 "check_field" _ fd4 ["p"] (spCheck K) := cal_mk F4 (gl (by decide +kernel)) (ok_check F4 C3 TN GN bN) fun _ _ _ _ _ _ us hl => match us, hl with | [_], _ => rfl
  have C5 : Cal P w K mg base 4 "inverse_of" _ fd5 ["p", "a"] (spInv K) := cal_mk F5 (gl (by decide +kernel)) (ok_inv F5 C4 C2 TN TU B.range GN bN GU bU) fun _ _ _ _ _ _ us hl => match us, hl with | [_, _], _ => rfl
  have GI := ok_SI (P := P) (w := w) (base := base) F8 C0 C gG
  have GE := ok_SE (P := P) (w := w) (base := base) F9 C B.toBlt
  have bE : Binds K fd9 ["self", "other"] [] := FunD.bindsN F9 fun _ _ _ _ _ _ us hl => match us, hl with | [_, _], _ => rfl
  have CD : Cal P w K mg base 1 "_law_draws" _ fd10 ["script", "many"] (spDraws K 120) := cal_mk F10 (gl (by decide +kernel)) (ok_draws F10 B (by decide) (by decide)) fun _ _ _ _ _ _ us hl => match us, hl with | [_, _], _ => rfl
  have CT : Cal P w K mg base 1 "_law_take" _ fd11 ["hand", "many"] spTake := cal_mk F11 (gl (by decide +kernel)) (ok_take F11 B) fun _ _ _ _ _ _ us hl => match us, hl with | [_, _], _ => rfl
  have bO : Binds K fd12 ["hand", "depth"] [] := FunD.bindsN F12 fun _ _ _ _ _ _ us hl => match us, hl with | [_, _], _ => rfl
  have co : ∀ n, FnOk P w K mg base (L2.CX P w) (3 + n) (He.ga K "_law_odd") fd12 ["hand", "depth"] (spOdd (He.ga K "Share") n) := by
    intro n
    induction n with
    | zero => exact ⟨fun vs H Q E h => by obtain ⟨a, d, m, rfl, m0, m1, _⟩ := h; rfl, fun A outer s H args us vs Q E hr he hb hv hs => by obtain ⟨a, d, m, rfl, m0, m1, _⟩ := hs; exact absurd m1 (by omega)⟩
    | succ n ih => exact ok_odd F12 B C CT MK GI bI vI n ⟨gl (by decide +kernel), F12.kp, bO, ih⟩
  have CO3 : Cal P w K mg base 6 "_law_odd" _ fd12 ["hand", "depth"] (spOdd (He.ga K "Share") 3) := ⟨gl (by decide +kernel), F12.kp, bO, co 3⟩
  have CO2 : Cal P w K mg base 5 "_law_odd" _ fd12 ["hand", "depth"] (spOdd (He.ga K "Share") 2) := ⟨gl (by decide +kernel), F12.kp, bO, co 2⟩
  have CLF : Cal P w K mg base 1 "_law_is_field" _ fd13 ["p"] (spIsFld K) := cal_mk F13 (gl (by decide +kernel)) (ok_LF F13 B) fun _ _ _ _ _ _ us hl => match us, hl with | [_], _ => rfl
  have CFd : Cal P w K mg base 2 "_law_field" _ fd14 ["hand"] spLFd := cal_mk F14 (gl (by decide +kernel)) (ok_LFd F14 B CLF CT) fun _ _ _ _ _ _ us hl => match us, hl with | [_], _ => rfl
  have CLN : Cal P w K mg base 6 "_law_no_field" _ fd15 ["hand"] (spLN (He.ga K "Share")) := cal_mk F15 (gl (by decide +kernel)) (ok_LN F15 B C CLF CT CO2 MK GI bI vI) fun _ _ _ _ _ _ us hl => match us, hl with | [_], _ => rfl
  have CLI : Cal P w K mg base 1 "_law_inverse" _ fd16 ["a", "p"] spLI := cal_mk F16 (gl (by decide +kernel)) (ok_LI F16 B) fun _ _ _ _ _ _ us hl => match us, hl with | [_, _], _ => rfl
  have CLk : Cal P w K mg base 1 "_law_like" _ fd17 ["found", "due"] spLk := cal_mk F17 (gl (by decide +kernel)) (ok_Lk F17 B) fun _ _ _ _ _ _ us hl => match us, hl with | [_, _], _ => rfl
  have CTd : Cal P w K mg base 5 "_law_told" _ fd18 ["p", "a"] (spTold K) := cal_mk F18 (gl (by decide +kernel)) (ok_LT F18 C5 TN TU XN XU (b0 e7) (b0 e8) (b0 e9)) fun _ _ _ _ _ _ us hl => match us, hl with | [_, _], _ => rfl
  have CLR : Cal P w K mg base 6 "_law_refuses" _ fd19 ["p", "a", "value"] (spRef K (He.ga K "Share")) := cal_mk F19 (gl (by decide +kernel)) (ok_LR F19 B CTd GE ME.at_ ME.fn bE) fun _ _ _ _ _ _ us hl => match us, hl with | [_, _, _], _ => rfl
  exact ok_Law F20 B C CD CO3 CT CFd C3 CLF CTd CLk CLI CLN CLR MK GI bI vI
end WU

namespace WU
open PySem PySem.Spec PyProof.Rows L2
theorem walk {l : PySem.W.OpenLaw} {q : Program} {loose : List Str} {XP : (Str → Option Value) → Heap → Prop} {YP : World → Heap → Prop} {d : DefRec} {K : Params → PySem.W.Frag} (hn : l.most = some 63) (hdf : d.params.defaults = []) (hname : d.name = ("law" : Str))
    (hY : ∀ (w : World) (h : Heap), YP w h → (K w.params).In h) (hD : ∀ w : World, He.SaysD [] fn (K w.params)) (hE : ∀ w : World, ex (K w.params) = true) :
    PySem.W.WalkO q loose XP YP l.row.toRowW d [] (fun f vs => PySem.call f vs) :=
  L2.walk_of (n := 63) (k := 7) (x := "script") (CX := fun _ => CX0) (sp := fun w => spLaw (K w.params)) hn (by decide) hdf ⟨rfl, by decide, by decide⟩ hY
    (fun w mg fa h KX G hmg => facts KX G (by rw [← hname]; exact hmg) (hD w) (hE w)) (fun _ _ a ns hl _ hS => ⟨a, ns, rfl, hS, hl, fun _ => rfl⟩) fun _ _ _ _ _ z => z
end WU
open PySem PySem.W PyProof.Rows
set_option maxRecDepth 100000 in
set_option maxHeartbeats 0 in
theorem PySem.Challenge.cw_wishunseen_k03_fields_and_inverses_holds : PySem.Challenge.rw_wishunseen_k03_fields_and_inverses.Holds := by
  w_on; o_law; k_head; (case hw => w_witness2)
  k_fill
  refine WU.walk (l := PySem.Challenge.rw_wishunseen_k03_fields_and_inverses) rfl rfl (by rfl) (fun w h Y => PySem.W.kIn_of Y) ?D ?E
  case D =>
    intro w
    show He.obsD [] WU.fn _ = He.valD WU.fn
    kernel_rfl
  case E =>
    intro w
    kernel_rfl

