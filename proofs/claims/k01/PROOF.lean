import PyProof.Rows.All
import Wide.All
import OpenK.AllK
import Wide.FinOn
import HandS.Base
import HandS.Call
import HandS.Exc
import HandS.List
import HandS.Comp
import HandS.Ends
import HandS.ExcOwn
import HandS.ExcInit
import HandS.OwnEq
import HandS.Words
import HandS.Defaults
import HandS.Head0
import HandS.Head1
import HandS.Head2
import HandS.HeadHook1
import HandS.HeadHook2
import HandS.IsInst
import HandS.ExcField
import HandS.ExcIs
import HandS.HotCalls
import HandS.Conv
import HandS.WordsExc
import HandS.MakeKw
import HandS.Text
import HandS.ExcInitHot
import HandS.HeadEnd
import PySem.Challenge.RW_wishunseen_k01_errors
set_option Elab.async false
set_option linter.all false
set_option maxRecDepth 100000
set_option maxHeartbeats 4000000
/-! try with several clauses «except C as n», and with clauses without a name among them -/
namespace WU
open PySem PySem.Spec PyProof.Rows L2
/-- a clause: the class, its name's slot (if it has one), what the suite does -/
abbrev Cl := Value × Option Nat × (Addr → Value → Option Addr → TS)
/-- behind a named suite the slot is empty -/
def wiped (i : Nat) (D : Ends) : Ends := { nx := fun z h => D.nx (z.set i none) h, rt := D.rt, bk := fun z h => D.bk (z.set i none) h, ct := fun z h => D.ct (z.set i none) h }
def suiteOf (i : Option Nat) (ts : TS) (D : Ends) (σ : L2.St) (H : Hp) (a : Addr) : Prop :=
  match i with
  | some j => ts (wiped j D) (σ.set j (some (V.ref a))) H
  | none => ts D σ H
/-- what the clauses wish of an exception that leaves the body -/
def wCls (K : PySem.W.Frag) (Wout : WX) (D : Ends) : List Cl → WX
  | [] => Wout
  | q :: r => fun cls d σ H => ∃ b, PySem.W.exmOne K cls q.1 = some b ∧ (b = true → ∀ a, H a = none → suiteOf q.2.1 (q.2.2 a cls d) D σ H a) ∧ (b = false → wCls K Wout D r cls d σ H)
inductive Clauses (X : Cx) : List ExceptHandler → List Cl → Prop
  | nil : Clauses X [] []
  | named {x n : Str} {i : Nat} {c : Value} {ts : Addr → Value → Option Addr → TS} {b : Stmt} {su : List Stmt} {p q : Pos} {hs : List ExceptHandler} {l : List Cl}
      (hi : X.N[i]? = some n) (hl : X.env.kindOf n = some .local) (hc : Names X x c)
      (hsu : ∀ (a : Addr) (oe : Obj) (cls : Value) (d : Option Addr) (pn : List (Addr × Obj)), Zc cls d oe → (∃ vs, oe.data = .fields vs) → PSs (X.suite a ((a, oe) :: pn)) (b :: su) (ts a cls d))
      (r : Clauses X hs l) : Clauses X (.ExceptHandler (some (.Name x p)) (some n) (b :: su) q :: hs) ((c, some i, ts) :: l)
section
variable {X : Cx} {body : List Stmt} {h₀ : ExceptHandler} {hds : List ExceptHandler} {l : List Cl} {pos : Pos} {tb : WX → TS} {Wout : WX}
theorem ps_try_cls (hst : X.stack = X.env :: X.outer) (hfr : X.env.frame = some X.env.locals) (hN : X.N.Nodup) (tk : Takes X Wout)
    (hb : ∀ (W : WX) (pn : List (Addr × Obj)) (xe : Value → Shared → Prop), Takes (X.tr pn xe) W →
      PassesOwn (model X.prog X.w) X.A X.env xe → PSs (X.tr pn xe) body (tb W))
    (hh : Clauses X (h₀ :: hds) l) : PS X (.Try body (h₀ :: hds) [] [] pos) (fun D σ H => tb (wCls X.K Wout D l) D σ H) := by
  constructor
  intro pins s σ H D I h
  have okX := I.ok
  have frA : X.A.frames = some (X.env :: X.outer) := okX.frames.trans (congrArg some hst)
  apply wpAny_Try_except
  let xe1 : Value → Shared → Prop := fun e s₁ => wpAny (model X.prog X.w) X.A (noteFrame e X.env) (fun _ s₂ =>
    wpAny (model X.prog X.w) X.A (setFlight e none) (fun _ s₃ => wpAny (model X.prog X.w) X.A (handleBy e X.env (h₀ :: hds))
      (SP X pins D) X.xe s₃) X.xe s₂) X.xe s₁
  have taken : Takes (X.tr (X.pn ++ pins) xe1) (wCls X.K Wout D l) := by
    rintro u st ⟨a, B, sI, pins', σ', H', cls, d, rfl, J', nb, up, sky, na, os, ag, wish⟩
    have J : Inv X pins σ' H' sI := J'.ofTry okX
    rw [show (X.tr (X.pn ++ pins) xe1).stack = X.env :: X.outer from hst] at sky
    show wpAny (model X.prog X.w) X.A (noteFrame (Value.ref a) X.env) _ _ _
    refine Sky.land Zc.steady frA hfr sky fun hA flA upA => ?_
    have JA : Inv X pins σ' H' { st with heap := hA } := J.landed nb flA.1 (up.trans upA) os ag
    obtain ⟨oA, vA, eA, zA, dA⟩ := flA.there
    have offF : a ∉ frs (X.env :: X.outer) := fun hm => by
      obtain ⟨_, o', e', hn⟩ := flA.2.2.1.mem hm
      cases eA.symm.trans e'
      exact hn _ dA
    have offL : a ≠ X.env.locals := by
      rintro rfl
      exact offF (List.mem_filterMap.mpr ⟨X.env, .head _, hfr⟩)
    have offO : a ∉ X.fs := fun hm => by
      obtain ⟨en, hen, q⟩ := List.mem_filterMap.mp hm
      exact offF (List.mem_filterMap.mpr ⟨en, .tail _ hen, q⟩)
    have SA := JA.suite eA dA na offL offO
    have isT : PySem.W.Looks (model X.prog X.w) hA (typeOf (.ref a)) cls := by
      intro A Q E s2 kk q
      refine wpAny_typeOf_ref (kk _ _ eA) ?_
      rw [zA.1]
      exact q
    have onward : ∀ {hs : List ExceptHandler} {l' : List Cl}, Clauses X hs l' → wCls X.K Wout D l' cls d σ' H' →
        wpAny (model X.prog X.w) X.A (handleBy (.ref a) X.env hs) (SP X pins D) X.xe { st with heap := hA } := by
      intro hs l' hk
      induction hk with
      | nil =>
        intro wout
        apply wpAny_handleBy_nil
        obtain ⟨_, _, _, oe, vs, T, oT, tt, he, hz, hd, h1, hr⟩ := id flA
        unfold PySem.passOn
        apply wpAny_bind
        refine wpAny_field he hd h1 ?_
        have nn : ¬ ((Value.ref T == Value.none) = true) := by simp
        rw [if_neg nn]
        have fin : wpAny (model X.prog X.w) X.A (setFlight (.ref a) X.env.frame) (fun _ s4 =>
            wpAny (model X.prog X.w) X.A (throw (.ref a) : Sem Flow) (SP X pins D) X.xe s4) X.xe { st with heap := hA } := by
          rw [hfr]
          refine HandSPX.setFlight_upZ flA fun hB hhB upB => ?_
          apply wpAny_throw
          apply tk
          refine ⟨a, B, sI, pins, σ', H', cls, d, rfl, J, nb, (up.trans upA).trans upB, ?_, na, os, ag, wout⟩
          right; right
          rw [hst]
          exact hhB
        first
          | exact wpAny_bind (wpAny_pure (wpAny_bind fin))
          | exact wpAny_bind fin
      | @named x n i c ts b su p q hs2 l2 hi hl hc hsu r ih =>
        rintro ⟨yes, hyn, onYes, onNo⟩
        refine wpAny_handleBy_cons (codeAny_handlers_test ?_) (by intro z; cases z)
        have hits := PySem.W.exm_one (M := model X.prog X.w) JA.kIn isT hyn
        have asked : ∀ {Q E : Value → Shared → Prop}, Q c { st with heap := hA } →
            wpAny (model X.prog X.w) (X.A.mark (some (.ref a))) (eval (.Name x p) X.env) Q E { st with heap := hA } := by
          intro Q E q
          obtain ⟨g1, g2, g3⟩ := hc
          rcases g3 with g3 | ⟨g3, g4, g5⟩
          · exact ld_glob (X := X.suite a ((a, oA) :: (X.pn ++ pins))) SA g1 g3 q g2
          · exact ld_blt (X := X.suite a ((a, oA) :: (X.pn ++ pins))) SA g1 g3 g4 q g5 g2
        apply asked
        refine hits.here ?_
        cases yes with
        | false => exact ih (onNo rfl)
        | true =>
          apply codeAny_handlers_suite_as
          refine HandSPX.lands_againZ flA fun hB flB upB => ?_
          have JB : Inv X pins σ' H' { st with heap := hB } := J.landed nb flB.1 ((up.trans upA).trans upB) os ag
          obtain ⟨oB, vB, eB, zB, dB⟩ := flB.there
          have SB := JB.suite eB dB na offL offO
          refine store_ok (X := X.suite a ((a, oB) :: (X.pn ++ pins))) (v := .ref a) SB hN hi (Or.inl hl) rfl (fun s5 S5 => ?_) (Or.inr hl)
          have runs := (hsu a oB cls d (X.pn ++ pins) zB ⟨_, dB⟩).run [] s5 _ H' _ S5 (onYes rfl a na)
          refine wpAny_mono runs (fun f s6 hsp => ?_) fun _ _ z => z.elim
          have left_ : ∀ {σ6 : L2.St} {H6 : Hp} {Q : Shared → Prop}, Inv (X.suite a ((a, oB) :: (X.pn ++ pins))) [] σ6 H6 s6 →
              (∀ s7, Inv X pins (σ6.set i none) H6 s7 → Q s7) →
              wpAny (model X.prog X.w) X.A (do bindName X.env n .none; unbindBehindTheSuite X.env n q) (fun _ s7 => Q s7) X.xe s6 :=
            fun S6 k => gone_ok (S6.unsuite okX) hN hi hl k
          match f, hsp with
          | .next, ⟨σ6, H6, S6, q6⟩ => exact left_ S6 fun s7 J7 => ⟨_, _, J7, q6⟩
          | .brk, ⟨σ6, H6, S6, q6⟩ => exact left_ S6 fun s7 J7 => ⟨_, _, J7, q6⟩
          | .cont, ⟨σ6, H6, S6, q6⟩ => exact left_ S6 fun s7 J7 => ⟨_, _, J7, q6⟩
          | .ret u, ⟨v6, σ6, H6, S6, r6, q6⟩ => exact left_ S6 fun s7 J7 => ⟨_, _, _, J7, r6, q6⟩
    exact onward hh wish
  have body_ := (hb _ (X.pn ++ pins) xe1 taken PassesOwn.looking).run [] s σ H D (I.toTry _) h
  refine wpAny_mono body_ (fun f s1 hsp => ?_) fun _ _ z => z
  match f, hsp with
  | .next, ⟨σ', H', J', q⟩ => exact wpAny_execs_nil ⟨σ', H', J'.ofTry okX, q⟩
  | .brk, ⟨σ', H', J', q⟩ => exact ⟨σ', H', J'.ofTry okX, q⟩
  | .cont, ⟨σ', H', J', q⟩ => exact ⟨σ', H', J'.ofTry okX, q⟩
  | .ret u, ⟨v, σ', H', J', r, q⟩ => exact ⟨v, σ', H', J'.ofTry okX, r, q⟩
end
end WU

set_option maxRecDepth 100000
set_option maxHeartbeats 4000000
namespace WU
open PySem PySem.Spec PyProof.Rows L2
/-! ### the head's facts -/
/-- the facts of the defs, and one more Bool -/
def hookB (n : Nat) (fn : List He.DefD) (ex : PySem.W.Frag → Bool) : PySem.W.Hook where
  α := He.AlD × Bool
  obs := fun s => (He.obsDG n [] fn s.heap.get?, ex (He.frG s.heap.get? (He.asD s.heap.get? n)))
  val := fun _ => (He.valD fn, true)
  says := fun _ h => ∃ K : PySem.W.Frag, K.In h ∧ He.SaysD [] fn K ∧ ex K = true
  of := fun _ _ e => ⟨_, He.frG_in, congrArg Prod.fst e, congrArg Prod.snd e⟩
  keeps := fun _ _ _ ⟨K, hK, c⟩ k => ⟨K, PySem.W.Frag.In.keeps hK k, c⟩
def obB (n : Nat) (fn : List He.DefD) (ex : PySem.W.Frag → Bool) (s : PySem.W.SharedT) : He.AlD × Bool :=
  (He.obsDG n [] fn (HandSHeadRun.getT s), ex (He.frG (HandSHeadRun.getT s) (He.asD (HandSHeadRun.getT s) n)))
theorem obB_eq {n : Nat} {fn : List He.DefD} {ex : PySem.W.Frag → Bool} (s : PySem.W.SharedT) : obB n fn ex s = (hookB n fn ex).obs s.abs := by
  have e : HandSHeadRun.getT s = s.abs.heap.get? := funext (HandSHeadRun.getT_eq s)
  unfold obB
  rw [e]
  rfl
theorem and2 {a b : Bool} (h : (a && b) = true) : a = true ∧ b = true := Bool.and_eq_true_iff.mp h
/-- names that the module leaves to the built-ins; names that stand for objects -/
def freeB (K : PySem.W.Frag) (xs : List Str) : Bool := xs.all fun x => decide (PySem.W.nsIn K mainGlobals x = some none)
def globB (K : PySem.W.Frag) (xs : List Str) : Bool := xs.all fun x => decide (PySem.W.nsIn K mainGlobals x = some (some (.ref (He.ga K x))))
section
variable {K : PySem.W.Frag} {h : Heap} {mg : Str → Option Value}
theorem freeB_ok (X : K.In h) (G : h.Ns mainGlobals mg) {xs : List Str} (c : freeB K xs = true) {x : Str} (hx : x ∈ xs) : mg x = none :=
  PySem.W.mg_none_of X G (of_decide_eq_true (List.all_eq_true.mp c x hx))
theorem globB_ok (X : K.In h) (G : h.Ns mainGlobals mg) {xs : List Str} (c : globB K xs = true) {x : Str} (hx : x ∈ xs) : mg x = some (.ref (He.ga K x)) :=
  PySem.W.mg_of X G (of_decide_eq_true (List.all_eq_true.mp c x hx))
end
/-! ### an own exception class over ValueError (or over own ones that are) -/
def oexShape (C : Addr) : Option Obj → Bool
  | some ⟨.type t, _, .cls ⟨_, _, .ref C' :: bm, _, _, true, _, _, _, _, false⟩, ⟨[_, _, _, _, some (.builtin id), _]⟩⟩ =>
    decide (t = "type") && (decide (C' = C) && (decide (id = "ValueError.__new__") && PySem.HandSPX.refsVE bm))
  | _ => false
def oexB (K : PySem.W.Frag) (C : Addr) : Bool :=
  oexShape C (K.lookup C) && (decide (PySem.W.findIn K (.ref C) "__setattr__" = some (some (.builtin "object.__setattr__"))) &&
    (decide (PySem.W.subIn K (.ref C) (.type "BaseException") = some true) && (decide (PySem.W.typeIn K (.ref C) = some (.type "type")) && PySem.W.keepIn K (.ref C))))
theorem oexB_ok {K : PySem.W.Frag} {C : Addr} (h : oexB K C = true) : OexC K C := by
  obtain ⟨h1, h⟩ := and2 h
  obtain ⟨h2, h⟩ := and2 h
  obtain ⟨h3, h⟩ := and2 h
  obtain ⟨h4, h5⟩ := and2 h
  refine ⟨?_, of_decide_eq_true h2, of_decide_eq_true h3, of_decide_eq_true h4, h5⟩
  unfold oexShape at h1
  split at h1
  · rename_i t dd nm bs C' bm N q sn sub ab col k0 k1 k2 k3 id k5 heq
    obtain ⟨e1, h1⟩ := and2 h1
    obtain ⟨e2, h1⟩ := and2 h1
    obtain ⟨e3, e4⟩ := and2 h1
    have q1 := of_decide_eq_true e1
    have q2 := of_decide_eq_true e2
    have q3 := of_decide_eq_true e3
    subst q1 q2 q3
    exact ⟨_, _, _, _, _, _, _, _, _, _, _, _, _, _, _, heq, e4⟩
  · cases h1
/-- what every body asks of an exception class X whose __init__ stands at fI and keeps one field f -/
structure Exc1 (K : PySem.W.Frag) (mg : Str → Option Value) (x : Str) (f : Str) : Prop where
  glob : mg x = some (.ref (He.ga K x))
  oex : OexC K (He.ga K x)
  no : PySem.W.findIn K (.ref (He.ga K x)) f = some none
  init : PySem.W.findIn K (.ref (He.ga K x)) "__init__" = some (some (.ref (He.ma K (He.ga K x) "__init__")))
  tI : PySem.W.typeIn K (.ref (He.ma K (He.ga K x) "__init__")) = some (.type "function")
def exc1B (K : PySem.W.Frag) (x f : Str) : Bool :=
  decide (PySem.W.nsIn K mainGlobals x = some (some (.ref (He.ga K x)))) && (oexB K (He.ga K x) && (decide (PySem.W.findIn K (.ref (He.ga K x)) f = some none) &&
    (decide (PySem.W.findIn K (.ref (He.ga K x)) "__init__" = some (some (.ref (He.ma K (He.ga K x) "__init__")))) && decide (PySem.W.typeIn K (.ref (He.ma K (He.ga K x) "__init__")) = some (.type "function")))))
theorem exc1B_ok {K : PySem.W.Frag} {h : Heap} {mg : Str → Option Value} (X : K.In h) (G : h.Ns mainGlobals mg) {x f : Str} (c : exc1B K x f = true) : Exc1 K mg x f := by
  obtain ⟨h1, c⟩ := and2 c
  obtain ⟨h2, c⟩ := and2 c
  obtain ⟨h3, c⟩ := and2 c
  obtain ⟨h4, h5⟩ := and2 c
  exact ⟨PySem.W.mg_of X G (of_decide_eq_true h1), oexB_ok h2, of_decide_eq_true h3, of_decide_eq_true h4, of_decide_eq_true h5⟩
/-- an if whose test is known by an equation -/
theorem iteTb {c : Bool} {A B : Prop} (hc : c = true) (h : A) : if c = true then A else B := by
  rw [if_pos hc]
  exact h
theorem iteFb {c : Bool} {A B : Prop} (hc : c = false) (h : B) : if c = true then A else B := by
  rw [if_neg (by rw [hc]; decide)]
  exact h
theorem iteD {c : Prop} [Decidable c] {A B : Prop} (h1 : c → A) (h2 : ¬ c → B) : if decide c = true then A else B := by
  by_cases h : c
  · rw [decide_eq_true h]
    exact iteT (h1 h)
  · rw [decide_eq_false h]
    exact iteF (h2 h)
theorem ixN_at {n q : Nat} (h : q < n) : ixN n (q : Int) = some q := by
  unfold ixN
  rw [if_pos (by omega), if_pos (by omega)]
  simp
/-! ### calls -/
/-- the name x stands for a def that keeps sp -/
structure Cal (P : Program) (w : World) (K : PySem.W.Frag) (mg : Str → Option Value) (base : Heap) (k : Nat) (x : Str) (f : Addr) (fd : FuncData) (ps : List Str) (sp : Sp) : Prop where
  glob : mg x = some (.ref f)
  kp : PySem.W.keepIn K (.ref f) = true
  binds : Binds K fd ps []
  ok : FnOk P w K mg base (L2.CX P w) k f fd ps sp
theorem passU {X : Cx} : Passes (L2.CX X.prog X.w) X E0 := fun _ _ _ _ _ _ _ ⟨_, _, _, _, _, _, _, _, _, _, _, _, z⟩ => z.elim
section
variable {X : Cx} {k : Nat} {x : Str} {f : Addr} {fd : FuncData} {ps : List Str} {sp : Sp} {E : XK} {e : Expr} {es : List Expr} {t : TA} {p pos : Pos}
theorem pe_cal (C : Cal X.prog X.w X.K X.mg X.base k x f fd ps sp) (hr : Room k X.A) (ha : PA X (e :: es) t) (hx : Passes (L2.CX X.prog X.w) X E) (hg : Gl X x := by rfl) (hdb : (x == ("__debug__" : Str)) = false := by decide)
    (he : starEach (e :: es) X.env = (false, eval e X.env) :: starEach es X.env := by rfl) (hpl : (backTo pos (starEach es X.env)).any (·.1) = false := by rfl) :
    PE X (.Call (.Name x p) (e :: es) [] pos) (tCall sp [] E t) := pe_call C.ok hr hg C.glob C.kp C.binds .nil hx ha hdb he hpl
theorem pe_calS {W : WX} (C : Cal X.prog X.w X.K X.mg X.base k x f fd ps sp) (hr : Room k X.A) (ha : PA X (e :: es) t) (tk : Takes X W) (hg : Gl X x := by rfl) (hdb : (x == ("__debug__" : Str)) = false := by decide)
    (he : starEach (e :: es) X.env = (false, eval e X.env) :: starEach es X.env := by rfl) (hpl : (backTo pos (starEach es X.env)).any (·.1) = false := by rfl) :
    PE X (.Call (.Name x p) (e :: es) [] pos) (tCallS sp (WE W) t) := pe_callS C.ok hr hg C.glob C.kp C.binds (fun σ => passAt tk σ) ha hdb he hpl
end
/-! ### raise X(e), X's __init__ keeping one field -/
/-- self.f = value -/
def spInit1 (K : PySem.W.Frag) (C : Addr) (f : Str) : Sp := fun vs H Q _ => ∃ (a : Addr) (y : V), vs = [.ref a, y] ∧ OexC K C ∧ PySem.W.findIn K (.ref C) f = some none ∧ H a = some (exo a C none) ∧
  ∀ dx, H dx = none → dx ≠ a → Q .non (upd (upd H dx (exd dx [(f, y)])) a (exo a C (some dx)))
/-- the reading: the error's class, its own dict, the heap behind -/
def tMk1 (C : Addr) (f : Str) (ta : TA) : L2.St → Hp → XK → Prop := fun σ H Q => ta σ H fun vs H1 => ∃ v, vs = [v] ∧ ∀ d H', Same H1 H' → H1 d = none → H' d = some (.xd [(f, v)]) → Q (.ref C) (some d) H'
/-- a reading that may be weakened -/
def lax (ta : TA) : TA := fun σ H Q => ∃ Q0 : List V → Hp → Prop, ta σ H Q0 ∧ ∀ vs H1, Q0 vs H1 → Q vs H1
theorem pa_lax {X : Cx} {es : List Expr} {ta : TA} (ha : PA X es ta) : PA X es (lax ta) :=
  ⟨fun pos pins s σ H Q I h => by
    obtain ⟨Q0, h0, hq⟩ := h
    refine wpAny_mono (ha.run pos pins s σ H Q0 I h0) (fun us s1 hu => ?_) fun _ _ z => z
    obtain ⟨vs, H1, I1, r, q⟩ := hu
    exact ⟨vs, H1, I1, r, hq vs H1 q⟩⟩
section
variable {X : Cx} {k : Nat} {x f : Str} {fd : FuncData} {q : Str} {e : Expr} {ta : TA} {p pos pos2 : Pos}
theorem pmk_1 (T : Exc1 X.K X.mg x f) (F : FnOk X.prog X.w X.K X.mg X.base (L2.CX X.prog X.w) k (He.ma X.K (He.ga X.K x) "__init__") fd ["self", q] (spInit1 X.K (He.ga X.K x) f)) (b : Binds X.K fd ["self", q] [])
    (hr : Room (k + 1) X.A) (ha : PA X [e] ta) (hg : Gl X x := by rfl) (hdb : (x == ("__debug__" : Str)) = false := by decide)
    (he : starEach (e :: []) X.env = (false, eval e X.env) :: starEach [] X.env := by rfl) (hpl : (backTo pos (starEach [] X.env)).any (·.1) = false := by rfl) :
    PMk X (.Call (.Name x p) [e] [] pos) (tMk1 (He.ga X.K x) f ta) := by
  intro pins s σ H Q I h
  refine pmk_oex (CX := L2.CX X.prog X.w) (dvs := []) T.oex T.init T.tI F hr b .nil passU hg T.glob (pa_lax ha) hdb he hpl pins s σ H Q I ⟨_, h, fun vs H1 hv => ?_⟩
  obtain ⟨v, rfl, kk⟩ := hv
  refine ⟨(show 1 ≤ 1000 by decide), fun a na => ⟨a, v, rfl, T.oex, T.no, upd_same, fun dx ndx hdx => ⟨rfl, dx, [(f, v)], upd_same, by rw [upd_ne hdx, upd_same], ?_, ?_⟩⟩⟩
  · rw [upd_ne hdx] at ndx
    exact ndx
  · rw [upd_ne hdx] at ndx
    refine kk dx _ (fun c o hc => ?_) ndx upd_same
    have c1 : c ≠ dx := ne_of_none hc ndx
    have c2 : c ≠ a := ne_of_none hc na
    rw [upd_ne c1, del_ne c2, upd_ne c2, upd_ne c1, upd_ne c2]
    exact hc
theorem ps_raise1 {W : WX} (hc : X.calm = true) (tk : Takes X W) (T : Exc1 X.K X.mg x f) (F : FnOk X.prog X.w X.K X.mg X.base (L2.CX X.prog X.w) k (He.ma X.K (He.ga X.K x) "__init__") fd ["self", q] (spInit1 X.K (He.ga X.K x) f)) (b : Binds X.K fd ["self", q] [])
    (hr : Room (k + 1) X.A) (ha : PA X [e] ta) (hg : Gl X x := by rfl) (hdb : (x == ("__debug__" : Str)) = false := by decide)
    (he : starEach (e :: []) X.env = (false, eval e X.env) :: starEach [] X.env := by rfl) (hpl : (backTo pos (starEach [] X.env)).any (·.1) = false := by rfl) :
    PS X (.Raise (some (.Call (.Name x p) [e] [] pos)) none pos2) (fun _ σ H => tMk1 (He.ga X.K x) f ta σ H fun cls d H' => W cls d σ H') :=
  ps_raise hc tk (pmk_1 T F b hr ha hg hdb he hpl)
end
end WU

set_option maxRecDepth 100000
set_option maxHeartbeats 8000000
/-! own exceptions as values: made, their fields read, asked for their kind -/
namespace WU
open PySem PySem.Spec PyProof.Rows L2
/-! ### isinstance of an exception that has a dict -/
section
variable {P : Program} {w : World} {A : Around} {E : Value → Shared → Prop} {s : Shared} {K : PySem.W.Frag} {x D : Addr} {ox od : Obj}
theorem cls_of_exc {R : Option Value → Shared → Prop} (C : ExcC K D) (X : K.In s.heap) (I : PySem.W.InstAt s.heap x ox D (some od)) (h : R (some (.ref D)) { s with toks := s.toks + 1 }) : wpAny (model P w) A (getAttr? (.ref x) "__class__") R E s := by
  have hf : PySem.W.findObj K D (some od) "__class__" = some (.bind (.builtin "getset_descriptor.__get__") (.builtin "object.__class__")) :=
    PySem.W.findObj_data (by obtain ⟨cd, hc, _⟩ := PySem.W.any_some C.hd; rw [hc]; rfl) C.ha C.hn C.ht
  obtain ⟨hp, g, d, t, os⟩ := s
  have T0 := I.type (M := model P w)
  have T1 := PySem.W.looks_findIn (M := model P w) X C.hg
  have T2 := PySem.W.looks_findIn (M := model P w) X C.hk
  have T3 := PySem.W.looks_find (M := model P w) X I hf
  have sub : PySem.W.Looks (model P w) hp (isInstance (.ref x) (.type "BaseException")) true := T0.andThen (PySem.W.looks_subIn X C.hs)
  have n2 : (Value.builtin "BaseException.__getattribute__" == Value.builtin "object.__getattribute__") = false := by decide +kernel
  have n1 : (onTheHeap (Value.ref D) && Value.builtin "BaseException.__getattribute__" == Value.builtin "object.__getattribute__") = false := by rw [n2]; rfl
  unfold getAttr? getAttrBy? getAttrBy
  refine wpAny_bind (wpAny_mkText (wpAny_bind (wpAny_attempt (wpAny_holding (wpAny_bind (T0.at (wpAny_bind (T1.at ?_))))))))
  show wpAny _ _ (if (onTheHeap (Value.ref D) && Value.builtin "BaseException.__getattribute__" == Value.builtin "object.__getattribute__") = true then _ else _) _ _ _
  rw [n1, if_neg Bool.false_ne_true]
  unfold getAttrByItsOwn hookBefore
  refine wpAny_bind ?_
  rw [if_pos (show onTheHeap (Value.ref D) = true from rfl)]
  refine T2.at ?_
  refine wpAny_bind (wpAny_attempt (wpAny_holding ?_))
  unfold callGetattribute
  rw [show (false && onTheHeap (Value.builtin "BaseException.__getattribute__")) = false from rfl, if_neg Bool.false_ne_true]
  unfold boundAndCalled
  rw [PySem.F.excAttr_ValueError.ga.bind (.ref x)]
  refine wpAny_bind (wpAny_pure ?_)
  show wpAny _ _ (call (.builtin "BaseException.__getattribute__") [.ref x, .str "__class__" t]) _ _ _
  refine wpAny_call (codeAny_call_builtin PySem.F.excAttr_ValueError.ga.plain PySem.F.entry_bexc_ga ?_)
  refine @PySem.W.check_slot (model P w) _ _ ⟨hp, g, d, t + 1, os⟩ "BaseException.__getattribute__" "BaseException" "__getattribute__" (.ref x) [.str "__class__" t] [] _ (by decide +kernel) (by decide +kernel) sub (PySem.F.args_bexc_ga (.ref x) (.str "__class__" t)) ?_
  unfold Builtin.«object.__getattribute__»
  refine wpAny_bind (wpAny_of_eq (a := ((Value.ref x : Value), [Value.str "__class__" t])) (by first | rfl | (simp only [slotArgs]; rfl)) ?_)
  refine wpAny_bind (wpAny_pure (wpAny_bind (T0.at (wpAny_bind (T3.at ?_)))))
  show wpAny _ _ (holding [Value.builtin "object.__class__"] (call (.builtin "getset_descriptor.__get__") [.builtin "object.__class__", .ref x, .ref D]) >>= ret) _ _ _
  refine wpAny_bind (wpAny_holding (wpAny_call (PySem.W.class_get (s := ⟨hp, g, d, t + 1, os⟩) (ox := ox) (od := some od) X I C.hm ?_)))
  refine wpAny_pure ?_
  show wpAny _ _ (handedOut (.ref D)) _ _ _
  rw [PySem.W.handedOut_of (v := .ref D) rfl]
  first
    | exact wpAny_pure (wpAny_pure h)
    | exact wpAny_pure h
    | exact wpAny_pure (wpAny_bind (wpAny_pure (wpAny_pure h)))
theorem kit_exc (C : ExcC K D) : PySem.W.KitX K (.ref x) (.ref D) (fun h => PySem.W.InstAt h x ox D (some od)) where
  ty := fun _ _ _ I => I.type
  it := fun _ _ X _ => by
    obtain ⟨cdD, hcD, _⟩ := PySem.W.any_some C.hd
    unfold PySem.W.clsIn at hcD
    split at hcD
    · rename_i c' d' cd' sl' ho
      intro A' Q' E' s' k q
      unfold isType loadHead
      exact wpAny_bind (wpAny_loadPart (k _ _ (X _ _ ho)) (wpAny_pure q))
    · cases hcD
  ne := fun h tp dd its n sl X htp => by
    obtain ⟨cdD, hcD, _⟩ := PySem.W.any_some C.hd
    refine Bool.eq_false_iff.mpr fun q => ?_
    have e : D = tp := Value.ref.inj (beq_iff_eq.mp q)
    subst e
    unfold PySem.W.clsIn at hcD
    split at hcD
    · rename_i c' d' cd' sl' ho
      have z := (X _ _ ho).symm.trans htp
      cases z
    · cases hcD
  ca := fun X I k => cls_of_exc C X I k
end
/-- isinstance(e, c), e an exception as a value -/
def rIsV (K : PySem.W.Frag) : List V → Hp → VK → Prop := fun xs H Q => ∃ (a D d : Addr) (fs : List (Str × V)) (c : V) (cv : Value) (b : Bool), xs = [.ref a, c] ∧ H a = some (exo a D (some d)) ∧ H d = some (exd d fs) ∧ ExcC K D ∧ ClsV c cv ∧ PySem.W.kitOne K (.ref D) cv = some b ∧ Q (.bl b) H
theorem call_isV {X : Cx} : CallR X (.builtin "isinstance") (rIsV X.K) := by
  intro pins s σ H xs us Q I r h
  obtain ⟨a, D, d, fs, c, cv, b, rfl, ha, hd, C, hc, e, q⟩ := h
  cases r with
  | cons rx rr =>
    cases rr with
    | cons rt rr =>
      cases rr
      cases rx
      have ec := hc.eq rt
      subst ec
      obtain ⟨t1, ho⟩ := exo_at I.hok ha
      obtain ⟨mA, ⟨od, es, ep, hod, _⟩, _⟩ := exd_at I.hok hd
      have J : PySem.W.InstAt s.heap a { cls := .ref D, dict := some d, data := .fields #[.ref t1, .none, .none, .none, .bool false, .none] } D (some od) := ⟨ho, rfl, rfl, hod⟩
      exact PySem.W.kia_one (kit_exc C) I.kIn J e (fun z => nomatch z) fun tk => ⟨.bl b, H, I.kept (t' := tk) fun _ _ z => z, rfl, q⟩
/-- isinstance(e, c), e the handled exception a -/
def rIsP (K : PySem.W.Frag) (a : Addr) (cls : Value) (d : Option Addr) : List V → Hp → VK → Prop := fun xs H Q => ∃ (D dd : Addr) (fs : List (Str × V)) (c : V) (cv : Value) (b : Bool), xs = [.ref a, c] ∧ cls = .ref D ∧ d = some dd ∧ H dd = some (.xd fs) ∧ ExcC K D ∧ ClsV c cv ∧ PySem.W.kitOne K (.ref D) cv = some b ∧ Q (.bl b) H
theorem call_isP {X : Cx} {p : Addr × Obj} {cls : Value} {d : Option Addr} (hp : p ∈ X.pn) (hz : Zc cls d p.2) (hf : ∃ vs, p.2.data = .fields vs) : CallR X (.builtin "isinstance") (rIsP X.K p.1 cls d) := by
  intro pins s σ H xs us Q I r h
  obtain ⟨D, dd, fs, c, cv, b, rfl, rfl, rfl, hd, C, hc, e, q⟩ := h
  cases r with
  | cons rx rr =>
    cases rr with
    | cons rt rr =>
      cases rr
      cases rx
      have ec := hc.eq rt
      subst ec
      obtain ⟨hget, _⟩ := I.pin p (List.mem_append_left _ hp)
      obtain ⟨vs, hv⟩ := hf
      have hx : ObjOk X.prog X.w H s.heap dd (.xd fs) := I.hok dd _ hd
      obtain ⟨mA, hns, _⟩ := hx
      obtain ⟨od, es, ep, hod, _⟩ := hns
      have J : PySem.W.InstAt s.heap p.1 p.2 D (some od) := ⟨hget, hz.1, by unfold PySem.W.notCls; rw [hv] <;> rfl, by rw [hz.2]; exact hod⟩
      exact PySem.W.kia_one (kit_exc C) I.kIn J e (fun z => nomatch z) fun tk => ⟨.bl b, H, I.kept (t' := tk) fun _ _ z => z, rfl, q⟩
/-! ### e.f -/
def tXv (K : PySem.W.Frag) (f : Str) (te : TE) : TE := fun σ H Q => te σ H fun x H1 => ∃ (a C d : Addr) (fs : List (Str × V)) (v : V), x = .ref a ∧ H1 a = some (exo a C (some d)) ∧ H1 d = some (exd d fs) ∧ XfC K C ∧ PySem.W.findIn K (.ref C) f = some none ∧ fs.lookup f = some v ∧ Q v H1
theorem pe_xv {X : Cx} {e : Expr} {te : TE} {pos : Pos} {n : Str} (he : PE X e te) (hb : attributeBase e n X.env (eval e X.env) = eval e X.env := by rfl) : PE X (.Attribute e n pos) (tXv X.K n te) := by
  constructor
  intro pins s σ H Q I h
  refine attr_of hb (thn (he.run pins s σ H _ I h) fun u s1 hh => ?_)
  obtain ⟨x, H1, J, rx, a, C, d, fs, v, rfl, ha, hd, T, hno, l, q⟩ := hh
  obtain rfl : u = Value.ref a := rx
  obtain ⟨t1, ho⟩ := exo_at J.hok ha
  obtain ⟨mA, hns, hr⟩ := exd_at J.hok hd
  obtain ⟨od, hod, hl⟩ := lookIn_ns hns
  obtain ⟨u, hu, ru⟩ := RelO.some_of (v := v) (o := mA n) (by rw [← l]; exact hr n)
  have Y : PySem.W.InstAt s1.heap a { cls := .ref C, dict := some d, data := .fields #[.ref t1, .none, .none, .none, .bool false, .none] } C (some od) := ⟨ho, rfl, rfl, hod⟩
  exact HandSPX.exc_get J.kIn Y T.ga T.gg T.exC (PySem.W.findObj_own T.hdC hno rfl (by rw [hl, hu])) (handed_of ru) ⟨v, H1, J.tok _, ru, q⟩
/-! ### C(e, ..) as a value -/
def tMkV (C : Addr) (sp : Sp) (ta : TA) : TE := fun σ H Q => ta σ H fun vs H1 => vs.length ≤ 1000 ∧ ∀ a, H1 a = none → sp (.ref a :: vs) (upd H1 a (exo a C none)) (fun v H2 => v = .non ∧ Q (.ref a) H2) (fun _ _ _ => False)
theorem pe_oex {X : Cx} {x : Str} {p pos : Pos} {e : Expr} {es : List Expr} {ta : TA} {C fI : Addr} {k : Nat} {fd : FuncData} {ps : List Str} {sp : Sp} (T : OexC X.K C) (iC : PySem.W.findIn X.K (.ref C) "__init__" = some (some (.ref fI))) (tI : PySem.W.typeIn X.K (.ref fI) = some (.type "function"))
    (Fn : FnOk X.prog X.w X.K X.mg X.base (L2.CX X.prog X.w) k fI fd ps sp) (hr : Room (k + 1) X.A) (hb : L2.Binds X.K fd ps []) (hg : Gl X x) (hm : X.mg x = some (.ref C)) (ha : PA X (e :: es) ta)
    (hdb : (x == ("__debug__" : Str)) = false := by decide) (he : starEach (e :: es) X.env = (false, eval e X.env) :: starEach es X.env := by rfl) (hpl : (backTo pos (starEach es X.env)).any (·.1) = false := by rfl) :
    PE X (.Call (.Name x p) (e :: es) [] pos) (tMkV C sp ta) := by
  constructor
  intro pins s σ H Q I h
  obtain ⟨nm, q, N, bs, bm, sn, sub, ab, col, dd, k0, k1, k2, k3, k5, hC, hbm⟩ := T.cls
  refine wpAny_Call_Name_kw (ld_glob I hg hm ?_ hdb)
  refine PySem.W.callWith_K (h₀ := X.base) I.ok.mod.kin T.kC (thn (ha.run pos pins s σ H _ I h) fun us s1 ⟨vs, H1, J, r1, hz, q1⟩ => ⟨J.kIn, ?_⟩) he hpl
  show wpAny _ _ (call (.ref C) us) _ _ _
  obtain ⟨hp, g, dr, tk, os⟩ := s1
  have hsz : hp.objs.size ≤ hp.objs.size + 1 := Nat.le_succ _
  have hq := q1 (hp.objs.size + 1) (J.hok.fresh hsz)
  have hget : ((hp.push (PySem.W.kdv_tup us)).push (PySem.HandSPX.excO C hp.objs.size)).get? (hp.objs.size + 1) = some (PySem.HandSPX.excO C hp.objs.size) := by heap_get
  have J2 : Inv X pins σ (upd H1 (hp.objs.size + 1) (exo (hp.objs.size + 1) C none)) ⟨(hp.push (PySem.W.kdv_tup us)).push (PySem.HandSPX.excO C hp.objs.size), g, dr, tk, os⟩ :=
    J.laid (t' := tk) (fun b o z => Heap.get?_push_of_some _ (Heap.get?_push_of_some _ z)) hsz (exo_ok hget)
  have r2 : Vals (V.ref (hp.objs.size + 1) :: vs) (Value.ref (hp.objs.size + 1) :: us) := .cons rfl r1
  have hl : (Value.ref (hp.objs.size + 1) :: us ++ []).length = ps.length := by
    have z := r2.length
    rw [Fn.len _ _ _ _ hq] at z
    rw [List.append_nil]
    exact z.symm
  have hus : us.length ≤ sizeLine := by
    rw [← Paired.length r1, sizeLine_eq]
    omega
  have b := hb ⟨(hp.push (PySem.W.kdv_tup us)).push (PySem.HandSPX.excO C hp.objs.size), g, dr, tk, os⟩ (Value.ref (hp.objs.size + 1) :: us) J2.kIn hl
  rw [List.append_nil] at b
  refine wpAny_call (PySem.HandSPX.call_own F.excBase_ValueError (fun Y => PySem.HandSPX.refsVE_contains Y bm hbm) (J.kIn _ _ hC) (PySem.W.looks_findIn J.kIn iC) (fun self => PySem.W.bind_fn J.kIn self tI) hus
    (codeAny_mono (Fn.run _ X.stack _ _ ⟨Value.ref (hp.objs.size + 1) :: us, []⟩ _ _ _ (fun _ _ _ => False) (hr.make C us []) (J2.env0.make C us []) b r2 hq) fun r s' hq' => ?_))
  cases r with
  | error er => exact passU pins σ _ _ er s' J2 hq'
  | ok fl =>
    cases fl with
    | ret u =>
      obtain ⟨v, H2, J3, rv, ev, q3⟩ := J2.after hq'
      subst ev
      exact ⟨rv, ⟨.ref (hp.objs.size + 1), H2, J3, rfl, q3⟩⟩
    | next => exact False.elim hq'
    | brk => exact False.elim hq'
    | cont => exact False.elim hq'
end WU

set_option maxRecDepth 100000
set_option maxHeartbeats 8000000
/-! C(f = e, ..) of an own exception class -/
namespace PySem.HandSPX
open PySem PySem.Spec PyProof.Rows PySem.Calls
section
variable {prog : Program} {w : World} {A : Around} {E : Value → Shared → Prop} {R : Result → Shared → Prop} {h : Heap} {g : Array GenState} {d : Drawn} {t : Nat} {os : OsState}
variable {nm q : Str} {C N : Addr} {bs bm bmB : List Value} {hdct : Bool} {sn : List Str} {sub : List Value} {ab : Bool} {col : Option Bool} {dd : Option Addr} {k0 k1 k2 k3 k5 : Option Value} {B newId initId : String} {kw : List (Str × Value)}
theorem kw_check (F : ExcBaseFacts B newId initId bmB) (hT : ∀ X : String, bm.contains (.type X) = bmB.contains (.type X)) {M : Model} {Q : Unit → Shared → Prop}
    (hC : h.get? C = some (excClassObj nm q C N bs bm hdct sn sub ab col dd k0 k1 k2 k3 k5 newId)) (hq : Q () ⟨h, g, d, t, os⟩) : wpAny M A (checkBuiltinCall newId ⟨[.ref C], kw⟩) Q E ⟨h, g, d, t, os⟩ := by
  have c1 : (Value.ref C :: bm).contains (.type B) = true := by rw [List.contains_cons, hT, F.hasB, Bool.or_true]
  have hstar := F.noStar
  simp only [checkBuiltinCall, F.newKind, F.newSplit, F.newRow]
  repeat (first | refine wpAny_loadPart_at hC ?_ | (refine wpAny_isSubtype_exc hC ?_; rw [c1]) | refine wpAny_staticBase_exc hC ?_ | refine wpAny_madeBy_exc hC ?_ | simp only [bne_self_eq_false, Bool.false_eq_true, if_false] | wp_step)
  exact hq
theorem kw_new (F : ExcBaseFacts B newId initId bmB) (hT : ∀ X : String, bm.contains (.type X) = bmB.contains (.type X))
    (hC : h.get? C = some (excClassObj nm q C N bs bm hdct sn sub ab col dd k0 k1 k2 k3 k5 newId))
    (hq : R (.ok (.ret (.ref (h.objs.size + 1)))) ⟨(h.push (W.kdv_tup [])).push (excO C h.objs.size), g, d, t, os⟩) : codeAny (model prog w) A (.builtin newId ⟨[.ref C], kw⟩) R ⟨h, g, d, t, os⟩ := by
  have hends := F.ends
  have c1 : (Value.ref C :: bm).contains (.type B) = true := by rw [List.contains_cons, hT, F.hasB, Bool.or_true]
  have c2 : (Value.ref C :: bm).contains (.type "AttributeError") = false := by rw [List.contains_cons, hT, F.noAttr]; rfl
  have c3 : (Value.ref C :: bm).contains (.type "NameError") = false := by rw [List.contains_cons, hT, F.noName]; rfl
  refine codeAny_builtinAt F.entry ?_
  unfold Builtin.«BaseException.__new__»
  refine wpAt_bind ?_
  show wpAt _ _ _ (stack >>= _) _ _ _
  refine wpAt_bind (wpAt_stack fun p below => wpAt_of_wpAny ?_)
  wp_walk
  refine wpAt_of_wpAny ?_
  rw [F.owner]
  repeat (first | with_reducible refine wpAny_madeHere_exc F.canon hC ?_ | with_reducible refine wpAny_loadPart_at hC ?_ | (with_reducible refine wpAny_isSubtype_exc hC ?_; first | rw [c1] | rw [c2] | rw [c3]) | wp_step)
  show R _ _
  rw [Heap.size_push]
  exact hq
theorem kw_type_call (F : ExcBaseFacts B newId initId bmB) (hT : ∀ X : String, bm.contains (.type X) = bmB.contains (.type X)) {fI : Addr} {Q : Fin → Shared → Prop}
    (hC : h.get? C = some (excClassObj nm q C N bs bm hdct sn sub ab col dd k0 k1 k2 k3 k5 newId))
    (hi : W.Looks (model prog w) h (typeLookup (.ref C) "__init__") (some (.ref fI))) (hb : ∀ self, W.Looks (model prog w) h (bindSpecial (.ref fI) self) (.ref fI, [self]))
    (hq : codeAny (model prog w) A (.call (.ref fI) ⟨[.ref (h.objs.size + 1)], kw⟩)
      (fun r s' => match r with | .ok (.ret v) => v = .none ∧ Q (.done (.ret (.ref (h.objs.size + 1)))) s' | .ok _ => False | .error e => E e s')
      ⟨(h.push (W.kdv_tup [])).push (excO C h.objs.size), g, d, t, os⟩) :
    wpAny (model prog w) A (Builtin.«type.__call__» ⟨[.ref C], kw⟩) Q E ⟨h, g, d, t, os⟩ := by
  repeat (first | with_reducible refine wpAny_loadPart_at hC ?_ | with_reducible refine wpAny_madeBy_exc hC ?_ | wp_step)
  refine codeAny_call_builtin_code (Code.quiet_builtin _ F.quiet) (kw_check F hT hC ?_)
  refine kw_new F hT hC ?_
  show wpAny _ _ _ _ _ _
  have k : ∀ b o, h.get? b = some o → ((h.push (W.kdv_tup [])).push (excO C h.objs.size)).get? b = some o := fun b o e => Heap.get?_push_of_some _ (Heap.get?_push_of_some _ e)
  have hC1 := k _ _ hC
  have hget : ((h.push (W.kdv_tup [])).push (excO C h.objs.size)).get? (h.objs.size + 1) = some (excO C h.objs.size) := by heap_get
  have hcC : (Value.ref C :: bm).contains (.ref C) = true := by simp
  have i1 := hi.keeps k
  have b1 := (hb (.ref (h.objs.size + 1))).keeps k
  unfold isInstance
  repeat (first | with_reducible refine wpAny_loadPart_at hget ?_ | (with_reducible refine wpAny_isSubtype_exc hC1 ?_; rw [hcC]) | wp_step)
  show wpAny _ _ (typeLookup (.ref C) _) _ _ _
  refine i1.at ?_
  refine wpAny_holding (wpAny_bind (b1.at ?_))
  refine wpAny_bind (wpAny_call (codeAny_mono hq fun r s' z => ?_))
  rcases r with e | (v | _ | _ | _) <;> first | exact z | exact z.elim | skip
  obtain ⟨rfl, z⟩ := z
  first
    | exact wpAny_pure (wpAny_pure z)
    | (wp_walk; exact z)
theorem kw_call (F : ExcBaseFacts B newId initId bmB) (hT : ∀ X : String, bm.contains (.type X) = bmB.contains (.type X)) {fI : Addr}
    (hC : h.get? C = some (excClassObj nm q C N bs bm hdct sn sub ab col dd k0 k1 k2 k3 k5 newId))
    (hi : W.Looks (model prog w) h (typeLookup (.ref C) "__init__") (some (.ref fI))) (hb : ∀ self, W.Looks (model prog w) h (bindSpecial (.ref fI) self) (.ref fI, [self]))
    (hq : codeAny (model prog w) (A.under (.builtin "type.__call__" ⟨[.ref C], kw⟩)) (.call (.ref fI) ⟨[.ref (h.objs.size + 1)], kw⟩) (W.InitBack (h.objs.size + 1) R)
      ⟨(h.push (W.kdv_tup [])).push (excO C h.objs.size), g, d, t, os⟩) : codeAny (model prog w) A (.call (.ref C) ⟨[], kw⟩) R ⟨h, g, d, t, os⟩ := by
  have f1 := tc_lookup
  have f2 := tc_bind (.ref C)
  have hTy : (⟨h, g, d, t, os⟩ : Shared).TypeIs (.ref C) "type" := ⟨_, hC, rfl⟩
  refine codeAny_of_tree ?_
  show wpAny _ _ (callAny (.ref C) _) _ _ _
  repeat (any_goals (first | assumption | with_reducible refine wpAny_loadPart_at hC ?_ | wp_step))
  refine ⟨rfl, ?_⟩
  refine codeAny_call_builtin_at (Code.quiet_builtin _ (by decide +kernel)) entry_typeCall ?_
  refine wpAny_check_type_call_sub hC (kw_type_call F hT hC hi hb ?_)
  refine codeAny_mono hq fun r s' z => ?_
  rcases r with e | (v | _ | _ | _) <;> exact z
end
end PySem.HandSPX

set_option maxRecDepth 100000
set_option maxHeartbeats 8000000
namespace WU
open PySem PySem.Spec PyProof.Rows L2
/-- keywords of a def without defaults -/
theorem binds_kw {K : PySem.W.Frag} {x qual : Str} {params : Arguments} {body : List Stmt} {scope : Scope} {f : Addr} {fd : FuncData} {ps : List Str} (F : FunD K x qual params body scope [] [] f fd) (n : Nat) (ks : List Str) (g : {α : Type} → List α → List α → List α)
    (hrel : ∀ {vs zs : List V} {us ws : List Value}, Vals vs us → Vals zs ws → Vals (g vs zs) (g us ws))
    (h : ∀ (kV doc pm : Value) (an : Option Addr) (cdv ct : Value) (us ws : List Value), us.length = n → ws.length = ks.length → bindArgs (PySem.W.fnOf x qual params body scope .none kV doc pm an cdv ct) ⟨us, ks.zip ws⟩ = pure (ps.zip (g us ws))) :
    KBn K fd ps n ks (fun us ws => g us ws) (fun vs zs => g vs zs) := by
  obtain ⟨oc, od, dV, kV, doc, pm, an, cdv, ct, osl, rfl, lk, hcd, hD, hK⟩ := F.ex
  rcases hD with ⟨_, rfl⟩ | ⟨e, _⟩
  · exact ⟨fun s us ws X l1 l2 => .of_eq (h kV doc pm an cdv ct us ws l1 l2), hrel⟩
  · exact absurd rfl e
def tMkVK (C : Addr) (m : Nat) (sp : Sp) (gV : List V → List V → List V) (tk : TA) : TE := fun σ H Q => tk σ H fun zs H1 => zs.length = m ∧ ∀ a, H1 a = none → sp (gV [.ref a] zs) (upd H1 a (exo a C none)) (fun v H2 => v = .non ∧ Q (.ref a) H2) (fun _ _ _ => False)
theorem pe_oexK {X : Cx} {x : Str} {p pos : Pos} {kws : List Keyword} {tk : TA} {C fI : Addr} {k : Nat} {fd : FuncData} {ps ks : List Str} {sp : Sp} {g : List Value → List Value → List Value} {gV : List V → List V → List V} (T : OexC X.K C) (iC : PySem.W.findIn X.K (.ref C) "__init__" = some (some (.ref fI))) (tI : PySem.W.typeIn X.K (.ref fI) = some (.type "function"))
    (Fn : FnOk X.prog X.w X.K X.mg X.base (L2.CX X.prog X.w) k fI fd ps sp) (hr : Room (k + 1) X.A) (hb : KBn X.K fd ps 1 ks g gV) (hg : Gl X x) (hm : X.mg x = some (.ref C)) (hkw : PK X kws tk)
    (hall : (backToKw pos (keywordEach kws X.env)).all (·.1.isSome) = true := by rfl) (hks : (backToKw pos (keywordEach kws X.env)).filterMap (·.1) = ks := by rfl) (hdb : (x == ("__debug__" : Str)) = false := by decide)
    (hpl : ((backTo pos (starEach [] X.env)).any (·.1) || (backToKw pos (keywordEach kws X.env)).any (·.1.isNone)) = false := by rfl) :
    PE X (.Call (.Name x p) [] kws pos) (tMkVK C ks.length sp gV tk) := by
  constructor
  intro pins s σ H Q I h
  obtain ⟨nm, q, N, bs, bm, sn, sub, ab, col, dd, k0, k1, k2, k3, k5, hC, hbm⟩ := T.cls
  refine wpAny_Call_Name_kw (ld_glob I hg hm ?_ hdb)
  refine PySem.W.callWith_KW0 (h₀ := X.base) I.ok.mod.kin T.kC hall ?_ hpl
  refine thn (hkw.run pos pins s σ H _ I h) fun ws s1 ⟨zs, H1, J, rz, l2, q1⟩ => ⟨J.kIn, ?_⟩
  rw [hks]
  show wpAny _ _ (call (.ref C) [] (ks.zip ws)) _ _ _
  obtain ⟨hp, g0, dr, tk0, os⟩ := s1
  have hsz : hp.objs.size ≤ hp.objs.size + 1 := Nat.le_succ _
  have hq := q1 (hp.objs.size + 1) (J.hok.fresh hsz)
  have hget : ((hp.push (PySem.W.kdv_tup [])).push (PySem.HandSPX.excO C hp.objs.size)).get? (hp.objs.size + 1) = some (PySem.HandSPX.excO C hp.objs.size) := by heap_get
  have J2 : Inv X pins σ (upd H1 (hp.objs.size + 1) (exo (hp.objs.size + 1) C none)) ⟨(hp.push (PySem.W.kdv_tup [])).push (PySem.HandSPX.excO C hp.objs.size), g0, dr, tk0, os⟩ :=
    J.laid (t' := tk0) (fun b o z => Heap.get?_push_of_some _ (Heap.get?_push_of_some _ z)) hsz (exo_ok hget)
  have r1 : Vals [V.ref (hp.objs.size + 1)] [Value.ref (hp.objs.size + 1)] := .cons rfl .nil
  have r2 := hb.rel r1 rz
  have b := hb.to ⟨(hp.push (PySem.W.kdv_tup [])).push (PySem.HandSPX.excO C hp.objs.size), g0, dr, tk0, os⟩ [Value.ref (hp.objs.size + 1)] ws J2.kIn rfl (rz.length.symm.trans l2)
  refine wpAny_call (PySem.HandSPX.kw_call F.excBase_ValueError (fun Y => PySem.HandSPX.refsVE_contains Y bm hbm) (J.kIn _ _ hC) (PySem.W.looks_findIn J.kIn iC) (fun self => PySem.W.bind_fn J.kIn self tI)
    (codeAny_mono (Fn.run _ X.stack _ _ ⟨[Value.ref (hp.objs.size + 1)], ks.zip ws⟩ _ _ _ (fun _ _ _ => False) (hr.make C [] (ks.zip ws)) (J2.env0.make C [] (ks.zip ws)) b r2 hq) fun r s' hq' => ?_))
  cases r with
  | error er => exact passU pins σ _ _ er s' J2 hq'
  | ok fl =>
    cases fl with
    | ret u =>
      obtain ⟨v, H2, J3, rv, ev, q3⟩ := J2.after hq'
      subst ev
      exact ⟨rv, ⟨.ref (hp.objs.size + 1), H2, J3, rfl, q3⟩⟩
    | next => exact False.elim hq'
    | brk => exact False.elim hq'
    | cont => exact False.elim hq'
/-! ### a def that is called in a suite, with the handled exception -/
/-- what it promises, by the handled exception -/
structure FnP (P : Program) (w : World) (K : PySem.W.Frag) (mg : Str → Option Value) (base : Heap) (CX : CXT) (k : Nat) (f : Addr) (fd : FuncData) (ps : List Str) (sp : Addr → Value → Option Addr → Sp) : Prop where
  len : ∀ a c d vs H Q E, sp a c d vs H Q E → vs.length = ps.length
  run : ∀ (A : Around) (outer : List Env) (s : Shared) (H : Hp) (args : Args) (us : List Value) (vs : List V) (Q : VK) (E : XK) (p : Addr × Obj) (cls : Value) (d : Option Addr), L2H.RoomH k A → L2H.Hot1 A p → Zc cls d p.2 → L2H.PinOk outer H s p → Env0 P w K mg base A outer s H → BindsTo s fd args (ps.zip us) → Vals vs us → sp p.1 cls d vs H Q E →
    codeAny (model P w) A (.call (.ref f) args) (CR CX outer P w H s Q E) s
theorem fnP_of {CX : CXT} {P : Program} {w : World} {K : PySem.W.Frag} {mg : Str → Option Value} {base : Heap} {k : Nat} {f : Addr} {name qual : Str} {params : Arguments} {body : List Stmt} {scope : Scope} {fd : FuncData} {N ps : List Str} {sp : Addr → Value → Option Addr → Sp}
    (F : FunD K name qual params body scope [] [] f fd) (S : FnScope N ps scope) (len : ∀ a c d vs H Q E, sp a c d vs H Q E → vs.length = ps.length)
    (hbody : ∀ (cdv : Value) (A : Around) (outer : List Env) (s : Shared) (H : Hp) (vs : List V) (Q : VK) (E : XK) (p : Addr × Obj) (cls : Value) (d : Option Addr), L2H.Hot1 A p → Zc cls d p.2 → L2H.RoomH k (A.deeper (envOfC qual scope s.heap.objs.size f cdv)) → sp p.1 cls d vs H Q E →
      ∃ t, PSs (L2H.cxH CX P w K mg base N qual scope f cdv A outer s H E p) body t ∧ t { nx := fun _ H' => Q .non H', rt := Q } (L2.start N vs) H) : FnP P w K mg base CX (k + 1) f fd ps sp := by
  obtain ⟨oc, od, dV, kV, doc, pm, an, cdv, ct, osl, rfl, lk, hcd, _, _⟩ := F.ex
  refine ⟨len, fun A outer s H args us vs Q E p cls d hr hot hz hpin e0 hb r hsp => ?_⟩
  have hl := len _ _ _ _ _ _ _ hsp
  have KX : K.In s.heap := e0.mod.kin.keeps fun b o z => (e0.bs b o z).1
  have lim : s.heap.NoLimit := e0.mod.nolimit.keeps fun b o z => (e0.bs b o z).1
  refine codeAny_call_function hr.depth (KX _ _ lk) rfl S.co S.gen rfl (PySem.W.codeRec_of KX hcd) (hb _ _ _ _ ?_)
  refine wpAny_newFunctionEnv_cells S.kind (fun ⟨n, v⟩ hy => ?_) fun env he s1 x => ?_
  · rcases S.par n (List.of_mem_zip hy).1 with q | q
    · exact .inl q
    · exact .inr ⟨q, PySem.W.cellsFrom_some _ _ _ (.inl q)⟩
  subst he
  refine ⟨lim.keeps x.toInCall.keep, codeAny_func ?_⟩
  obtain ⟨t, ht, hq⟩ := hbody cdv A outer s H vs Q E p cls d hot hz (hr.deeper _) hsp
  have I := L2H.inv_startH (CX := CX) (E := E) S hpin e0 hl r x
  refine wpAny_mono (ht.run [] s1 (L2.start N vs) H _ I hq) (fun fl s' hs => ?_) fun e s' hs => hs
  cases fl with
  | ret u =>
    obtain ⟨v, σ', H', J, rv, q⟩ := hs
    exact ⟨v, H', J.os, J.bare, J.base, J.hok, rv, q⟩
  | next =>
    obtain ⟨σ', H', J, q⟩ := hs
    exact ⟨V.non, H', J.os, J.bare, J.base, J.hok, rfl, q⟩
  | brk =>
    obtain ⟨_, _, _, q⟩ := hs
    exact False.elim q
  | cont =>
    obtain ⟨_, _, _, q⟩ := hs
    exact False.elim q
/-- f(e, ..) there; p: the handled exception -/
def tCallP (sp : Addr → Value → Option Addr → Sp) (a : Addr) (cls : Value) (d : Option Addr) (E : L2.St → XK) (t : TA) : TE := fun σ H Q => t σ H fun vs H1 => sp a cls d vs H1 Q (E σ)
theorem pe_callP {X : Cx} {CX : CXT} {k : Nat} {f : Addr} {fd : FuncData} {ps : List Str} {sp : Addr → Value → Option Addr → Sp} {p : Addr × Obj} {cls : Value} {d : Option Addr} {E : L2.St → XK} {x : Str} {q pos : Pos} {e : Expr} {es : List Expr} {t : TA} (Fn : FnP X.prog X.w X.K X.mg X.base CX k f fd ps sp) (hr : L2H.RoomH k X.A) (hot : L2H.Hot1 X.A p) (hz : Zc cls d p.2) (hp : p ∈ X.pn) (hg : Gl X x) (hm : X.mg x = some (.ref f)) (hk : PySem.W.keepIn X.K (.ref f) = true) (hb : L2.Binds X.K fd ps []) (hx : ∀ σ, PassesAt CX X σ (E σ))
    (ha : PA X (e :: es) t) (hdb : (x == ("__debug__" : Str)) = false := by decide) (he : starEach (e :: es) X.env = (false, eval e X.env) :: starEach es X.env := by rfl) (hpl : (backTo pos (starEach es X.env)).any (·.1) = false := by rfl) :
    PE X (.Call (.Name x q) (e :: es) [] pos) (tCallP sp p.1 cls d E t) := by
  constructor
  intro pins s σ H Q I h
  refine wpAny_Call_Name_kw (ld_glob I hg hm ?_ hdb)
  refine PySem.W.callWith_K (h₀ := X.base) I.ok.mod.kin hk (thn (ha.run pos pins s σ H _ I h) fun us s1 ⟨vs, H1, J, r, w⟩ => ⟨J.kIn, ?_⟩) he hpl
  have hl : us.length = ps.length := by rw [← r.length]; exact Fn.len _ _ _ _ _ _ _ w
  have b := hb s1 us J.kIn (by rw [List.append_nil]; exact hl)
  rw [List.append_nil] at b
  have P1 := J.pin p (List.mem_append_left _ hp)
  have hpin : L2H.PinOk X.stack H1 s1 p := ⟨P1.1, P1.2.1, fun hm => (List.mem_cons.mp (J.stkSub p.1 hm)).elim P1.2.2.1 P1.2.2.2.1, P1.2.2.2.2⟩
  refine wpAny_call (codeAny_mono (Fn.run X.A X.stack s1 H1 ⟨us, []⟩ us vs Q (E σ) p cls d hr hot hz hpin J.env0 b r w) fun r s' hq => ?_)
  cases r with
  | error e => exact hx σ pins H1 s1 e s' J hq
  | ok fl =>
    cases fl with
    | ret u => exact J.after hq
    | next => exact False.elim hq
    | brk => exact False.elim hq
    | cont => exact False.elim hq
end WU

set_option maxRecDepth 100000
set_option maxHeartbeats 8000000
namespace WU
open PySem PySem.Spec PyProof.Rows L2
def top (i : Nat) : Stmt := PySem.Challenge.pw_wishunseen_k01_errors.main.body.getD i (.Pass ⟨0, 0, 0, 0⟩)
abbrev FnS (K : PySem.W.Frag) (x : Str) (st : Stmt) (f : Addr) (fd : FuncData) : Prop := FunD K x x (defArgs st) (defBody st) (defScope st) [] [] f fd
theorem same_new {p : Addr} {o : HO} {H : Hp} (h : H p = none) : Same H (upd H p o) := fun b u e => by rw [upd_ne (ne_of_none e h)]; exact e
theorem PE.imp {X : Cx} {e : Expr} {t t' : TE} (h : PE X e t) (i : ∀ σ H Q, t' σ H Q → t σ H Q) : PE X e t' := ⟨fun pins s σ H Q I q => h.run pins s σ H Q I (i σ H Q q)⟩
theorem pk_lax {X : Cx} {kws : List Keyword} {ta : TA} (ha : PK X kws ta) : PK X kws (lax ta) :=
  ⟨fun pos pins s σ H Q I h => by
    obtain ⟨Q0, h0, hq⟩ := h
    refine wpAny_mono (ha.run pos pins s σ H Q0 I h0) (fun us s1 hu => ?_) fun _ _ z => z
    obtain ⟨vs, H1, I1, r, q⟩ := hu
    exact ⟨vs, H1, I1, r, hq vs H1 q⟩⟩
/-! ### the errors' __init__ -/
def spIni (K : PySem.W.Frag) (C : Addr) (fs : List Str) : Sp := fun vs H Q _ => ∃ (a : Addr) (ys : List V), vs = .ref a :: ys ∧ ys.length = fs.length ∧ OexC K C ∧ (∀ f ∈ fs, PySem.W.findIn K (.ref C) f = some none) ∧ H a = some (exo a C none) ∧
  ∀ dx H', H dx = none → dx ≠ a → H' a = some (exo a C (some dx)) → H' dx = some (exd dx (fs.zip ys).reverse) → (∀ b, b ≠ a → b ≠ dx → H' b = H b) → Q .non H'
section
variable {P : Program} {w : World} {K : PySem.W.Frag} {mg : Str → Option Value} {base : Heap}
theorem ok_ini1 {st : Stmt} {qual f1 : Str} {f C : Addr} {fd : FuncData} (F : FunD K "__init__" qual (defArgs st) (defBody st) (defScope st) [] [] f fd) (S : FnScope (("self" : Str) :: [f1]) (("self" : Str) :: [f1]) (defScope st))
    (body : ∀ X : Cx, X.N = (("self" : Str) :: [f1]) → X.env.scope = defScope st → PSs X (defBody st) (tOst X.K f1 (tVar 0) (tVar 1))) : FnOk P w K mg base (L2.CX P w) 1 f fd (("self" : Str) :: [f1]) (spIni K C [f1]) := by
  refine F.ok S (fun vs H Q E h => ?_) (fun cdv A outer s H vs Q E hr h => ?_)
  · obtain ⟨a, ys, rfl, l, _⟩ := h
    rw [List.length_cons, l]
    rfl
  · obtain ⟨a, ys, rfl, l, hC, hno, ha, k⟩ := h
    match ys, l with
    | [y], _ =>
      refine ⟨_, body _ rfl rfl, ?_⟩
      refine ⟨_, rfl, _, rfl, a, C, rfl, hC, hno f1 (List.mem_singleton.mpr rfl), .inl ⟨ha, fun dx n ne => k dx _ n ne upd_same ?_ fun b n1 n2 => ?_⟩⟩
      · rw [upd_ne ne, upd_same]
        rfl
      · rw [upd_ne n1, upd_ne n2]
theorem ok_ini2 {st : Stmt} {qual f1 f2 : Str} {f C : Addr} {fd : FuncData} (F : FunD K "__init__" qual (defArgs st) (defBody st) (defScope st) [] [] f fd) (S : FnScope (("self" : Str) :: [f1, f2]) (("self" : Str) :: [f1, f2]) (defScope st))
    (body : ∀ X : Cx, X.N = (("self" : Str) :: [f1, f2]) → X.env.scope = defScope st → PSs X (defBody st) (tSeq (tOst X.K f1 (tVar 0) (tVar 1)) (tOst X.K f2 (tVar 0) (tVar 2)))) : FnOk P w K mg base (L2.CX P w) 1 f fd (("self" : Str) :: [f1, f2]) (spIni K C [f1, f2]) := by
  refine F.ok S (fun vs H Q E h => ?_) (fun cdv A outer s H vs Q E hr h => ?_)
  · obtain ⟨a, ys, rfl, l, _⟩ := h
    rw [List.length_cons, l]
    rfl
  · obtain ⟨a, ys, rfl, l, hC, hno, ha, k⟩ := h
    match ys, l with
    | [y, z], _ =>
      refine ⟨_, body _ rfl rfl, ?_⟩
      refine ⟨_, rfl, _, rfl, a, C, rfl, hC, hno f1 (List.mem_cons_self ..), .inl ⟨ha, fun dx n ne => ?_⟩⟩
      refine ⟨_, rfl, _, rfl, a, C, rfl, hC, hno f2 (List.mem_cons_of_mem _ (List.mem_singleton.mpr rfl)), .inr ⟨dx, _, upd_same, by rw [upd_ne ne]; exact upd_same, (by show 1 ≤ 900; decide), ?_⟩⟩
      refine k dx _ n ne ?_ ?_ fun b n1 n2 => ?_
      · rw [upd_ne (Ne.symm ne), upd_same]
      · rw [upd_same]
        rfl
      · rw [upd_ne n2, upd_ne n1, upd_ne n2]
end
/-- a class of errors, its fields -/
structure EC (P : Program) (w : World) (K : PySem.W.Frag) (mg : Str → Option Value) (base : Heap) (x : Str) (fs ks : List Str) (g : {α : Type} → List α → List α → List α) : Prop where
  glob : mg x = some (.ref (He.ga K x))
  oex : OexC K (He.ga K x)
  no : ∀ f ∈ fs, PySem.W.findIn K (.ref (He.ga K x)) f = some none
  init : PySem.W.findIn K (.ref (He.ga K x)) "__init__" = some (some (.ref (He.ma K (He.ga K x) "__init__")))
  tI : PySem.W.typeIn K (.ref (He.ma K (He.ga K x) "__init__")) = some (.type "function")
  xc : ExcC K (He.ga K x)
  xf : XfC K (He.ga K x)
  fn : ∃ fd, FnOk P w K mg base (L2.CX P w) 1 (He.ma K (He.ga K x) "__init__") fd (("self" : Str) :: fs) (spIni K (He.ga K x) fs) ∧ L2.Binds K fd (("self" : Str) :: fs) [] ∧ KBn K fd (("self" : Str) :: fs) 1 ks (fun us ws => g us ws) (fun vs zs => g vs zs)
/-- C(e, ..): a new error with its fields -/
def tMkE (C : Addr) (fs : List Str) (ta : TA) : TE := fun σ H Q => ta σ H fun vs H1 => vs.length = fs.length ∧ ∀ a d H', Same H1 H' → H1 a = none → H' a = some (exo a C (some d)) → H' d = some (exd d (fs.zip vs).reverse) → Q (.ref a) H'
def tMkK (C : Addr) (fs : List Str) (m : Nat) (r : List V → List V) (tk : TA) : TE := fun σ H Q => tk σ H fun zs H1 => zs.length = m ∧ (r zs).length = fs.length ∧ ∀ a d H', Same H1 H' → H1 a = none → H' a = some (exo a C (some d)) → H' d = some (exd d (fs.zip (r zs)).reverse) → Q (.ref a) H'
/-- the same, to be raised -/
def tMkX (C : Addr) (fs : List Str) (ta : TA) : L2.St → Hp → XK → Prop := fun σ H Q => ta σ H fun vs H1 => vs.length = fs.length ∧ ∀ d H', Same H1 H' → H1 d = none → H' d = some (.xd (fs.zip vs).reverse) → Q (.ref C) (some d) H'
theorem ini_same {H1 H' : Hp} {a dx C : Addr} (ha : H1 a = none) (n : upd H1 a (exo a C none) dx = none) (hne : dx ≠ a) (fr : ∀ b, b ≠ a → b ≠ dx → H' b = upd H1 a (exo a C none) b) : Same H1 H' := fun b o e => by
  have n1 : b ≠ a := ne_of_none e ha
  have n2 : b ≠ dx := ne_of_none e (by rw [upd_ne hne] at n; exact n)
  rw [fr b n1 n2, upd_ne n1]
  exact e
section
variable {X : Cx} {x : Str} {fs ks : List Str} {g : {α : Type} → List α → List α → List α} {p pos : Pos} {e : Expr} {es : List Expr} {ta tk : TA} {kws : List Keyword}
theorem pe_mkE (T : EC X.prog X.w X.K X.mg X.base x fs ks g) (hr : Room 2 X.A) (ha : PA X (e :: es) ta) (hfs : fs.length ≤ 100 := by decide) (hg : Gl X x := by rfl)
    (hdb : (x == ("__debug__" : Str)) = false := by decide) (he : starEach (e :: es) X.env = (false, eval e X.env) :: starEach es X.env := by rfl) (hpl : (backTo pos (starEach es X.env)).any (·.1) = false := by rfl) :
    PE X (.Call (.Name x p) (e :: es) [] pos) (tMkE (He.ga X.K x) fs ta) := by
  obtain ⟨fd, Fn, b, _⟩ := T.fn
  refine PE.imp (pe_oex T.oex T.init T.tI Fn hr b hg T.glob (pa_lax ha) hdb he hpl) fun σ H Q h => ⟨_, h, fun vs H1 hv => ?_⟩
  obtain ⟨hl, kk⟩ := hv
  refine ⟨by omega, fun a na => ⟨a, vs, rfl, hl, T.oex, T.no, upd_same, fun dx H' n hne ea ed fr => ⟨rfl, kk a dx H' (ini_same na n hne fr) na ea ed⟩⟩⟩
theorem pe_mkK {r : List V → List V} (T : EC X.prog X.w X.K X.mg X.base x fs ks g) (hr : Room 2 X.A) (hkw : PK X kws tk) (hr2 : ∀ (v : V) zs, zs.length = ks.length → g [v] zs = v :: r zs) (hg : Gl X x := by rfl)
    (hall : (backToKw pos (keywordEach kws X.env)).all (·.1.isSome) = true := by rfl) (hks : (backToKw pos (keywordEach kws X.env)).filterMap (·.1) = ks := by rfl) (hdb : (x == ("__debug__" : Str)) = false := by decide)
    (hpl : ((backTo pos (starEach [] X.env)).any (·.1) || (backToKw pos (keywordEach kws X.env)).any (·.1.isNone)) = false := by rfl) :
    PE X (.Call (.Name x p) [] kws pos) (tMkK (He.ga X.K x) fs ks.length r tk) := by
  obtain ⟨fd, Fn, _, b⟩ := T.fn
  refine PE.imp (pe_oexK T.oex T.init T.tI Fn hr b hg T.glob (pk_lax hkw) hall hks hdb hpl) fun σ H Q h => ⟨_, h, fun zs H1 hv => ?_⟩
  obtain ⟨hl, hl2, kk⟩ := hv
  refine ⟨hl, fun a na => ?_⟩
  dsimp only
  rw [hr2 _ _ hl]
  exact ⟨a, r zs, rfl, hl2, T.oex, T.no, upd_same, fun dx H' n hne ea ed fr => ⟨rfl, kk a dx H' (ini_same na n hne fr) na ea ed⟩⟩
theorem pmk_mkX (T : EC X.prog X.w X.K X.mg X.base x fs ks g) (hr : Room 2 X.A) (ha : PA X (e :: es) ta) (hfs : fs.length ≤ 100 := by decide) (hg : Gl X x := by rfl)
    (hdb : (x == ("__debug__" : Str)) = false := by decide) (he : starEach (e :: es) X.env = (false, eval e X.env) :: starEach es X.env := by rfl) (hpl : (backTo pos (starEach es X.env)).any (·.1) = false := by rfl) :
    L2N.PMk X (.Call (.Name x p) (e :: es) [] pos) (tMkX (He.ga X.K x) fs ta) := by
  obtain ⟨fd, Fn, hb, _⟩ := T.fn
  intro pins s σ H Q I h
  obtain ⟨nm, q, N, bs, bm, sn, sub, ab, col, dd, k0, k1, k2, k3, k5, hC, hbm⟩ := T.oex.cls
  refine wpAny_Call_Name_kw (ld_glob I hg T.glob ?_ hdb)
  refine PySem.W.callWith_K (h₀ := X.base) I.ok.mod.kin T.oex.kC (thn (ha.run pos pins s σ H _ I h) fun us s1 ⟨vs, H1, J, r1, hz, q1⟩ => ⟨J.kIn, ?_⟩) he hpl
  show wpAny _ _ (call (.ref (He.ga X.K x)) us) _ _ _
  obtain ⟨hp, g0, dr, tk0, os⟩ := s1
  have hsz : hp.objs.size ≤ hp.objs.size + 1 := Nat.le_succ _
  have hn : H1 (hp.objs.size + 1) = none := J.hok.fresh hsz
  have hget : ((hp.push (PySem.W.kdv_tup us)).push (PySem.HandSPX.excO (He.ga X.K x) hp.objs.size)).get? (hp.objs.size + 1) = some (PySem.HandSPX.excO (He.ga X.K x) hp.objs.size) := by heap_get
  have kk : ∀ b o, hp.get? b = some o → ((hp.push (PySem.W.kdv_tup us)).push (PySem.HandSPX.excO (He.ga X.K x) hp.objs.size)).get? b = some o := fun b o z => Heap.get?_push_of_some _ (Heap.get?_push_of_some _ z)
  have J2 : Inv X pins σ (upd H1 (hp.objs.size + 1) (exo (hp.objs.size + 1) (He.ga X.K x) none)) ⟨(hp.push (PySem.W.kdv_tup us)).push (PySem.HandSPX.excO (He.ga X.K x) hp.objs.size), g0, dr, tk0, os⟩ :=
    J.laid (t' := tk0) kk hsz (exo_ok hget)
  have r2 : Vals (V.ref (hp.objs.size + 1) :: vs) (Value.ref (hp.objs.size + 1) :: us) := .cons rfl r1
  have hl : (Value.ref (hp.objs.size + 1) :: us ++ []).length = (("self" : Str) :: fs).length := by
    rw [List.append_nil, ← r2.length, List.length_cons, List.length_cons, hz]
  have hus : us.length ≤ sizeLine := by
    rw [← Paired.length r1, sizeLine_eq]
    omega
  have b := hb ⟨(hp.push (PySem.W.kdv_tup us)).push (PySem.HandSPX.excO (He.ga X.K x) hp.objs.size), g0, dr, tk0, os⟩ (Value.ref (hp.objs.size + 1) :: us) J2.kIn hl
  rw [List.append_nil] at b
  have hsp : spIni X.K (He.ga X.K x) fs (V.ref (hp.objs.size + 1) :: vs) (upd H1 (hp.objs.size + 1) (exo (hp.objs.size + 1) (He.ga X.K x) none)) (fun v H2 => v = .non ∧ ∃ d : Addr, H2 (hp.objs.size + 1) = some (exo (hp.objs.size + 1) (He.ga X.K x) (some d)) ∧ H2 d = some (exd d (fs.zip vs).reverse) ∧ H1 d = none ∧
      Q (.ref (He.ga X.K x)) (some d) (upd (del H2 (hp.objs.size + 1)) d (.xd (fs.zip vs).reverse))) (fun _ _ _ => False) := by
    refine ⟨_, vs, rfl, hz, T.oex, T.no, upd_same, fun dx H' n hne ea ed fr => ⟨rfl, dx, ea, ed, by rw [upd_ne hne] at n; exact n, q1 dx _ (fun b o z => ?_) (by rw [upd_ne hne] at n; exact n) upd_same⟩⟩
    have n1 : b ≠ dx := ne_of_none z (by rw [upd_ne hne] at n; exact n)
    have n2 : b ≠ hp.objs.size + 1 := ne_of_none z hn
    rw [upd_ne n1, del_ne n2, fr b n2 n1, upd_ne n2]
    exact z
  refine wpAny_call (PySem.HandSPX.call_own F.excBase_ValueError (fun Y => PySem.HandSPX.refsVE_contains Y bm hbm) (J.kIn _ _ hC) (PySem.W.looks_findIn J.kIn T.init) (fun self => PySem.W.bind_fn J.kIn self T.tI) hus
    (codeAny_mono (Fn.run _ X.stack _ _ ⟨Value.ref (hp.objs.size + 1) :: us, []⟩ _ _ _ (fun _ _ _ => False) (hr.make (He.ga X.K x) us []) (J2.env0.make (He.ga X.K x) us []) b r2 hsp) fun r s' hq' => ?_))
  cases r with
  | error er => exact passU pins σ _ _ er s' J2 hq'
  | ok fl =>
    cases fl with
    | ret u =>
      obtain ⟨v, H2, os2, bare2, un2, hok2, rv, ev, d, ea, ed, hd1, q2⟩ := hq'
      subst ev
      obtain ⟨h2, g2, d2, t2, os'⟩ := s'
      obtain ⟨t0, G, Y, kG, ge, hoe, na⟩ := mk_end0 (d2 := d2) (t2 := t2) J hsz kk un2 hok2 os2 bare2 ea ed hd1
      exact ⟨rv, ⟨hp.objs.size + 1, _, _, ⟨G, g2, d2, t2, os'⟩, _, .ref (He.ga X.K x), some d, rfl, Y, kG, ge, hoe, ⟨rfl, rfl, fun vs hv => by cases hv; rfl⟩, rfl, rfl, na, rfl, bare2, raises_own T.oex.exC T.oex.tyC, q2⟩⟩
    | next => exact False.elim hq'
    | brk => exact False.elim hq'
    | cont => exact False.elim hq'
end
end WU

set_option maxRecDepth 100000
set_option maxHeartbeats 8000000
namespace WU
open PySem PySem.Spec PyProof.Rows L2
section
variable {P : Program} {w : World} {K : PySem.W.Frag} {mg : Str → Option Value} {base : Heap}
structure Blt (mg : Str → Option Value) : Prop where
  isi : mg "isinstance" = none
  int : mg "int" = none
  bool : mg "bool" = none
theorem bN {x : Str} {st : Stmt} {f : Addr} {fd : FuncData} {ps : List Str} (F : FnS K x st f fd)
    (h : ∀ (kV doc pm : Value) (an : Option Addr) (cdv ct : Value) (us : List Value), us.length = ps.length → bindArgs (PySem.W.fnOf x x (defArgs st) (defBody st) (defScope st) .none kV doc pm an cdv ct) ⟨us, []⟩ = pure (ps.zip us)) : Binds K fd ps [] := F.bindsN h
theorem cal_mk {x : Str} {st : Stmt} {f : Addr} {fd : FuncData} {ps : List Str} {k : Nat} {sp : Sp} (F : FnS K x st f fd) (g : mg x = some (.ref f)) (ok : FnOk P w K mg base (L2.CX P w) k f fd ps sp)
    (h : ∀ (kV doc pm : Value) (an : Option Addr) (cdv ct : Value) (us : List Value), us.length = ps.length → bindArgs (PySem.W.fnOf x x (defArgs st) (defBody st) (defScope st) .none kV doc pm an cdv ct) ⟨us, []⟩ = pure (ps.zip us)) : Cal P w K mg base k x f fd ps sp :=
  ⟨g, F.kp, F.bindsN h, ok⟩
/-- whether it is a number; .. below n -/
structure Blt2 (mg : Str → Option Value) : Prop extends Blt mg where
  len : mg "len" = none
  abs : mg "abs" = none
  range : mg "range" = none
  tuple : mg "tuple" = none
abbrev sDraws : Stmt := top 15
abbrev sTake : Stmt := top 16
/-- numbers from 0 on -/
def Nn (ns : List Int) : Prop := ∀ n ∈ ns, 0 ≤ n
/-- _law_draws(script, many) -/
def spDraws (K : PySem.W.Frag) (many : Int) : Sp := fun vs H Q _ => ∃ (a : Addr) (ns : List Int), vs = [.ref a, .int many] ∧ SqL K H a (ns.map V.int) ∧ ns.length ≤ 63 ∧
  ∀ p ds H', Same H H' → H p = none → H' p = some (.lst (ds.map V.int)) → Nn ds → ds.length ≤ many.toNat → Q (.ref p) H'
theorem scDraws : FnScope ["script", "many", "cell", "rests", "draws", "k", "at", "mixed"] ["script", "many"] (defScope sDraws) := ⟨rfl, rfl, rfl, by decide +kernel, rfl, by decide +kernel, by decide +kernel⟩
def rMd : R2 := rI (fun _ j => j ≠ 0) fun i j => .int (i.fmod j)
def rDv : R2 := rI CDivN fun i j => .int (i.fdiv j)
def rMl : R2 := rI CMul fun i j => .int (i * j)
def rAd : R2 := rI0 fun i j => .int (i + j)
def tI1 (t : TE) : TE := tCB (fun xs H Q => (∃ i, xs = [V.int i] ∧ Q (.int i) H) ∨ ∃ k, xs = [V.bl k] ∧ Q (.int (if k then 1 else 0)) H) (tCons t tNil)
/-- the end of a turn: two mixings, one number put behind the others -/
def tTail (K : PySem.W.Frag) : TS := tSeq (tAsg (tOp rMd (tI1 (tOp rAd (tOp rAd (tOp rMl (tVar 2) (tC (.int 48271))) (tOp rMl (tVar 5) (tC (.int 69621)))) (tC (.int 11)))) (tC (.int 2147483647))) (gName 7))
  (tSeq (tAsg (tOp rMd (tI1 (tOp rAd (tOp rDv (tOp rMl (tVar 7) (tVar 7)) (tC (.int 4096))) (tVar 7))) (tC (.int 2147483629))) (gName 7))
    (tDrop (tBM K "list" rAppend (tVar 4) (tCons (tOp rMd (tI1 (tOp rAd (tOp rDv (tOp rMl (tVar 7) (tVar 7)) (tC (.int 4096))) (tOp rMl (tVar 5) (tC (.int 7919))))) (tC (.int 2147483629))) tNil))))
theorem fmod_bd (x : Int) {m : Int} (h : 0 < m) : 0 ≤ x.fmod m ∧ x.fmod m < m := ⟨Int.fmod_nonneg_of_pos x h, Int.fmod_lt_of_pos x h⟩
theorem tail_ok {D : Ends} {s0 s1 s3 s6 s7 : Option V} {c k : Int} {L : Addr} {ds : List Int} {H : Hp} (hL : H L = some (.lst (ds.map V.int))) (hl : ds.length ≤ 1000)
    (kk : ∀ (x : Int) (y : Option V), 0 ≤ x → D.nx [s0, s1, some (.int c), s3, some (.ref L), some (.int k), s6, y] (upd H L (.lst ((ds ++ [x]).map V.int)))) :
    tTail K D [s0, s1, some (.int c), s3, some (.ref L), some (.int k), s6, s7] H := by
  have b1 := fmod_bd (c * 48271 + k * 69621 + 11) (m := 2147483647) (by decide)
  refine ⟨_, rfl, _, _, rfl, rfl, .inr ⟨by decide, by decide⟩, _, rfl, _, _, rfl, rfl, .inr ⟨by decide, by decide⟩, _, _, rfl, rfl, _, _, rfl, rfl, .inl ⟨_, rfl, _, _, rfl, rfl, (show (2147483647 : Int) ≠ 0 by decide), ?_⟩⟩
  dsimp only
  generalize (c * 48271 + k * 69621 + 11).fmod 2147483647 = m at b1 ⊢
  have b2 := fmod_bd ((m * m).fdiv 4096 + m) (m := 2147483629) (by decide)
  refine ⟨_, rfl, _, rfl, _, _, rfl, rfl, .inl ⟨by omega, by omega⟩, _, _, rfl, rfl, ⟨by decide, by decide⟩, _, rfl, _, _, rfl, rfl, .inl ⟨_, rfl, _, _, rfl, rfl, (show (2147483629 : Int) ≠ 0 by decide), ?_⟩⟩
  dsimp only
  generalize ((m * m).fdiv 4096 + m).fmod 2147483629 = n at b2 ⊢
  refine ⟨_, rfl, .inl ⟨rfl, _, SqL.of hL⟩, ?_⟩
  refine ⟨_, rfl, _, rfl, _, _, rfl, rfl, .inl ⟨by omega, by omega⟩, _, _, rfl, rfl, ⟨by decide, by decide⟩, _, rfl, _, _, rfl, rfl, .inr ⟨by decide, by decide⟩, _, _, rfl, rfl, .inl ⟨_, rfl, _, _, rfl, rfl, (show (2147483629 : Int) ≠ 0 by decide), ?_⟩⟩
  refine ⟨L, _, _, rfl, rfl, hL, ?_, ?_⟩
  · rw [List.length_map]
    exact small1000 hl
  · have b3 := fmod_bd ((n * n).fdiv 4096 + k * 7919) (m := 2147483629) (by decide)
    have q := kk _ (some (.int n)) b3.1
    rw [List.map_append] at q
    exact q
theorem ok_draws {f : Addr} {fd : FuncData} (F : FnS K "_law_draws" sDraws f fd) (B : Blt2 mg) {many : Int} (hm0 : 0 ≤ many) (hm : many ≤ 1000) : FnOk P w K mg base (L2.CX P w) 1 f fd ["script", "many"] (spDraws K many) := by
  refine F.ok scDraws (fun vs H Q E h => ?_) (fun cdv A outer s H vs Q E hr h => ?_)
  · obtain ⟨a, ns, rfl, _⟩ := h
    rfl
  · obtain ⟨a, ns, rfl, hS, hl, k⟩ := h
    have nd := scDraws.nd
    refine ⟨_, (pss_cons (ps_setLc (i := 3) (own := [("cell", 2)]) (g := gName 2) (by rfl) nd rfl rfl (sw_true rfl rfl rfl (by decide +kernel)) (pi_list (pv 0)) (blkOk_by (own := [("cell", 2)]) (N := ["script", "many", "cell", "rests", "draws", "k", "at", "mixed"]) (sc := defScope sDraws) (by decide +kernel)) (fun _ _ _ _ _ => pg_name (i := 2) nd rfl (Or.inl rfl)) (fun _ _ _ _ _ => pts_nil) (fun _ _ _ _ _ => (pe_callB call_abs (by rfl) B.abs (by decide +kernel) (pa_cons (pe_callTy call_int1 (by rfl) B.int (by decide +kernel) (pa_cons (pv 2) pa_nil)) pa_nil))))
      (pss_cons (ps_set (i := 4) nd rfl (Or.inl rfl) (pe_lst pa_nil))
      (pss_cons (ps_for (passes_of rfl) rfl (pi_range1 rfl B.range (pa_cons (pv 1) pa_nil)) (pg_name (i := 5) nd rfl (Or.inl rfl)) (pss_cons (ps_set (i := 2) nd rfl (Or.inl rfl) (pv 5))
      (pss_cons (ps_if (pt_cmpR op_gt (pe_callB call_len_seq (by rfl) B.len (by decide +kernel) (pa_cons (pv 0) pa_nil)) pe_int (nomark _)) (pss_cons (ps_set (i := 6) nd rfl (Or.inl rfl) (pe_op op_modN (pv 5) (pe_callB call_len_seq (by rfl) B.len (by decide +kernel) (pa_cons (pv 0) pa_nil))))
      (pss_cons (ps_set (i := 2) nd rfl (Or.inl rfl) (pe_callTy call_int1 (by rfl) B.int (by decide +kernel) (pa_cons (pe_ix ix_list (pv 0) (pv 6) (fun _ _ => rfl)) pa_nil)))
      (pss_one (ps_if (PW.pt (pw_and (pt_cmpR op_ge (pv 2) (pe_op op_pow pe_int pe_int) (nomark _)) (pw_and1 (pt_cmpR op_gt (pe_ix ix_list (pv 3) (pv 6) (fun _ _ => rfl)) pe_int (nomark _))))) (pss_cons (ps_expr (pe_bm PySem.F.plainAttrs_list PySem.F.slot_list_append PySem.F.type_list_append mt_append (pv 4) (pa_cons (pe_op op_modN (pe_callTy call_int1 (by rfl) B.int (by decide +kernel) (pa_cons (pe_ix ix_list (pv 3) (pv 6) (fun _ _ => rfl)) pa_nil)) pe_int) pa_nil)))
      (pss_cons (ps_asg (pe_op op_fdivN (pe_callTy call_int1 (by rfl) B.int (by decide +kernel) (pa_cons (pe_ix ix_list (pv 3) (pv 6) (fun _ _ => rfl)) pa_nil)) pe_int) (pg_sub (pv 3) (pv 6) set_list))
      (pss_one ps_continue))) pss_nil)))) pss_nil)
      (pss_cons (ps_set (i := 7) nd rfl (Or.inl rfl) (pe_op op_modN (pe_callTy call_int1 (by rfl) B.int (by decide +kernel) (pa_cons (pe_op op_add (pe_op op_add (pe_op op_mul (pv 2) pe_int) (pe_op op_mul (pv 5) pe_int)) pe_int) pa_nil)) pe_int))
      (pss_cons (ps_set (i := 7) nd rfl (Or.inl rfl) (pe_op op_modN (pe_callTy call_int1 (by rfl) B.int (by decide +kernel) (pa_cons (pe_op op_add (pe_op op_fdivN (pe_op op_mul (pv 7) (pv 7)) pe_int) (pv 7)) pa_nil)) pe_int))
      (pss_one (ps_expr (pe_bm PySem.F.plainAttrs_list PySem.F.slot_list_append PySem.F.type_list_append mt_append (pv 4) (pa_cons (pe_op op_modN (pe_callTy call_int1 (by rfl) B.int (by decide +kernel) (pa_cons (pe_op op_add (pe_op op_fdivN (pe_op op_mul (pv 7) (pv 7)) pe_int) (pe_op op_mul (pv 5) pe_int)) pa_nil)) pe_int) pa_nil)))))))))
      (pss_one (ps_ret (pv 4)))))), ?_⟩
    refine ⟨_, rfl, a, rfl, ⟨_, hS⟩, fun D hD => lc_list (K := K) (a := a) (xs := ns.map V.int) (fun i H' => Same H H' ∧ ∃ rs : List Int, H' D = some (.lst (rs.map V.int)) ∧ rs.length = i ∧ Nn rs)
      ⟨fun c o hc => by rw [upd_ne (ne_of_none hc hD)]; exact hc, [], upd_same, rfl, fun n hn => by cases hn⟩ (fun i H' _ z => z.1.seq hS) ?_ ?_⟩
    · rintro i x H' hi ⟨s1, rs, e, l, n⟩
      obtain ⟨z, hz, rfl⟩ : ∃ z, ns[i]? = some z ∧ x = V.int z := by
        rw [List.getElem?_map] at hi
        cases q : ns[i]? with
        | none => rw [q] at hi; cases hi
        | some z => rw [q] at hi; exact ⟨z, rfl, (Option.some.inj hi).symm⟩
      have hi2 : i < ns.length := (List.getElem?_eq_some_iff.mp hz).1
      refine ⟨rfl, _, rfl, .inl ⟨z, rfl, z, rfl, _, e, ?_, fun c o hc => ?_, rs ++ [if z < 0 then -z else z], ?_, ?_, ?_⟩⟩
      · rw [List.length_map]
        exact small1000 (by omega)
      · rw [upd_ne (ne_of_none hc hD)]
        exact s1 c o hc
      · rw [upd_same, List.map_append]
        rfl
      · rw [List.length_append, l]
        rfl
      · intro m hm
        rcases List.mem_append.mp hm with hm | hm
        · exact n m hm
        · rw [List.mem_singleton.mp hm]
          split <;> omega
    · rintro H1 ⟨s1, rs, e, l, n⟩
      rw [List.length_map] at l
      refine ⟨(by show 0 ≤ sizeLine; omega), fun L hL => ?_⟩
      have hDL : D ≠ L := ne_of_none e hL
      have hL0 : H L = none := s1.free hL
      refine ⟨_, rfl, many, rfl, (by omega), (by omega), for_range (lo := 0) (n := many.toNat) (fun i σ H' => ∃ (v2 v5 v6 v7 : Option V) (rs ds : List Int), σ = [some (.ref a), some (.int many), v2, some (.ref D), some (.ref L), v5, v6, v7] ∧ Same H H' ∧
        H' D = some (.lst (rs.map V.int)) ∧ rs.length = ns.length ∧ Nn rs ∧ H' L = some (.lst (ds.map V.int)) ∧ Nn ds ∧ ds.length ≤ i)
        ⟨none, none, none, none, rs, [], rfl, fun c o hc => by rw [upd_ne (ne_of_none hc hL0)]; exact s1 c o hc, by rw [upd_ne hDL]; exact e, l, n, upd_same, (fun m hm => nomatch hm), Nat.le_refl _⟩ ?_ ?_⟩
      · rintro i σ H2 hi ⟨v2, v5, v6, v7, rs, ds, rfl, s2, eD, lD, nD, eL, nL, lL⟩
        have s2S := s2.seq hS
        have put : ∀ (x : Int) (v2 v5 v6 v7 : Option V), 0 ≤ x → ∃ (v2' v5' v6' v7' : Option V) (rs' ds' : List Int), [some (V.ref a), some (V.int many), v2, some (V.ref D), some (V.ref L), v5, v6, v7] = [some (V.ref a), some (V.int many), v2', some (V.ref D), some (V.ref L), v5', v6', v7'] ∧
            Same H (upd H2 L (.lst ((ds ++ [x]).map V.int))) ∧ upd H2 L (.lst ((ds ++ [x]).map V.int)) D = some (.lst (rs'.map V.int)) ∧ rs'.length = ns.length ∧ Nn rs' ∧ upd H2 L (.lst ((ds ++ [x]).map V.int)) L = some (.lst (ds'.map V.int)) ∧ Nn ds' ∧ ds'.length ≤ i + 1 := by
          intro x v2 v5 v6 v7 hx
          refine ⟨v2, v5, v6, v7, rs, ds ++ [x], rfl, fun c o hc => by rw [upd_ne (ne_of_none hc hL0)]; exact s2 c o hc, by rw [upd_ne hDL]; exact eD, lD, nD, upd_same, ?_, by rw [List.length_append]; show ds.length + 1 ≤ i + 1; omega⟩
          intro m hm
          rcases List.mem_append.mp hm with hm | hm
          · exact nL m hm
          · rw [List.mem_singleton.mp hm]
            exact hx
        refine ⟨_, rfl, _, rfl, _, _, rfl, .inl s2S, _, _, rfl, rfl, _, rfl, ?_⟩
        rw [List.length_map]
        by_cases h0 : ns.length = 0
        · rw [decide_eq_false (by omega)]
          refine iteF ?_
          show tTail K _ [some (.ref a), some (.int many), some (.int _), some (.ref D), some (.ref L), some (.int _), _, _] H2
          exact tail_ok eL (by omega) fun x y hx => put x _ _ _ y hx
        · rw [decide_eq_true (by omega)]
          refine iteT ?_
          refine ⟨_, rfl, _, rfl, _, _, rfl, .inl s2S, _, _, rfl, rfl, (by rw [List.length_map]; omega), ?_⟩
          have bq := fmod_bd (0 + (i : Int)) (m := ((ns.map V.int).length : Int)) (by rw [List.length_map]; omega)
          obtain ⟨q, hq⟩ : ∃ q : Nat, (0 + (i : Int)).fmod ((ns.map V.int).length : Int) = (q : Int) := ⟨((0 + (i : Int)).fmod ((ns.map V.int).length : Int)).toNat, by omega⟩
          rw [hq] at bq
          have hql : q < ns.length := by
            have := bq.2
            rw [List.length_map] at this
            omega
          have e1 : (ns.map V.int)[q]? = some (V.int ns[q]) := by rw [List.getElem?_map, List.getElem?_eq_getElem hql] <;> rfl
          have e2 : (rs.map V.int)[q]? = some (V.int (rs[q]'(by omega))) := by rw [List.getElem?_map, List.getElem?_eq_getElem (by omega)] <;> rfl
          refine ⟨_, rfl, _, rfl, a, _, _, _, rfl, rfl, s2S, (by rw [hq]; exact atI_nat e1), .inl ⟨_, rfl, ?_⟩⟩
          have ea2 : atI (rs.map V.int) ((0 + (i : Int)).fmod ((ns.map V.int).length : Int)) = some (.int (rs[q]'(by omega))) := by rw [hq]; exact atI_nat e2
          have nq : 0 ≤ rs[q]'(by omega) := nD _ (List.getElem_mem _)
          refine ⟨_, rfl, _, _, rfl, rfl, ⟨by decide, by decide, by decide⟩, _, _, rfl, rfl, _, rfl, ?_⟩
          refine iteD (fun hc => ?_) (fun hc => ?_)
          · refine ⟨_, rfl, _, rfl, D, _, _, _, rfl, rfl, SqL.of eD, ea2, _, _, rfl, rfl, _, rfl, ?_⟩
            refine iteD (fun hd => ?_) (fun hd => ?_)
            · refine ⟨_, rfl, .inl ⟨rfl, _, SqL.of eL⟩, _, rfl, _, rfl, D, _, _, _, rfl, rfl, SqL.of eD, ea2, .inl ⟨_, rfl, _, _, rfl, rfl, (show (1000003 : Int) ≠ 0 by decide), L, _, _, rfl, rfl, eL, (by rw [List.length_map]; exact small1000 (by omega)), ?_⟩⟩
              have eD2 : ∀ o, upd H2 L o D = some (.lst (rs.map V.int)) := fun o => by rw [upd_ne hDL]; exact eD
              refine ⟨_, rfl, _, rfl, D, _, _, _, rfl, rfl, SqL.of (eD2 _), ea2, .inl ⟨_, rfl, _, _, rfl, rfl, ⟨by decide, by decide⟩, _, rfl, _, rfl, D, _, _, q, rfl, rfl, eD2 _, (by rw [hq, List.length_map]; exact ixN_at (by omega)), ?_⟩⟩
              have b4 := fmod_bd (rs[q]'(by omega)) (m := 1000003) (by decide)
              have b5 : 0 ≤ (rs[q]'(by omega)).fdiv 1000003 := Int.fdiv_nonneg nq (by decide)
              have hDc : ∀ {c : Addr} {o : HO}, H c = some o → c ≠ D := fun hc => ne_of_none hc hD
              refine ⟨_, _, _, _, rs.set q ((rs[q]'(by omega)).fdiv 1000003), ds ++ [(rs[q]'(by omega)).fmod 1000003], rfl, fun c o hc => ?_, ?_, ?_, ?_, ?_, ?_, ?_⟩
              · rw [upd_ne (hDc hc), upd_ne (ne_of_none hc hL0)]
                exact s2 c o hc
              · rw [upd_same, List.map_set]
              · rw [List.length_set]
                exact lD
              · intro m hm
                rcases List.mem_or_eq_of_mem_set hm with h | h
                · exact nD m h
                · rw [h]; exact b5
              · rw [upd_ne hDL.symm, upd_same, List.map_append]
                rfl
              · intro m hm
                rcases List.mem_append.mp hm with hm | hm
                · exact nL m hm
                · rw [List.mem_singleton.mp hm]
                  exact b4.1
              · rw [List.length_append]
                show ds.length + 1 ≤ i + 1
                omega
            · show tTail K _ [some (.ref a), some (.int many), some (.int _), some (.ref D), some (.ref L), some (.int _), _, _] H2
              exact tail_ok eL (by omega) fun x y hx => put x _ _ _ y hx
          · show tTail K _ [some (.ref a), some (.int many), some (.int _), some (.ref D), some (.ref L), some (.int _), _, _] H2
            exact tail_ok eL (by omega) fun x y hx => put x _ _ _ y hx
      · rintro σ H2 ⟨v2, v5, v6, v7, rs, ds, rfl, s2, eD, lD, nD, eL, nL, lL⟩
        exact ⟨_, rfl, k L ds H2 s2 hL0 eL nL lL⟩
/-- the hand: the draws and the place in them -/
def HandAt (H : Hp) (a d : Addr) : Prop := ∃ (ds : List Int) (i : Int), H a = some (.lst [.ref d, .int i]) ∧ H d = some (.lst (ds.map V.int)) ∧ Nn ds ∧ 0 ≤ i
theorem hand_ne {H : Hp} {a d : Addr} {ds : List Int} {i : Int} (h1 : H a = some (.lst [.ref d, .int i])) (h2 : H d = some (.lst (ds.map V.int))) : a ≠ d := by
  refine ne_of h1 h2 fun z => ?_
  have z' : [V.ref d, V.int i] = ds.map V.int := HO.lst.inj z
  cases ds with
  | nil => cases z'
  | cons x r =>
    have z2 : V.ref d = V.int x := (List.cons.inj z').1
    cases z2
/-- all but what stands at a is as it was -/
def Keep (a : Addr) (H H' : Hp) : Prop := ∀ b o, b ≠ a → H b = some o → H' b = some o
theorem Keep.refl {a : Addr} {H : Hp} : Keep a H H := fun _ _ _ h => h
theorem Keep.trans {a : Addr} {H H1 H2 : Hp} (x : Keep a H H1) (y : Keep a H1 H2) : Keep a H H2 := fun b o n h => y b o n (x b o n h)
theorem Keep.of {a : Addr} {H H' : Hp} (h : Same H H') : Keep a H H' := fun b o _ e => h b o e
theorem Keep.new {a p : Addr} {o : HO} {H : Hp} (h : H p = none) : Keep a H (upd H p o) := fun b u _ e => by rw [upd_ne (ne_of_none e h)]; exact e
theorem HandAt.same {H H' : Hp} {a d : Addr} (h : HandAt H a d) (s : Same H H') : HandAt H' a d := by
  obtain ⟨ds, i, h1, h2, h3, h4⟩ := h
  exact ⟨ds, i, s _ _ h1, s _ _ h2, h3, h4⟩
theorem HandAt.one {H : Hp} {a d : Addr} (h : HandAt H a d) : ∃ o, H a = some o := by
  obtain ⟨ds, i, h1, _⟩ := h
  exact ⟨_, h1⟩
theorem HandAt.two {H : Hp} {a d : Addr} (h : HandAt H a d) : ∃ o, H d = some o := by
  obtain ⟨ds, i, _, h2, _⟩ := h
  exact ⟨_, h2⟩
theorem HandAt.ne {H : Hp} {a d p : Addr} (h : HandAt H a d) (n : H p = none) : a ≠ p ∧ d ≠ p := by
  obtain ⟨o, e⟩ := h.one
  obtain ⟨u, e2⟩ := h.two
  exact ⟨ne_of_none e n, ne_of_none e2 n⟩
theorem HandAt.put {H : Hp} {a d p : Addr} {o : HO} (h : HandAt H a d) (n1 : a ≠ p) (n2 : d ≠ p) : HandAt (upd H p o) a d := by
  obtain ⟨ds, i, h1, h2, h3, h4⟩ := h
  exact ⟨ds, i, by rw [upd_ne n1]; exact h1, by rw [upd_ne n2]; exact h2, h3, h4⟩
theorem HandAt.new {H : Hp} {a d p : Addr} {o : HO} (h : HandAt H a d) (n : H p = none) : HandAt (upd H p o) a d := h.put (h.ne n).1 (h.ne n).2
def spTake : Sp := fun vs H Q _ => ∃ (a d : Addr) (many : Int), vs = [.ref a, .int many] ∧ 0 < many ∧ HandAt H a d ∧ ∀ r H', 0 ≤ r → r < many → HandAt H' a d → Keep a H H' → Q (.int r) H'
theorem scTake : FnScope ["hand", "many", "at", "draws"] ["hand", "many"] (defScope sTake) := ⟨rfl, rfl, rfl, by decide +kernel, rfl, by decide +kernel, by decide +kernel⟩
theorem ok_take {f : Addr} {fd : FuncData} (F : FnS K "_law_take" sTake f fd) (B : Blt2 mg) : FnOk P w K mg base (L2.CX P w) 1 f fd ["hand", "many"] spTake := by
  refine F.ok scTake (fun vs H Q E h => ?_) (fun cdv A outer s H vs Q E hr h => ?_)
  · obtain ⟨a, d, m, rfl, _⟩ := h
    rfl
  · obtain ⟨a, d, m, rfl, hm, ⟨ds, i, h1, h2, h3, h4⟩, k⟩ := h
    have nd := scTake.nd
    have nad := hand_ne h1 h2
    refine ⟨_, (pss_cons (ps_set (i := 2) nd rfl (Or.inl rfl) (pe_ix ix_list (pv 0) pe_int (fun _ _ => rfl)))
      (pss_cons (ps_asg (pe_op op_add (pv 2) pe_int) (pg_sub (pv 0) pe_int set_list))
      (pss_cons (ps_set (i := 3) nd rfl (Or.inl rfl) (pe_ix ix_list (pv 0) pe_int (fun _ _ => rfl)))
      (pss_cons (ps_if (pt_cmpR op_ge (pv 2) (pe_callB call_len_seq (by rfl) B.len (by decide +kernel) (pa_cons (pv 3) pa_nil)) (nomark _)) (pss_one (ps_ret pe_int)) pss_nil)
      (pss_one (ps_ret (pe_op op_modN (pe_op op_fdivN (pe_callTy call_int1 (by rfl) B.int (by decide +kernel) (pa_cons (pe_ix ix_list (pv 3) (pv 2) (fun _ _ => rfl)) pa_nil)) pe_int) (pv 1)))))))), ?_⟩
    refine ⟨_, rfl, a, _, _, _, rfl, rfl, SqL.of h1, atI_nat (j := 1) rfl, ?_⟩
    refine ⟨_, rfl, _, _, rfl, rfl, _, rfl, a, _, _, 1, rfl, rfl, h1, rfl, ?_⟩
    have h2' : ∀ o, upd H a o d = some (.lst (ds.map V.int)) := fun o => by rw [upd_ne nad.symm]; exact h2
    have done : ∀ r, 0 ≤ r → r < m → Q (.int r) (upd H a (.lst [.ref d, .int (i + 1)])) := fun r r0 r1 =>
      k r _ r0 r1 ⟨ds, i + 1, upd_same, h2' _, h3, by omega⟩ fun b o hb e => by rw [upd_ne hb]; exact e
    refine ⟨_, rfl, a, _, _, _, rfl, rfl, SqL.of upd_same, atI_nat (j := 0) rfl, ?_⟩
    refine ⟨_, rfl, _, rfl, d, _, rfl, .inl (SqL.of (h2' _)), _, _, rfl, rfl, _, rfl, ?_⟩
    rw [List.length_map]
    refine iteD (fun hc => ?_) (fun hc => ?_)
    · exact done 0 (by omega) (by omega)
    · obtain ⟨q, hq⟩ : ∃ q : Nat, i = (q : Int) := ⟨i.toNat, by omega⟩
      subst hq
      have hql : q < ds.length := by omega
      have e1 : (ds.map V.int)[q]? = some (V.int ds[q]) := by rw [List.getElem?_map, List.getElem?_eq_getElem hql] <;> rfl
      have b := fmod_bd (ds[q].fdiv 7) hm
      refine ⟨_, rfl, _, rfl, d, _, _, _, rfl, rfl, SqL.of (h2' _), atI_nat e1, .inl ⟨_, rfl, _, _, rfl, rfl, ⟨by decide, by decide⟩, _, rfl, _, _, rfl, rfl, (by omega), done _ b.1 b.2⟩⟩
end
end WU

set_option maxRecDepth 100000
set_option maxHeartbeats 8000000
namespace WU
open PySem PySem.Spec PyProof.Rows L2
def leafV : V → Bool
  | .int _ => true
  | .bl _ => true
  | .non => true
  | .str _ => true
  | _ => false
/-- an odd value of lists and tuples that are new since B, to the depth n -/
def OD (B : Hp) : Nat → Hp → V → Prop
  | 0, _, v => leafV v = true
  | n + 1, H, v => leafV v = true ∨ ∃ p xs, v = .ref p ∧ B p = none ∧ (H p = some (.lst xs) ∨ H p = some (.tup xs)) ∧ xs.length ≤ 10 ∧ ∀ x ∈ xs, OD B n H x
theorem OD.leaf {B : Hp} {n : Nat} {H : Hp} {v : V} (h : leafV v = true) : OD B n H v := by
  cases n with
  | zero => exact h
  | succ n => exact .inl h
theorem OD.up {B : Hp} : ∀ {n : Nat} {H : Hp} {v : V}, OD B n H v → OD B (n + 1) H v
  | 0, _, _, h => .inl h
  | n + 1, _, _, h => by
    rcases h with h | ⟨p, xs, e, b, h, l, a⟩
    · exact .inl h
    · exact .inr ⟨p, xs, e, b, h, l, fun x hx => (a x hx).up⟩
theorem OD.frame {B : Hp} : ∀ {n : Nat} {H H' : Hp} {v : V}, OD B n H v → (∀ b o, B b = none → H b = some o → H' b = some o) → OD B n H' v
  | 0, _, _, _, h, _ => h
  | n + 1, _, _, _, h, k => by
    rcases h with h | ⟨p, xs, e, b, h, l, a⟩
    · exact .inl h
    · exact .inr ⟨p, xs, e, b, h.imp (k _ _ b) (k _ _ b), l, fun x hx => (a x hx).frame k⟩
theorem OD.base {B B' : Hp} (i : ∀ b, B b = none → B' b = none) : ∀ {n : Nat} {H : Hp} {v : V}, OD B n H v → OD B' n H v
  | 0, _, _, h => h
  | n + 1, _, _, h => by
    rcases h with h | ⟨p, xs, e, b, h, l, a⟩
    · exact .inl h
    · exact .inr ⟨p, xs, e, i _ b, h, l, fun x hx => (a x hx).base i⟩
section
variable {P : Program} {w : World} {K : PySem.W.Frag} {mg : Str → Option Value} {base : Heap}
abbrev sOdd : Stmt := top 17
def spOdd (n : Nat) : Sp := fun vs H Q _ => ∃ (a d : Addr) (m : Int), vs = [.ref a, .int m] ∧ 0 ≤ m ∧ m < n ∧ HandAt H a d ∧ ∀ v H', OD H n H' v → HandAt H' a d → Keep a H H' → Q v H'
theorem scOdd : FnScope ["hand", "depth", "kind", "parts", "values", "k"] ["hand", "depth"] (defScope sOdd) := ⟨rfl, rfl, rfl, by decide +kernel, rfl, by decide +kernel, by decide +kernel⟩
theorem Keep.none {a : Addr} {H H' : Hp} (k : Keep a H H') (ha : H' a ≠ Option.none) {b : Addr} (hb : H' b = Option.none) : H b = Option.none := by
  cases e : H b with
  | none => rfl
  | some o =>
    by_cases z : b = a
    · rw [z] at hb; exact absurd hb ha
    · rw [k b o z e] at hb; cases hb
theorem HandAt.alive {H : Hp} {a d : Addr} (h : HandAt H a d) : H a ≠ Option.none := by
  obtain ⟨ds, i, h1, _⟩ := h
  rw [h1]
  intro z
  cases z
theorem ok_odd {f fT : Addr} {fd fdT : FuncData} (F : FnS K "_law_odd" sOdd f fd) (B : Blt2 mg) (CT : Cal P w K mg base 1 "_law_take" fT fdT ["hand", "many"] spTake) (n : Nat)
    (CO : Cal P w K mg base (1 + n) "_law_odd" f fd ["hand", "depth"] (spOdd n)) : FnOk P w K mg base (L2.CX P w) (1 + n + 1) f fd ["hand", "depth"] (spOdd (n + 1)) := by
  refine F.ok scOdd (fun vs H Q E h => ?_) (fun cdv A outer s H vs Q E hr h => ?_)
  · obtain ⟨a, d, m, rfl, _⟩ := h
    rfl
  · obtain ⟨a, d, m, rfl, m0, m1, hH, k⟩ := h
    have nd := scOdd.nd
    have hr1 := hr.mono (show 1 ≤ 1 + n by omega)
    refine ⟨_, (pss_cons (ps_set (i := 2) nd rfl (Or.inl rfl) (pe_cal CT hr1 (pa_cons (pv 0) (pa_cons pe_int pa_nil)) passU))
      (pss_cons (ps_if (PW.pt (pw_and (pt_cmpR op_gt (pv 1) pe_int (nomark _)) (pw_and1 (pt_cmpR op_gt (pv 2) pe_int (nomark _))))) (pss_cons (ps_setLc (i := 3) (own := [("k", 5)]) (g := gName 5) (by rfl) nd rfl rfl (sw_true rfl rfl rfl (by decide +kernel)) (pi_range1 rfl B.range (pa_cons (pe_cal CT hr1 (pa_cons (pv 0) (pa_cons pe_int pa_nil)) passU) pa_nil)) (blkOk_by (own := [("k", 5)]) (N := ["hand", "depth", "kind", "parts", "values", "k"]) (sc := defScope sOdd) (by decide +kernel)) (fun _ _ _ _ _ => pg_name (i := 5) nd rfl (Or.inl rfl)) (fun _ _ _ _ _ => pts_nil) (fun _ _ _ _ _ => (pe_cal CO hr (pa_cons (pv 0) (pa_cons (pe_op op_sub (pv 1) pe_int) pa_nil)) passU)))
      (pss_one (ps_ret (pe_ix ix_list (pe_lst (pa_cons (pv 3) (pa_cons (pe_callTy call_tuple_of (by rfl) B.tuple (by decide +kernel) (pa_cons (pv 3) pa_nil)) pa_nil))) (pe_op op_sub (pv 2) pe_int) (fun _ _ => rfl))))) pss_nil)
      (pss_cons (ps_set (i := 4) nd rfl (Or.inl rfl) (pe_lst (pa_cons pe_bl (pa_cons pe_bl (pa_cons pe_non (pa_cons pe_str (pa_cons pe_str (pa_cons pe_int (pa_cons pe_int (pa_cons (pe_un un_neg pe_int) (pa_cons pe_int (pa_cons pe_int (pa_cons pe_int (pa_cons pe_int (pa_cons (pe_op op_pow pe_int pe_int) (pa_cons (pe_un un_neg (pe_op op_pow pe_int pe_int)) (pa_cons (pe_tup pa_nil) (pa_cons (pe_lst pa_nil) pa_nil))))))))))))))))))
      (pss_one (ps_ret (pe_ix ix_list (pv 4) (pe_cal CT hr1 (pa_cons (pv 0) (pa_cons pe_int pa_nil)) passU) (fun _ _ => rfl))))))), ?_⟩
    refine ⟨_, rfl, a, d, 9, rfl, by decide, hH, fun kind H1 r0 r1 hH1 k1 => ?_⟩
    have n01 : ∀ b, H1 b = none → H b = none := fun b hb => k1.none hH1.alive hb
    have vals : ∀ w3 : Option V, tSeq (tAsg (tLst (tCons (tC (.bl true)) (tCons (tC (.bl false)) (tCons (tC .non) (tCons (tC (.str "")) (tCons (tC (.str "a1")) (tCons (tC (.int 0)) (tCons (tC (.int 1)) (tCons (tUn (rU fun i => .int (-i)) (tC (.int 1))) (tCons (tC (.int 2)) (tCons (tC (.int 7)) (tCons (tC (.int 31)) (tCons (tC (.int 37))
        (tCons (tOp (rI CPow fun i j => .int (i ^ j.toNat)) (tC (.int 10)) (tC (.int 30))) (tCons (tUn (rU fun i => .int (-i)) (tOp (rI CPow fun i j => .int (i ^ j.toNat)) (tC (.int 10)) (tC (.int 30)))) (tCons (tTup tNil) (tCons (tLst tNil) tNil))))))))))))))))) (gName 4))
        (tRet (tOp (rIxL K) (tVar 4) (tCall spTake [] E0 (tCons (tVar 0) (tCons (tC (.int 16)) tNil))))) { nx := fun _ H' => Q .non H', rt := Q } [some (.ref a), some (.int m), some (.int kind), w3, none, none] H1 := by
      intro w3
      refine ⟨_, rfl, _, _, rfl, rfl, ⟨by decide, by decide, by decide⟩, _, _, rfl, rfl, ⟨by decide, by decide, by decide⟩, _, rfl, (by show 0 ≤ sizeLine; omega), fun T hT => ⟨(by show 0 ≤ sizeLine; omega), fun L hL => ⟨(by show 16 ≤ sizeLine; decide), fun Z hZ => ?_⟩⟩⟩
      have h0 := hH1.new (o := .tup []) hT
      have h1 := h0.new (o := .lst []) hL
      have s0 : Same H1 (upd (upd H1 T (.tup [])) L (.lst [])) := (same_new hT).trans (same_new hL)
      have eT : upd (upd H1 T (.tup [])) L (.lst []) T = some (.tup []) := by rw [upd_ne (ne_of_none upd_same hL), upd_same]
      have eL : upd (upd H1 T (.tup [])) L (.lst []) L = some (.lst []) := upd_same
      have nT : H T = none := n01 _ hT
      have nL : H L = none := n01 _ (by rw [upd_ne (ne_of_none upd_same hL).symm] at hL; exact hL)
      have nZ := h1.ne hZ
      refine ⟨_, rfl, _, rfl, a, d, 16, rfl, by decide, h1.new hZ, fun r H5 r0 r1 h5 k5 => ?_⟩
      have kz : Keep a (upd (upd H1 T (.tup [])) L (.lst [])) H5 := (Keep.new hZ).trans k5
      have eT5 := kz _ _ (hH1.ne hT).1.symm eT
      have eL5 := kz _ _ (h0.ne hL).1.symm eL
      have all : ∀ v ∈ ([.bl true, .bl false, .non, .str "", .str "a1", .int 0, .int 1, .int (-1), .int 2, .int 7, .int 31, .int 37, .int (10 ^ (30 : Int).toNat), .int (-(10 ^ (30 : Int).toNat)), .ref T, .ref L] : List V), OD H (n + 1) H5 v := by
        intro v hv
        simp only [List.mem_cons, List.not_mem_nil, or_false] at hv
        rcases hv with rfl | rfl | rfl | rfl | rfl | rfl | rfl | rfl | rfl | rfl | rfl | rfl | rfl | rfl | rfl | rfl
        · exact .inl rfl
        · exact .inl rfl
        · exact .inl rfl
        · exact .inl rfl
        · exact .inl rfl
        · exact .inl rfl
        · exact .inl rfl
        · exact .inl rfl
        · exact .inl rfl
        · exact .inl rfl
        · exact .inl rfl
        · exact .inl rfl
        · exact .inl rfl
        · exact .inl rfl
        · exact .inr ⟨T, [], rfl, nT, .inr eT5, by decide, fun x hx => nomatch hx⟩
        · exact .inr ⟨L, [], rfl, nL, .inl eL5, by decide, fun x hx => nomatch hx⟩
      obtain ⟨q, rfl⟩ : ∃ q : Nat, r = (q : Int) := ⟨r.toNat, by omega⟩
      have hq : q < 16 := by omega
      obtain ⟨v, hv⟩ : ∃ v, ([.bl true, .bl false, .non, .str "", .str "a1", .int 0, .int 1, .int (-1), .int 2, .int 7, .int 31, .int 37, .int (10 ^ (30 : Int).toNat), .int (-(10 ^ (30 : Int).toNat)), .ref T, .ref L] : List V)[q]? = some v := ⟨_, List.getElem?_eq_getElem (show q < 16 from hq)⟩
      have ez : H5 Z = some (.lst [.bl true, .bl false, .non, .str "", .str "a1", .int 0, .int 1, .int (-1), .int 2, .int 7, .int 31, .int 37, .int (10 ^ (30 : Int).toNat), .int (-(10 ^ (30 : Int).toNat)), .ref T, .ref L]) := k5 _ _ nZ.1.symm upd_same
      exact ⟨Z, _, _, v, rfl, rfl, SqL.of ez, atI_nat hv, k v H5 (all v (List.mem_of_getElem? hv)) h5 (k1.trans ((Keep.of s0).trans kz))⟩
    refine ⟨_, rfl, _, _, rfl, rfl, _, rfl, iteD (fun hc => ⟨_, rfl, _, _, rfl, rfl, _, rfl, iteD (fun hd => ?_) (fun hd => ?_)⟩) (fun hc => ?_)⟩
    · refine ⟨_, rfl, a, d, 4, rfl, by decide, hH1, fun cnt H2 c0 c1 hH2 k2 => ⟨cnt, rfl, (by omega), (by omega), fun D hD => ?_⟩⟩
      obtain ⟨naD, ndD⟩ := hH2.ne hD
      have n12 : ∀ b, H2 b = none → H b = none := fun b hb => n01 b (k2.none hH2.alive hb)
      refine lc_range (lo := 0) (n := cnt.toNat) (fun i H' => ∃ xs, H' D = some (.lst xs) ∧ xs.length = i ∧ (∀ x ∈ xs, OD (upd H2 D (.lst [])) n H' x) ∧ HandAt H' a d ∧ Keep a H2 H') ⟨[], upd_same, rfl, (fun x hx => nomatch hx), hH2.new hD, Keep.new hD⟩ ?_ ?_
      · rintro i H3 hi ⟨xs, e, hl, hx, h3, k3⟩
        have n3 : ∀ b, H3 b = none → upd H2 D (.lst []) b = none := fun b hb => by
          by_cases z : b = D
          · rw [z, e] at hb; cases hb
          · rw [upd_ne z]; exact k3.none h3.alive hb
        refine ⟨rfl, _, rfl, _, rfl, _, _, rfl, rfl, a, d, _, rfl, (by omega), (by omega), h3, fun v H4 o h4 k4 => ⟨xs, k4 _ _ naD.symm e, small1000 (by omega), xs ++ [v], upd_same, (by rw [List.length_append, hl]; rfl), ?_, h4.put naD ndD, ?_⟩⟩
        · have fr : ∀ b o, upd H2 D (.lst []) b = none → H4 b = some o → upd H4 D (.lst (xs ++ [v])) b = some o := fun b o nb eb => by
            have : b ≠ D := fun z => by rw [z, upd_same] at nb; cases nb
            rw [upd_ne this]
            exact eb
          have fr3 : ∀ b o, upd H2 D (.lst []) b = none → H3 b = some o → upd H4 D (.lst (xs ++ [v])) b = some o := fun b o nb eb => by
            refine fr b o nb (k4 b o (fun z => ?_) eb)
            rw [z, upd_ne naD] at nb
            exact hH2.alive nb
          intro x hm
          rcases List.mem_append.mp hm with hm | hm
          · exact (hx x hm).frame fr3
          · rw [List.mem_singleton.mp hm]
            exact (o.base n3).frame fr
        · intro b o hb hbo
          have nb : b ≠ D := ne_of_none hbo hD
          rw [upd_ne nb]
          exact k4 b o hb (k3 b o hb hbo)
      · rintro H3 ⟨xs, e, hl, hx, h3, k3⟩
        refine ⟨_, rfl, _, rfl, D, xs, rfl, .inl ⟨SqL.of e, fun T hT => ⟨(by show 2 ≤ sizeLine; decide), fun q hq => ?_⟩⟩⟩
        have nT := h3.ne hT
        have nq := (h3.new hT).ne hq
        have nDT : D ≠ T := ne_of_none e hT
        have nDq : D ≠ q := ne_of_none (show upd H3 T (.tup xs) D = some (.lst xs) by rw [upd_ne nDT]; exact e) hq
        have nTq : T ≠ q := ne_of_none (upd_same (H := H3) (a := T) (o := .tup xs)) hq
        have kk : Keep a H (upd (upd H3 T (.tup xs)) q (.lst [.ref D, .ref T])) := k1.trans (k2.trans (k3.trans ((Keep.new hT).trans (Keep.new hq))))
        have hh := (h3.new (o := .tup xs) hT).new (o := .lst [.ref D, .ref T]) hq
        have sf : Same H3 (upd (upd H3 T (.tup xs)) q (.lst [.ref D, .ref T])) := (same_new hT).trans (same_new hq)
        have hx' : ∀ x ∈ xs, OD H n (upd (upd H3 T (.tup xs)) q (.lst [.ref D, .ref T])) x := fun x hm => ((hx x hm).base fun b hb => n12 b (by
          by_cases z : b = D
          · rw [z]; exact hD
          · rw [upd_ne z] at hb; exact hb)).frame fun b o _ eb => sf _ _ eb
        have l10 : xs.length ≤ 10 := by omega
        have hk : kind = 7 ∨ kind = 8 := by omega
        rcases hk with rfl | rfl
        · refine ⟨_, rfl, _, _, rfl, rfl, q, _, _, .ref D, rfl, rfl, SqL.of upd_same, rfl, k _ _ (.inr ⟨D, xs, rfl, n12 _ hD, .inl (sf _ _ e), l10, hx'⟩) hh kk⟩
        · refine ⟨_, rfl, _, _, rfl, rfl, q, _, _, .ref T, rfl, rfl, SqL.of upd_same, rfl, k _ _ (.inr ⟨T, xs, rfl, n12 _ (k3.none h3.alive hT), .inr ?_, l10, hx'⟩) hh kk⟩
          rw [upd_ne nTq, upd_same]
    · exact vals _
    · exact vals _
end
end WU

set_option maxRecDepth 100000
set_option maxHeartbeats 8000000
namespace WU
open PySem PySem.Spec PyProof.Rows L2
structure Blt4 (mg : Str → Option Value) : Prop extends Blt2 mg where
  lst : mg "list" = none
  str : mg "str" = none
/-- found and due alike, their parts by R -/
def LkR (R : Hp → V → V → Prop) (H : Hp) (u v : V) : Prop := (u = v ∧ leafV v = true) ∨ ∃ a b xs ys, u = .ref a ∧ v = .ref b ∧ ((H a = some (.lst xs) ∧ H b = some (.lst ys)) ∨ (H a = some (.tup xs) ∧ H b = some (.tup ys))) ∧ Paired (R H) xs ys ∧ ys.length ≤ 10000
def Lk : Nat → Hp → V → V → Prop
  | 0, _, u, v => u = v ∧ leafV v = true
  | n + 1, H, u, v => LkR (Lk n) H u v
theorem OD.lk {B : Hp} : ∀ {n : Nat} {H : Hp} {v : V}, OD B n H v → Lk n H v v
  | 0, _, _, h => ⟨rfl, h⟩
  | n + 1, H, _, h => by
    rcases h with h | ⟨p, xs, rfl, b, h, l, a⟩
    · exact .inl ⟨rfl, h⟩
    · refine .inr ⟨p, p, xs, xs, rfl, rfl, h.imp (fun h => ⟨h, h⟩) fun h => ⟨h, h⟩, ?_, Nat.le_trans l (by decide)⟩
      have all : ∀ {l : List V}, (∀ x ∈ l, OD B n H x) → Paired (Lk n H) l l := by
        intro l
        induction l with
        | nil => exact fun _ => .nil
        | cons x l ih => exact fun q => .cons (q x (List.mem_cons_self ..)).lk (ih fun y hy => q y (List.mem_cons_of_mem _ hy))
      exact all a
section
variable {P : Program} {w : World} {K : PySem.W.Frag} {mg : Str → Option Value} {base : Heap}
theorem pr_at {α β : Type} {F : α → β → Prop} : ∀ {l : List α} {m : List β} {i : Nat} {y : β}, Paired F l m → m[i]? = some y → ∃ x, l[i]? = some x ∧ F x y
  | _, _, _, _, .nil, e => by cases e
  | _, _, 0, _, .cons h _, e => by
    cases e
    exact ⟨_, rfl, h⟩
  | _, _, i + 1, _, .cons _ t, e => pr_at (i := i) t e
theorem pr_len {α β : Type} {F : α → β → Prop} : ∀ {l : List α} {m : List β}, Paired F l m → l.length = m.length
  | _, _, .nil => rfl
  | _, _, .cons _ t => congrArg Nat.succ (pr_len t)
abbrev sLk : Stmt := top 22
theorem scLk : FnScope ["found", "due", "at"] ["found", "due"] (defScope sLk) := ⟨rfl, rfl, rfl, by decide +kernel, rfl, by decide +kernel, by decide +kernel⟩
def spLk (R : Hp → V → V → Prop) : Sp := fun vs H Q _ => ∃ u v, vs = [u, v] ∧ R H u v ∧ Q (.bl true) H
theorem ok_Lk1 {R : Hp → V → V → Prop} {k : Nat} {f : Addr} {fd : FuncData} (F : FnS K "_law_like" sLk f fd) (B : Blt4 mg) (C0 : Cal P w K mg base k "_law_like" f fd ["found", "due"] (spLk R)) :
    FnOk P w K mg base (L2.CX P w) (k + 1) f fd ["found", "due"] (spLk (LkR R)) := by
  refine F.ok scLk (fun vs H Q E h => ?_) (fun cdv A outer s H vs Q E hr h => ?_)
  · obtain ⟨u, v, rfl, _⟩ := h
    rfl
  · obtain ⟨u, v, rfl, he, kk⟩ := h
    have nd := scLk.nd
    refine ⟨_, (pss_cons (ps_if (PW.pt (pw_or (pt_val (pe_callB call_isi (by rfl) B.isi (by decide +kernel) (pa_cons (pv 1) (pa_cons (pe_bltn (v := .ty "list") (by rfl) B.lst (by decide +kernel) rfl) pa_nil)))) (pw_or1 (pt_val (pe_callB call_isi (by rfl) B.isi (by decide +kernel) (pa_cons (pv 1) (pa_cons (pe_bltn (v := .ty "tuple") (by rfl) B.tuple (by decide +kernel) rfl) pa_nil))))))) (pss_cons (ps_if (PW.pt (pw_or (pt_cmpR op_ne (pe_callB call_isi (by rfl) B.isi (by decide +kernel) (pa_cons (pv 0) (pa_cons (pe_bltn (v := .ty "list") (by rfl) B.lst (by decide +kernel) rfl) pa_nil))) (pe_callB call_isi (by rfl) B.isi (by decide +kernel) (pa_cons (pv 1) (pa_cons (pe_bltn (v := .ty "list") (by rfl) B.lst (by decide +kernel) rfl) pa_nil))) (nomark _)) (pw_or1 (pt_cmpR op_ne (pe_callB call_isi (by rfl) B.isi (by decide +kernel) (pa_cons (pv 0) (pa_cons (pe_bltn (v := .ty "tuple") (by rfl) B.tuple (by decide +kernel) rfl) pa_nil))) (pe_callB call_isi (by rfl) B.isi (by decide +kernel) (pa_cons (pv 1) (pa_cons (pe_bltn (v := .ty "tuple") (by rfl) B.tuple (by decide +kernel) rfl) pa_nil))) (nomark _))))) (pss_one (ps_ret pe_bl)) pss_nil)
      (pss_cons (ps_if (pt_cmpR op_ne (pe_callB call_len_seq (by rfl) B.len (by decide +kernel) (pa_cons (pv 0) pa_nil)) (pe_callB call_len_seq (by rfl) B.len (by decide +kernel) (pa_cons (pv 1) pa_nil)) (nomark _)) (pss_one (ps_ret pe_bl)) pss_nil)
      (pss_cons (ps_for (passes_of rfl) rfl (pi_range1 rfl B.range (pa_cons (pe_callB call_len_seq (by rfl) B.len (by decide +kernel) (pa_cons (pv 1) pa_nil)) pa_nil)) (pg_name (i := 2) nd rfl (Or.inl rfl)) (pss_one (ps_if (pt_not (pt_val (pe_cal C0 hr (pa_cons (pe_ix ix_seq (pv 0) (pv 2) (fun _ _ => rfl)) (pa_cons (pe_ix ix_seq (pv 1) (pv 2) (fun _ _ => rfl)) pa_nil)) passU))) (pss_one (ps_ret pe_bl)) pss_nil)))
      (pss_one (ps_ret pe_bl))))) pss_nil)
      (pss_cons (ps_if (pt_cmpR op_isN (pv 1) pe_non (nomark _)) (pss_one (ps_ret (pe_cmpR op_isN (pv 0) pe_non (nomark _)))) pss_nil)
      (pss_cons (ps_if (pt_val (pe_callB call_isi (by rfl) B.isi (by decide +kernel) (pa_cons (pv 1) (pa_cons (pe_bltn (v := .ty "bool") (by rfl) B.bool (by decide +kernel) rfl) pa_nil)))) (pss_one (ps_ret (pe_and (pe_callB call_isi (by rfl) B.isi (by decide +kernel) (pa_cons (pv 0) (pa_cons (pe_bltn (v := .ty "bool") (by rfl) B.bool (by decide +kernel) rfl) pa_nil))) (pe_one (pe_cmpR op_eq (pv 0) (pv 1) (nomark _)))))) pss_nil)
      (pss_cons (ps_if (pt_val (pe_callB call_isi (by rfl) B.isi (by decide +kernel) (pa_cons (pv 1) (pa_cons (pe_bltn (v := .ty "str") (by rfl) B.str (by decide +kernel) rfl) pa_nil)))) (pss_one (ps_ret (pe_and (pe_callB call_isi (by rfl) B.isi (by decide +kernel) (pa_cons (pv 0) (pa_cons (pe_bltn (v := .ty "str") (by rfl) B.str (by decide +kernel) rfl) pa_nil))) (pe_one (pe_cmpR op_eq (pv 0) (pv 1) (nomark _)))))) pss_nil)
      (pss_one (ps_ret (pe_and (pe_callB call_isi (by rfl) B.isi (by decide +kernel) (pa_cons (pv 0) (pa_cons (pe_bltn (v := .ty "int") (by rfl) B.int (by decide +kernel) rfl) pa_nil))) (pe_and (pe_not (pe_callB call_isi (by rfl) B.isi (by decide +kernel) (pa_cons (pv 0) (pa_cons (pe_bltn (v := .ty "bool") (by rfl) B.bool (by decide +kernel) rfl) pa_nil)))) (pe_one (pe_cmpR op_eq (pv 0) (pv 1) (nomark _))))))))))), ?_⟩
    have kk' : ∀ {c : Prop} [Decidable c], c → Q (.bl (decide c)) H := fun hc => by rw [decide_eq_true hc]; exact kk
    rcases he with ⟨rfl, hl⟩ | ⟨a, b, xs, ys, rfl, rfl, hab, hP, hl⟩
    · cases u with
      | int i =>
        refine ⟨_, rfl, _, _, _, _, _, rfl, .ty "list", .base (.int i), kit_ty (show kitB "int" "list" = some false by decide +kernel), _, rfl, iteF ?_⟩
        refine ⟨_, rfl, _, _, _, _, _, rfl, .ty "tuple", .base (.int i), kit_ty (show kitB "int" "tuple" = some false by decide +kernel), _, rfl, iteF ?_⟩
        refine ⟨_, rfl, rfl, _, rfl, iteFb (decide_eq_false (by intro z; cases z)) ?_⟩
        refine ⟨_, rfl, _, _, _, _, _, rfl, .ty "bool", .base (.int i), kit_ty (show kitB "int" "bool" = some false by decide +kernel), _, rfl, iteF ?_⟩
        refine ⟨_, rfl, _, _, _, _, _, rfl, .ty "str", .base (.int i), kit_ty (show kitB "int" "str" = some false by decide +kernel), _, rfl, iteF ?_⟩
        refine ⟨_, rfl, _, _, _, _, _, rfl, .ty "int", .base (.int i), kit_ty (show kitB "int" "int" = some true by decide +kernel), _, rfl, iteT ?_⟩
        exact ⟨_, rfl, _, _, _, _, _, rfl, .ty "bool", .base (.int i), kit_ty (show kitB "int" "bool" = some false by decide +kernel), _, rfl, _, rfl, iteT ⟨_, rfl, _, rfl, rfl, kk' rfl⟩⟩
      | bl i =>
        refine ⟨_, rfl, _, _, _, _, _, rfl, .ty "list", .base (.bl i), kit_ty (show kitB "bool" "list" = some false by decide +kernel), _, rfl, iteF ?_⟩
        refine ⟨_, rfl, _, _, _, _, _, rfl, .ty "tuple", .base (.bl i), kit_ty (show kitB "bool" "tuple" = some false by decide +kernel), _, rfl, iteF ?_⟩
        refine ⟨_, rfl, rfl, _, rfl, iteFb (decide_eq_false (by intro z; cases z)) ?_⟩
        refine ⟨_, rfl, _, _, _, _, _, rfl, .ty "bool", .base (.bl i), kit_ty (show kitB "bool" "bool" = some true by decide +kernel), _, rfl, iteT ?_⟩
        exact ⟨_, rfl, _, _, _, _, _, rfl, .ty "bool", .base (.bl i), kit_ty (show kitB "bool" "bool" = some true by decide +kernel), _, rfl, iteT ⟨_, rfl, _, rfl, rfl, kk' rfl⟩⟩
      | non =>
        refine ⟨_, rfl, _, _, _, _, _, rfl, .ty "list", .base .non, kit_ty (show kitB "NoneType" "list" = some false by decide +kernel), _, rfl, iteF ?_⟩
        refine ⟨_, rfl, _, _, _, _, _, rfl, .ty "tuple", .base .non, kit_ty (show kitB "NoneType" "tuple" = some false by decide +kernel), _, rfl, iteF ?_⟩
        exact ⟨_, rfl, rfl, _, rfl, iteTb (decide_eq_true rfl) ⟨_, rfl, rfl, kk' rfl⟩⟩
      | str z =>
        refine ⟨_, rfl, _, _, _, _, _, rfl, .ty "list", .base (.str z), kit_ty (show kitB "str" "list" = some false by decide +kernel), _, rfl, iteF ?_⟩
        refine ⟨_, rfl, _, _, _, _, _, rfl, .ty "tuple", .base (.str z), kit_ty (show kitB "str" "tuple" = some false by decide +kernel), _, rfl, iteF ?_⟩
        refine ⟨_, rfl, rfl, _, rfl, iteFb (decide_eq_false (by intro z; cases z)) ?_⟩
        refine ⟨_, rfl, _, _, _, _, _, rfl, .ty "bool", .base (.str z), kit_ty (show kitB "str" "bool" = some false by decide +kernel), _, rfl, iteF ?_⟩
        refine ⟨_, rfl, _, _, _, _, _, rfl, .ty "str", .base (.str z), kit_ty (show kitB "str" "str" = some true by decide +kernel), _, rfl, iteT ?_⟩
        exact ⟨_, rfl, _, _, _, _, _, rfl, .ty "str", .base (.str z), kit_ty (show kitB "str" "str" = some true by decide +kernel), _, rfl, iteT ⟨_, rfl, _, rfl, rfl, kk' rfl⟩⟩
      | _ => cases hl
    · have el := pr_len hP
      have ixa : ∀ (i : Nat) v (Q : VK), xs[i]? = some v → Q v H → rIx K (.ref a) (.int i) H Q := fun i v Q e q => by
        rcases hab with ⟨h, _⟩ | ⟨h, _⟩
        · exact .inl ⟨a, xs, (i : Int), v, rfl, rfl, SqL.of h, atI_nat e, q⟩
        · exact .inr (.inl ⟨a, xs, (i : Int), v, rfl, rfl, SqT.of h, atI_nat e, q⟩)
      have ixb : ∀ (i : Nat) v (Q : VK), ys[i]? = some v → Q v H → rIx K (.ref b) (.int i) H Q := fun i v Q e q => by
        rcases hab with ⟨_, h⟩ | ⟨_, h⟩
        · exact .inl ⟨b, ys, (i : Int), v, rfl, rfl, SqL.of h, atI_nat e, q⟩
        · exact .inr (.inl ⟨b, ys, (i : Int), v, rfl, rfl, SqT.of h, atI_nat e, q⟩)
      have sa : SqL K H a xs ∨ SqT K H a xs := hab.imp (fun h => SqL.of h.1) fun h => SqT.of h.1
      have sb : SqL K H b ys ∨ SqT K H b ys := hab.imp (fun h => SqL.of h.2) fun h => SqT.of h.2
      rcases id hab with ⟨ha, hb⟩ | ⟨ha, hb⟩
      · refine ⟨_, rfl, _, _, _, _, _, rfl, .ty "list", .base (.lst hb), kit_ty (show kitB "list" "list" = some true by decide +kernel), _, rfl, iteT ?_⟩
        refine ⟨_, rfl, _, _, _, _, _, rfl, .ty "list", .base (.lst ha), kit_ty (show kitB "list" "list" = some true by decide +kernel), _, rfl, _, _, _, _, _, rfl, .ty "list", .base (.lst hb), kit_ty (show kitB "list" "list" = some true by decide +kernel), rfl, _, rfl, iteF ?_⟩
        refine ⟨_, rfl, _, _, _, _, _, rfl, .ty "tuple", .base (.lst ha), kit_ty (show kitB "list" "tuple" = some false by decide +kernel), _, rfl, _, _, _, _, _, rfl, .ty "tuple", .base (.lst hb), kit_ty (show kitB "list" "tuple" = some false by decide +kernel), rfl, _, rfl, iteF ?_⟩
        refine ⟨_, rfl, a, _, rfl, sa, _, rfl, b, _, rfl, sb, rfl, _, rfl, iteFb (by rw [decide_eq_true (congrArg (fun n : Nat => V.int n) el)]; rfl) ?_⟩
        refine ⟨_, rfl, b, _, rfl, sb, (ys.length : Int), rfl, by omega, by omega, for_range (lo := 0) (n := ys.length) (fun i σ H' => ∃ x, σ = [some (.ref a), some (.ref b), x] ∧ H' = H) ⟨none, rfl, rfl⟩ ?_ ?_⟩
        · rintro i σ H' hi ⟨x, rfl, rfl⟩
          have hy : ys[i]? = some ys[i] := List.getElem?_eq_getElem hi
          obtain ⟨u, hx, r⟩ := pr_at hP hy
          rw [show ((0 : Int) + (i : Int)) = ((i : Nat) : Int) from Int.zero_add _]
          exact ⟨_, rfl, _, rfl, ixa i u _ hx ⟨_, rfl, _, rfl, ixb i _ _ hy ⟨u, _, rfl, r, _, rfl, iteF ⟨_, rfl, rfl⟩⟩⟩⟩
        · rintro σ H' ⟨x, rfl, rfl⟩
          exact kk
      · refine ⟨_, rfl, _, _, _, _, _, rfl, .ty "list", .base (.tup hb), kit_ty (show kitB "tuple" "list" = some false by decide +kernel), _, rfl, iteF ?_⟩
        refine ⟨_, rfl, _, _, _, _, _, rfl, .ty "tuple", .base (.tup hb), kit_ty (show kitB "tuple" "tuple" = some true by decide +kernel), _, rfl, iteT ?_⟩
        refine ⟨_, rfl, _, _, _, _, _, rfl, .ty "list", .base (.tup ha), kit_ty (show kitB "tuple" "list" = some false by decide +kernel), _, rfl, _, _, _, _, _, rfl, .ty "list", .base (.tup hb), kit_ty (show kitB "tuple" "list" = some false by decide +kernel), rfl, _, rfl, iteF ?_⟩
        refine ⟨_, rfl, _, _, _, _, _, rfl, .ty "tuple", .base (.tup ha), kit_ty (show kitB "tuple" "tuple" = some true by decide +kernel), _, rfl, _, _, _, _, _, rfl, .ty "tuple", .base (.tup hb), kit_ty (show kitB "tuple" "tuple" = some true by decide +kernel), rfl, _, rfl, iteF ?_⟩
        refine ⟨_, rfl, a, _, rfl, sa, _, rfl, b, _, rfl, sb, rfl, _, rfl, iteFb (by rw [decide_eq_true (congrArg (fun n : Nat => V.int n) el)]; rfl) ?_⟩
        refine ⟨_, rfl, b, _, rfl, sb, (ys.length : Int), rfl, by omega, by omega, for_range (lo := 0) (n := ys.length) (fun i σ H' => ∃ x, σ = [some (.ref a), some (.ref b), x] ∧ H' = H) ⟨none, rfl, rfl⟩ ?_ ?_⟩
        · rintro i σ H' hi ⟨x, rfl, rfl⟩
          have hy : ys[i]? = some ys[i] := List.getElem?_eq_getElem hi
          obtain ⟨u, hx, r⟩ := pr_at hP hy
          rw [show ((0 : Int) + (i : Int)) = ((i : Nat) : Int) from Int.zero_add _]
          exact ⟨_, rfl, _, rfl, ixa i u _ hx ⟨_, rfl, _, rfl, ixb i _ _ hy ⟨u, _, rfl, r, _, rfl, iteF ⟨_, rfl, rfl⟩⟩⟩⟩
        · rintro σ H' ⟨x, rfl, rfl⟩
          exact kk
theorem ok_Lk {f : Addr} {fd : FuncData} (F : FnS K "_law_like" sLk f fd) (B : Blt4 mg) (g : mg "_law_like" = some (.ref f)) (hb : L2.Binds K fd ["found", "due"] []) : ∀ n, FnOk P w K mg base (L2.CX P w) (n + 1) f fd ["found", "due"] (spLk (Lk n))
  | 0 => by
    have e : FnOk P w K mg base (L2.CX P w) 0 f fd ["found", "due"] (spLk fun _ _ _ => False) := ⟨fun vs H Q E ⟨_, _, _, z, _⟩ => z.elim, fun A outer s H args us vs Q E _ _ _ _ ⟨_, _, _, z, _⟩ => z.elim⟩
    exact (ok_Lk1 F B ⟨g, F.kp, hb, e⟩).imp fun vs H Q E ⟨u, v, e, h, q⟩ => ⟨u, v, e, .inl h, q⟩
  | n + 1 => ok_Lk1 F B ⟨g, F.kp, hb, ok_Lk F B g hb n⟩
end
end WU

set_option maxRecDepth 100000
set_option maxHeartbeats 8000000
namespace WU
open PySem PySem.Spec PyProof.Rows L2

def NMS : List Str := ["InvalidNumber", "InvalidShare", "InvalidMatrix", "InvalidLibrary", "InvalidPlan", "InvalidTape", "InvalidAnswers", "InvalidText", "InvalidLine", "UnknownWord", "Undefined", "NothingToUndo"]
def cn (k : Nat) : Str := NMS.getD k "InvalidNumber"
abbrev Ck (K : PySem.W.Frag) (k : Nat) : Addr := He.ga K (cn k)
/-- the fields of the error of the kind k, the last one first -/
def flds (one text number : V) : Nat → List (Str × V)
  | 4 => [("place", number), ("part", text)]
  | 7 => [("at", number), ("text", text)]
  | 8 => [("at", number), ("line", text)]
  | 9 => [("word", text)]
  | 10 => [("what", text)]
  | 11 => [("word", text)]
  | _ => [("value", one)]
/-- e is an error of the kind k -/
def ErrAt (K : PySem.W.Frag) (H : Hp) (e : V) (k : Nat) (one text number : V) : Prop := ∃ a d, e = .ref a ∧ H a = some (exo a (Ck K k) (some d)) ∧ H d = some (exd d (flds one text number k))
theorem ErrAt.same {K : PySem.W.Frag} {H H' : Hp} {e : V} {k : Nat} {one text number : V} (h : ErrAt K H e k one text number) (s : Same H H') : ErrAt K H' e k one text number := by
  obtain ⟨a, d, h1, h2, h3⟩ := h
  exact ⟨a, d, h1, s _ _ h2, s _ _ h3⟩
/-- which kind -/
def kl (k : Nat) : List V := [.bl (decide (k = 0)), .bl (decide (k = 1)), .bl (decide (k = 2)), .bl (decide (k = 3)), .bl (decide (k = 4)), .bl (decide (k = 5)), .bl (decide (k = 6)), .bl (decide (k = 7)), .bl (decide (k = 8)), .bl (decide (k = 9)), .bl (decide (k = 10)), .bl (decide (k = 11))]
structure ES (P : Program) (w : World) (K : PySem.W.Frag) (mg : Str → Option Value) (base : Heap) : Prop where
  e0 : EC P w K mg base "InvalidNumber" ["value"] ["value"] (fun us ws => us ++ ws)
  e1 : EC P w K mg base "InvalidShare" ["value"] ["value"] (fun us ws => us ++ ws)
  e2 : EC P w K mg base "InvalidMatrix" ["value"] ["value"] (fun us ws => us ++ ws)
  e3 : EC P w K mg base "InvalidLibrary" ["value"] ["value"] (fun us ws => us ++ ws)
  e4 : EC P w K mg base "InvalidPlan" ["part", "place"] ["place", "part"] (fun us ws => us ++ ws.reverse)
  e5 : EC P w K mg base "InvalidTape" ["value"] ["value"] (fun us ws => us ++ ws)
  e6 : EC P w K mg base "InvalidAnswers" ["value"] ["value"] (fun us ws => us ++ ws)
  e7 : EC P w K mg base "InvalidText" ["text", "at"] ["at", "text"] (fun us ws => us ++ ws.reverse)
  e8 : EC P w K mg base "InvalidLine" ["line", "at"] ["at", "line"] (fun us ws => us ++ ws.reverse)
  e9 : EC P w K mg base "UnknownWord" ["word"] ["word"] (fun us ws => us ++ ws)
  e10 : EC P w K mg base "Undefined" ["what"] ["what"] (fun us ws => us ++ ws)
  e11 : EC P w K mg base "NothingToUndo" ["word"] ["word"] (fun us ws => us ++ ws)
  kk : ∀ i j, i < 12 → j < 12 → PySem.W.kitOne K (.ref (Ck K i)) (.ref (Ck K j)) = some (decide (i = j))
  kW : ∀ i, i < 12 → PySem.W.kitOne K (.ref (Ck K i)) (.ref (He.ga K "WishError")) = some true
  kV : ∀ i, i < 12 → PySem.W.kitOne K (.ref (Ck K i)) (.type "ValueError") = some true
  ex : ∀ i, i < 12 → PySem.W.exmOne K (.ref (Ck K i)) (.ref (He.ga K "WishError")) = some true
  gW : mg "WishError" = some (.ref (He.ga K "WishError"))
  vE : mg "ValueError" = none
section
variable {P : Program} {w : World} {K : PySem.W.Frag} {mg : Str → Option Value} {base : Heap}
theorem ES.xc (T : ES P w K mg base) {k : Nat} (h : k < 12) : ExcC K (Ck K k) ∧ XfC K (Ck K k) := by
  match k, h with
  | 0, _ => exact ⟨T.e0.xc, T.e0.xf⟩
  | 1, _ => exact ⟨T.e1.xc, T.e1.xf⟩
  | 2, _ => exact ⟨T.e2.xc, T.e2.xf⟩
  | 3, _ => exact ⟨T.e3.xc, T.e3.xf⟩
  | 4, _ => exact ⟨T.e4.xc, T.e4.xf⟩
  | 5, _ => exact ⟨T.e5.xc, T.e5.xf⟩
  | 6, _ => exact ⟨T.e6.xc, T.e6.xf⟩
  | 7, _ => exact ⟨T.e7.xc, T.e7.xf⟩
  | 8, _ => exact ⟨T.e8.xc, T.e8.xf⟩
  | 9, _ => exact ⟨T.e9.xc, T.e9.xf⟩
  | 10, _ => exact ⟨T.e10.xc, T.e10.xf⟩
  | 11, _ => exact ⟨T.e11.xc, T.e11.xf⟩
  | n + 12, h => exact absurd h (by omega)
theorem isv (T : ES P w K mg base) {H : Hp} {e : V} {k j : Nat} {one text number : V} {Q : VK} (hE : ErrAt K H e k one text number) (hk : k < 12) (hj : j < 12) (h : Q (.bl (decide (k = j))) H) : rIsV K [e, .ref (Ck K j)] H Q := by
  obtain ⟨a, d, rfl, h1, h2⟩ := hE
  exact ⟨a, Ck K k, d, _, _, _, _, rfl, h1, h2, (T.xc hk).1, .own _, T.kk k j hk hj, h⟩
theorem isp (T : ES P w K mg base) {H : Hp} {a dd : Addr} {k j : Nat} {fs : List (Str × V)} {Q : VK} (hd : H dd = some (.xd fs)) (hk : k < 12) (hj : j < 12) (h : Q (.bl (decide (k = j))) H) : rIsP K a (.ref (Ck K k)) (some dd) [.ref a, .ref (Ck K j)] H Q :=
  ⟨Ck K k, dd, fs, _, _, _, rfl, rfl, rfl, hd, (T.xc hk).1, .own _, T.kk k j hk hj, h⟩
abbrev sKd : Stmt := top 18
theorem scKd : FnScope ["e", "found"] ["e"] (defScope sKd) := ⟨rfl, rfl, rfl, by decide +kernel, rfl, by decide +kernel, by decide +kernel⟩
def TellK (k : Nat) (H : Hp) (Q : VK) : Prop := ∀ q H', Same H H' → H' q = some (.lst (kl k)) → Q (.ref q) H'
def spKd (K : PySem.W.Frag) : Sp := fun vs H Q _ => ∃ (e : V) (k : Nat) (one text number : V), vs = [e] ∧ k < 12 ∧ ErrAt K H e k one text number ∧ TellK k H Q
def spKdP (K : PySem.W.Frag) (a : Addr) (cls : Value) (d : Option Addr) : Sp := fun vs H Q _ => ∃ (k : Nat) (dd : Addr) (fs : List (Str × V)), vs = [.ref a] ∧ k < 12 ∧ cls = .ref (Ck K k) ∧ d = some dd ∧ H dd = some (.xd fs) ∧ TellK k H Q
theorem ok_Kd {f : Addr} {fd : FuncData} (F : FnS K "_law_kinds" sKd f fd) (B : Blt4 mg) (T : ES P w K mg base) : FnOk P w K mg base (L2.CX P w) 1 f fd ["e"] (spKd K) := by
  refine F.ok scKd (fun vs H Q E h => ?_) (fun cdv A outer s H vs Q E hr h => ?_)
  · obtain ⟨e, k, one, text, number, rfl, _⟩ := h
    rfl
  · obtain ⟨e, k, one, text, number, rfl, hk, ⟨a, d, rfl, h1, h2⟩, kk⟩ := h
    have nd := scKd.nd
    refine ⟨_, (pss_cons (ps_set (i := 1) nd rfl (Or.inl rfl) (pe_lst (pa_cons (pe_callB call_isV (by rfl) B.isi (by decide +kernel) (pa_cons (pv 0) (pa_cons (pe_glob (v := .ref (He.ga K "InvalidNumber")) rfl T.e0.glob rfl) pa_nil))) (pa_cons (pe_callB call_isV (by rfl) B.isi (by decide +kernel) (pa_cons (pv 0) (pa_cons (pe_glob (v := .ref (He.ga K "InvalidShare")) rfl T.e1.glob rfl) pa_nil))) (pa_cons (pe_callB call_isV (by rfl) B.isi (by decide +kernel) (pa_cons (pv 0) (pa_cons (pe_glob (v := .ref (He.ga K "InvalidMatrix")) rfl T.e2.glob rfl) pa_nil))) pa_nil)))))
      (pss_cons (ps_set (i := 1) nd rfl (Or.inl rfl) (pe_op op_cat (pv 1) (pe_lst (pa_cons (pe_callB call_isV (by rfl) B.isi (by decide +kernel) (pa_cons (pv 0) (pa_cons (pe_glob (v := .ref (He.ga K "InvalidLibrary")) rfl T.e3.glob rfl) pa_nil))) (pa_cons (pe_callB call_isV (by rfl) B.isi (by decide +kernel) (pa_cons (pv 0) (pa_cons (pe_glob (v := .ref (He.ga K "InvalidPlan")) rfl T.e4.glob rfl) pa_nil))) (pa_cons (pe_callB call_isV (by rfl) B.isi (by decide +kernel) (pa_cons (pv 0) (pa_cons (pe_glob (v := .ref (He.ga K "InvalidTape")) rfl T.e5.glob rfl) pa_nil))) pa_nil))))))
      (pss_cons (ps_set (i := 1) nd rfl (Or.inl rfl) (pe_op op_cat (pv 1) (pe_lst (pa_cons (pe_callB call_isV (by rfl) B.isi (by decide +kernel) (pa_cons (pv 0) (pa_cons (pe_glob (v := .ref (He.ga K "InvalidAnswers")) rfl T.e6.glob rfl) pa_nil))) (pa_cons (pe_callB call_isV (by rfl) B.isi (by decide +kernel) (pa_cons (pv 0) (pa_cons (pe_glob (v := .ref (He.ga K "InvalidText")) rfl T.e7.glob rfl) pa_nil))) (pa_cons (pe_callB call_isV (by rfl) B.isi (by decide +kernel) (pa_cons (pv 0) (pa_cons (pe_glob (v := .ref (He.ga K "InvalidLine")) rfl T.e8.glob rfl) pa_nil))) pa_nil))))))
      (pss_one (ps_ret (pe_op op_cat (pv 1) (pe_lst (pa_cons (pe_callB call_isV (by rfl) B.isi (by decide +kernel) (pa_cons (pv 0) (pa_cons (pe_glob (v := .ref (He.ga K "UnknownWord")) rfl T.e9.glob rfl) pa_nil))) (pa_cons (pe_callB call_isV (by rfl) B.isi (by decide +kernel) (pa_cons (pv 0) (pa_cons (pe_glob (v := .ref (He.ga K "Undefined")) rfl T.e10.glob rfl) pa_nil))) (pa_cons (pe_callB call_isV (by rfl) B.isi (by decide +kernel) (pa_cons (pv 0) (pa_cons (pe_glob (v := .ref (He.ga K "NothingToUndo")) rfl T.e11.glob rfl) pa_nil))) pa_nil)))))))))), ?_⟩
    refine ⟨_, rfl, a, Ck K k, d, _, _, _, _, rfl, (Same.refl H) _ _ h1, (Same.refl H) _ _ h2, (T.xc hk).1, .own _, T.kk k 0 hk (by decide), ⟨_, rfl, a, Ck K k, d, _, _, _, _, rfl, (Same.refl H) _ _ h1, (Same.refl H) _ _ h2, (T.xc hk).1, .own _, T.kk k 1 hk (by decide), ⟨_, rfl, a, Ck K k, d, _, _, _, _, rfl, (Same.refl H) _ _ h1, (Same.refl H) _ _ h2, (T.xc hk).1, .own _, T.kk k 2 hk (by decide), ⟨(by show 3 ≤ sizeLine; decide), fun q0 hq0 => ?_⟩⟩⟩⟩
    have s0 := same_new (o := .lst [.bl (decide (k = 0)), .bl (decide (k = 1)), .bl (decide (k = 2))]) hq0
    have e0 : upd H q0 (.lst [.bl (decide (k = 0)), .bl (decide (k = 1)), .bl (decide (k = 2))]) q0 = some (.lst [.bl (decide (k = 0)), .bl (decide (k = 1)), .bl (decide (k = 2))]) := upd_same
    generalize upd H q0 (.lst [.bl (decide (k = 0)), .bl (decide (k = 1)), .bl (decide (k = 2))]) = H0 at s0 e0 ⊢
    refine ⟨_, rfl, ⟨_, rfl, a, Ck K k, d, _, _, _, _, rfl, s0 _ _ h1, s0 _ _ h2, (T.xc hk).1, .own _, T.kk k 3 hk (by decide), ⟨_, rfl, a, Ck K k, d, _, _, _, _, rfl, s0 _ _ h1, s0 _ _ h2, (T.xc hk).1, .own _, T.kk k 4 hk (by decide), ⟨_, rfl, a, Ck K k, d, _, _, _, _, rfl, s0 _ _ h1, s0 _ _ h2, (T.xc hk).1, .own _, T.kk k 5 hk (by decide), ⟨(by show 3 ≤ sizeLine; decide), fun p1 hp1 => ?_⟩⟩⟩⟩⟩
    have t1 := same_new (o := .lst [.bl (decide (k = 3)), .bl (decide (k = 4)), .bl (decide (k = 5))]) hp1
    have f1 : upd H0 p1 (.lst [.bl (decide (k = 3)), .bl (decide (k = 4)), .bl (decide (k = 5))]) p1 = some (.lst [.bl (decide (k = 3)), .bl (decide (k = 4)), .bl (decide (k = 5))]) := upd_same
    have g1 := t1 _ _ e0
    have u1 := Same.trans s0 t1
    generalize upd H0 p1 (.lst [.bl (decide (k = 3)), .bl (decide (k = 4)), .bl (decide (k = 5))]) = G1 at t1 f1 g1 u1 ⊢
    refine ⟨q0, p1, _, _, rfl, rfl, g1, f1, (by show 6 ≤ sizeLine; decide), fun q1 hq1 => ?_⟩
    have s1 := u1.trans (same_new (o := .lst [.bl (decide (k = 0)), .bl (decide (k = 1)), .bl (decide (k = 2)), .bl (decide (k = 3)), .bl (decide (k = 4)), .bl (decide (k = 5))]) hq1)
    have e1 : upd G1 q1 (.lst [.bl (decide (k = 0)), .bl (decide (k = 1)), .bl (decide (k = 2)), .bl (decide (k = 3)), .bl (decide (k = 4)), .bl (decide (k = 5))]) q1 = some (.lst [.bl (decide (k = 0)), .bl (decide (k = 1)), .bl (decide (k = 2)), .bl (decide (k = 3)), .bl (decide (k = 4)), .bl (decide (k = 5))]) := upd_same
    have zz1 : upd G1 q1 (.lst ([.bl (decide (k = 0)), .bl (decide (k = 1)), .bl (decide (k = 2))] ++ [.bl (decide (k = 3)), .bl (decide (k = 4)), .bl (decide (k = 5))])) = upd G1 q1 (.lst [.bl (decide (k = 0)), .bl (decide (k = 1)), .bl (decide (k = 2)), .bl (decide (k = 3)), .bl (decide (k = 4)), .bl (decide (k = 5))]) := rfl
    clear zz1
    generalize hz1 : upd G1 q1 (.lst [.bl (decide (k = 0)), .bl (decide (k = 1)), .bl (decide (k = 2)), .bl (decide (k = 3)), .bl (decide (k = 4)), .bl (decide (k = 5))]) = H1 at s1 e1
    have hy1 : upd G1 q1 (.lst ([.bl (decide (k = 0)), .bl (decide (k = 1)), .bl (decide (k = 2))] ++ [.bl (decide (k = 3)), .bl (decide (k = 4)), .bl (decide (k = 5))])) = H1 := hz1
    rw [hy1]
    refine ⟨_, rfl, ⟨_, rfl, a, Ck K k, d, _, _, _, _, rfl, s1 _ _ h1, s1 _ _ h2, (T.xc hk).1, .own _, T.kk k 6 hk (by decide), ⟨_, rfl, a, Ck K k, d, _, _, _, _, rfl, s1 _ _ h1, s1 _ _ h2, (T.xc hk).1, .own _, T.kk k 7 hk (by decide), ⟨_, rfl, a, Ck K k, d, _, _, _, _, rfl, s1 _ _ h1, s1 _ _ h2, (T.xc hk).1, .own _, T.kk k 8 hk (by decide), ⟨(by show 3 ≤ sizeLine; decide), fun p2 hp2 => ?_⟩⟩⟩⟩⟩
    have t2 := same_new (o := .lst [.bl (decide (k = 6)), .bl (decide (k = 7)), .bl (decide (k = 8))]) hp2
    have f2 : upd H1 p2 (.lst [.bl (decide (k = 6)), .bl (decide (k = 7)), .bl (decide (k = 8))]) p2 = some (.lst [.bl (decide (k = 6)), .bl (decide (k = 7)), .bl (decide (k = 8))]) := upd_same
    have g2 := t2 _ _ e1
    have u2 := Same.trans s1 t2
    generalize upd H1 p2 (.lst [.bl (decide (k = 6)), .bl (decide (k = 7)), .bl (decide (k = 8))]) = G2 at t2 f2 g2 u2 ⊢
    refine ⟨q1, p2, _, _, rfl, rfl, g2, f2, (by show 9 ≤ sizeLine; decide), fun q2 hq2 => ?_⟩
    have s2 := u2.trans (same_new (o := .lst [.bl (decide (k = 0)), .bl (decide (k = 1)), .bl (decide (k = 2)), .bl (decide (k = 3)), .bl (decide (k = 4)), .bl (decide (k = 5)), .bl (decide (k = 6)), .bl (decide (k = 7)), .bl (decide (k = 8))]) hq2)
    have e2 : upd G2 q2 (.lst [.bl (decide (k = 0)), .bl (decide (k = 1)), .bl (decide (k = 2)), .bl (decide (k = 3)), .bl (decide (k = 4)), .bl (decide (k = 5)), .bl (decide (k = 6)), .bl (decide (k = 7)), .bl (decide (k = 8))]) q2 = some (.lst [.bl (decide (k = 0)), .bl (decide (k = 1)), .bl (decide (k = 2)), .bl (decide (k = 3)), .bl (decide (k = 4)), .bl (decide (k = 5)), .bl (decide (k = 6)), .bl (decide (k = 7)), .bl (decide (k = 8))]) := upd_same
    have zz2 : upd G2 q2 (.lst ([.bl (decide (k = 0)), .bl (decide (k = 1)), .bl (decide (k = 2)), .bl (decide (k = 3)), .bl (decide (k = 4)), .bl (decide (k = 5))] ++ [.bl (decide (k = 6)), .bl (decide (k = 7)), .bl (decide (k = 8))])) = upd G2 q2 (.lst [.bl (decide (k = 0)), .bl (decide (k = 1)), .bl (decide (k = 2)), .bl (decide (k = 3)), .bl (decide (k = 4)), .bl (decide (k = 5)), .bl (decide (k = 6)), .bl (decide (k = 7)), .bl (decide (k = 8))]) := rfl
    clear zz2
    generalize hz2 : upd G2 q2 (.lst [.bl (decide (k = 0)), .bl (decide (k = 1)), .bl (decide (k = 2)), .bl (decide (k = 3)), .bl (decide (k = 4)), .bl (decide (k = 5)), .bl (decide (k = 6)), .bl (decide (k = 7)), .bl (decide (k = 8))]) = H2 at s2 e2
    have hy2 : upd G2 q2 (.lst ([.bl (decide (k = 0)), .bl (decide (k = 1)), .bl (decide (k = 2)), .bl (decide (k = 3)), .bl (decide (k = 4)), .bl (decide (k = 5))] ++ [.bl (decide (k = 6)), .bl (decide (k = 7)), .bl (decide (k = 8))])) = H2 := hz2
    rw [hy2]
    refine ⟨_, rfl, ⟨_, rfl, a, Ck K k, d, _, _, _, _, rfl, s2 _ _ h1, s2 _ _ h2, (T.xc hk).1, .own _, T.kk k 9 hk (by decide), ⟨_, rfl, a, Ck K k, d, _, _, _, _, rfl, s2 _ _ h1, s2 _ _ h2, (T.xc hk).1, .own _, T.kk k 10 hk (by decide), ⟨_, rfl, a, Ck K k, d, _, _, _, _, rfl, s2 _ _ h1, s2 _ _ h2, (T.xc hk).1, .own _, T.kk k 11 hk (by decide), ⟨(by show 3 ≤ sizeLine; decide), fun p3 hp3 => ?_⟩⟩⟩⟩⟩
    have t3 := same_new (o := .lst [.bl (decide (k = 9)), .bl (decide (k = 10)), .bl (decide (k = 11))]) hp3
    have f3 : upd H2 p3 (.lst [.bl (decide (k = 9)), .bl (decide (k = 10)), .bl (decide (k = 11))]) p3 = some (.lst [.bl (decide (k = 9)), .bl (decide (k = 10)), .bl (decide (k = 11))]) := upd_same
    have g3 := t3 _ _ e2
    have u3 := Same.trans s2 t3
    generalize upd H2 p3 (.lst [.bl (decide (k = 9)), .bl (decide (k = 10)), .bl (decide (k = 11))]) = G3 at t3 f3 g3 u3 ⊢
    refine ⟨q2, p3, _, _, rfl, rfl, g3, f3, (by show 12 ≤ sizeLine; decide), fun q3 hq3 => ?_⟩
    exact kk q3 _ (u3.trans (same_new hq3)) upd_same
theorem ok_KdP {f : Addr} {fd : FuncData} (F : FnS K "_law_kinds" sKd f fd) (B : Blt4 mg) (T : ES P w K mg base) : FnP P w K mg base (L2.CX P w) 1 f fd ["e"] (spKdP K) := by
  refine fnP_of F scKd (fun a c d vs H Q E h => ?_) (fun cdv A outer s H vs Q E p cls d hot hz hr h => ?_)
  · obtain ⟨k, dd, fs, rfl, _⟩ := h
    rfl
  · obtain ⟨k, dd, fs, rfl, hk, rfl, rfl, hd, kk⟩ := h
    have hf : ∃ vs, p.2.data = .fields vs := by
      obtain ⟨vs, e, _⟩ := hot.2
      exact ⟨vs, e⟩
    have nd := scKd.nd
    have hp : p ∈ (L2H.cxH (L2.CX P w) P w K mg base ["e", "found"] "_law_kinds" (defScope sKd) f cdv A outer s H E p).pn := List.mem_singleton.mpr rfl
    refine ⟨_, (pss_cons (ps_set (i := 1) nd rfl (Or.inl rfl) (pe_lst (pa_cons (pe_callB (call_isP hp hz hf) (by rfl) B.isi (by decide +kernel) (pa_cons (pv 0) (pa_cons (pe_glob (v := .ref (He.ga K "InvalidNumber")) rfl T.e0.glob rfl) pa_nil))) (pa_cons (pe_callB (call_isP hp hz hf) (by rfl) B.isi (by decide +kernel) (pa_cons (pv 0) (pa_cons (pe_glob (v := .ref (He.ga K "InvalidShare")) rfl T.e1.glob rfl) pa_nil))) (pa_cons (pe_callB (call_isP hp hz hf) (by rfl) B.isi (by decide +kernel) (pa_cons (pv 0) (pa_cons (pe_glob (v := .ref (He.ga K "InvalidMatrix")) rfl T.e2.glob rfl) pa_nil))) pa_nil)))))
      (pss_cons (ps_set (i := 1) nd rfl (Or.inl rfl) (pe_op op_cat (pv 1) (pe_lst (pa_cons (pe_callB (call_isP hp hz hf) (by rfl) B.isi (by decide +kernel) (pa_cons (pv 0) (pa_cons (pe_glob (v := .ref (He.ga K "InvalidLibrary")) rfl T.e3.glob rfl) pa_nil))) (pa_cons (pe_callB (call_isP hp hz hf) (by rfl) B.isi (by decide +kernel) (pa_cons (pv 0) (pa_cons (pe_glob (v := .ref (He.ga K "InvalidPlan")) rfl T.e4.glob rfl) pa_nil))) (pa_cons (pe_callB (call_isP hp hz hf) (by rfl) B.isi (by decide +kernel) (pa_cons (pv 0) (pa_cons (pe_glob (v := .ref (He.ga K "InvalidTape")) rfl T.e5.glob rfl) pa_nil))) pa_nil))))))
      (pss_cons (ps_set (i := 1) nd rfl (Or.inl rfl) (pe_op op_cat (pv 1) (pe_lst (pa_cons (pe_callB (call_isP hp hz hf) (by rfl) B.isi (by decide +kernel) (pa_cons (pv 0) (pa_cons (pe_glob (v := .ref (He.ga K "InvalidAnswers")) rfl T.e6.glob rfl) pa_nil))) (pa_cons (pe_callB (call_isP hp hz hf) (by rfl) B.isi (by decide +kernel) (pa_cons (pv 0) (pa_cons (pe_glob (v := .ref (He.ga K "InvalidText")) rfl T.e7.glob rfl) pa_nil))) (pa_cons (pe_callB (call_isP hp hz hf) (by rfl) B.isi (by decide +kernel) (pa_cons (pv 0) (pa_cons (pe_glob (v := .ref (He.ga K "InvalidLine")) rfl T.e8.glob rfl) pa_nil))) pa_nil))))))
      (pss_one (ps_ret (pe_op op_cat (pv 1) (pe_lst (pa_cons (pe_callB (call_isP hp hz hf) (by rfl) B.isi (by decide +kernel) (pa_cons (pv 0) (pa_cons (pe_glob (v := .ref (He.ga K "UnknownWord")) rfl T.e9.glob rfl) pa_nil))) (pa_cons (pe_callB (call_isP hp hz hf) (by rfl) B.isi (by decide +kernel) (pa_cons (pv 0) (pa_cons (pe_glob (v := .ref (He.ga K "Undefined")) rfl T.e10.glob rfl) pa_nil))) (pa_cons (pe_callB (call_isP hp hz hf) (by rfl) B.isi (by decide +kernel) (pa_cons (pv 0) (pa_cons (pe_glob (v := .ref (He.ga K "NothingToUndo")) rfl T.e11.glob rfl) pa_nil))) pa_nil)))))))))), ?_⟩
    refine ⟨_, rfl, Ck K k, dd, fs, _, _, _, rfl, rfl, rfl, (Same.refl H) _ _ hd, (T.xc hk).1, .own _, T.kk k 0 hk (by decide), ⟨_, rfl, Ck K k, dd, fs, _, _, _, rfl, rfl, rfl, (Same.refl H) _ _ hd, (T.xc hk).1, .own _, T.kk k 1 hk (by decide), ⟨_, rfl, Ck K k, dd, fs, _, _, _, rfl, rfl, rfl, (Same.refl H) _ _ hd, (T.xc hk).1, .own _, T.kk k 2 hk (by decide), ⟨(by show 3 ≤ sizeLine; decide), fun q0 hq0 => ?_⟩⟩⟩⟩
    have s0 := same_new (o := .lst [.bl (decide (k = 0)), .bl (decide (k = 1)), .bl (decide (k = 2))]) hq0
    have e0 : upd H q0 (.lst [.bl (decide (k = 0)), .bl (decide (k = 1)), .bl (decide (k = 2))]) q0 = some (.lst [.bl (decide (k = 0)), .bl (decide (k = 1)), .bl (decide (k = 2))]) := upd_same
    generalize upd H q0 (.lst [.bl (decide (k = 0)), .bl (decide (k = 1)), .bl (decide (k = 2))]) = H0 at s0 e0 ⊢
    refine ⟨_, rfl, ⟨_, rfl, Ck K k, dd, fs, _, _, _, rfl, rfl, rfl, s0 _ _ hd, (T.xc hk).1, .own _, T.kk k 3 hk (by decide), ⟨_, rfl, Ck K k, dd, fs, _, _, _, rfl, rfl, rfl, s0 _ _ hd, (T.xc hk).1, .own _, T.kk k 4 hk (by decide), ⟨_, rfl, Ck K k, dd, fs, _, _, _, rfl, rfl, rfl, s0 _ _ hd, (T.xc hk).1, .own _, T.kk k 5 hk (by decide), ⟨(by show 3 ≤ sizeLine; decide), fun p1 hp1 => ?_⟩⟩⟩⟩⟩
    have t1 := same_new (o := .lst [.bl (decide (k = 3)), .bl (decide (k = 4)), .bl (decide (k = 5))]) hp1
    have f1 : upd H0 p1 (.lst [.bl (decide (k = 3)), .bl (decide (k = 4)), .bl (decide (k = 5))]) p1 = some (.lst [.bl (decide (k = 3)), .bl (decide (k = 4)), .bl (decide (k = 5))]) := upd_same
    have g1 := t1 _ _ e0
    have u1 := Same.trans s0 t1
    generalize upd H0 p1 (.lst [.bl (decide (k = 3)), .bl (decide (k = 4)), .bl (decide (k = 5))]) = G1 at t1 f1 g1 u1 ⊢
    refine ⟨q0, p1, _, _, rfl, rfl, g1, f1, (by show 6 ≤ sizeLine; decide), fun q1 hq1 => ?_⟩
    have s1 := u1.trans (same_new (o := .lst [.bl (decide (k = 0)), .bl (decide (k = 1)), .bl (decide (k = 2)), .bl (decide (k = 3)), .bl (decide (k = 4)), .bl (decide (k = 5))]) hq1)
    have e1 : upd G1 q1 (.lst [.bl (decide (k = 0)), .bl (decide (k = 1)), .bl (decide (k = 2)), .bl (decide (k = 3)), .bl (decide (k = 4)), .bl (decide (k = 5))]) q1 = some (.lst [.bl (decide (k = 0)), .bl (decide (k = 1)), .bl (decide (k = 2)), .bl (decide (k = 3)), .bl (decide (k = 4)), .bl (decide (k = 5))]) := upd_same
    have zz1 : upd G1 q1 (.lst ([.bl (decide (k = 0)), .bl (decide (k = 1)), .bl (decide (k = 2))] ++ [.bl (decide (k = 3)), .bl (decide (k = 4)), .bl (decide (k = 5))])) = upd G1 q1 (.lst [.bl (decide (k = 0)), .bl (decide (k = 1)), .bl (decide (k = 2)), .bl (decide (k = 3)), .bl (decide (k = 4)), .bl (decide (k = 5))]) := rfl
    clear zz1
    generalize hz1 : upd G1 q1 (.lst [.bl (decide (k = 0)), .bl (decide (k = 1)), .bl (decide (k = 2)), .bl (decide (k = 3)), .bl (decide (k = 4)), .bl (decide (k = 5))]) = H1 at s1 e1
    have hy1 : upd G1 q1 (.lst ([.bl (decide (k = 0)), .bl (decide (k = 1)), .bl (decide (k = 2))] ++ [.bl (decide (k = 3)), .bl (decide (k = 4)), .bl (decide (k = 5))])) = H1 := hz1
    rw [hy1]
    refine ⟨_, rfl, ⟨_, rfl, Ck K k, dd, fs, _, _, _, rfl, rfl, rfl, s1 _ _ hd, (T.xc hk).1, .own _, T.kk k 6 hk (by decide), ⟨_, rfl, Ck K k, dd, fs, _, _, _, rfl, rfl, rfl, s1 _ _ hd, (T.xc hk).1, .own _, T.kk k 7 hk (by decide), ⟨_, rfl, Ck K k, dd, fs, _, _, _, rfl, rfl, rfl, s1 _ _ hd, (T.xc hk).1, .own _, T.kk k 8 hk (by decide), ⟨(by show 3 ≤ sizeLine; decide), fun p2 hp2 => ?_⟩⟩⟩⟩⟩
    have t2 := same_new (o := .lst [.bl (decide (k = 6)), .bl (decide (k = 7)), .bl (decide (k = 8))]) hp2
    have f2 : upd H1 p2 (.lst [.bl (decide (k = 6)), .bl (decide (k = 7)), .bl (decide (k = 8))]) p2 = some (.lst [.bl (decide (k = 6)), .bl (decide (k = 7)), .bl (decide (k = 8))]) := upd_same
    have g2 := t2 _ _ e1
    have u2 := Same.trans s1 t2
    generalize upd H1 p2 (.lst [.bl (decide (k = 6)), .bl (decide (k = 7)), .bl (decide (k = 8))]) = G2 at t2 f2 g2 u2 ⊢
    refine ⟨q1, p2, _, _, rfl, rfl, g2, f2, (by show 9 ≤ sizeLine; decide), fun q2 hq2 => ?_⟩
    have s2 := u2.trans (same_new (o := .lst [.bl (decide (k = 0)), .bl (decide (k = 1)), .bl (decide (k = 2)), .bl (decide (k = 3)), .bl (decide (k = 4)), .bl (decide (k = 5)), .bl (decide (k = 6)), .bl (decide (k = 7)), .bl (decide (k = 8))]) hq2)
    have e2 : upd G2 q2 (.lst [.bl (decide (k = 0)), .bl (decide (k = 1)), .bl (decide (k = 2)), .bl (decide (k = 3)), .bl (decide (k = 4)), .bl (decide (k = 5)), .bl (decide (k = 6)), .bl (decide (k = 7)), .bl (decide (k = 8))]) q2 = some (.lst [.bl (decide (k = 0)), .bl (decide (k = 1)), .bl (decide (k = 2)), .bl (decide (k = 3)), .bl (decide (k = 4)), .bl (decide (k = 5)), .bl (decide (k = 6)), .bl (decide (k = 7)), .bl (decide (k = 8))]) := upd_same
    have zz2 : upd G2 q2 (.lst ([.bl (decide (k = 0)), .bl (decide (k = 1)), .bl (decide (k = 2)), .bl (decide (k = 3)), .bl (decide (k = 4)), .bl (decide (k = 5))] ++ [.bl (decide (k = 6)), .bl (decide (k = 7)), .bl (decide (k = 8))])) = upd G2 q2 (.lst [.bl (decide (k = 0)), .bl (decide (k = 1)), .bl (decide (k = 2)), .bl (decide (k = 3)), .bl (decide (k = 4)), .bl (decide (k = 5)), .bl (decide (k = 6)), .bl (decide (k = 7)), .bl (decide (k = 8))]) := rfl
    clear zz2
    generalize hz2 : upd G2 q2 (.lst [.bl (decide (k = 0)), .bl (decide (k = 1)), .bl (decide (k = 2)), .bl (decide (k = 3)), .bl (decide (k = 4)), .bl (decide (k = 5)), .bl (decide (k = 6)), .bl (decide (k = 7)), .bl (decide (k = 8))]) = H2 at s2 e2
    have hy2 : upd G2 q2 (.lst ([.bl (decide (k = 0)), .bl (decide (k = 1)), .bl (decide (k = 2)), .bl (decide (k = 3)), .bl (decide (k = 4)), .bl (decide (k = 5))] ++ [.bl (decide (k = 6)), .bl (decide (k = 7)), .bl (decide (k = 8))])) = H2 := hz2
    rw [hy2]
    refine ⟨_, rfl, ⟨_, rfl, Ck K k, dd, fs, _, _, _, rfl, rfl, rfl, s2 _ _ hd, (T.xc hk).1, .own _, T.kk k 9 hk (by decide), ⟨_, rfl, Ck K k, dd, fs, _, _, _, rfl, rfl, rfl, s2 _ _ hd, (T.xc hk).1, .own _, T.kk k 10 hk (by decide), ⟨_, rfl, Ck K k, dd, fs, _, _, _, rfl, rfl, rfl, s2 _ _ hd, (T.xc hk).1, .own _, T.kk k 11 hk (by decide), ⟨(by show 3 ≤ sizeLine; decide), fun p3 hp3 => ?_⟩⟩⟩⟩⟩
    have t3 := same_new (o := .lst [.bl (decide (k = 9)), .bl (decide (k = 10)), .bl (decide (k = 11))]) hp3
    have f3 : upd H2 p3 (.lst [.bl (decide (k = 9)), .bl (decide (k = 10)), .bl (decide (k = 11))]) p3 = some (.lst [.bl (decide (k = 9)), .bl (decide (k = 10)), .bl (decide (k = 11))]) := upd_same
    have g3 := t3 _ _ e2
    have u3 := Same.trans s2 t3
    generalize upd H2 p3 (.lst [.bl (decide (k = 9)), .bl (decide (k = 10)), .bl (decide (k = 11))]) = G3 at t3 f3 g3 u3 ⊢
    refine ⟨q2, p3, _, _, rfl, rfl, g3, f3, (by show 12 ≤ sizeLine; decide), fun q3 hq3 => ?_⟩
    exact kk q3 _ (u3.trans (same_new hq3)) upd_same
end
end WU

set_option maxRecDepth 100000
set_option maxHeartbeats 8000000
namespace WU
open PySem PySem.Spec PyProof.Rows L2

section
variable {P : Program} {w : World} {K : PySem.W.Frag} {mg : Str → Option Value} {base : Heap}
abbrev sMd : Stmt := top 19
abbrev sNd : Stmt := top 20
theorem scMd : FnScope ["one", "text", "number", "errors"] ["one", "text", "number"] (defScope sMd) := ⟨rfl, rfl, rfl, by decide +kernel, rfl, by decide +kernel, by decide +kernel⟩
theorem scNd : FnScope ["one", "text", "number", "errors"] ["one", "text", "number"] (defScope sNd) := ⟨rfl, rfl, rfl, by decide +kernel, rfl, by decide +kernel, by decide +kernel⟩
/-- the list es holds one error of each kind -/
def ErrsAt (K : PySem.W.Frag) (H : Hp) (es : List V) (one text number : V) : Prop := es.length = 12 ∧ ∀ k, k < 12 → ∃ e, es[k]? = some e ∧ ErrAt K H e k one text number
theorem ErrsAt.same {K : PySem.W.Frag} {H H' : Hp} {es : List V} {one text number : V} (h : ErrsAt K H es one text number) (s : Same H H') : ErrsAt K H' es one text number :=
  ⟨h.1, fun k hk => by
    obtain ⟨e, h1, h2⟩ := h.2 k hk
    exact ⟨e, h1, h2.same s⟩⟩
def spMd (K : PySem.W.Frag) : Sp := fun vs H Q _ => ∃ one text number : V, vs = [one, text, number] ∧ ∀ q es H', Same H H' → H q = none → H' q = some (.lst es) → ErrsAt K H' es one text number → Q (.ref q) H'
theorem ok_Md {f : Addr} {fd : FuncData} (F : FnS K "_law_made" sMd f fd) (T : ES P w K mg base) : FnOk P w K mg base (L2.CX P w) 3 f fd ["one", "text", "number"] (spMd K) := by
  refine F.ok scMd (fun vs H Q E h => ?_) (fun cdv A outer s H vs Q E hr h => ?_)
  · obtain ⟨one, text, number, rfl, _⟩ := h
    rfl
  · obtain ⟨one, text, number, rfl, kk⟩ := h
    have nd := scMd.nd
    refine ⟨_, (pss_cons (ps_set (i := 3) nd rfl (Or.inl rfl) (pe_lst (pa_cons (pe_mkE T.e0 hr (pa_cons (pv 0) pa_nil)) (pa_cons (pe_mkE T.e1 hr (pa_cons (pv 0) pa_nil)) (pa_cons (pe_mkE T.e2 hr (pa_cons (pv 0) pa_nil)) (pa_cons (pe_mkE T.e3 hr (pa_cons (pv 0) pa_nil)) (pa_cons (pe_mkE T.e4 hr (pa_cons (pv 1) (pa_cons (pv 2) pa_nil))) pa_nil)))))))
      (pss_cons (ps_set (i := 3) nd rfl (Or.inl rfl) (pe_op op_cat (pv 3) (pe_lst (pa_cons (pe_mkE T.e5 hr (pa_cons (pv 0) pa_nil)) (pa_cons (pe_mkE T.e6 hr (pa_cons (pv 0) pa_nil)) (pa_cons (pe_mkE T.e7 hr (pa_cons (pv 1) (pa_cons (pv 2) pa_nil))) (pa_cons (pe_mkE T.e8 hr (pa_cons (pv 1) (pa_cons (pv 2) pa_nil))) pa_nil)))))))
      (pss_one (ps_ret (pe_op op_cat (pv 3) (pe_lst (pa_cons (pe_mkE T.e9 hr (pa_cons (pv 1) pa_nil)) (pa_cons (pe_mkE T.e10 hr (pa_cons (pv 1) pa_nil)) (pa_cons (pe_mkE T.e11 hr (pa_cons (pv 1) pa_nil)) pa_nil))))))))), ?_⟩
    refine ⟨_, rfl, rfl, fun a0 d0 G0 t0 n0 x0 y0 => ?_⟩
    have S0 := Same.trans (Same.refl H) t0
    refine ⟨_, rfl, rfl, fun a1 d1 G1 t1 n1 x1 y1 => ?_⟩
    have S1 := Same.trans S0 t1
    refine ⟨_, rfl, rfl, fun a2 d2 G2 t2 n2 x2 y2 => ?_⟩
    have S2 := Same.trans S1 t2
    refine ⟨_, rfl, rfl, fun a3 d3 G3 t3 n3 x3 y3 => ?_⟩
    have S3 := Same.trans S2 t3
    refine ⟨_, rfl, _, rfl, rfl, fun a4 d4 G4 t4 n4 x4 y4 => ?_⟩
    have S4 := Same.trans S3 t4
    refine ⟨(by show 5 ≤ sizeLine; decide), fun p0 hp0 => ?_⟩
    have tp0 := same_new (o := .lst [.ref a0, .ref a1, .ref a2, .ref a3, .ref a4]) hp0
    have ep0 : upd G4 p0 (.lst [.ref a0, .ref a1, .ref a2, .ref a3, .ref a4]) p0 = some (.lst [.ref a0, .ref a1, .ref a2, .ref a3, .ref a4]) := upd_same
    have Sp0 := Same.trans S4 tp0
    generalize upd G4 p0 (.lst [.ref a0, .ref a1, .ref a2, .ref a3, .ref a4]) = P0 at tp0 ep0 Sp0 ⊢
    refine ⟨_, rfl, _, rfl, rfl, fun a5 d5 G5 t5 n5 x5 y5 => ?_⟩
    have S5 := Same.trans Sp0 t5
    have l5 := t5 _ _ ep0
    refine ⟨_, rfl, rfl, fun a6 d6 G6 t6 n6 x6 y6 => ?_⟩
    have S6 := Same.trans S5 t6
    have l6 := t6 _ _ l5
    refine ⟨_, rfl, _, rfl, rfl, fun a7 d7 G7 t7 n7 x7 y7 => ?_⟩
    have S7 := Same.trans S6 t7
    have l7 := t7 _ _ l6
    refine ⟨_, rfl, _, rfl, rfl, fun a8 d8 G8 t8 n8 x8 y8 => ?_⟩
    have S8 := Same.trans S7 t8
    have l8 := t8 _ _ l7
    refine ⟨(by show 4 ≤ sizeLine; decide), fun p1 hp1 => ?_⟩
    have tp1 := same_new (o := .lst [.ref a5, .ref a6, .ref a7, .ref a8]) hp1
    have ep1 : upd G8 p1 (.lst [.ref a5, .ref a6, .ref a7, .ref a8]) p1 = some (.lst [.ref a5, .ref a6, .ref a7, .ref a8]) := upd_same
    have Sp1 := Same.trans S8 tp1
    have m1 := tp1 _ _ l8
    generalize upd G8 p1 (.lst [.ref a5, .ref a6, .ref a7, .ref a8]) = P1 at tp1 ep1 Sp1 m1 ⊢
    refine ⟨p0, p1, _, _, rfl, rfl, m1, ep1, (by show 9 ≤ sizeLine; decide), fun q1 hq1 => ?_⟩
    have tq1 := same_new (o := .lst [.ref a0, .ref a1, .ref a2, .ref a3, .ref a4, .ref a5, .ref a6, .ref a7, .ref a8]) hq1
    have eq1 : upd P1 q1 (.lst [.ref a0, .ref a1, .ref a2, .ref a3, .ref a4, .ref a5, .ref a6, .ref a7, .ref a8]) q1 = some (.lst [.ref a0, .ref a1, .ref a2, .ref a3, .ref a4, .ref a5, .ref a6, .ref a7, .ref a8]) := upd_same
    have Sq1 := Same.trans Sp1 tq1
    generalize hz1 : upd P1 q1 (.lst [.ref a0, .ref a1, .ref a2, .ref a3, .ref a4, .ref a5, .ref a6, .ref a7, .ref a8]) = Q1 at tq1 eq1 Sq1
    have hy1 : upd P1 q1 (.lst ([.ref a0, .ref a1, .ref a2, .ref a3, .ref a4] ++ [.ref a5, .ref a6, .ref a7, .ref a8])) = Q1 := hz1
    rw [hy1]
    refine ⟨_, rfl, _, rfl, rfl, fun a9 d9 G9 t9 n9 x9 y9 => ?_⟩
    have S9 := Same.trans Sq1 t9
    have l9 := t9 _ _ eq1
    refine ⟨_, rfl, rfl, fun a10 d10 G10 t10 n10 x10 y10 => ?_⟩
    have S10 := Same.trans S9 t10
    have l10 := t10 _ _ l9
    refine ⟨_, rfl, rfl, fun a11 d11 G11 t11 n11 x11 y11 => ?_⟩
    have S11 := Same.trans S10 t11
    have l11 := t11 _ _ l10
    refine ⟨(by show 3 ≤ sizeLine; decide), fun p2 hp2 => ?_⟩
    have tp2 := same_new (o := .lst [.ref a9, .ref a10, .ref a11]) hp2
    have ep2 : upd G11 p2 (.lst [.ref a9, .ref a10, .ref a11]) p2 = some (.lst [.ref a9, .ref a10, .ref a11]) := upd_same
    have Sp2 := Same.trans S11 tp2
    have m2 := tp2 _ _ l11
    generalize upd G11 p2 (.lst [.ref a9, .ref a10, .ref a11]) = P2 at tp2 ep2 Sp2 m2 ⊢
    refine ⟨q1, p2, _, _, rfl, rfl, m2, ep2, (by show 12 ≤ sizeLine; decide), fun q2 hq2 => ?_⟩
    have tq2 := same_new (o := .lst [.ref a0, .ref a1, .ref a2, .ref a3, .ref a4, .ref a5, .ref a6, .ref a7, .ref a8, .ref a9, .ref a10, .ref a11]) hq2
    have eq2 : upd P2 q2 (.lst [.ref a0, .ref a1, .ref a2, .ref a3, .ref a4, .ref a5, .ref a6, .ref a7, .ref a8, .ref a9, .ref a10, .ref a11]) q2 = some (.lst [.ref a0, .ref a1, .ref a2, .ref a3, .ref a4, .ref a5, .ref a6, .ref a7, .ref a8, .ref a9, .ref a10, .ref a11]) := upd_same
    have Sq2 := Same.trans Sp2 tq2
    generalize hz2 : upd P2 q2 (.lst [.ref a0, .ref a1, .ref a2, .ref a3, .ref a4, .ref a5, .ref a6, .ref a7, .ref a8, .ref a9, .ref a10, .ref a11]) = Q2 at tq2 eq2 Sq2
    have hy2 : upd P2 q2 (.lst ([.ref a0, .ref a1, .ref a2, .ref a3, .ref a4, .ref a5, .ref a6, .ref a7, .ref a8] ++ [.ref a9, .ref a10, .ref a11])) = Q2 := hz2
    rw [hy2]
    have U1 := Same.trans tq2 (Same.refl _)
    have U2 := Same.trans tp2 U1
    have U3 := Same.trans t11 U2
    have U4 := Same.trans t10 U3
    have U5 := Same.trans t9 U4
    have U6 := Same.trans tq1 U5
    have U7 := Same.trans tp1 U6
    have U8 := Same.trans t8 U7
    have U9 := Same.trans t7 U8
    have U10 := Same.trans t6 U9
    have U11 := Same.trans t5 U10
    have U12 := Same.trans tp0 U11
    have U13 := Same.trans t4 U12
    have U14 := Same.trans t3 U13
    have U15 := Same.trans t2 U14
    have U16 := Same.trans t1 U15
    have U17 := Same.trans t0 U16
    refine kk q2 _ _ Sq2 ?_ eq2 ⟨rfl, fun k hk => ?_⟩
    · exact Same.free (Same.trans Sp2 (Same.refl _)) hq2
    · match k, hk with
      | 0, _ => exact ⟨_, rfl, ErrAt.same ⟨a0, d0, rfl, x0, y0⟩ U16⟩
      | 1, _ => exact ⟨_, rfl, ErrAt.same ⟨a1, d1, rfl, x1, y1⟩ U15⟩
      | 2, _ => exact ⟨_, rfl, ErrAt.same ⟨a2, d2, rfl, x2, y2⟩ U14⟩
      | 3, _ => exact ⟨_, rfl, ErrAt.same ⟨a3, d3, rfl, x3, y3⟩ U13⟩
      | 4, _ => exact ⟨_, rfl, ErrAt.same ⟨a4, d4, rfl, x4, y4⟩ U12⟩
      | 5, _ => exact ⟨_, rfl, ErrAt.same ⟨a5, d5, rfl, x5, y5⟩ U10⟩
      | 6, _ => exact ⟨_, rfl, ErrAt.same ⟨a6, d6, rfl, x6, y6⟩ U9⟩
      | 7, _ => exact ⟨_, rfl, ErrAt.same ⟨a7, d7, rfl, x7, y7⟩ U8⟩
      | 8, _ => exact ⟨_, rfl, ErrAt.same ⟨a8, d8, rfl, x8, y8⟩ U7⟩
      | 9, _ => exact ⟨_, rfl, ErrAt.same ⟨a9, d9, rfl, x9, y9⟩ U4⟩
      | 10, _ => exact ⟨_, rfl, ErrAt.same ⟨a10, d10, rfl, x10, y10⟩ U3⟩
      | 11, _ => exact ⟨_, rfl, ErrAt.same ⟨a11, d11, rfl, x11, y11⟩ U2⟩
      | n + 12, h => exact absurd h (by omega)
theorem ok_Nd {f : Addr} {fd : FuncData} (F : FnS K "_law_named" sNd f fd) (T : ES P w K mg base) : FnOk P w K mg base (L2.CX P w) 3 f fd ["one", "text", "number"] (spMd K) := by
  refine F.ok scNd (fun vs H Q E h => ?_) (fun cdv A outer s H vs Q E hr h => ?_)
  · obtain ⟨one, text, number, rfl, _⟩ := h
    rfl
  · obtain ⟨one, text, number, rfl, kk⟩ := h
    have nd := scNd.nd
    refine ⟨_, (pss_cons (ps_set (i := 3) nd rfl (Or.inl rfl) (pe_lst (pa_cons (pe_mkK (r := (fun zs => zs)) T.e0 hr (pk_cons (pv 0) pk_nil) (fun _ _ _ => rfl)) (pa_cons (pe_mkK (r := (fun zs => zs)) T.e1 hr (pk_cons (pv 0) pk_nil) (fun _ _ _ => rfl)) (pa_cons (pe_mkK (r := (fun zs => zs)) T.e2 hr (pk_cons (pv 0) pk_nil) (fun _ _ _ => rfl)) (pa_cons (pe_mkK (r := (fun zs => zs)) T.e3 hr (pk_cons (pv 0) pk_nil) (fun _ _ _ => rfl)) pa_nil))))))
      (pss_cons (ps_set (i := 3) nd rfl (Or.inl rfl) (pe_op op_cat (pv 3) (pe_lst (pa_cons (pe_mkK (r := List.reverse) T.e4 hr (pk_cons (pv 2) (pk_cons (pv 1) pk_nil)) (fun _ _ _ => rfl)) (pa_cons (pe_mkK (r := (fun zs => zs)) T.e5 hr (pk_cons (pv 0) pk_nil) (fun _ _ _ => rfl)) (pa_cons (pe_mkK (r := (fun zs => zs)) T.e6 hr (pk_cons (pv 0) pk_nil) (fun _ _ _ => rfl)) pa_nil))))))
      (pss_cons (ps_set (i := 3) nd rfl (Or.inl rfl) (pe_op op_cat (pv 3) (pe_lst (pa_cons (pe_mkK (r := List.reverse) T.e7 hr (pk_cons (pv 2) (pk_cons (pv 1) pk_nil)) (fun _ _ _ => rfl)) (pa_cons (pe_mkK (r := List.reverse) T.e8 hr (pk_cons (pv 2) (pk_cons (pv 1) pk_nil)) (fun _ _ _ => rfl)) (pa_cons (pe_mkK (r := (fun zs => zs)) T.e9 hr (pk_cons (pv 1) pk_nil) (fun _ _ _ => rfl)) pa_nil))))))
      (pss_one (ps_ret (pe_op op_cat (pv 3) (pe_lst (pa_cons (pe_mkK (r := (fun zs => zs)) T.e10 hr (pk_cons (pv 1) pk_nil) (fun _ _ _ => rfl)) (pa_cons (pe_mkK (r := (fun zs => zs)) T.e11 hr (pk_cons (pv 1) pk_nil) (fun _ _ _ => rfl)) pa_nil))))))))), ?_⟩
    refine ⟨_, rfl, rfl, rfl, fun a0 d0 G0 t0 n0 x0 y0 => ?_⟩
    have S0 := Same.trans (Same.refl H) t0
    refine ⟨_, rfl, rfl, rfl, fun a1 d1 G1 t1 n1 x1 y1 => ?_⟩
    have S1 := Same.trans S0 t1
    refine ⟨_, rfl, rfl, rfl, fun a2 d2 G2 t2 n2 x2 y2 => ?_⟩
    have S2 := Same.trans S1 t2
    refine ⟨_, rfl, rfl, rfl, fun a3 d3 G3 t3 n3 x3 y3 => ?_⟩
    have S3 := Same.trans S2 t3
    refine ⟨(by show 4 ≤ sizeLine; decide), fun p0 hp0 => ?_⟩
    have tp0 := same_new (o := .lst [.ref a0, .ref a1, .ref a2, .ref a3]) hp0
    have ep0 : upd G3 p0 (.lst [.ref a0, .ref a1, .ref a2, .ref a3]) p0 = some (.lst [.ref a0, .ref a1, .ref a2, .ref a3]) := upd_same
    have Sp0 := Same.trans S3 tp0
    generalize upd G3 p0 (.lst [.ref a0, .ref a1, .ref a2, .ref a3]) = P0 at tp0 ep0 Sp0 ⊢
    refine ⟨_, rfl, _, rfl, _, rfl, rfl, rfl, fun a4 d4 G4 t4 n4 x4 y4 => ?_⟩
    have S4 := Same.trans Sp0 t4
    have l4 := t4 _ _ ep0
    refine ⟨_, rfl, rfl, rfl, fun a5 d5 G5 t5 n5 x5 y5 => ?_⟩
    have S5 := Same.trans S4 t5
    have l5 := t5 _ _ l4
    refine ⟨_, rfl, rfl, rfl, fun a6 d6 G6 t6 n6 x6 y6 => ?_⟩
    have S6 := Same.trans S5 t6
    have l6 := t6 _ _ l5
    refine ⟨(by show 3 ≤ sizeLine; decide), fun p1 hp1 => ?_⟩
    have tp1 := same_new (o := .lst [.ref a4, .ref a5, .ref a6]) hp1
    have ep1 : upd G6 p1 (.lst [.ref a4, .ref a5, .ref a6]) p1 = some (.lst [.ref a4, .ref a5, .ref a6]) := upd_same
    have Sp1 := Same.trans S6 tp1
    have m1 := tp1 _ _ l6
    generalize upd G6 p1 (.lst [.ref a4, .ref a5, .ref a6]) = P1 at tp1 ep1 Sp1 m1 ⊢
    refine ⟨p0, p1, _, _, rfl, rfl, m1, ep1, (by show 7 ≤ sizeLine; decide), fun q1 hq1 => ?_⟩
    have tq1 := same_new (o := .lst [.ref a0, .ref a1, .ref a2, .ref a3, .ref a4, .ref a5, .ref a6]) hq1
    have eq1 : upd P1 q1 (.lst [.ref a0, .ref a1, .ref a2, .ref a3, .ref a4, .ref a5, .ref a6]) q1 = some (.lst [.ref a0, .ref a1, .ref a2, .ref a3, .ref a4, .ref a5, .ref a6]) := upd_same
    have Sq1 := Same.trans Sp1 tq1
    generalize hz1 : upd P1 q1 (.lst [.ref a0, .ref a1, .ref a2, .ref a3, .ref a4, .ref a5, .ref a6]) = Q1 at tq1 eq1 Sq1
    have hy1 : upd P1 q1 (.lst ([.ref a0, .ref a1, .ref a2, .ref a3] ++ [.ref a4, .ref a5, .ref a6])) = Q1 := hz1
    rw [hy1]
    refine ⟨_, rfl, _, rfl, _, rfl, rfl, rfl, fun a7 d7 G7 t7 n7 x7 y7 => ?_⟩
    have S7 := Same.trans Sq1 t7
    have l7 := t7 _ _ eq1
    refine ⟨_, rfl, _, rfl, rfl, rfl, fun a8 d8 G8 t8 n8 x8 y8 => ?_⟩
    have S8 := Same.trans S7 t8
    have l8 := t8 _ _ l7
    refine ⟨_, rfl, rfl, rfl, fun a9 d9 G9 t9 n9 x9 y9 => ?_⟩
    have S9 := Same.trans S8 t9
    have l9 := t9 _ _ l8
    refine ⟨(by show 3 ≤ sizeLine; decide), fun p2 hp2 => ?_⟩
    have tp2 := same_new (o := .lst [.ref a7, .ref a8, .ref a9]) hp2
    have ep2 : upd G9 p2 (.lst [.ref a7, .ref a8, .ref a9]) p2 = some (.lst [.ref a7, .ref a8, .ref a9]) := upd_same
    have Sp2 := Same.trans S9 tp2
    have m2 := tp2 _ _ l9
    generalize upd G9 p2 (.lst [.ref a7, .ref a8, .ref a9]) = P2 at tp2 ep2 Sp2 m2 ⊢
    refine ⟨q1, p2, _, _, rfl, rfl, m2, ep2, (by show 10 ≤ sizeLine; decide), fun q2 hq2 => ?_⟩
    have tq2 := same_new (o := .lst [.ref a0, .ref a1, .ref a2, .ref a3, .ref a4, .ref a5, .ref a6, .ref a7, .ref a8, .ref a9]) hq2
    have eq2 : upd P2 q2 (.lst [.ref a0, .ref a1, .ref a2, .ref a3, .ref a4, .ref a5, .ref a6, .ref a7, .ref a8, .ref a9]) q2 = some (.lst [.ref a0, .ref a1, .ref a2, .ref a3, .ref a4, .ref a5, .ref a6, .ref a7, .ref a8, .ref a9]) := upd_same
    have Sq2 := Same.trans Sp2 tq2
    generalize hz2 : upd P2 q2 (.lst [.ref a0, .ref a1, .ref a2, .ref a3, .ref a4, .ref a5, .ref a6, .ref a7, .ref a8, .ref a9]) = Q2 at tq2 eq2 Sq2
    have hy2 : upd P2 q2 (.lst ([.ref a0, .ref a1, .ref a2, .ref a3, .ref a4, .ref a5, .ref a6] ++ [.ref a7, .ref a8, .ref a9])) = Q2 := hz2
    rw [hy2]
    refine ⟨_, rfl, _, rfl, rfl, rfl, fun a10 d10 G10 t10 n10 x10 y10 => ?_⟩
    have S10 := Same.trans Sq2 t10
    have l10 := t10 _ _ eq2
    refine ⟨_, rfl, rfl, rfl, fun a11 d11 G11 t11 n11 x11 y11 => ?_⟩
    have S11 := Same.trans S10 t11
    have l11 := t11 _ _ l10
    refine ⟨(by show 2 ≤ sizeLine; decide), fun p3 hp3 => ?_⟩
    have tp3 := same_new (o := .lst [.ref a10, .ref a11]) hp3
    have ep3 : upd G11 p3 (.lst [.ref a10, .ref a11]) p3 = some (.lst [.ref a10, .ref a11]) := upd_same
    have Sp3 := Same.trans S11 tp3
    have m3 := tp3 _ _ l11
    generalize upd G11 p3 (.lst [.ref a10, .ref a11]) = P3 at tp3 ep3 Sp3 m3 ⊢
    refine ⟨q2, p3, _, _, rfl, rfl, m3, ep3, (by show 12 ≤ sizeLine; decide), fun q3 hq3 => ?_⟩
    have tq3 := same_new (o := .lst [.ref a0, .ref a1, .ref a2, .ref a3, .ref a4, .ref a5, .ref a6, .ref a7, .ref a8, .ref a9, .ref a10, .ref a11]) hq3
    have eq3 : upd P3 q3 (.lst [.ref a0, .ref a1, .ref a2, .ref a3, .ref a4, .ref a5, .ref a6, .ref a7, .ref a8, .ref a9, .ref a10, .ref a11]) q3 = some (.lst [.ref a0, .ref a1, .ref a2, .ref a3, .ref a4, .ref a5, .ref a6, .ref a7, .ref a8, .ref a9, .ref a10, .ref a11]) := upd_same
    have Sq3 := Same.trans Sp3 tq3
    generalize hz3 : upd P3 q3 (.lst [.ref a0, .ref a1, .ref a2, .ref a3, .ref a4, .ref a5, .ref a6, .ref a7, .ref a8, .ref a9, .ref a10, .ref a11]) = Q3 at tq3 eq3 Sq3
    have hy3 : upd P3 q3 (.lst ([.ref a0, .ref a1, .ref a2, .ref a3, .ref a4, .ref a5, .ref a6, .ref a7, .ref a8, .ref a9] ++ [.ref a10, .ref a11])) = Q3 := hz3
    rw [hy3]
    have U1 := Same.trans tq3 (Same.refl _)
    have U2 := Same.trans tp3 U1
    have U3 := Same.trans t11 U2
    have U4 := Same.trans t10 U3
    have U5 := Same.trans tq2 U4
    have U6 := Same.trans tp2 U5
    have U7 := Same.trans t9 U6
    have U8 := Same.trans t8 U7
    have U9 := Same.trans t7 U8
    have U10 := Same.trans tq1 U9
    have U11 := Same.trans tp1 U10
    have U12 := Same.trans t6 U11
    have U13 := Same.trans t5 U12
    have U14 := Same.trans t4 U13
    have U15 := Same.trans tp0 U14
    have U16 := Same.trans t3 U15
    have U17 := Same.trans t2 U16
    have U18 := Same.trans t1 U17
    have U19 := Same.trans t0 U18
    refine kk q3 _ _ Sq3 ?_ eq3 ⟨rfl, fun k hk => ?_⟩
    · exact Same.free (Same.trans Sp3 (Same.refl _)) hq3
    · match k, hk with
      | 0, _ => exact ⟨_, rfl, ErrAt.same ⟨a0, d0, rfl, x0, y0⟩ U18⟩
      | 1, _ => exact ⟨_, rfl, ErrAt.same ⟨a1, d1, rfl, x1, y1⟩ U17⟩
      | 2, _ => exact ⟨_, rfl, ErrAt.same ⟨a2, d2, rfl, x2, y2⟩ U16⟩
      | 3, _ => exact ⟨_, rfl, ErrAt.same ⟨a3, d3, rfl, x3, y3⟩ U15⟩
      | 4, _ => exact ⟨_, rfl, ErrAt.same ⟨a4, d4, rfl, x4, y4⟩ U13⟩
      | 5, _ => exact ⟨_, rfl, ErrAt.same ⟨a5, d5, rfl, x5, y5⟩ U12⟩
      | 6, _ => exact ⟨_, rfl, ErrAt.same ⟨a6, d6, rfl, x6, y6⟩ U11⟩
      | 7, _ => exact ⟨_, rfl, ErrAt.same ⟨a7, d7, rfl, x7, y7⟩ U8⟩
      | 8, _ => exact ⟨_, rfl, ErrAt.same ⟨a8, d8, rfl, x8, y8⟩ U7⟩
      | 9, _ => exact ⟨_, rfl, ErrAt.same ⟨a9, d9, rfl, x9, y9⟩ U6⟩
      | 10, _ => exact ⟨_, rfl, ErrAt.same ⟨a10, d10, rfl, x10, y10⟩ U3⟩
      | 11, _ => exact ⟨_, rfl, ErrAt.same ⟨a11, d11, rfl, x11, y11⟩ U2⟩
      | n + 12, h => exact absurd h (by omega)
end
end WU

set_option maxRecDepth 100000
set_option maxHeartbeats 8000000
namespace WU
open PySem PySem.Spec PyProof.Rows L2

theorem lk2 {f g : Str} {v x : V} {r : List (Str × V)} (h : ¬ f = g) : ((f, v) :: (g, x) :: r).lookup g = some x := by
  rw [lookup_put, if_neg fun e => h e.symm, lookup_put, if_pos rfl]
theorem lk1 {f : Str} {v : V} {r : List (Str × V)} : ((f, v) :: r).lookup f = some v := by
  rw [lookup_put, if_pos rfl]
section
variable {P : Program} {w : World} {K : PySem.W.Frag} {mg : Str → Option Value} {base : Heap}
abbrev sKp : Stmt := top 21
theorem scKp : FnScope ["errors", "values", "texts"] ["errors"] (defScope sKp) := ⟨rfl, rfl, rfl, by decide +kernel, rfl, by decide +kernel, by decide +kernel⟩
def spKp (K : PySem.W.Frag) : Sp := fun vs H Q _ => ∃ (q : Addr) (es : List V) (one text number : V), vs = [.ref q] ∧ H q = some (.lst es) ∧ ErrsAt K H es one text number ∧
  ∀ r a b c H', Same H H' → H' r = some (.lst [.ref a, .ref b, .ref c]) → H' a = some (.lst [one, one, one, one, one, one]) → H' b = some (.lst [text, text, text, text, text, text]) → H' c = some (.lst [number, number, number]) → Q (.ref r) H'
theorem ok_Kp {f : Addr} {fd : FuncData} (F : FnS K "_law_kept" sKp f fd) (T : ES P w K mg base) : FnOk P w K mg base (L2.CX P w) 1 f fd ["errors"] (spKp K) := by
  refine F.ok scKp (fun vs H Q E h => ?_) (fun cdv A outer s H vs Q E hr h => ?_)
  · obtain ⟨q, es, one, text, number, rfl, _⟩ := h
    rfl
  · obtain ⟨q, es, one, text, number, rfl, hq, ⟨hl, hall⟩, kk⟩ := h
    have nd := scKp.nd
    obtain ⟨_, h0, a0, d0, rfl, x0, y0⟩ := hall 0 (by decide)
    obtain ⟨_, h1, a1, d1, rfl, x1, y1⟩ := hall 1 (by decide)
    obtain ⟨_, h2, a2, d2, rfl, x2, y2⟩ := hall 2 (by decide)
    obtain ⟨_, h3, a3, d3, rfl, x3, y3⟩ := hall 3 (by decide)
    obtain ⟨_, h4, a4, d4, rfl, x4, y4⟩ := hall 4 (by decide)
    obtain ⟨_, h5, a5, d5, rfl, x5, y5⟩ := hall 5 (by decide)
    obtain ⟨_, h6, a6, d6, rfl, x6, y6⟩ := hall 6 (by decide)
    obtain ⟨_, h7, a7, d7, rfl, x7, y7⟩ := hall 7 (by decide)
    obtain ⟨_, h8, a8, d8, rfl, x8, y8⟩ := hall 8 (by decide)
    obtain ⟨_, h9, a9, d9, rfl, x9, y9⟩ := hall 9 (by decide)
    obtain ⟨_, h10, a10, d10, rfl, x10, y10⟩ := hall 10 (by decide)
    obtain ⟨_, h11, a11, d11, rfl, x11, y11⟩ := hall 11 (by decide)
    refine ⟨_, (pss_cons (ps_set (i := 1) nd rfl (Or.inl rfl) (pe_lst (pa_cons (pe_xv (pe_ix ix_list (pv 0) pe_int (fun _ _ => rfl))) (pa_cons (pe_xv (pe_ix ix_list (pv 0) pe_int (fun _ _ => rfl))) (pa_cons (pe_xv (pe_ix ix_list (pv 0) pe_int (fun _ _ => rfl))) (pa_cons (pe_xv (pe_ix ix_list (pv 0) pe_int (fun _ _ => rfl))) (pa_cons (pe_xv (pe_ix ix_list (pv 0) pe_int (fun _ _ => rfl))) (pa_cons (pe_xv (pe_ix ix_list (pv 0) pe_int (fun _ _ => rfl))) pa_nil))))))))
      (pss_cons (ps_set (i := 2) nd rfl (Or.inl rfl) (pe_lst (pa_cons (pe_xv (pe_ix ix_list (pv 0) pe_int (fun _ _ => rfl))) (pa_cons (pe_xv (pe_ix ix_list (pv 0) pe_int (fun _ _ => rfl))) (pa_cons (pe_xv (pe_ix ix_list (pv 0) pe_int (fun _ _ => rfl))) (pa_cons (pe_xv (pe_ix ix_list (pv 0) pe_int (fun _ _ => rfl))) (pa_cons (pe_xv (pe_ix ix_list (pv 0) pe_int (fun _ _ => rfl))) (pa_cons (pe_xv (pe_ix ix_list (pv 0) pe_int (fun _ _ => rfl))) pa_nil))))))))
      (pss_one (ps_ret (pe_lst (pa_cons (pv 1) (pa_cons (pv 2) (pa_cons (pe_lst (pa_cons (pe_xv (pe_ix ix_list (pv 0) pe_int (fun _ _ => rfl))) (pa_cons (pe_xv (pe_ix ix_list (pv 0) pe_int (fun _ _ => rfl))) (pa_cons (pe_xv (pe_ix ix_list (pv 0) pe_int (fun _ _ => rfl))) pa_nil)))) pa_nil)))))))), ?_⟩
    refine ⟨_, rfl, q, es, ((0 : Nat) : Int), _, rfl, rfl, SqL.of ((Same.refl H) _ _ hq), atI_nat h0, a0, Ck K 0, d0, _, _, rfl, (Same.refl H) _ _ x0, (Same.refl H) _ _ y0, T.e0.xf, (T.e0.no "value" (by decide +kernel)), lk1, ⟨_, rfl, q, es, ((1 : Nat) : Int), _, rfl, rfl, SqL.of ((Same.refl H) _ _ hq), atI_nat h1, a1, Ck K 1, d1, _, _, rfl, (Same.refl H) _ _ x1, (Same.refl H) _ _ y1, T.e1.xf, (T.e1.no "value" (by decide +kernel)), lk1, ⟨_, rfl, q, es, ((2 : Nat) : Int), _, rfl, rfl, SqL.of ((Same.refl H) _ _ hq), atI_nat h2, a2, Ck K 2, d2, _, _, rfl, (Same.refl H) _ _ x2, (Same.refl H) _ _ y2, T.e2.xf, (T.e2.no "value" (by decide +kernel)), lk1, ⟨_, rfl, q, es, ((3 : Nat) : Int), _, rfl, rfl, SqL.of ((Same.refl H) _ _ hq), atI_nat h3, a3, Ck K 3, d3, _, _, rfl, (Same.refl H) _ _ x3, (Same.refl H) _ _ y3, T.e3.xf, (T.e3.no "value" (by decide +kernel)), lk1, ⟨_, rfl, q, es, ((5 : Nat) : Int), _, rfl, rfl, SqL.of ((Same.refl H) _ _ hq), atI_nat h5, a5, Ck K 5, d5, _, _, rfl, (Same.refl H) _ _ x5, (Same.refl H) _ _ y5, T.e5.xf, (T.e5.no "value" (by decide +kernel)), lk1, ⟨_, rfl, q, es, ((6 : Nat) : Int), _, rfl, rfl, SqL.of ((Same.refl H) _ _ hq), atI_nat h6, a6, Ck K 6, d6, _, _, rfl, (Same.refl H) _ _ x6, (Same.refl H) _ _ y6, T.e6.xf, (T.e6.no "value" (by decide +kernel)), lk1, ⟨(by show 6 ≤ sizeLine; decide), fun a ha => ?_⟩⟩⟩⟩⟩⟩⟩
    have s1 := same_new (o := .lst [one, one, one, one, one, one]) ha
    have e1 : upd H a (.lst [one, one, one, one, one, one]) a = some (.lst [one, one, one, one, one, one]) := upd_same
    generalize upd H a (.lst [one, one, one, one, one, one]) = H1 at s1 e1 ⊢
    refine ⟨_, rfl, q, es, ((4 : Nat) : Int), _, rfl, rfl, SqL.of (s1 _ _ hq), atI_nat h4, a4, Ck K 4, d4, _, _, rfl, s1 _ _ x4, s1 _ _ y4, T.e4.xf, (T.e4.no "part" (by decide +kernel)), (lk2 (by decide +kernel)), ⟨_, rfl, q, es, ((7 : Nat) : Int), _, rfl, rfl, SqL.of (s1 _ _ hq), atI_nat h7, a7, Ck K 7, d7, _, _, rfl, s1 _ _ x7, s1 _ _ y7, T.e7.xf, (T.e7.no "text" (by decide +kernel)), (lk2 (by decide +kernel)), ⟨_, rfl, q, es, ((8 : Nat) : Int), _, rfl, rfl, SqL.of (s1 _ _ hq), atI_nat h8, a8, Ck K 8, d8, _, _, rfl, s1 _ _ x8, s1 _ _ y8, T.e8.xf, (T.e8.no "line" (by decide +kernel)), (lk2 (by decide +kernel)), ⟨_, rfl, q, es, ((9 : Nat) : Int), _, rfl, rfl, SqL.of (s1 _ _ hq), atI_nat h9, a9, Ck K 9, d9, _, _, rfl, s1 _ _ x9, s1 _ _ y9, T.e9.xf, (T.e9.no "word" (by decide +kernel)), lk1, ⟨_, rfl, q, es, ((10 : Nat) : Int), _, rfl, rfl, SqL.of (s1 _ _ hq), atI_nat h10, a10, Ck K 10, d10, _, _, rfl, s1 _ _ x10, s1 _ _ y10, T.e10.xf, (T.e10.no "what" (by decide +kernel)), lk1, ⟨_, rfl, q, es, ((11 : Nat) : Int), _, rfl, rfl, SqL.of (s1 _ _ hq), atI_nat h11, a11, Ck K 11, d11, _, _, rfl, s1 _ _ x11, s1 _ _ y11, T.e11.xf, (T.e11.no "word" (by decide +kernel)), lk1, ⟨(by show 6 ≤ sizeLine; decide), fun b hb => ?_⟩⟩⟩⟩⟩⟩⟩
    have s2 := same_new (o := .lst [text, text, text, text, text, text]) hb
    have e2 : upd H1 b (.lst [text, text, text, text, text, text]) b = some (.lst [text, text, text, text, text, text]) := upd_same
    have f2 := s2 _ _ e1
    have s12 := s1.trans s2
    generalize upd H1 b (.lst [text, text, text, text, text, text]) = H2 at s12 e2 f2 ⊢
    refine ⟨_, rfl, _, rfl, ?_⟩
    refine ⟨_, rfl, q, es, ((4 : Nat) : Int), _, rfl, rfl, SqL.of (s12 _ _ hq), atI_nat h4, a4, Ck K 4, d4, _, _, rfl, s12 _ _ x4, s12 _ _ y4, T.e4.xf, (T.e4.no "place" (by decide +kernel)), lk1, ⟨_, rfl, q, es, ((7 : Nat) : Int), _, rfl, rfl, SqL.of (s12 _ _ hq), atI_nat h7, a7, Ck K 7, d7, _, _, rfl, s12 _ _ x7, s12 _ _ y7, T.e7.xf, (T.e7.no "at" (by decide +kernel)), lk1, ⟨_, rfl, q, es, ((8 : Nat) : Int), _, rfl, rfl, SqL.of (s12 _ _ hq), atI_nat h8, a8, Ck K 8, d8, _, _, rfl, s12 _ _ x8, s12 _ _ y8, T.e8.xf, (T.e8.no "at" (by decide +kernel)), lk1, ⟨(by show 3 ≤ sizeLine; decide), fun c hc => ?_⟩⟩⟩⟩
    have s3 := same_new (o := .lst [number, number, number]) hc
    have e3 : upd H2 c (.lst [number, number, number]) c = some (.lst [number, number, number]) := upd_same
    have s13 := s12.trans s3
    have g1 := s3 _ _ f2
    have g2 := s3 _ _ e2
    generalize upd H2 c (.lst [number, number, number]) = H3 at s13 e3 g1 g2 ⊢
    refine ⟨(by show 3 ≤ sizeLine; decide), fun r hr => ?_⟩
    have s4 := same_new (o := .lst [.ref a, .ref b, .ref c]) hr
    exact kk r a b c _ (s13.trans s4) upd_same (s4 _ _ g1) (s4 _ _ g2) (s4 _ _ e3)
abbrev sRs : Stmt := top 23
theorem scRs : FnScope ["k", "one", "text", "number"] ["k", "one", "text", "number"] (defScope sRs) := ⟨rfl, rfl, rfl, by decide +kernel, rfl, by decide +kernel, by decide +kernel⟩
def spRs (K : PySem.W.Frag) : Sp := fun vs H Q E => ∃ (k : Nat) (one text number : V), vs = [.int k, one, text, number] ∧ k < 12 ∧ ∀ d H', Same H H' → H d = none → H' d = some (.xd (flds one text number k)) → E (.ref (Ck K k)) (some d) H'
theorem ok_Rs {f : Addr} {fd : FuncData} (F : FnS K "_law_raise" sRs f fd) (T : ES P w K mg base) : FnOk P w K mg base (L2N.CX P w) 3 f fd ["k", "one", "text", "number"] (spRs K) := by
  refine F.ok scRs (fun vs H Q E h => ?_) (fun cdv A outer s H vs Q E hr h => ?_)
  · obtain ⟨k, one, text, number, rfl, _⟩ := h
    rfl
  · obtain ⟨k, one, text, number, rfl, hk, kk⟩ := h
    have nd := scRs.nd
    refine ⟨_, (pss_cons (ps_if (pt_cmpR op_eq (pv 0) pe_int (nomark _)) (pss_one (L2N.ps_raise rfl (L2N.takes_of rfl rfl rfl rfl) (pmk_mkX T.e0 hr (pa_cons (pv 1) pa_nil)))) pss_nil)
      (pss_cons (ps_if (pt_cmpR op_eq (pv 0) pe_int (nomark _)) (pss_one (L2N.ps_raise rfl (L2N.takes_of rfl rfl rfl rfl) (pmk_mkX T.e1 hr (pa_cons (pv 1) pa_nil)))) pss_nil)
      (pss_cons (ps_if (pt_cmpR op_eq (pv 0) pe_int (nomark _)) (pss_one (L2N.ps_raise rfl (L2N.takes_of rfl rfl rfl rfl) (pmk_mkX T.e2 hr (pa_cons (pv 1) pa_nil)))) pss_nil)
      (pss_cons (ps_if (pt_cmpR op_eq (pv 0) pe_int (nomark _)) (pss_one (L2N.ps_raise rfl (L2N.takes_of rfl rfl rfl rfl) (pmk_mkX T.e3 hr (pa_cons (pv 1) pa_nil)))) pss_nil)
      (pss_cons (ps_if (pt_cmpR op_eq (pv 0) pe_int (nomark _)) (pss_one (L2N.ps_raise rfl (L2N.takes_of rfl rfl rfl rfl) (pmk_mkX T.e4 hr (pa_cons (pv 2) (pa_cons (pv 3) pa_nil))))) pss_nil)
      (pss_cons (ps_if (pt_cmpR op_eq (pv 0) pe_int (nomark _)) (pss_one (L2N.ps_raise rfl (L2N.takes_of rfl rfl rfl rfl) (pmk_mkX T.e5 hr (pa_cons (pv 1) pa_nil)))) pss_nil)
      (pss_cons (ps_if (pt_cmpR op_eq (pv 0) pe_int (nomark _)) (pss_one (L2N.ps_raise rfl (L2N.takes_of rfl rfl rfl rfl) (pmk_mkX T.e6 hr (pa_cons (pv 1) pa_nil)))) pss_nil)
      (pss_cons (ps_if (pt_cmpR op_eq (pv 0) pe_int (nomark _)) (pss_one (L2N.ps_raise rfl (L2N.takes_of rfl rfl rfl rfl) (pmk_mkX T.e7 hr (pa_cons (pv 2) (pa_cons (pv 3) pa_nil))))) pss_nil)
      (pss_cons (ps_if (pt_cmpR op_eq (pv 0) pe_int (nomark _)) (pss_one (L2N.ps_raise rfl (L2N.takes_of rfl rfl rfl rfl) (pmk_mkX T.e8 hr (pa_cons (pv 2) (pa_cons (pv 3) pa_nil))))) pss_nil)
      (pss_cons (ps_if (pt_cmpR op_eq (pv 0) pe_int (nomark _)) (pss_one (L2N.ps_raise rfl (L2N.takes_of rfl rfl rfl rfl) (pmk_mkX T.e9 hr (pa_cons (pv 2) pa_nil)))) pss_nil)
      (pss_cons (ps_if (pt_cmpR op_eq (pv 0) pe_int (nomark _)) (pss_one (L2N.ps_raise rfl (L2N.takes_of rfl rfl rfl rfl) (pmk_mkX T.e10 hr (pa_cons (pv 2) pa_nil)))) pss_nil)
      (pss_one (L2N.ps_raise rfl (L2N.takes_of rfl rfl rfl rfl) (pmk_mkX T.e11 hr (pa_cons (pv 2) pa_nil))))))))))))))), ?_⟩
    match k, hk with
    | 0, _ => exact ⟨_, rfl, rfl, _, rfl, iteTb (by decide) ⟨_, rfl, rfl, fun d H' s n e => kk d H' s n e⟩⟩
    | 1, _ => exact ⟨_, rfl, rfl, _, rfl, iteFb (by decide) ⟨_, rfl, rfl, _, rfl, iteTb (by decide) ⟨_, rfl, rfl, fun d H' s n e => kk d H' s n e⟩⟩⟩
    | 2, _ => exact ⟨_, rfl, rfl, _, rfl, iteFb (by decide) ⟨_, rfl, rfl, _, rfl, iteFb (by decide) ⟨_, rfl, rfl, _, rfl, iteTb (by decide) ⟨_, rfl, rfl, fun d H' s n e => kk d H' s n e⟩⟩⟩⟩
    | 3, _ => exact ⟨_, rfl, rfl, _, rfl, iteFb (by decide) ⟨_, rfl, rfl, _, rfl, iteFb (by decide) ⟨_, rfl, rfl, _, rfl, iteFb (by decide) ⟨_, rfl, rfl, _, rfl, iteTb (by decide) ⟨_, rfl, rfl, fun d H' s n e => kk d H' s n e⟩⟩⟩⟩⟩
    | 4, _ => exact ⟨_, rfl, rfl, _, rfl, iteFb (by decide) ⟨_, rfl, rfl, _, rfl, iteFb (by decide) ⟨_, rfl, rfl, _, rfl, iteFb (by decide) ⟨_, rfl, rfl, _, rfl, iteFb (by decide) ⟨_, rfl, rfl, _, rfl, iteTb (by decide) ⟨_, rfl, _, rfl, rfl, fun d H' s n e => kk d H' s n e⟩⟩⟩⟩⟩⟩
    | 5, _ => exact ⟨_, rfl, rfl, _, rfl, iteFb (by decide) ⟨_, rfl, rfl, _, rfl, iteFb (by decide) ⟨_, rfl, rfl, _, rfl, iteFb (by decide) ⟨_, rfl, rfl, _, rfl, iteFb (by decide) ⟨_, rfl, rfl, _, rfl, iteFb (by decide) ⟨_, rfl, rfl, _, rfl, iteTb (by decide) ⟨_, rfl, rfl, fun d H' s n e => kk d H' s n e⟩⟩⟩⟩⟩⟩⟩
    | 6, _ => exact ⟨_, rfl, rfl, _, rfl, iteFb (by decide) ⟨_, rfl, rfl, _, rfl, iteFb (by decide) ⟨_, rfl, rfl, _, rfl, iteFb (by decide) ⟨_, rfl, rfl, _, rfl, iteFb (by decide) ⟨_, rfl, rfl, _, rfl, iteFb (by decide) ⟨_, rfl, rfl, _, rfl, iteFb (by decide) ⟨_, rfl, rfl, _, rfl, iteTb (by decide) ⟨_, rfl, rfl, fun d H' s n e => kk d H' s n e⟩⟩⟩⟩⟩⟩⟩⟩
    | 7, _ => exact ⟨_, rfl, rfl, _, rfl, iteFb (by decide) ⟨_, rfl, rfl, _, rfl, iteFb (by decide) ⟨_, rfl, rfl, _, rfl, iteFb (by decide) ⟨_, rfl, rfl, _, rfl, iteFb (by decide) ⟨_, rfl, rfl, _, rfl, iteFb (by decide) ⟨_, rfl, rfl, _, rfl, iteFb (by decide) ⟨_, rfl, rfl, _, rfl, iteFb (by decide) ⟨_, rfl, rfl, _, rfl, iteTb (by decide) ⟨_, rfl, _, rfl, rfl, fun d H' s n e => kk d H' s n e⟩⟩⟩⟩⟩⟩⟩⟩⟩
    | 8, _ => exact ⟨_, rfl, rfl, _, rfl, iteFb (by decide) ⟨_, rfl, rfl, _, rfl, iteFb (by decide) ⟨_, rfl, rfl, _, rfl, iteFb (by decide) ⟨_, rfl, rfl, _, rfl, iteFb (by decide) ⟨_, rfl, rfl, _, rfl, iteFb (by decide) ⟨_, rfl, rfl, _, rfl, iteFb (by decide) ⟨_, rfl, rfl, _, rfl, iteFb (by decide) ⟨_, rfl, rfl, _, rfl, iteFb (by decide) ⟨_, rfl, rfl, _, rfl, iteTb (by decide) ⟨_, rfl, _, rfl, rfl, fun d H' s n e => kk d H' s n e⟩⟩⟩⟩⟩⟩⟩⟩⟩⟩
    | 9, _ => exact ⟨_, rfl, rfl, _, rfl, iteFb (by decide) ⟨_, rfl, rfl, _, rfl, iteFb (by decide) ⟨_, rfl, rfl, _, rfl, iteFb (by decide) ⟨_, rfl, rfl, _, rfl, iteFb (by decide) ⟨_, rfl, rfl, _, rfl, iteFb (by decide) ⟨_, rfl, rfl, _, rfl, iteFb (by decide) ⟨_, rfl, rfl, _, rfl, iteFb (by decide) ⟨_, rfl, rfl, _, rfl, iteFb (by decide) ⟨_, rfl, rfl, _, rfl, iteFb (by decide) ⟨_, rfl, rfl, _, rfl, iteTb (by decide) ⟨_, rfl, rfl, fun d H' s n e => kk d H' s n e⟩⟩⟩⟩⟩⟩⟩⟩⟩⟩⟩
    | 10, _ => exact ⟨_, rfl, rfl, _, rfl, iteFb (by decide) ⟨_, rfl, rfl, _, rfl, iteFb (by decide) ⟨_, rfl, rfl, _, rfl, iteFb (by decide) ⟨_, rfl, rfl, _, rfl, iteFb (by decide) ⟨_, rfl, rfl, _, rfl, iteFb (by decide) ⟨_, rfl, rfl, _, rfl, iteFb (by decide) ⟨_, rfl, rfl, _, rfl, iteFb (by decide) ⟨_, rfl, rfl, _, rfl, iteFb (by decide) ⟨_, rfl, rfl, _, rfl, iteFb (by decide) ⟨_, rfl, rfl, _, rfl, iteFb (by decide) ⟨_, rfl, rfl, _, rfl, iteTb (by decide) ⟨_, rfl, rfl, fun d H' s n e => kk d H' s n e⟩⟩⟩⟩⟩⟩⟩⟩⟩⟩⟩⟩
    | 11, _ => exact ⟨_, rfl, rfl, _, rfl, iteFb (by decide) ⟨_, rfl, rfl, _, rfl, iteFb (by decide) ⟨_, rfl, rfl, _, rfl, iteFb (by decide) ⟨_, rfl, rfl, _, rfl, iteFb (by decide) ⟨_, rfl, rfl, _, rfl, iteFb (by decide) ⟨_, rfl, rfl, _, rfl, iteFb (by decide) ⟨_, rfl, rfl, _, rfl, iteFb (by decide) ⟨_, rfl, rfl, _, rfl, iteFb (by decide) ⟨_, rfl, rfl, _, rfl, iteFb (by decide) ⟨_, rfl, rfl, _, rfl, iteFb (by decide) ⟨_, rfl, rfl, _, rfl, iteFb (by decide) ⟨_, rfl, rfl, fun d H' s n e => kk d H' s n e⟩⟩⟩⟩⟩⟩⟩⟩⟩⟩⟩⟩
    | n + 12, h => exact absurd h (by omega)
structure CalN (P : Program) (w : World) (K : PySem.W.Frag) (mg : Str → Option Value) (base : Heap) (k : Nat) (x : Str) (f : Addr) (fd : FuncData) (ps : List Str) (sp : Sp) : Prop where
  glob : mg x = some (.ref f)
  kp : PySem.W.keepIn K (.ref f) = true
  binds : L2.Binds K fd ps []
  ok : FnOk P w K mg base (L2N.CX P w) k f fd ps sp
structure CalP (P : Program) (w : World) (K : PySem.W.Frag) (mg : Str → Option Value) (base : Heap) (k : Nat) (x : Str) (f : Addr) (fd : FuncData) (ps : List Str) (sp : Addr → Value → Option Addr → Sp) : Prop where
  glob : mg x = some (.ref f)
  kp : PySem.W.keepIn K (.ref f) = true
  binds : L2.Binds K fd ps []
  ok : FnP P w K mg base (L2.CX P w) k f fd ps sp
theorem pe_calP {X : Cx} {k : Nat} {x : Str} {f : Addr} {fd : FuncData} {ps : List Str} {sp : Addr → Value → Option Addr → Sp} {a : Addr} {oe : Obj} {cls : Value} {d : Option Addr} {e : Expr} {es : List Expr} {t : TA} {q pos : Pos} (C : CalP X.prog X.w X.K X.mg X.base k x f fd ps sp) (hz : Zc cls d oe) (ha : PA X (e :: es) t)
    (hr : L2H.RoomH k X.A) (hot : L2H.Hot1 X.A (a, oe)) (hp : (a, oe) ∈ X.pn) (hg : Gl X x := by rfl) (hdb : (x == ("__debug__" : Str)) = false := by decide) (he : starEach (e :: es) X.env = (false, eval e X.env) :: starEach es X.env := by rfl) (hpl : (backTo pos (starEach es X.env)).any (·.1) = false := by rfl) :
    PE X (.Call (.Name x q) (e :: es) [] pos) (tCallP sp a cls d (fun _ => E0) t) :=
  pe_callP (p := (a, oe)) C.ok hr hot hz hp hg C.glob C.kp C.binds (fun _ _ _ _ _ _ _ ⟨_, _, _, _, _, _, _, _, _, _, _, _, z⟩ => z.elim) ha hdb he hpl
abbrev sRd : Stmt := top 24
theorem scRd : FnScope ["k", "one", "text", "number", "e"] ["k", "one", "text", "number"] (defScope sRd) := ⟨rfl, rfl, rfl, by decide +kernel, rfl, by decide +kernel, by decide +kernel⟩
def spRd : Sp := fun vs H Q _ => ∃ (k : Nat) (one text number : V), vs = [.int k, one, text, number] ∧ k < 12 ∧ TellK k H Q
theorem ok_Rd {f fR fK : Addr} {fd fdR fdK : FuncData} (F : FnS K "_law_raised" sRd f fd) (T : ES P w K mg base) (CR : CalN P w K mg base 3 "_law_raise" fR fdR ["k", "one", "text", "number"] (spRs K)) (CK : CalP P w K mg base 1 "_law_kinds" fK fdK ["e"] (spKdP K)) :
    FnOk P w K mg base (L2.CX P w) 4 f fd ["k", "one", "text", "number"] spRd := by
  refine F.ok scRd (fun vs H Q E h => ?_) (fun cdv A outer s H vs Q E hr h => ?_)
  · obtain ⟨k, one, text, number, rfl, _⟩ := h
    rfl
  · obtain ⟨k, one, text, number, rfl, hk, kk⟩ := h
    have nd := scRd.nd
    have tk0 : L2N.Takes (cxOf (L2.CX P w) P w K mg base ["k", "one", "text", "number", "e"] "_law_raised" (defScope sRd) f cdv A outer s H E) (fun _ _ _ _ => False) := fun u s' ⟨_, _, _, _, _, _, _, _, _, _, _, _, _, _, _, _, z⟩ => z.elim
    refine ⟨_, pss_cons (L2N.ps_try_as rfl rfl nd (i := 4) rfl rfl ⟨rfl, by decide, .inl T.gW⟩ tk0
      (fun W pn xe tk _ => pss_one (ps_expr (pe_callS (E := WE W) CR.ok hr rfl CR.glob CR.kp CR.binds (fun σ => L2N.passAt tk σ) (pa_cons (pv 0) (pa_cons (pv 1) (pa_cons (pv 2) (pa_cons (pv 3) pa_nil)))))))
      (fun a oe cls d pn hz hf => pss_one (ps_ret (pe_calP (a := a) (oe := oe) CK hz.zc (pa_cons (pv 4) pa_nil) (by exact L2H.roomH_mark (hr.mono (show 1 ≤ 3 by decide)) _) (by exact ⟨rfl, hf.imp fun vs e => ⟨e, hz.2.2 vs e⟩⟩) (by exact List.mem_cons_self ..))))) (pss_one (ps_ret pe_non)), ?_⟩
    refine ⟨_, rfl, _, rfl, _, rfl, _, rfl, k, one, text, number, rfl, hk, fun d H1 s1 n1 e1 => ?_⟩
    exact ⟨true, T.ex k hk, fun _ a ha => ⟨_, rfl, k, d, _, rfl, hk, rfl, rfl, e1, fun q H2 s2 eq => kk q H2 (s1.trans s2) eq⟩, fun z => nomatch z⟩
end
end WU

set_option maxRecDepth 100000
set_option maxHeartbeats 8000000
namespace WU
open PySem PySem.Spec PyProof.Rows L2

theorem pr_map {α β : Type} {F G : α → β → Prop} (i : ∀ a b, F a b → G a b) : ∀ {l : List α} {m : List β}, Paired F l m → Paired G l m
  | _, _, .nil => .nil
  | _, _, .cons h t => .cons (i _ _ h) (pr_map i t)
theorem Lk.same : ∀ {n : Nat} {H H' : Hp} {u v : V}, Lk n H u v → Same H H' → Lk n H' u v
  | 0, _, _, _, _, h, _ => h
  | n + 1, _, _, _, _, h, s => by
    rcases h with h | ⟨a, b, xs, ys, e1, e2, h, p, l⟩
    · exact .inl h
    · exact .inr ⟨a, b, xs, ys, e1, e2, h.imp (fun h => ⟨s _ _ h.1, s _ _ h.2⟩) (fun h => ⟨s _ _ h.1, s _ _ h.2⟩), pr_map (fun _ _ q => Lk.same q s) p, l⟩
theorem Lk.leaf {n : Nat} {H : Hp} {v : V} (h : leafV v = true) : Lk n H v v := by
  cases n with
  | zero => exact ⟨rfl, h⟩
  | succ n => exact .inl ⟨rfl, h⟩
def kb (k : Nat) : List PyData := [.bool (decide (k = 0)), .bool (decide (k = 1)), .bool (decide (k = 2)), .bool (decide (k = 3)), .bool (decide (k = 4)), .bool (decide (k = 5)), .bool (decide (k = 6)), .bool (decide (k = 7)), .bool (decide (k = 8)), .bool (decide (k = 9)), .bool (decide (k = 10)), .bool (decide (k = 11))]
theorem kl_set : ∀ k, k < 12 → ((List.replicate (12 : Int).toNat [V.bl false]).flatten).set k (.bl true) = kl k
  | 0, _ => rfl
  | 1, _ => rfl
  | 2, _ => rfl
  | 3, _ => rfl
  | 4, _ => rfl
  | 5, _ => rfl
  | 6, _ => rfl
  | 7, _ => rfl
  | 8, _ => rfl
  | 9, _ => rfl
  | 10, _ => rfl
  | 11, _ => rfl
  | n + 12, h => absurd h (by omega)
theorem kb_ok : ∀ k, k < 12 → SeqAt.shaped (.list (kb k)) = true ∧ PyData.eqv (.list (kb k)) (.list (kb k)) = true
  | 0, _ => ⟨by decide +kernel, by decide +kernel⟩
  | 1, _ => ⟨by decide +kernel, by decide +kernel⟩
  | 2, _ => ⟨by decide +kernel, by decide +kernel⟩
  | 3, _ => ⟨by decide +kernel, by decide +kernel⟩
  | 4, _ => ⟨by decide +kernel, by decide +kernel⟩
  | 5, _ => ⟨by decide +kernel, by decide +kernel⟩
  | 6, _ => ⟨by decide +kernel, by decide +kernel⟩
  | 7, _ => ⟨by decide +kernel, by decide +kernel⟩
  | 8, _ => ⟨by decide +kernel, by decide +kernel⟩
  | 9, _ => ⟨by decide +kernel, by decide +kernel⟩
  | 10, _ => ⟨by decide +kernel, by decide +kernel⟩
  | 11, _ => ⟨by decide +kernel, by decide +kernel⟩
  | n + 12, h => absurd h (by omega)
theorem kl_dp {K : PySem.W.Frag} {H : Hp} {k : Nat} : DpAll K H (kl k) (kb k) := .cons (.bl _) <| .cons (.bl _) <| .cons (.bl _) <| .cons (.bl _) <| .cons (.bl _) <| .cons (.bl _) <| .cons (.bl _) <| .cons (.bl _) <| .cons (.bl _) <| .cons (.bl _) <| .cons (.bl _) <| .cons (.bl _) <| .nil
theorem nek {K : PySem.W.Frag} {H : Hp} {r D : Addr} {k : Nat} {Q : VK} (hk : k < 12) (hr : H r = some (.lst (kl k))) (hD : H D = some (.lst (kl k))) (h : Q (.bl false) H) : rNeD K (.ref r) (.ref D) H Q := by
  have sd := kb_ok k hk
  refine ⟨_, _, .lst (SqL.of hr) kl_dp, .lst (SqL.of hD) kl_dp, sd.1, sd.1, ?_⟩
  rw [sd.2]
  exact h
section
variable {P : Program} {w : World} {K : PySem.W.Frag} {mg : Str → Option Value} {base : Heap}
abbrev sRt : Stmt := top 25
theorem scRt : FnScope ["errors", "one", "text", "number", "k", "due"] ["errors", "one", "text", "number"] (defScope sRt) := ⟨rfl, rfl, rfl, by decide +kernel, rfl, by decide +kernel, by decide +kernel⟩
def spRt (K : PySem.W.Frag) : Sp := fun vs H Q _ => ∃ (q : Addr) (es : List V) (one text number : V), vs = [.ref q, one, text, number] ∧ H q = some (.lst es) ∧ ErrsAt K H es one text number ∧ Lk 5 H one one ∧ leafV text = true ∧ leafV number = true ∧ ∀ H', Same H H' → Q (.bl true) H'
theorem ok_Rt {f fK fR fP fL : Addr} {fd fdK fdR fdP fdL : FuncData} (F : FnS K "_law_right" sRt f fd) (B : Blt4 mg) (T : ES P w K mg base) (CK : Cal P w K mg base 1 "_law_kinds" fK fdK ["e"] (spKd K)) (CR : Cal P w K mg base 4 "_law_raised" fR fdR ["k", "one", "text", "number"] spRd)
    (CKp : Cal P w K mg base 1 "_law_kept" fP fdP ["errors"] (spKp K)) (CL : Cal P w K mg base 8 "_law_like" fL fdL ["found", "due"] (spLk (Lk 7))) : FnOk P w K mg base (L2.CX P w) 9 f fd ["errors", "one", "text", "number"] (spRt K) := by
  refine F.ok scRt (fun vs H Q E h => ?_) (fun cdv A outer s H vs Q E hr h => ?_)
  · obtain ⟨q, es, one, text, number, rfl, _⟩ := h
    rfl
  · obtain ⟨q, es, one, text, number, rfl, hq, hE, hone, htx, hnu, kk⟩ := h
    have nd := scRt.nd
    have hu := hr.units
    have hr1 := hr.mono (show 1 ≤ 8 by decide)
    have hr4 := hr.mono (show 4 ≤ 8 by decide)
    refine ⟨_, (pss_cons (ps_if (pt_cmpR op_ne (pe_callB call_len_seq (by rfl) B.len (by decide +kernel) (pa_cons (pv 0) pa_nil)) pe_int (nomark _)) (pss_one (ps_ret pe_bl)) pss_nil)
      (pss_cons (ps_for (passes_of rfl) rfl (pi_range1 rfl B.range (pa_cons pe_int pa_nil)) (pg_name (i := 4) nd rfl (Or.inl rfl)) (pss_cons (ps_set (i := 5) nd rfl (Or.inl rfl) (pe_op op_rep (pe_lst (pa_cons pe_bl pa_nil)) pe_int))
      (pss_cons (ps_asg pe_bl (pg_sub (pv 5) (pv 4) set_list))
      (pss_cons (ps_if (PW.pt (pw_or (pt_cmpR (op_neD hu) (pe_cal CK hr1 (pa_cons (pe_ix ix_list (pv 0) (pv 4) (fun _ _ => rfl)) pa_nil) passU) (pv 5) (nomark _)) (pw_or1 (pt_cmpR (op_neD hu) (pe_cal CR hr4 (pa_cons (pv 4) (pa_cons (pv 1) (pa_cons (pv 2) (pa_cons (pv 3) pa_nil)))) passU) (pv 5) (nomark _))))) (pss_one (ps_ret pe_bl)) pss_nil)
      (pss_one (ps_if (PW.pt (pw_or (pt_not (pt_val (pe_callB call_isV (by rfl) B.isi (by decide +kernel) (pa_cons (pe_ix ix_list (pv 0) (pv 4) (fun _ _ => rfl)) (pa_cons (pe_glob (v := .ref (He.ga K "WishError")) rfl T.gW rfl) pa_nil))))) (pw_or1 (pt_not (pt_val (pe_callB call_isV (by rfl) B.isi (by decide +kernel) (pa_cons (pe_ix ix_list (pv 0) (pv 4) (fun _ _ => rfl)) (pa_cons (pe_bltn (v := .ty "ValueError") (by rfl) T.vE (by decide +kernel) rfl) pa_nil)))))))) (pss_one (ps_ret pe_bl)) pss_nil))))))
      (pss_one (ps_ret (pe_cal CL hr (pa_cons (pe_cal CKp hr1 (pa_cons (pv 0) pa_nil) passU) (pa_cons (pe_lst (pa_cons (pe_op op_rep (pe_lst (pa_cons (pv 1) pa_nil)) pe_int) (pa_cons (pe_op op_rep (pe_lst (pa_cons (pv 2) pa_nil)) pe_int) (pa_cons (pe_op op_rep (pe_lst (pa_cons (pv 3) pa_nil)) pe_int) pa_nil)))) pa_nil)) passU))))), ?_⟩
    refine ⟨_, rfl, q, es, rfl, .inl (SqL.of hq), rfl, _, rfl, iteFb (by rw [hE.1]; rfl) ?_⟩
    refine ⟨12, rfl, by decide, by decide, for_range (lo := 0) (n := 12) (fun i σ H' => ∃ v4 v5, σ = [some (.ref q), some one, some text, some number, v4, v5] ∧ Same H H') ⟨none, none, rfl, Same.refl H⟩ ?_ ?_⟩
    · rintro i σ H1 hi ⟨v4, v5, rfl, s1⟩
      rw [show ((0 : Int) + (i : Int)) = ((i : Nat) : Int) from Int.zero_add _]
      refine ⟨(by show 1 ≤ sizeLine; decide), fun p hp => ⟨p, 12, [.bl false], rfl, rfl, upd_same, by decide, by decide, by decide, fun D hD => ?_⟩⟩
      have s2 := same_new (o := .lst [.bl false]) hp
      refine ⟨_, rfl, _, rfl, D, _, (i : Int), i, rfl, rfl, upd_same, ixN_at (n := 12) hi, ?_⟩
      rw [kl_set i hi]
      have s3 : Same (upd H1 p (.lst [.bl false])) (upd (upd (upd H1 p (.lst [.bl false])) D (.lst (List.replicate (12 : Int).toNat [V.bl false]).flatten)) D (.lst (kl i))) := fun b o e => by
        rw [upd_ne (ne_of_none e hD), upd_ne (ne_of_none e hD)]
        exact e
      have eD : upd (upd (upd H1 p (.lst [.bl false])) D (.lst (List.replicate (12 : Int).toNat [V.bl false]).flatten)) D (.lst (kl i)) D = some (.lst (kl i)) := upd_same
      generalize upd (upd (upd H1 p (.lst [.bl false])) D (.lst (List.replicate (12 : Int).toNat [V.bl false]).flatten)) D (.lst (kl i)) = H3 at s3 eD ⊢
      have s13 := s1.trans (s2.trans s3)
      obtain ⟨e, he, hEi⟩ := hE.2 i hi
      refine ⟨_, rfl, _, rfl, q, es, (i : Int), e, rfl, rfl, SqL.of (s13 _ _ hq), atI_nat he, e, i, one, text, number, rfl, hi, hEi.same s13, fun r H4 s4 er => ?_⟩
      refine ⟨_, rfl, nek hi er (s4 _ _ eD) ⟨_, rfl, iteF ?_⟩⟩
      refine ⟨_, rfl, _, rfl, _, rfl, _, rfl, i, one, text, number, rfl, hi, fun r2 H5 s5 er2 => ?_⟩
      refine ⟨_, rfl, nek hi er2 (s5 _ _ (s4 _ _ eD)) ⟨_, rfl, iteF ?_⟩⟩
      have s15 := s13.trans (s4.trans s5)
      obtain ⟨a, d, rfl, x, y⟩ := hEi.same s15
      refine ⟨_, rfl, _, rfl, q, es, (i : Int), _, rfl, rfl, SqL.of (s15 _ _ hq), atI_nat he, a, Ck K i, d, _, _, _, _, rfl, x, y, (T.xc hi).1, .own _, T.kW i hi, _, rfl, iteF ?_⟩
      exact ⟨_, rfl, _, rfl, q, es, (i : Int), _, rfl, rfl, SqL.of (s15 _ _ hq), atI_nat he, a, Ck K i, d, _, _, _, _, rfl, x, y, (T.xc hi).1, .ty "ValueError", T.kV i hi, _, rfl, iteF ⟨_, _, rfl, s15⟩⟩
    · rintro σ H1 ⟨v4, v5, rfl, s1⟩
      refine ⟨_, rfl, q, es, one, text, number, rfl, s1 _ _ hq, hE.same s1, fun r a b c H2 s2 er ea eb ec => ?_⟩
      refine ⟨_, rfl, (by show 1 ≤ sizeLine; decide), fun p1 hp1 => ⟨p1, 6, [one], rfl, rfl, upd_same, by decide, by decide, (show 6 ≤ sizeLine by decide), fun A hA => ?_⟩⟩
      have t1 := same_new (o := .lst [one]) hp1
      have u1 := same_new (o := .lst (List.replicate (6 : Int).toNat [one]).flatten) hA
      have eA : upd (upd H2 p1 (.lst [one])) A (.lst (List.replicate (6 : Int).toNat [one]).flatten) A = some (.lst [one, one, one, one, one, one]) := upd_same
      have w1 := t1.trans u1
      generalize upd (upd H2 p1 (.lst [one])) A (.lst (List.replicate (6 : Int).toNat [one]).flatten) = H3 at eA w1 ⊢
      refine ⟨_, rfl, (by show 1 ≤ sizeLine; decide), fun p2 hp2 => ⟨p2, 6, [text], rfl, rfl, upd_same, by decide, by decide, (show 6 ≤ sizeLine by decide), fun B' hB => ?_⟩⟩
      have t2 := same_new (o := .lst [text]) hp2
      have u2 := same_new (o := .lst (List.replicate (6 : Int).toNat [text]).flatten) hB
      have eB : upd (upd H3 p2 (.lst [text])) B' (.lst (List.replicate (6 : Int).toNat [text]).flatten) B' = some (.lst [text, text, text, text, text, text]) := upd_same
      have w2 := t2.trans u2
      generalize upd (upd H3 p2 (.lst [text])) B' (.lst (List.replicate (6 : Int).toNat [text]).flatten) = H4 at eB w2 ⊢
      refine ⟨_, rfl, (by show 1 ≤ sizeLine; decide), fun p3 hp3 => ⟨p3, 3, [number], rfl, rfl, upd_same, by decide, by decide, (show 3 ≤ sizeLine by decide), fun C' hC => ?_⟩⟩
      have t3 := same_new (o := .lst [number]) hp3
      have u3 := same_new (o := .lst (List.replicate (3 : Int).toNat [number]).flatten) hC
      have eC : upd (upd H4 p3 (.lst [number])) C' (.lst (List.replicate (3 : Int).toNat [number]).flatten) C' = some (.lst [number, number, number]) := upd_same
      have w3 := t3.trans u3
      generalize upd (upd H4 p3 (.lst [number])) C' (.lst (List.replicate (3 : Int).toNat [number]).flatten) = H5 at eC w3 ⊢
      refine ⟨(by show 3 ≤ sizeLine; decide), fun Z hZ => ?_⟩
      have t4 := same_new (o := .lst [.ref A, .ref B', .ref C']) hZ
      have eZ : upd H5 Z (.lst [.ref A, .ref B', .ref C']) Z = some (.lst [.ref A, .ref B', .ref C']) := upd_same
      generalize upd H5 Z (.lst [.ref A, .ref B', .ref C']) = H6 at t4 eZ ⊢
      have w26 := w1.trans (w2.trans (w3.trans t4))
      have w36 := w2.trans (w3.trans t4)
      have w46 := w3.trans t4
      have s16 := s1.trans (s2.trans w26)
      have lo := hone.same s16
      have lt : Lk 5 H6 text text := .leaf htx
      have ln : Lk 5 H6 number number := .leaf hnu
      refine ⟨_, _, rfl, .inr ⟨r, Z, _, _, rfl, rfl, .inl ⟨w26 _ _ er, eZ⟩, .cons ?_ (.cons ?_ (.cons ?_ .nil)), (by show 3 ≤ 10000; decide)⟩, kk _ s16⟩
      · exact .inr ⟨a, A, _, _, rfl, rfl, .inl ⟨w26 _ _ ea, w36 _ _ eA⟩, .cons lo (.cons lo (.cons lo (.cons lo (.cons lo (.cons lo .nil))))), (by show 6 ≤ 10000; decide)⟩
      · exact .inr ⟨b, B', _, _, rfl, rfl, .inl ⟨w26 _ _ eb, w46 _ _ eB⟩, .cons lt (.cons lt (.cons lt (.cons lt (.cons lt (.cons lt .nil))))), (by show 6 ≤ 10000; decide)⟩
      · exact .inr ⟨c, C', _, _, rfl, rfl, .inl ⟨w26 _ _ ec, t4 _ _ eC⟩, .cons ln (.cons ln (.cons ln .nil)), (by show 3 ≤ 10000; decide)⟩
end
end WU

set_option maxRecDepth 100000
set_option maxHeartbeats 8000000
namespace WU
open PySem PySem.Spec PyProof.Rows L2

theorem lst_exo {a C : Addr} {d : Option Addr} {xs : List V} : exo a C d ≠ .lst xs := fun z => by
  have z' : HO.ext _ = HO.lst xs := z
  cases z'
theorem lst_exd {a : Addr} {fs : List (Str × V)} {xs : List V} : exd a fs ≠ .lst xs := fun z => by
  have z' : HO.ext _ = HO.lst xs := z
  cases z'
theorem ErrsAt.upd {K : PySem.W.Frag} {H : Hp} {es : List V} {one text number : V} {c : Addr} {xs : List V} {o : HO} (h : ErrsAt K H es one text number) (hc : H c = some (.lst xs)) : ErrsAt K (L2.upd H c o) es one text number :=
  ⟨h.1, fun k hk => by
    obtain ⟨e, h1, a, d, rfl, h2, h3⟩ := h.2 k hk
    exact ⟨_, h1, a, d, rfl, by rw [upd_ne (ne_of h2 hc lst_exo)]; exact h2, by rw [upd_ne (ne_of h3 hc lst_exd)]; exact h3⟩⟩
theorem sum_one : ∀ {ys : List Str}, (∀ y ∈ ys, y.length = 1) → (ys.map (·.length)).sum = ys.length
  | [], _ => rfl
  | y :: ys, h => by
    rw [List.map_cons, List.sum_cons, h y (List.mem_cons_self ..), sum_one fun z hz => h z (List.mem_cons_of_mem _ hz), List.length_cons]
    omega
section
variable {P : Program} {w : World} {K : PySem.W.Frag} {mg : Str → Option Value} {base : Heap}
abbrev sLaw : Stmt := top 26
theorem scLaw : FnScope ["script", "hand", "one", "text", "number", "changing", "errors", "k"] ["script"] (defScope sLaw) := ⟨rfl, rfl, rfl, by decide +kernel, rfl, by decide +kernel, by decide +kernel⟩
def spLaw (K : PySem.W.Frag) : Sp := fun vs H Q _ => ∃ (a : Addr) (ns : List Int), vs = [.ref a] ∧ SqL K H a (ns.map V.int) ∧ ns.length ≤ 63 ∧ ∀ H', Q (.bl true) H'
theorem ok_Law {f fD fT fO fM fN fR : Addr} {fd fdD fdT fdO fdM fdN fdR : FuncData} (F : FnS K "law" sLaw f fd) (B : Blt4 mg) (CD : Cal P w K mg base 1 "_law_draws" fD fdD ["script", "many"] (spDraws K 120)) (CT : Cal P w K mg base 1 "_law_take" fT fdT ["hand", "many"] spTake)
    (CO : Cal P w K mg base 5 "_law_odd" fO fdO ["hand", "depth"] (spOdd 4)) (CM : Cal P w K mg base 3 "_law_made" fM fdM ["one", "text", "number"] (spMd K)) (CN : Cal P w K mg base 3 "_law_named" fN fdN ["one", "text", "number"] (spMd K)) (CR : Cal P w K mg base 9 "_law_right" fR fdR ["errors", "one", "text", "number"] (spRt K)) :
    FnOk P w K mg base CX0 10 f fd ["script"] (spLaw K) := by
  refine F.ok scLaw (fun vs H Q E h => ?_) (fun cdv A outer s H vs Q E hr h => ?_)
  · obtain ⟨a, ns, rfl, _⟩ := h
    rfl
  · obtain ⟨a0, ns, rfl, hS, hl, k⟩ := h
    have nd := scLaw.nd
    have hr1 := hr.mono (show 1 ≤ 9 by decide)
    have hr3 := hr.mono (show 3 ≤ 9 by decide)
    have hr5 := hr.mono (show 5 ≤ 9 by decide)
    refine ⟨_, (pss_cons (ps_set (i := 1) nd rfl (Or.inr rfl) (pe_lst (pa_cons (pe_cal CD hr1 (pa_cons (pv 0) (pa_cons pe_int pa_nil)) passU) (pa_cons pe_int pa_nil))))
      (pss_cons (ps_set (i := 2) nd rfl (Or.inl rfl) (pe_cal CO hr5 (pa_cons (pv 1) (pa_cons pe_int pa_nil)) passU))
      (pss_cons (ps_set (i := 3) nd rfl (Or.inl rfl) (pe_join pe_str (pe_lc (te := tOp rIxS (tC (.str "ab/0,; -")) (tCall spTake [] E0 (tCons (tVar 1) (tCons (tC (.int 8)) tNil)))) (own := [("k", 7)]) (g := gName 7) (by rfl) nd (pi_range1 rfl B.range (pa_cons (pe_cal CT hr1 (pa_cons (pv 1) (pa_cons pe_int pa_nil)) passU) pa_nil)) (blkOk_by (own := [("k", 7)]) (N := ["script", "hand", "one", "text", "number", "changing", "errors", "k"]) (sc := defScope sLaw) (by decide +kernel)) (fun _ _ _ _ _ => pg_name (i := 7) nd rfl (Or.inl rfl)) (fun _ _ _ _ _ => pts_nil) (fun _ _ _ _ _ => (pe_ix ix_str pe_str (pe_cal CT hr1 (pa_cons (pv 1) (pa_cons pe_int pa_nil)) passU) (fun _ _ => rfl))))))
      (pss_cons (ps_set (i := 4) nd rfl (Or.inl rfl) (pe_cal CT hr1 (pa_cons (pv 1) (pa_cons pe_int pa_nil)) passU))
      (pss_cons (ps_if (pt_not (pt_val (pe_cal CR hr (pa_cons (pe_cal CM hr3 (pa_cons (pv 2) (pa_cons (pv 3) (pa_cons (pv 4) pa_nil))) passU) (pa_cons (pv 2) (pa_cons (pv 3) (pa_cons (pv 4) pa_nil)))) passU))) (pss_one (ps_ret pe_bl)) pss_nil)
      (pss_cons (ps_if (pt_not (pt_val (pe_cal CR hr (pa_cons (pe_cal CN hr3 (pa_cons (pv 2) (pa_cons (pv 3) (pa_cons (pv 4) pa_nil))) passU) (pa_cons (pv 2) (pa_cons (pv 3) (pa_cons (pv 4) pa_nil)))) passU))) (pss_one (ps_ret pe_bl)) pss_nil)
      (pss_cons (ps_set (i := 5) nd rfl (Or.inl rfl) (pe_lst (pa_cons (pv 2) pa_nil)))
      (pss_cons (ps_set (i := 6) nd rfl (Or.inl rfl) (pe_cal CM hr3 (pa_cons (pv 5) (pa_cons (pv 3) (pa_cons (pv 4) pa_nil))) passU))
      (pss_cons (ps_expr (pe_bm PySem.F.plainAttrs_list PySem.F.slot_list_append PySem.F.type_list_append mt_append (pv 5) (pa_cons (pv 2) pa_nil)))
      (pss_one (ps_ret (pe_cal CR hr (pa_cons (pv 6) (pa_cons (pv 5) (pa_cons (pv 3) (pa_cons (pv 4) pa_nil)))) passU)))))))))))), ?_⟩
    refine ⟨_, rfl, a0, ns, rfl, hS, hl, fun d ds H1 s1 nd1 e1 nn ln => ⟨(by show 2 ≤ sizeLine; decide), fun q hq => ?_⟩⟩
    have hH2 : HandAt (upd H1 q (.lst [.ref d, .int 0])) q d := ⟨ds, 0, upd_same, by rw [upd_ne (ne_of_none e1 hq)]; exact e1, nn, by decide⟩
    generalize upd H1 q (.lst [.ref d, .int 0]) = H2 at hH2 ⊢
    refine ⟨_, rfl, q, d, 3, rfl, by decide, by decide, hH2, fun one H3 ho h3 k3 => ?_⟩
    refine ⟨⟨_, rfl⟩, _, rfl, q, d, 9, rfl, by decide, h3, fun cnt H4 c0 c1 h4 k4 => ⟨cnt, rfl, by omega, by omega, fun D hD => ?_⟩⟩
    obtain ⟨naD, ndD⟩ := h4.ne hD
    refine lc_range (lo := 0) (n := cnt.toNat) (fun i H' => HandAt H' q d ∧ Keep q H4 H' ∧ ∃ ys : List Str, H' D = some (.lst (ys.map V.str)) ∧ ys.length = i ∧ ∀ y ∈ ys, y.length = 1) ⟨h4.new hD, Keep.new hD, [], upd_same, rfl, fun y hy => nomatch hy⟩ ?_ ?_
    · rintro i H5 hi ⟨h5, k5, ys, e5, l5, a5⟩
      refine ⟨rfl, _, rfl, q, d, 8, rfl, by decide, h5, fun r H6 r0 r1 h6 k6 => ?_⟩
      obtain ⟨m, rfl⟩ : ∃ m : Nat, r = (m : Int) := ⟨r.toNat, by omega⟩
      have L8 : (("ab/0,; -" : Str).cps.toList).length = 8 := by decide +kernel
      have hm : m < (("ab/0,; -" : Str).cps.toList).length := by rw [L8]; omega
      refine ⟨_, _, _, rfl, rfl, (by rw [show ("ab/0,; -" : Str).length = 8 from by decide +kernel]; decide), atI_nat (List.getElem?_eq_getElem hm), _, k6 _ _ naD.symm e5, ?_, h6.put naD ndD, fun b o hb e => ?_, ys ++ [⟨#[(("ab/0,; -" : Str).cps.toList)[m]]⟩], ?_, ?_, fun y hy => ?_⟩
      · rw [List.length_map, l5]
        exact small1000 (by omega)
      · rw [upd_ne (ne_of_none e hD)]
        exact k6 _ _ hb (k5 _ _ hb e)
      · rw [upd_same, List.map_append]
        rfl
      · rw [List.length_append, l5]
        rfl
      · rcases List.mem_append.mp hy with h | h
        · exact a5 y h
        · rw [List.mem_singleton.mp h]
          rfl
    · rintro H5 ⟨h5, k5, ys, e5, l5, a5⟩
      refine ⟨_, D, ys, rfl, rfl, .inl (SqL.of e5), ?_, ?_⟩
      · rw [sum_one a5, l5, show ("" : Str).length = 0 from by decide +kernel]
        omega
      refine ⟨_, rfl, q, d, 40001, rfl, by decide, h5, fun num H8 n0 n1 h8 k8 => ?_⟩
      generalize Txt.join "" ys = tx
      have k38 : Keep q H3 H8 := k4.trans (k5.trans k8)
      have fr8 : ∀ b o, H2 b = none → H3 b = some o → H8 b = some o := fun b o nb e => k38 b o (fun z => by rw [z] at nb; exact hH2.alive nb) e
      refine ⟨_, rfl, _, rfl, _, rfl, one, .str tx, .int num, rfl, fun q1 es1 H9 s9 z9 e9 er9 => ⟨_, rfl, _, rfl, _, rfl, q1, es1, _, _, _, rfl, e9, er9, (ho.frame fun b o nb e => s9 _ _ (fr8 b o nb e)).up.lk, rfl, rfl, fun H10 s10 => ⟨_, rfl, iteF ?_⟩⟩⟩
      have s810 := s9.trans s10
      refine ⟨_, rfl, _, rfl, _, rfl, one, .str tx, .int num, rfl, fun q2 es2 H11 s11 z11 e11 er11 => ⟨_, rfl, _, rfl, _, rfl, q2, es2, _, _, _, rfl, e11, er11, (ho.frame fun b o nb e => s11 _ _ (s810 _ _ (fr8 b o nb e))).up.lk, rfl, rfl, fun H12 s12 => ⟨_, rfl, iteF ?_⟩⟩⟩
      have s812 := s810.trans (s11.trans s12)
      refine ⟨_, rfl, (by show 1 ≤ sizeLine; decide), fun ch hch => ?_⟩
      have s13 := same_new (o := .lst [one]) hch
      have ech : upd H12 ch (.lst [one]) ch = some (.lst [one]) := upd_same
      generalize upd H12 ch (.lst [one]) = H13 at s13 ech ⊢
      refine ⟨_, rfl, _, rfl, _, rfl, .ref ch, .str tx, .int num, rfl, fun q3 es3 H14 s14 z14 e14 er14 => ?_⟩
      have ech14 := s14 _ _ ech
      refine ⟨_, rfl, .inl ⟨rfl, _, SqL.of ech14⟩, _, rfl, ch, _, _, rfl, rfl, ech14, (by show 1 < sizeLine; decide), ?_⟩
      have ne3 : q3 ≠ ch := (ne_of_none ech z14).symm
      have e15 : upd H14 ch (.lst ([one] ++ [one])) q3 = some (.lst es3) := by rw [upd_ne ne3]; exact e14
      have c15 : upd H14 ch (.lst ([one] ++ [one])) ch = some (.lst [one, one]) := upd_same
      have er15 := er14.upd (o := .lst ([one] ++ [one])) ech14
      have ho15 : OD H2 4 (upd H14 ch (.lst ([one] ++ [one]))) one := ho.frame fun b o nb e => by
        have e12 := s812 _ _ (fr8 b o nb e)
        rw [upd_ne (ne_of_none e12 hch)]
        exact s14 _ _ (s13 _ _ e12)
      generalize upd H14 ch (.lst ([one] ++ [one])) = H15 at e15 c15 er15 ho15 ⊢
      have lo := ho15.lk
      exact ⟨_, rfl, _, rfl, _, rfl, _, rfl, q3, es3, .ref ch, .str tx, .int num, rfl, e15, er15, .inr ⟨ch, ch, _, _, rfl, rfl, .inl ⟨c15, c15⟩, .cons lo (.cons lo .nil), (by show 2 ≤ 10000; decide)⟩, rfl, rfl, fun H16 s16 => k H16⟩
end
end WU

set_option maxRecDepth 100000
set_option maxHeartbeats 0
namespace WU
open PySem PySem.Spec PyProof.Rows L2

abbrev sC0 : Stmt := inClass (top 2) 0
theorem scC0 : FnScope ["self", "value"] ["self", "value"] (defScope sC0) := ⟨rfl, rfl, rfl, by decide +kernel, rfl, by decide +kernel, by decide +kernel⟩
theorem bodyC0 (X : Cx) (hN : X.N = (["self", "value"] : List Str)) (hs : X.env.scope = defScope sC0) : PSs X (defBody sC0) (tOst X.K "value" (tVar 0) (tVar 1)) :=
  pss_one (ps_ost (pv 0 (by rw [hN] <;> rfl) (by rw [hs]; exact .inl rfl)) (pv 1 (by rw [hN] <;> rfl) (by rw [hs]; exact .inl rfl)))
abbrev sC1 : Stmt := inClass (top 3) 0
theorem scC1 : FnScope ["self", "value"] ["self", "value"] (defScope sC1) := ⟨rfl, rfl, rfl, by decide +kernel, rfl, by decide +kernel, by decide +kernel⟩
theorem bodyC1 (X : Cx) (hN : X.N = (["self", "value"] : List Str)) (hs : X.env.scope = defScope sC1) : PSs X (defBody sC1) (tOst X.K "value" (tVar 0) (tVar 1)) :=
  pss_one (ps_ost (pv 0 (by rw [hN] <;> rfl) (by rw [hs]; exact .inl rfl)) (pv 1 (by rw [hN] <;> rfl) (by rw [hs]; exact .inl rfl)))
abbrev sC2 : Stmt := inClass (top 4) 0
theorem scC2 : FnScope ["self", "value"] ["self", "value"] (defScope sC2) := ⟨rfl, rfl, rfl, by decide +kernel, rfl, by decide +kernel, by decide +kernel⟩
theorem bodyC2 (X : Cx) (hN : X.N = (["self", "value"] : List Str)) (hs : X.env.scope = defScope sC2) : PSs X (defBody sC2) (tOst X.K "value" (tVar 0) (tVar 1)) :=
  pss_one (ps_ost (pv 0 (by rw [hN] <;> rfl) (by rw [hs]; exact .inl rfl)) (pv 1 (by rw [hN] <;> rfl) (by rw [hs]; exact .inl rfl)))
abbrev sC3 : Stmt := inClass (top 5) 0
theorem scC3 : FnScope ["self", "value"] ["self", "value"] (defScope sC3) := ⟨rfl, rfl, rfl, by decide +kernel, rfl, by decide +kernel, by decide +kernel⟩
theorem bodyC3 (X : Cx) (hN : X.N = (["self", "value"] : List Str)) (hs : X.env.scope = defScope sC3) : PSs X (defBody sC3) (tOst X.K "value" (tVar 0) (tVar 1)) :=
  pss_one (ps_ost (pv 0 (by rw [hN] <;> rfl) (by rw [hs]; exact .inl rfl)) (pv 1 (by rw [hN] <;> rfl) (by rw [hs]; exact .inl rfl)))
abbrev sC4 : Stmt := inClass (top 6) 0
theorem scC4 : FnScope ["self", "part", "place"] ["self", "part", "place"] (defScope sC4) := ⟨rfl, rfl, rfl, by decide +kernel, rfl, by decide +kernel, by decide +kernel⟩
theorem bodyC4 (X : Cx) (hN : X.N = (["self", "part", "place"] : List Str)) (hs : X.env.scope = defScope sC4) : PSs X (defBody sC4) (tSeq (tOst X.K "part" (tVar 0) (tVar 1)) (tOst X.K "place" (tVar 0) (tVar 2))) :=
  pss_cons (ps_ost (pv 0 (by rw [hN] <;> rfl) (by rw [hs]; exact .inl rfl)) (pv 1 (by rw [hN] <;> rfl) (by rw [hs]; exact .inl rfl))) (pss_one (ps_ost (pv 0 (by rw [hN] <;> rfl) (by rw [hs]; exact .inl rfl)) (pv 2 (by rw [hN] <;> rfl) (by rw [hs]; exact .inl rfl))))
abbrev sC5 : Stmt := inClass (top 7) 0
theorem scC5 : FnScope ["self", "value"] ["self", "value"] (defScope sC5) := ⟨rfl, rfl, rfl, by decide +kernel, rfl, by decide +kernel, by decide +kernel⟩
theorem bodyC5 (X : Cx) (hN : X.N = (["self", "value"] : List Str)) (hs : X.env.scope = defScope sC5) : PSs X (defBody sC5) (tOst X.K "value" (tVar 0) (tVar 1)) :=
  pss_one (ps_ost (pv 0 (by rw [hN] <;> rfl) (by rw [hs]; exact .inl rfl)) (pv 1 (by rw [hN] <;> rfl) (by rw [hs]; exact .inl rfl)))
abbrev sC6 : Stmt := inClass (top 8) 0
theorem scC6 : FnScope ["self", "value"] ["self", "value"] (defScope sC6) := ⟨rfl, rfl, rfl, by decide +kernel, rfl, by decide +kernel, by decide +kernel⟩
theorem bodyC6 (X : Cx) (hN : X.N = (["self", "value"] : List Str)) (hs : X.env.scope = defScope sC6) : PSs X (defBody sC6) (tOst X.K "value" (tVar 0) (tVar 1)) :=
  pss_one (ps_ost (pv 0 (by rw [hN] <;> rfl) (by rw [hs]; exact .inl rfl)) (pv 1 (by rw [hN] <;> rfl) (by rw [hs]; exact .inl rfl)))
abbrev sC7 : Stmt := inClass (top 9) 0
theorem scC7 : FnScope ["self", "text", "at"] ["self", "text", "at"] (defScope sC7) := ⟨rfl, rfl, rfl, by decide +kernel, rfl, by decide +kernel, by decide +kernel⟩
theorem bodyC7 (X : Cx) (hN : X.N = (["self", "text", "at"] : List Str)) (hs : X.env.scope = defScope sC7) : PSs X (defBody sC7) (tSeq (tOst X.K "text" (tVar 0) (tVar 1)) (tOst X.K "at" (tVar 0) (tVar 2))) :=
  pss_cons (ps_ost (pv 0 (by rw [hN] <;> rfl) (by rw [hs]; exact .inl rfl)) (pv 1 (by rw [hN] <;> rfl) (by rw [hs]; exact .inl rfl))) (pss_one (ps_ost (pv 0 (by rw [hN] <;> rfl) (by rw [hs]; exact .inl rfl)) (pv 2 (by rw [hN] <;> rfl) (by rw [hs]; exact .inl rfl))))
abbrev sC8 : Stmt := inClass (top 10) 0
theorem scC8 : FnScope ["self", "line", "at"] ["self", "line", "at"] (defScope sC8) := ⟨rfl, rfl, rfl, by decide +kernel, rfl, by decide +kernel, by decide +kernel⟩
theorem bodyC8 (X : Cx) (hN : X.N = (["self", "line", "at"] : List Str)) (hs : X.env.scope = defScope sC8) : PSs X (defBody sC8) (tSeq (tOst X.K "line" (tVar 0) (tVar 1)) (tOst X.K "at" (tVar 0) (tVar 2))) :=
  pss_cons (ps_ost (pv 0 (by rw [hN] <;> rfl) (by rw [hs]; exact .inl rfl)) (pv 1 (by rw [hN] <;> rfl) (by rw [hs]; exact .inl rfl))) (pss_one (ps_ost (pv 0 (by rw [hN] <;> rfl) (by rw [hs]; exact .inl rfl)) (pv 2 (by rw [hN] <;> rfl) (by rw [hs]; exact .inl rfl))))
abbrev sC9 : Stmt := inClass (top 11) 0
theorem scC9 : FnScope ["self", "word"] ["self", "word"] (defScope sC9) := ⟨rfl, rfl, rfl, by decide +kernel, rfl, by decide +kernel, by decide +kernel⟩
theorem bodyC9 (X : Cx) (hN : X.N = (["self", "word"] : List Str)) (hs : X.env.scope = defScope sC9) : PSs X (defBody sC9) (tOst X.K "word" (tVar 0) (tVar 1)) :=
  pss_one (ps_ost (pv 0 (by rw [hN] <;> rfl) (by rw [hs]; exact .inl rfl)) (pv 1 (by rw [hN] <;> rfl) (by rw [hs]; exact .inl rfl)))
abbrev sC10 : Stmt := inClass (top 12) 0
theorem scC10 : FnScope ["self", "what"] ["self", "what"] (defScope sC10) := ⟨rfl, rfl, rfl, by decide +kernel, rfl, by decide +kernel, by decide +kernel⟩
theorem bodyC10 (X : Cx) (hN : X.N = (["self", "what"] : List Str)) (hs : X.env.scope = defScope sC10) : PSs X (defBody sC10) (tOst X.K "what" (tVar 0) (tVar 1)) :=
  pss_one (ps_ost (pv 0 (by rw [hN] <;> rfl) (by rw [hs]; exact .inl rfl)) (pv 1 (by rw [hN] <;> rfl) (by rw [hs]; exact .inl rfl)))
abbrev sC11 : Stmt := inClass (top 13) 0
theorem scC11 : FnScope ["self", "word"] ["self", "word"] (defScope sC11) := ⟨rfl, rfl, rfl, by decide +kernel, rfl, by decide +kernel, by decide +kernel⟩
theorem bodyC11 (X : Cx) (hN : X.N = (["self", "word"] : List Str)) (hs : X.env.scope = defScope sC11) : PSs X (defBody sC11) (tOst X.K "word" (tVar 0) (tVar 1)) :=
  pss_one (ps_ost (pv 0 (by rw [hN] <;> rfl) (by rw [hs]; exact .inl rfl)) (pv 1 (by rw [hN] <;> rfl) (by rw [hs]; exact .inl rfl)))
def dG (x : Str) (i : Nat) : He.DefD := ⟨(x, none), x, x, defArgs (top i), defBody (top i), defScope (top i), [], []⟩
def dM (c m : Str) (i j : Nat) (q : Str) (ds : List He.Dv) : He.DefD := ⟨(c, some m), m, q, defArgs (inClass (top i) j), defBody (inClass (top i) j), defScope (inClass (top i) j), ds, []⟩
def fn : List He.DefD := [dM "InvalidNumber" "__init__" 2 0 "InvalidNumber.__init__" [], dM "InvalidShare" "__init__" 3 0 "InvalidShare.__init__" [], dM "InvalidMatrix" "__init__" 4 0 "InvalidMatrix.__init__" [], dM "InvalidLibrary" "__init__" 5 0 "InvalidLibrary.__init__" [], dM "InvalidPlan" "__init__" 6 0 "InvalidPlan.__init__" [], dM "InvalidTape" "__init__" 7 0 "InvalidTape.__init__" [], dM "InvalidAnswers" "__init__" 8 0 "InvalidAnswers.__init__" [], dM "InvalidText" "__init__" 9 0 "InvalidText.__init__" [], dM "InvalidLine" "__init__" 10 0 "InvalidLine.__init__" [], dM "UnknownWord" "__init__" 11 0 "UnknownWord.__init__" [], dM "Undefined" "__init__" 12 0 "Undefined.__init__" [], dM "NothingToUndo" "__init__" 13 0 "NothingToUndo.__init__" [], dG "_law_draws" 15, dG "_law_take" 16, dG "_law_odd" 17, dG "_law_kinds" 18, dG "_law_made" 19, dG "_law_named" 20, dG "_law_kept" 21, dG "_law_like" 22, dG "_law_raise" 23, dG "_law_raised" 24, dG "_law_right" 25, dG "law" 26]
def frees : List Str := ["isinstance", "int", "bool", "len", "abs", "range", "tuple", "list", "str", "ValueError"]
def globs : List Str := ["InvalidNumber", "InvalidShare", "InvalidMatrix", "InvalidLibrary", "InvalidPlan", "InvalidTape", "InvalidAnswers", "InvalidText", "InvalidLine", "UnknownWord", "Undefined", "NothingToUndo", "WishError", "_law_draws", "_law_take", "_law_odd", "_law_kinds", "_law_made", "_law_named", "_law_kept", "_law_like", "_law_raise", "_law_raised", "_law_right", "law"]
def isB0 (o : Option Bool) (b : Bool) : Bool := decide (o = some b)
def excB (K : PySem.W.Frag) (D : Addr) : Bool :=
  decide (PySem.W.findIn K (.ref D) "__getattribute__" = some (some (.builtin "BaseException.__getattribute__"))) && (decide (PySem.W.findIn K (.ref D) "__getattr__" = some none) && (isB0 (PySem.W.subIn K (.ref D) (.type "BaseException")) true && (PySem.W.hasDictIn K D &&
    (decide (PySem.W.findIn K (.ref D) "__class__" = some (some (.builtin "object.__class__"))) && (decide (PySem.W.specialIn K (.builtin "object.__class__") "__get__" = some (some (.builtin "getset_descriptor.__get__"))) && (isB0 (PySem.W.takesIn K (.builtin "object.__class__")) true && isB0 (PySem.W.mroIn K D (.type "object")) true))))))
theorem excB_ok {K : PySem.W.Frag} {D : Addr} (h : excB K D = true) : ExcC K D := by
  obtain ⟨h1, h⟩ := and2 h
  obtain ⟨h2, h⟩ := and2 h
  obtain ⟨h3, h⟩ := and2 h
  obtain ⟨h4, h⟩ := and2 h
  obtain ⟨h5, h⟩ := and2 h
  obtain ⟨h6, h⟩ := and2 h
  obtain ⟨h7, h8⟩ := and2 h
  exact ⟨of_decide_eq_true h1, of_decide_eq_true h2, of_decide_eq_true h3, h4, of_decide_eq_true h5, of_decide_eq_true h6, of_decide_eq_true h7, of_decide_eq_true h8⟩
def ecB (K : PySem.W.Frag) (x : Str) (fs : List Str) : Bool :=
  oexB K (He.ga K x) && ((fs.all fun f => decide (PySem.W.findIn K (.ref (He.ga K x)) f = some none)) && (decide (PySem.W.findIn K (.ref (He.ga K x)) "__init__" = some (some (.ref (He.ma K (He.ga K x) "__init__")))) && (decide (PySem.W.typeIn K (.ref (He.ma K (He.ga K x) "__init__")) = some (.type "function")) && (excB K (He.ga K x) && xfB K (He.ga K x)))))
def upto (p : Nat → Bool) : Bool := (List.range 12).all p
theorem upto_ok {p : Nat → Bool} (h : upto p = true) {i : Nat} (hi : i < 12) : p i = true := List.all_eq_true.mp h i (List.mem_range.mpr hi)
def clB (K : PySem.W.Frag) : Bool := ecB K "InvalidNumber" ["value"] && (ecB K "InvalidShare" ["value"] && (ecB K "InvalidMatrix" ["value"] && (ecB K "InvalidLibrary" ["value"] && (ecB K "InvalidPlan" ["part", "place"] && (ecB K "InvalidTape" ["value"] && (ecB K "InvalidAnswers" ["value"] && (ecB K "InvalidText" ["text", "at"] && (ecB K "InvalidLine" ["line", "at"] && (ecB K "UnknownWord" ["word"] && (ecB K "Undefined" ["what"] && (ecB K "NothingToUndo" ["word"])))))))))))
def ex (K : PySem.W.Frag) : Bool :=
  freeB K frees && (globB K globs && (clB K && (upto (fun i => upto fun j => isB0 (PySem.W.kitOne K (.ref (Ck K i)) (.ref (Ck K j))) (decide (i = j))) && (upto (fun i => isB0 (PySem.W.kitOne K (.ref (Ck K i)) (.ref (He.ga K "WishError"))) true) &&
    (upto (fun i => isB0 (PySem.W.kitOne K (.ref (Ck K i)) (.type "ValueError")) true) && upto (fun i => isB0 (PySem.W.exmOne K (.ref (Ck K i)) (.ref (He.ga K "WishError"))) true))))))
theorem getG {K : PySem.W.Frag} (c : He.SaysD [] fn K) (i : Nat) {x : Str} {j : Nat} (h : fn[i]? = some (dG x j)) : ∃ fd, FnS K x (top j) (He.ga K x) fd := c.def_ i h
theorem getM {K : PySem.W.Frag} (c : He.SaysD [] fn K) (i : Nat) {cl m q : Str} {ds : List He.Dv} {j k : Nat} (h : fn[i]? = some (dM cl m j k q ds)) :
    ∃ fd, FunD K m q (defArgs (inClass (top j) k)) (defBody (inClass (top j) k)) (defScope (inClass (top j) k)) (ds.map (He.Dv.v K)) [] (He.ma K (He.ga K cl) m) fd := c.def_ i h
theorem vals_rev : ∀ {vs : List V} {us : List Value}, Vals vs us → Vals vs.reverse us.reverse
  | _, _, .nil => .nil
  | _, _, .cons h t => by
    rw [List.reverse_cons, List.reverse_cons]
    exact (vals_rev t).append (.cons h .nil)
theorem ec_of {P : Program} {w : World} {K : PySem.W.Frag} {mg : Str → Option Value} {base : Heap} {x : Str} {fs ks : List Str} {g : {α : Type} → List α → List α → List α} (hg : mg x = some (.ref (He.ga K x))) (e : ecB K x fs = true)
    (fn : ∃ fd, FnOk P w K mg base (L2.CX P w) 1 (He.ma K (He.ga K x) "__init__") fd (("self" : Str) :: fs) (spIni K (He.ga K x) fs) ∧ L2.Binds K fd (("self" : Str) :: fs) [] ∧ KBn K fd (("self" : Str) :: fs) 1 ks (fun us ws => g us ws) (fun vs zs => g vs zs)) : EC P w K mg base x fs ks g := by
  obtain ⟨e1, e⟩ := and2 e
  obtain ⟨e2, e⟩ := and2 e
  obtain ⟨e3, e⟩ := and2 e
  obtain ⟨e4, e⟩ := and2 e
  obtain ⟨e5, e6⟩ := and2 e
  exact ⟨hg, oexB_ok e1, fun f hf => of_decide_eq_true (List.all_eq_true.mp e2 f hf), of_decide_eq_true e3, of_decide_eq_true e4, excB_ok e5, xfB_ok e6, fn⟩
theorem facts {P : Program} {w : World} {K : PySem.W.Frag} {h : Heap} {mg : Str → Option Value} {fa : Addr} (X : K.In h) (G : h.Ns mainGlobals mg) (hfa : mg "law" = some (.ref fa)) (c : He.SaysD [] fn K) (e : ex K = true) :
    ∃ fd : FuncData, (∀ (s : Shared) (v : Value), BindsTo s fd ⟨[v], []⟩ [("script", v)]) ∧ ∀ base : Heap, K.In base → base.Ns mainGlobals mg → FnOk P w K mg base CX0 10 fa fd ["script"] (spLaw K) := by
  obtain ⟨x1, e⟩ := and2 e
  obtain ⟨x2, e⟩ := and2 e
  obtain ⟨y, e⟩ := and2 e
  obtain ⟨x4, e⟩ := and2 e
  obtain ⟨x5, e⟩ := and2 e
  obtain ⟨x6, x7⟩ := and2 e
  obtain ⟨y0, y⟩ := and2 y
  obtain ⟨y1, y⟩ := and2 y
  obtain ⟨y2, y⟩ := and2 y
  obtain ⟨y3, y⟩ := and2 y
  obtain ⟨y4, y⟩ := and2 y
  obtain ⟨y5, y⟩ := and2 y
  obtain ⟨y6, y⟩ := and2 y
  obtain ⟨y7, y⟩ := and2 y
  obtain ⟨y8, y⟩ := and2 y
  obtain ⟨y9, y⟩ := and2 y
  obtain ⟨y10, y⟩ := and2 y
  have y11 := y
  have fr : ∀ {x : Str}, x ∈ frees → mg x = none := fun hx => freeB_ok X G x1 hx
  have gl : ∀ {x : Str}, x ∈ globs → mg x = some (.ref (He.ga K x)) := fun hx => globB_ok X G x2 hx
  have B : Blt4 mg := { isi := fr (by decide +kernel), int := fr (by decide +kernel), bool := fr (by decide +kernel), len := fr (by decide +kernel), abs := fr (by decide +kernel), range := fr (by decide +kernel), tuple := fr (by decide +kernel), lst := fr (by decide +kernel), str := fr (by decide +kernel) }
  have b0 : ∀ {o : Option Bool} {b : Bool}, isB0 o b = true → o = some b := fun h => of_decide_eq_true h
  obtain ⟨fd0, F0⟩ := getM c 0 (cl := "InvalidNumber") (m := "__init__") (q := "InvalidNumber.__init__") (ds := []) (j := 2) (k := 0) rfl
  obtain ⟨fd1, F1⟩ := getM c 1 (cl := "InvalidShare") (m := "__init__") (q := "InvalidShare.__init__") (ds := []) (j := 3) (k := 0) rfl
  obtain ⟨fd2, F2⟩ := getM c 2 (cl := "InvalidMatrix") (m := "__init__") (q := "InvalidMatrix.__init__") (ds := []) (j := 4) (k := 0) rfl
  obtain ⟨fd3, F3⟩ := getM c 3 (cl := "InvalidLibrary") (m := "__init__") (q := "InvalidLibrary.__init__") (ds := []) (j := 5) (k := 0) rfl
  obtain ⟨fd4, F4⟩ := getM c 4 (cl := "InvalidPlan") (m := "__init__") (q := "InvalidPlan.__init__") (ds := []) (j := 6) (k := 0) rfl
  obtain ⟨fd5, F5⟩ := getM c 5 (cl := "InvalidTape") (m := "__init__") (q := "InvalidTape.__init__") (ds := []) (j := 7) (k := 0) rfl
  obtain ⟨fd6, F6⟩ := getM c 6 (cl := "InvalidAnswers") (m := "__init__") (q := "InvalidAnswers.__init__") (ds := []) (j := 8) (k := 0) rfl
  obtain ⟨fd7, F7⟩ := getM c 7 (cl := "InvalidText") (m := "__init__") (q := "InvalidText.__init__") (ds := []) (j := 9) (k := 0) rfl
  obtain ⟨fd8, F8⟩ := getM c 8 (cl := "InvalidLine") (m := "__init__") (q := "InvalidLine.__init__") (ds := []) (j := 10) (k := 0) rfl
  obtain ⟨fd9, F9⟩ := getM c 9 (cl := "UnknownWord") (m := "__init__") (q := "UnknownWord.__init__") (ds := []) (j := 11) (k := 0) rfl
  obtain ⟨fd10, F10⟩ := getM c 10 (cl := "Undefined") (m := "__init__") (q := "Undefined.__init__") (ds := []) (j := 12) (k := 0) rfl
  obtain ⟨fd11, F11⟩ := getM c 11 (cl := "NothingToUndo") (m := "__init__") (q := "NothingToUndo.__init__") (ds := []) (j := 13) (k := 0) rfl
  obtain ⟨fd12, F12⟩ := getG c 12 (x := "_law_draws") (j := 15) rfl
  obtain ⟨fd13, F13⟩ := getG c 13 (x := "_law_take") (j := 16) rfl
  obtain ⟨fd14, F14⟩ := getG c 14 (x := "_law_odd") (j := 17) rfl
  obtain ⟨fd15, F15⟩ := getG c 15 (x := "_law_kinds") (j := 18) rfl
  obtain ⟨fd16, F16⟩ := getG c 16 (x := "_law_made") (j := 19) rfl
  obtain ⟨fd17, F17⟩ := getG c 17 (x := "_law_named") (j := 20) rfl
  obtain ⟨fd18, F18⟩ := getG c 18 (x := "_law_kept") (j := 21) rfl
  obtain ⟨fd19, F19⟩ := getG c 19 (x := "_law_like") (j := 22) rfl
  obtain ⟨fd20, F20⟩ := getG c 20 (x := "_law_raise") (j := 23) rfl
  obtain ⟨fd21, F21⟩ := getG c 21 (x := "_law_raised") (j := 24) rfl
  obtain ⟨fd22, F22⟩ := getG c 22 (x := "_law_right") (j := 25) rfl
  obtain ⟨fd23, F23⟩ := getG c 23 (x := "law") (j := 26) rfl
  have efa := hfa.symm.trans (gl (x := "law") (by decide +kernel))
  cases efa
  have bl := FunD.bindsA (ps := ["script"]) F23 fun _ _ _ _ _ _ us hl => match us, hl with | [_], _ => rfl
  refine ⟨fd23, fun s v => bl s [v] rfl, fun base _ _ => ?_⟩
  have ec1 : ∀ {i : Nat} {x f : Str} {q : Str} {st : Stmt} {fd : FuncData}, True := fun {_ _ _ _ _ _} => trivial
  have T0 : EC P w K mg base "InvalidNumber" ["value"] ["value"] (fun us ws => us ++ ws) := ec_of (gl (by decide +kernel)) y0 ⟨fd0, ok_ini1 F0 scC0 bodyC0, FunD.bindsN F0 fun _ _ _ _ _ _ us hl => match us, hl with | [_, _], _ => rfl, binds_kw F0 1 ["value"] (fun us ws => us ++ ws) (fun a b => a.append b) fun _ _ _ _ _ _ us ws hu hw => match us, ws, hu, hw with | [_], [_], _, _ => rfl⟩
  have T1 : EC P w K mg base "InvalidShare" ["value"] ["value"] (fun us ws => us ++ ws) := ec_of (gl (by decide +kernel)) y1 ⟨fd1, ok_ini1 F1 scC1 bodyC1, FunD.bindsN F1 fun _ _ _ _ _ _ us hl => match us, hl with | [_, _], _ => rfl, binds_kw F1 1 ["value"] (fun us ws => us ++ ws) (fun a b => a.append b) fun _ _ _ _ _ _ us ws hu hw => match us, ws, hu, hw with | [_], [_], _, _ => rfl⟩
  have T2 : EC P w K mg base "InvalidMatrix" ["value"] ["value"] (fun us ws => us ++ ws) := ec_of (gl (by decide +kernel)) y2 ⟨fd2, ok_ini1 F2 scC2 bodyC2, FunD.bindsN F2 fun _ _ _ _ _ _ us hl => match us, hl with | [_, _], _ => rfl, binds_kw F2 1 ["value"] (fun us ws => us ++ ws) (fun a b => a.append b) fun _ _ _ _ _ _ us ws hu hw => match us, ws, hu, hw with | [_], [_], _, _ => rfl⟩
  have T3 : EC P w K mg base "InvalidLibrary" ["value"] ["value"] (fun us ws => us ++ ws) := ec_of (gl (by decide +kernel)) y3 ⟨fd3, ok_ini1 F3 scC3 bodyC3, FunD.bindsN F3 fun _ _ _ _ _ _ us hl => match us, hl with | [_, _], _ => rfl, binds_kw F3 1 ["value"] (fun us ws => us ++ ws) (fun a b => a.append b) fun _ _ _ _ _ _ us ws hu hw => match us, ws, hu, hw with | [_], [_], _, _ => rfl⟩
  have T4 : EC P w K mg base "InvalidPlan" ["part", "place"] ["place", "part"] (fun us ws => us ++ ws.reverse) := ec_of (gl (by decide +kernel)) y4 ⟨fd4, ok_ini2 F4 scC4 bodyC4, FunD.bindsN F4 fun _ _ _ _ _ _ us hl => match us, hl with | [_, _, _], _ => rfl, binds_kw F4 1 ["place", "part"] (fun us ws => us ++ ws.reverse) (fun a b => a.append (vals_rev b)) fun _ _ _ _ _ _ us ws hu hw => match us, ws, hu, hw with | [_], [_, _], _, _ => rfl⟩
  have T5 : EC P w K mg base "InvalidTape" ["value"] ["value"] (fun us ws => us ++ ws) := ec_of (gl (by decide +kernel)) y5 ⟨fd5, ok_ini1 F5 scC5 bodyC5, FunD.bindsN F5 fun _ _ _ _ _ _ us hl => match us, hl with | [_, _], _ => rfl, binds_kw F5 1 ["value"] (fun us ws => us ++ ws) (fun a b => a.append b) fun _ _ _ _ _ _ us ws hu hw => match us, ws, hu, hw with | [_], [_], _, _ => rfl⟩
  have T6 : EC P w K mg base "InvalidAnswers" ["value"] ["value"] (fun us ws => us ++ ws) := ec_of (gl (by decide +kernel)) y6 ⟨fd6, ok_ini1 F6 scC6 bodyC6, FunD.bindsN F6 fun _ _ _ _ _ _ us hl => match us, hl with | [_, _], _ => rfl, binds_kw F6 1 ["value"] (fun us ws => us ++ ws) (fun a b => a.append b) fun _ _ _ _ _ _ us ws hu hw => match us, ws, hu, hw with | [_], [_], _, _ => rfl⟩
  have T7 : EC P w K mg base "InvalidText" ["text", "at"] ["at", "text"] (fun us ws => us ++ ws.reverse) := ec_of (gl (by decide +kernel)) y7 ⟨fd7, ok_ini2 F7 scC7 bodyC7, FunD.bindsN F7 fun _ _ _ _ _ _ us hl => match us, hl with | [_, _, _], _ => rfl, binds_kw F7 1 ["at", "text"] (fun us ws => us ++ ws.reverse) (fun a b => a.append (vals_rev b)) fun _ _ _ _ _ _ us ws hu hw => match us, ws, hu, hw with | [_], [_, _], _, _ => rfl⟩
  have T8 : EC P w K mg base "InvalidLine" ["line", "at"] ["at", "line"] (fun us ws => us ++ ws.reverse) := ec_of (gl (by decide +kernel)) y8 ⟨fd8, ok_ini2 F8 scC8 bodyC8, FunD.bindsN F8 fun _ _ _ _ _ _ us hl => match us, hl with | [_, _, _], _ => rfl, binds_kw F8 1 ["at", "line"] (fun us ws => us ++ ws.reverse) (fun a b => a.append (vals_rev b)) fun _ _ _ _ _ _ us ws hu hw => match us, ws, hu, hw with | [_], [_, _], _, _ => rfl⟩
  have T9 : EC P w K mg base "UnknownWord" ["word"] ["word"] (fun us ws => us ++ ws) := ec_of (gl (by decide +kernel)) y9 ⟨fd9, ok_ini1 F9 scC9 bodyC9, FunD.bindsN F9 fun _ _ _ _ _ _ us hl => match us, hl with | [_, _], _ => rfl, binds_kw F9 1 ["word"] (fun us ws => us ++ ws) (fun a b => a.append b) fun _ _ _ _ _ _ us ws hu hw => match us, ws, hu, hw with | [_], [_], _, _ => rfl⟩
  have T10 : EC P w K mg base "Undefined" ["what"] ["what"] (fun us ws => us ++ ws) := ec_of (gl (by decide +kernel)) y10 ⟨fd10, ok_ini1 F10 scC10 bodyC10, FunD.bindsN F10 fun _ _ _ _ _ _ us hl => match us, hl with | [_, _], _ => rfl, binds_kw F10 1 ["what"] (fun us ws => us ++ ws) (fun a b => a.append b) fun _ _ _ _ _ _ us ws hu hw => match us, ws, hu, hw with | [_], [_], _, _ => rfl⟩
  have T11 : EC P w K mg base "NothingToUndo" ["word"] ["word"] (fun us ws => us ++ ws) := ec_of (gl (by decide +kernel)) y11 ⟨fd11, ok_ini1 F11 scC11 bodyC11, FunD.bindsN F11 fun _ _ _ _ _ _ us hl => match us, hl with | [_, _], _ => rfl, binds_kw F11 1 ["word"] (fun us ws => us ++ ws) (fun a b => a.append b) fun _ _ _ _ _ _ us ws hu hw => match us, ws, hu, hw with | [_], [_], _, _ => rfl⟩
  have T : ES P w K mg base := { e0 := T0, e1 := T1, e2 := T2, e3 := T3, e4 := T4, e5 := T5, e6 := T6, e7 := T7, e8 := T8, e9 := T9, e10 := T10, e11 := T11, kk := fun i j hi hj => b0 (upto_ok (upto_ok x4 hi) hj), kW := fun i hi => b0 (upto_ok x5 hi), kV := fun i hi => b0 (upto_ok x6 hi), ex := fun i hi => b0 (upto_ok x7 hi), gW := gl (by decide +kernel), vE := fr (by decide +kernel) }
  have CD : Cal P w K mg base 1 "_law_draws" _ fd12 ["script", "many"] (spDraws K 120) := cal_mk F12 (gl (by decide +kernel)) (ok_draws F12 B.toBlt2 (by decide) (by decide)) fun _ _ _ _ _ _ us hl => match us, hl with | [_, _], _ => rfl
  have CT : Cal P w K mg base 1 "_law_take" _ fd13 ["hand", "many"] spTake := cal_mk F13 (gl (by decide +kernel)) (ok_take F13 B.toBlt2) fun _ _ _ _ _ _ us hl => match us, hl with | [_, _], _ => rfl
  have bO : L2.Binds K fd14 ["hand", "depth"] [] := FunD.bindsN F14 fun _ _ _ _ _ _ us hl => match us, hl with | [_, _], _ => rfl
  have co : ∀ n, FnOk P w K mg base (L2.CX P w) (1 + n) (He.ga K "_law_odd") fd14 ["hand", "depth"] (spOdd n) := by
    intro n
    induction n with
    | zero => exact ⟨fun vs H Q E h => by obtain ⟨a, d, m, rfl, m0, m1, _⟩ := h; rfl, fun A outer s H args us vs Q E hr he hb hv hs => by obtain ⟨a, d, m, rfl, m0, m1, _⟩ := hs; exact absurd m1 (by omega)⟩
    | succ n ih => exact ok_odd F14 B.toBlt2 CT n ⟨gl (by decide +kernel), F14.kp, bO, ih⟩
  have CO : Cal P w K mg base 5 "_law_odd" _ fd14 ["hand", "depth"] (spOdd 4) := ⟨gl (by decide +kernel), F14.kp, bO, co 4⟩
  have CK : Cal P w K mg base 1 "_law_kinds" _ fd15 ["e"] (spKd K) := cal_mk F15 (gl (by decide +kernel)) (ok_Kd F15 B T) fun _ _ _ _ _ _ us hl => match us, hl with | [_], _ => rfl
  have CKP : CalP P w K mg base 1 "_law_kinds" _ fd15 ["e"] (spKdP K) := ⟨gl (by decide +kernel), F15.kp, CK.binds, ok_KdP F15 B T⟩
  have CM : Cal P w K mg base 3 "_law_made" _ fd16 ["one", "text", "number"] (spMd K) := cal_mk F16 (gl (by decide +kernel)) (ok_Md F16 T) fun _ _ _ _ _ _ us hl => match us, hl with | [_, _, _], _ => rfl
  have CN : Cal P w K mg base 3 "_law_named" _ fd17 ["one", "text", "number"] (spMd K) := cal_mk F17 (gl (by decide +kernel)) (ok_Nd F17 T) fun _ _ _ _ _ _ us hl => match us, hl with | [_, _, _], _ => rfl
  have CKp : Cal P w K mg base 1 "_law_kept" _ fd18 ["errors"] (spKp K) := cal_mk F18 (gl (by decide +kernel)) (ok_Kp F18 T) fun _ _ _ _ _ _ us hl => match us, hl with | [_], _ => rfl
  have bL : L2.Binds K fd19 ["found", "due"] [] := FunD.bindsN F19 fun _ _ _ _ _ _ us hl => match us, hl with | [_, _], _ => rfl
  have CL : Cal P w K mg base 8 "_law_like" _ fd19 ["found", "due"] (spLk (Lk 7)) := ⟨gl (by decide +kernel), F19.kp, bL, ok_Lk F19 B (gl (by decide +kernel)) bL 7⟩
  have CRs : CalN P w K mg base 3 "_law_raise" _ fd20 ["k", "one", "text", "number"] (spRs K) := ⟨gl (by decide +kernel), F20.kp, FunD.bindsN F20 fun _ _ _ _ _ _ us hl => match us, hl with | [_, _, _, _], _ => rfl, ok_Rs F20 T⟩
  have CRd : Cal P w K mg base 4 "_law_raised" _ fd21 ["k", "one", "text", "number"] spRd := cal_mk F21 (gl (by decide +kernel)) (ok_Rd F21 T CRs CKP) fun _ _ _ _ _ _ us hl => match us, hl with | [_, _, _, _], _ => rfl
  have CRt : Cal P w K mg base 9 "_law_right" _ fd22 ["errors", "one", "text", "number"] (spRt K) := cal_mk F22 (gl (by decide +kernel)) (ok_Rt F22 B T CK CRd CKp CL) fun _ _ _ _ _ _ us hl => match us, hl with | [_, _, _, _], _ => rfl
  exact ok_Law F23 B CD CT CO CM CN CRt
end WU

namespace WU
open PySem PySem.Spec PyProof.Rows L2
theorem walk {l : PySem.W.OpenLaw} {q : Program} {loose : List Str} {XP : (Str → Option Value) → Heap → Prop} {YP : World → Heap → Prop} {d : DefRec} {K : Params → PySem.W.Frag} (hn : l.most = some 63) (hdf : d.params.defaults = []) (hname : d.name = ("law" : Str))
    (hY : ∀ (w : World) (h : Heap), YP w h → (K w.params).In h) (hD : ∀ w : World, He.SaysD [] fn (K w.params)) (hE : ∀ w : World, ex (K w.params) = true) :
    PySem.W.WalkO q loose XP YP l.row.toRowW d [] (fun f vs => PySem.call f vs) :=
  L2.walk_of (n := 63) (k := 10) (x := "script") (CX := fun _ => CX0) (sp := fun w => spLaw (K w.params)) hn (by decide) hdf ⟨rfl, by decide, by decide⟩ hY
    (fun w mg fa h KX G hmg => facts KX G (by rw [← hname]; exact hmg) (hD w) (hE w)) (fun _ _ a ns hl _ hS => ⟨a, ns, rfl, hS, hl, fun _ => rfl⟩) fun _ _ _ _ _ z => z
end WU
open PySem PySem.W PyProof.Rows
set_option maxRecDepth 100000 in
set_option maxHeartbeats 0 in
theorem PySem.Challenge.cw_wishunseen_k01_errors_holds : PySem.Challenge.rw_wishunseen_k01_errors.Holds := by
  w_on; o_law; k_head; (case hw => w_witness2)
  k_fill
  refine WU.walk (l := PySem.Challenge.rw_wishunseen_k01_errors) rfl rfl (by rfl) (fun w h Y => PySem.W.kIn_of Y) ?D ?E
  case D =>
    intro w
    show He.obsD [] WU.fn _ = He.valD WU.fn
    kernel_rfl
  case E =>
    intro w
    kernel_rfl

