import PyProof.Rows.All
import Wide.All
import OpenK.AllK
import Wide.FinOn
import HandS.Base
import HandS.Call
import HandS.Exc
import HandS.List
import HandS.Comp
import HandS.Ends
import HandS.ExcOwn
import HandS.ExcInit
import HandS.OwnEq
import HandS.Words
import HandS.Defaults
import HandS.Head0
import HandS.Head1
import HandS.Head2
import HandS.HeadHook1
import HandS.HeadHook2
import HandS.IsInst
import HandS.ExcField
import HandS.Conv
import HandS.WordsExc
import HandS.Star
import HandS.TupAny
import HandS.ClsMeth
import HandS.CallSlots
import HandS.Iter
import HandS.Walk
import HandS.More
import HandS.MakeKw
import HandS.TupMul
import HandS.Style
import HandS.HeadEnd
import HandS.HeadNt
import PySem.Challenge.RW_wishunseen_k07_libraries
set_option Elab.async false
set_option linter.all false
set_option maxRecDepth 100000
set_option maxHeartbeats 4000000
/-! try with several clauses «except C as n», and with clauses without a name among them -/
namespace WU
open PySem PySem.Spec PyProof.Rows L2
/-- a clause: the class, its name's slot (if it has one), what the suite does -/
abbrev Cl := Value × Option Nat × (Addr → Value → Option Addr → TS)
/-- behind a named suite the slot is empty -/
def wiped (i : Nat) (D : Ends) : Ends := { nx := fun z h => D.nx (z.set i none) h, rt := D.rt, bk := fun z h => D.bk (z.set i none) h, ct := fun z h => D.ct (z.set i none) h }
def suiteOf (i : Option Nat) (ts : TS) (D : Ends) (σ : L2.St) (H : Hp) (a : Addr) : Prop :=
  match i with
  | some j => ts (wiped j D) (σ.set j (some (V.ref a))) H
  | none => ts D σ H
/-- what the clauses wish of an exception that leaves the body -/
def wCls (K : PySem.W.Frag) (Wout : WX) (D : Ends) : List Cl → WX
  | [] => Wout
  | q :: r => fun cls d σ H => ∃ b, PySem.W.exmOne K cls q.1 = some b ∧ (b = true → ∀ a, H a = none → suiteOf q.2.1 (q.2.2 a cls d) D σ H a) ∧ (b = false → wCls K Wout D r cls d σ H)
inductive Clauses (X : Cx) : List ExceptHandler → List Cl → Prop
  | nil : Clauses X [] []
  | named {x n : Str} {i : Nat} {c : Value} {ts : Addr → Value → Option Addr → TS} {b : Stmt} {su : List Stmt} {p q : Pos} {hs : List ExceptHandler} {l : List Cl}
      (hi : X.N[i]? = some n) (hl : X.env.kindOf n = some .local) (hc : Names X x c)
      (hsu : ∀ (a : Addr) (oe : Obj) (cls : Value) (d : Option Addr) (pn : List (Addr × Obj)), Zc cls d oe → (∃ vs, oe.data = .fields vs) → PSs (X.suite a ((a, oe) :: pn)) (b :: su) (ts a cls d))
      (r : Clauses X hs l) : Clauses X (.ExceptHandler (some (.Name x p)) (some n) (b :: su) q :: hs) ((c, some i, ts) :: l)
section
variable {X : Cx} {body : List Stmt} {h₀ : ExceptHandler} {hds : List ExceptHandler} {l : List Cl} {pos : Pos} {tb : WX → TS} {Wout : WX}
theorem ps_try_cls (hst : X.stack = X.env :: X.outer) (hfr : X.env.frame = some X.env.locals) (hN : X.N.Nodup) (tk : Takes X Wout)
    (hb : ∀ (W : WX) (pn : List (Addr × Obj)) (xe : Value → Shared → Prop), Takes (X.tr pn xe) W →
      PassesOwn (model X.prog X.w) X.A X.env xe → PSs (X.tr pn xe) body (tb W))
    (hh : Clauses X (h₀ :: hds) l) : PS X (.Try body (h₀ :: hds) [] [] pos) (fun D σ H => tb (wCls X.K Wout D l) D σ H) := by
  constructor
  intro pins s σ H D I h
  have okX := I.ok
  have frA : X.A.frames = some (X.env :: X.outer) := okX.frames.trans (congrArg some hst)
  apply wpAny_Try_except
  let xe1 : Value → Shared → Prop := fun e s₁ => wpAny (model X.prog X.w) X.A (noteFrame e X.env) (fun _ s₂ =>
    wpAny (model X.prog X.w) X.A (setFlight e none) (fun _ s₃ => wpAny (model X.prog X.w) X.A (handleBy e X.env (h₀ :: hds))
      (SP X pins D) X.xe s₃) X.xe s₂) X.xe s₁
  have taken : Takes (X.tr (X.pn ++ pins) xe1) (wCls X.K Wout D l) := by
    rintro u st ⟨a, B, sI, pins', σ', H', cls, d, rfl, J', nb, up, sky, na, os, ag, wish⟩
    have J : Inv X pins σ' H' sI := J'.ofTry okX
    rw [show (X.tr (X.pn ++ pins) xe1).stack = X.env :: X.outer from hst] at sky
    show wpAny (model X.prog X.w) X.A (noteFrame (Value.ref a) X.env) _ _ _
    refine Sky.land Zc.steady frA hfr sky fun hA flA upA => ?_
    have JA : Inv X pins σ' H' { st with heap := hA } := J.landed nb flA.1 (up.trans upA) os ag
    obtain ⟨oA, vA, eA, zA, dA⟩ := flA.there
    have offF : a ∉ frs (X.env :: X.outer) := fun hm => by
      obtain ⟨_, o', e', hn⟩ := flA.2.2.1.mem hm
      cases eA.symm.trans e'
      exact hn _ dA
    have offL : a ≠ X.env.locals := by
      rintro rfl
      exact offF (List.mem_filterMap.mpr ⟨X.env, .head _, hfr⟩)
    have offO : a ∉ X.fs := fun hm => by
      obtain ⟨en, hen, q⟩ := List.mem_filterMap.mp hm
      exact offF (List.mem_filterMap.mpr ⟨en, .tail _ hen, q⟩)
    have SA := JA.suite eA dA na offL offO
    have isT : PySem.W.Looks (model X.prog X.w) hA (typeOf (.ref a)) cls := by
      intro A Q E s2 kk q
      refine wpAny_typeOf_ref (kk _ _ eA) ?_
      rw [zA.1]
      exact q
    have onward : ∀ {hs : List ExceptHandler} {l' : List Cl}, Clauses X hs l' → wCls X.K Wout D l' cls d σ' H' →
        wpAny (model X.prog X.w) X.A (handleBy (.ref a) X.env hs) (SP X pins D) X.xe { st with heap := hA } := by
      intro hs l' hk
      induction hk with
      | nil =>
        intro wout
        apply wpAny_handleBy_nil
        obtain ⟨_, _, _, oe, vs, T, oT, tt, he, hz, hd, h1, hr⟩ := id flA
        unfold PySem.passOn
        apply wpAny_bind
        refine wpAny_field he hd h1 ?_
        have nn : ¬ ((Value.ref T == Value.none) = true) := by simp
        rw [if_neg nn]
        have fin : wpAny (model X.prog X.w) X.A (setFlight (.ref a) X.env.frame) (fun _ s4 =>
            wpAny (model X.prog X.w) X.A (throw (.ref a) : Sem Flow) (SP X pins D) X.xe s4) X.xe { st with heap := hA } := by
          rw [hfr]
          refine HandSPX.setFlight_upZ flA fun hB hhB upB => ?_
          apply wpAny_throw
          apply tk
          refine ⟨a, B, sI, pins, σ', H', cls, d, rfl, J, nb, (up.trans upA).trans upB, ?_, na, os, ag, wout⟩
          right; right
          rw [hst]
          exact hhB
        first
          | exact wpAny_bind (wpAny_pure (wpAny_bind fin))
          | exact wpAny_bind fin
      | @named x n i c ts b su p q hs2 l2 hi hl hc hsu r ih =>
        rintro ⟨yes, hyn, onYes, onNo⟩
        refine wpAny_handleBy_cons (codeAny_handlers_test ?_) (by intro z; cases z)
        have hits := PySem.W.exm_one (M := model X.prog X.w) JA.kIn isT hyn
        have asked : ∀ {Q E : Value → Shared → Prop}, Q c { st with heap := hA } →
            wpAny (model X.prog X.w) (X.A.mark (some (.ref a))) (eval (.Name x p) X.env) Q E { st with heap := hA } := by
          intro Q E q
          obtain ⟨g1, g2, g3⟩ := hc
          rcases g3 with g3 | ⟨g3, g4, g5⟩
          · exact ld_glob (X := X.suite a ((a, oA) :: (X.pn ++ pins))) SA g1 g3 q g2
          · exact ld_blt (X := X.suite a ((a, oA) :: (X.pn ++ pins))) SA g1 g3 g4 q g5 g2
        apply asked
        refine hits.here ?_
        cases yes with
        | false => exact ih (onNo rfl)
        | true =>
          apply codeAny_handlers_suite_as
          refine HandSPX.lands_againZ flA fun hB flB upB => ?_
          have JB : Inv X pins σ' H' { st with heap := hB } := J.landed nb flB.1 ((up.trans upA).trans upB) os ag
          obtain ⟨oB, vB, eB, zB, dB⟩ := flB.there
          have SB := JB.suite eB dB na offL offO
          refine store_ok (X := X.suite a ((a, oB) :: (X.pn ++ pins))) (v := .ref a) SB hN hi (Or.inl hl) rfl (fun s5 S5 => ?_) (Or.inr hl)
          have runs := (hsu a oB cls d (X.pn ++ pins) zB ⟨_, dB⟩).run [] s5 _ H' _ S5 (onYes rfl a na)
          refine wpAny_mono runs (fun f s6 hsp => ?_) fun _ _ z => z.elim
          have left_ : ∀ {σ6 : L2.St} {H6 : Hp} {Q : Shared → Prop}, Inv (X.suite a ((a, oB) :: (X.pn ++ pins))) [] σ6 H6 s6 →
              (∀ s7, Inv X pins (σ6.set i none) H6 s7 → Q s7) →
              wpAny (model X.prog X.w) X.A (do bindName X.env n .none; unbindBehindTheSuite X.env n q) (fun _ s7 => Q s7) X.xe s6 :=
            fun S6 k => gone_ok (S6.unsuite okX) hN hi hl k
          match f, hsp with
          | .next, ⟨σ6, H6, S6, q6⟩ => exact left_ S6 fun s7 J7 => ⟨_, _, J7, q6⟩
          | .brk, ⟨σ6, H6, S6, q6⟩ => exact left_ S6 fun s7 J7 => ⟨_, _, J7, q6⟩
          | .cont, ⟨σ6, H6, S6, q6⟩ => exact left_ S6 fun s7 J7 => ⟨_, _, J7, q6⟩
          | .ret u, ⟨v6, σ6, H6, S6, r6, q6⟩ => exact left_ S6 fun s7 J7 => ⟨_, _, _, J7, r6, q6⟩
    exact onward hh wish
  have body_ := (hb _ (X.pn ++ pins) xe1 taken PassesOwn.looking).run [] s σ H D (I.toTry _) h
  refine wpAny_mono body_ (fun f s1 hsp => ?_) fun _ _ z => z
  match f, hsp with
  | .next, ⟨σ', H', J', q⟩ => exact wpAny_execs_nil ⟨σ', H', J'.ofTry okX, q⟩
  | .brk, ⟨σ', H', J', q⟩ => exact ⟨σ', H', J'.ofTry okX, q⟩
  | .cont, ⟨σ', H', J', q⟩ => exact ⟨σ', H', J'.ofTry okX, q⟩
  | .ret u, ⟨v, σ', H', J', r, q⟩ => exact ⟨v, σ', H', J'.ofTry okX, r, q⟩
end
end WU

set_option maxRecDepth 100000
set_option maxHeartbeats 4000000
namespace WU
open PySem PySem.Spec PyProof.Rows L2
/-! ### the head's facts -/
/-- the facts of the defs, and one more Bool -/
def hookB (n : Nat) (fn : List He.DefD) (ex : PySem.W.Frag → Bool) : PySem.W.Hook where
  α := He.AlD × Bool
  obs := fun s => (He.obsDG n [] fn s.heap.get?, ex (He.frG s.heap.get? (He.asD s.heap.get? n)))
  val := fun _ => (He.valD fn, true)
  says := fun _ h => ∃ K : PySem.W.Frag, K.In h ∧ He.SaysD [] fn K ∧ ex K = true
  of := fun _ _ e => ⟨_, He.frG_in, congrArg Prod.fst e, congrArg Prod.snd e⟩
  keeps := fun _ _ _ ⟨K, hK, c⟩ k => ⟨K, PySem.W.Frag.In.keeps hK k, c⟩
def obB (n : Nat) (fn : List He.DefD) (ex : PySem.W.Frag → Bool) (s : PySem.W.SharedT) : He.AlD × Bool :=
  (He.obsDG n [] fn (HandSHeadRun.getT s), ex (He.frG (HandSHeadRun.getT s) (He.asD (HandSHeadRun.getT s) n)))
theorem obB_eq {n : Nat} {fn : List He.DefD} {ex : PySem.W.Frag → Bool} (s : PySem.W.SharedT) : obB n fn ex s = (hookB n fn ex).obs s.abs := by
  have e : HandSHeadRun.getT s = s.abs.heap.get? := funext (HandSHeadRun.getT_eq s)
  unfold obB
  rw [e]
  rfl
theorem and2 {a b : Bool} (h : (a && b) = true) : a = true ∧ b = true := Bool.and_eq_true_iff.mp h
/-- names that the module leaves to the built-ins; names that stand for objects -/
def freeB (K : PySem.W.Frag) (xs : List Str) : Bool := xs.all fun x => decide (PySem.W.nsIn K mainGlobals x = some none)
def globB (K : PySem.W.Frag) (xs : List Str) : Bool := xs.all fun x => decide (PySem.W.nsIn K mainGlobals x = some (some (.ref (He.ga K x))))
section
variable {K : PySem.W.Frag} {h : Heap} {mg : Str → Option Value}
theorem freeB_ok (X : K.In h) (G : h.Ns mainGlobals mg) {xs : List Str} (c : freeB K xs = true) {x : Str} (hx : x ∈ xs) : mg x = none :=
  PySem.W.mg_none_of X G (of_decide_eq_true (List.all_eq_true.mp c x hx))
theorem globB_ok (X : K.In h) (G : h.Ns mainGlobals mg) {xs : List Str} (c : globB K xs = true) {x : Str} (hx : x ∈ xs) : mg x = some (.ref (He.ga K x)) :=
  PySem.W.mg_of X G (of_decide_eq_true (List.all_eq_true.mp c x hx))
end
/-! ### an own exception class over ValueError (or over own ones that are) -/
def oexShape (C : Addr) : Option Obj → Bool
  | some ⟨.type t, _, .cls ⟨_, _, .ref C' :: bm, _, _, true, _, _, _, _, false⟩, ⟨[_, _, _, _, some (.builtin id), _]⟩⟩ =>
    decide (t = "type") && (decide (C' = C) && (decide (id = "ValueError.__new__") && PySem.HandSPX.refsVE bm))
  | _ => false
def oexB (K : PySem.W.Frag) (C : Addr) : Bool :=
  oexShape C (K.lookup C) && (decide (PySem.W.findIn K (.ref C) "__setattr__" = some (some (.builtin "object.__setattr__"))) &&
    (decide (PySem.W.subIn K (.ref C) (.type "BaseException") = some true) && (decide (PySem.W.typeIn K (.ref C) = some (.type "type")) && PySem.W.keepIn K (.ref C))))
theorem oexB_ok {K : PySem.W.Frag} {C : Addr} (h : oexB K C = true) : OexC K C := by
  obtain ⟨h1, h⟩ := and2 h
  obtain ⟨h2, h⟩ := and2 h
  obtain ⟨h3, h⟩ := and2 h
  obtain ⟨h4, h5⟩ := and2 h
  refine ⟨?_, of_decide_eq_true h2, of_decide_eq_true h3, of_decide_eq_true h4, h5⟩
  unfold oexShape at h1
  split at h1
  · rename_i t dd nm bs C' bm N q sn sub ab col k0 k1 k2 k3 id k5 heq
    obtain ⟨e1, h1⟩ := and2 h1
    obtain ⟨e2, h1⟩ := and2 h1
    obtain ⟨e3, e4⟩ := and2 h1
    have q1 := of_decide_eq_true e1
    have q2 := of_decide_eq_true e2
    have q3 := of_decide_eq_true e3
    subst q1 q2 q3
    exact ⟨_, _, _, _, _, _, _, _, _, _, _, _, _, _, _, heq, e4⟩
  · cases h1
/-- what every body asks of an exception class X whose __init__ stands at fI and keeps one field f -/
structure Exc1 (K : PySem.W.Frag) (mg : Str → Option Value) (x : Str) (f : Str) : Prop where
  glob : mg x = some (.ref (He.ga K x))
  oex : OexC K (He.ga K x)
  no : PySem.W.findIn K (.ref (He.ga K x)) f = some none
  init : PySem.W.findIn K (.ref (He.ga K x)) "__init__" = some (some (.ref (He.ma K (He.ga K x) "__init__")))
  tI : PySem.W.typeIn K (.ref (He.ma K (He.ga K x) "__init__")) = some (.type "function")
def exc1B (K : PySem.W.Frag) (x f : Str) : Bool :=
  decide (PySem.W.nsIn K mainGlobals x = some (some (.ref (He.ga K x)))) && (oexB K (He.ga K x) && (decide (PySem.W.findIn K (.ref (He.ga K x)) f = some none) &&
    (decide (PySem.W.findIn K (.ref (He.ga K x)) "__init__" = some (some (.ref (He.ma K (He.ga K x) "__init__")))) && decide (PySem.W.typeIn K (.ref (He.ma K (He.ga K x) "__init__")) = some (.type "function")))))
theorem exc1B_ok {K : PySem.W.Frag} {h : Heap} {mg : Str → Option Value} (X : K.In h) (G : h.Ns mainGlobals mg) {x f : Str} (c : exc1B K x f = true) : Exc1 K mg x f := by
  obtain ⟨h1, c⟩ := and2 c
  obtain ⟨h2, c⟩ := and2 c
  obtain ⟨h3, c⟩ := and2 c
  obtain ⟨h4, h5⟩ := and2 c
  exact ⟨PySem.W.mg_of X G (of_decide_eq_true h1), oexB_ok h2, of_decide_eq_true h3, of_decide_eq_true h4, of_decide_eq_true h5⟩
/-- an if whose test is known by an equation -/
theorem iteTb {c : Bool} {A B : Prop} (hc : c = true) (h : A) : if c = true then A else B := by
  rw [if_pos hc]
  exact h
theorem iteFb {c : Bool} {A B : Prop} (hc : c = false) (h : B) : if c = true then A else B := by
  rw [if_neg (by rw [hc]; decide)]
  exact h
theorem iteD {c : Prop} [Decidable c] {A B : Prop} (h1 : c → A) (h2 : ¬ c → B) : if decide c = true then A else B := by
  by_cases h : c
  · rw [decide_eq_true h]
    exact iteT (h1 h)
  · rw [decide_eq_false h]
    exact iteF (h2 h)
theorem ixN_at {n q : Nat} (h : q < n) : ixN n (q : Int) = some q := by
  unfold ixN
  rw [if_pos (by omega), if_pos (by omega)]
  simp
/-! ### calls -/
/-- the name x stands for a def that keeps sp -/
structure Cal (P : Program) (w : World) (K : PySem.W.Frag) (mg : Str → Option Value) (base : Heap) (k : Nat) (x : Str) (f : Addr) (fd : FuncData) (ps : List Str) (sp : Sp) : Prop where
  glob : mg x = some (.ref f)
  kp : PySem.W.keepIn K (.ref f) = true
  binds : Binds K fd ps []
  ok : FnOk P w K mg base (L2.CX P w) k f fd ps sp
theorem passU {X : Cx} : Passes (L2.CX X.prog X.w) X E0 := fun _ _ _ _ _ _ _ ⟨_, _, _, _, _, _, _, _, _, _, _, _, z⟩ => z.elim
section
variable {X : Cx} {k : Nat} {x : Str} {f : Addr} {fd : FuncData} {ps : List Str} {sp : Sp} {E : XK} {e : Expr} {es : List Expr} {t : TA} {p pos : Pos}
theorem pe_cal (C : Cal X.prog X.w X.K X.mg X.base k x f fd ps sp) (hr : Room k X.A) (ha : PA X (e :: es) t) (hx : Passes (L2.CX X.prog X.w) X E) (hg : Gl X x := by rfl) (hdb : (x == ("__debug__" : Str)) = false := by decide)
    (he : starEach (e :: es) X.env = (false, eval e X.env) :: starEach es X.env := by rfl) (hpl : (backTo pos (starEach es X.env)).any (·.1) = false := by rfl) :
    PE X (.Call (.Name x p) (e :: es) [] pos) (tCall sp [] E t) := pe_call C.ok hr hg C.glob C.kp C.binds .nil hx ha hdb he hpl
theorem pe_calS {W : WX} (C : Cal X.prog X.w X.K X.mg X.base k x f fd ps sp) (hr : Room k X.A) (ha : PA X (e :: es) t) (tk : Takes X W) (hg : Gl X x := by rfl) (hdb : (x == ("__debug__" : Str)) = false := by decide)
    (he : starEach (e :: es) X.env = (false, eval e X.env) :: starEach es X.env := by rfl) (hpl : (backTo pos (starEach es X.env)).any (·.1) = false := by rfl) :
    PE X (.Call (.Name x p) (e :: es) [] pos) (tCallS sp (WE W) t) := pe_callS C.ok hr hg C.glob C.kp C.binds (fun σ => passAt tk σ) ha hdb he hpl
end
/-! ### raise X(e), X's __init__ keeping one field -/
/-- self.f = value -/
def spInit1 (K : PySem.W.Frag) (C : Addr) (f : Str) : Sp := fun vs H Q _ => ∃ (a : Addr) (y : V), vs = [.ref a, y] ∧ OexC K C ∧ PySem.W.findIn K (.ref C) f = some none ∧ H a = some (exo a C none) ∧
  ∀ dx, H dx = none → dx ≠ a → Q .non (upd (upd H dx (exd dx [(f, y)])) a (exo a C (some dx)))
/-- the reading: the error's class, its own dict, the heap behind -/
def tMk1 (C : Addr) (f : Str) (ta : TA) : L2.St → Hp → XK → Prop := fun σ H Q => ta σ H fun vs H1 => ∃ v, vs = [v] ∧ ∀ d H', Same H1 H' → H1 d = none → H' d = some (.xd [(f, v)]) → Q (.ref C) (some d) H'
/-- a reading that may be weakened -/
def lax (ta : TA) : TA := fun σ H Q => ∃ Q0 : List V → Hp → Prop, ta σ H Q0 ∧ ∀ vs H1, Q0 vs H1 → Q vs H1
theorem pa_lax {X : Cx} {es : List Expr} {ta : TA} (ha : PA X es ta) : PA X es (lax ta) :=
  ⟨fun pos pins s σ H Q I h => by
    obtain ⟨Q0, h0, hq⟩ := h
    refine wpAny_mono (ha.run pos pins s σ H Q0 I h0) (fun us s1 hu => ?_) fun _ _ z => z
    obtain ⟨vs, H1, I1, r, q⟩ := hu
    exact ⟨vs, H1, I1, r, hq vs H1 q⟩⟩
section
variable {X : Cx} {k : Nat} {x f : Str} {fd : FuncData} {q : Str} {e : Expr} {ta : TA} {p pos pos2 : Pos}
theorem pmk_1 (T : Exc1 X.K X.mg x f) (F : FnOk X.prog X.w X.K X.mg X.base (L2.CX X.prog X.w) k (He.ma X.K (He.ga X.K x) "__init__") fd ["self", q] (spInit1 X.K (He.ga X.K x) f)) (b : Binds X.K fd ["self", q] [])
    (hr : Room (k + 1) X.A) (ha : PA X [e] ta) (hg : Gl X x := by rfl) (hdb : (x == ("__debug__" : Str)) = false := by decide)
    (he : starEach (e :: []) X.env = (false, eval e X.env) :: starEach [] X.env := by rfl) (hpl : (backTo pos (starEach [] X.env)).any (·.1) = false := by rfl) :
    PMk X (.Call (.Name x p) [e] [] pos) (tMk1 (He.ga X.K x) f ta) := by
  intro pins s σ H Q I h
  refine pmk_oex (CX := L2.CX X.prog X.w) (dvs := []) T.oex T.init T.tI F hr b .nil passU hg T.glob (pa_lax ha) hdb he hpl pins s σ H Q I ⟨_, h, fun vs H1 hv => ?_⟩
  obtain ⟨v, rfl, kk⟩ := hv
  refine ⟨(show 1 ≤ 1000 by decide), fun a na => ⟨a, v, rfl, T.oex, T.no, upd_same, fun dx ndx hdx => ⟨rfl, dx, [(f, v)], upd_same, by rw [upd_ne hdx, upd_same], ?_, ?_⟩⟩⟩
  · rw [upd_ne hdx] at ndx
    exact ndx
  · rw [upd_ne hdx] at ndx
    refine kk dx _ (fun c o hc => ?_) ndx upd_same
    have c1 : c ≠ dx := ne_of_none hc ndx
    have c2 : c ≠ a := ne_of_none hc na
    rw [upd_ne c1, del_ne c2, upd_ne c2, upd_ne c1, upd_ne c2]
    exact hc
theorem ps_raise1 {W : WX} (hc : X.calm = true) (tk : Takes X W) (T : Exc1 X.K X.mg x f) (F : FnOk X.prog X.w X.K X.mg X.base (L2.CX X.prog X.w) k (He.ma X.K (He.ga X.K x) "__init__") fd ["self", q] (spInit1 X.K (He.ga X.K x) f)) (b : Binds X.K fd ["self", q] [])
    (hr : Room (k + 1) X.A) (ha : PA X [e] ta) (hg : Gl X x := by rfl) (hdb : (x == ("__debug__" : Str)) = false := by decide)
    (he : starEach (e :: []) X.env = (false, eval e X.env) :: starEach [] X.env := by rfl) (hpl : (backTo pos (starEach [] X.env)).any (·.1) = false := by rfl) :
    PS X (.Raise (some (.Call (.Name x p) [e] [] pos)) none pos2) (fun _ σ H => tMk1 (He.ga X.K x) f ta σ H fun cls d H' => W cls d σ H') :=
  ps_raise hc tk (pmk_1 T F b hr ha hg hdb he hpl)
end
end WU

set_option maxRecDepth 100000
set_option maxHeartbeats 4000000
namespace WU
open PySem PySem.Spec PyProof.Rows L2
def top (i : Nat) : Stmt := PySem.Challenge.pw_wishunseen_k07_libraries.main.body.getD i (.Pass ⟨0, 0, 0, 0⟩)
abbrev FnS (K : PySem.W.Frag) (x : Str) (st : Stmt) (f : Addr) (fd : FuncData) : Prop := FunD K x x (defArgs st) (defBody st) (defScope st) [] [] f fd
/-! ### any values -/
def isIB : V → Bool
  | .int _ => true
  | .bl _ => true
  | _ => false
def isB : V → Bool
  | .bl _ => true
  | _ => false
def isI : V → Bool
  | .int _ => true
  | _ => false
/-- the value has a type, of which int and bool are known -/
def Ty3 (K : PySem.W.Frag) (H : Hp) (v : V) : Prop := ∃ t, TyX K H v t ∧ PySem.W.kitOne K t (.type "int") = some (isIB v) ∧ PySem.W.kitOne K t (.type "bool") = some (isB v)
section
variable {K : PySem.W.Frag} {H : Hp}
theorem ty3_int (i : Int) : Ty3 K H (.int i) := ⟨_, .base (.int i), kit_ty (show kitB "int" "int" = some true by decide +kernel), kit_ty (show kitB "int" "bool" = some false by decide +kernel)⟩
theorem ty3_bl (b : Bool) : Ty3 K H (.bl b) := ⟨_, .base (.bl b), kit_ty (show kitB "bool" "int" = some true by decide +kernel), kit_ty (show kitB "bool" "bool" = some true by decide +kernel)⟩
theorem ty3_non : Ty3 K H .non := ⟨_, .base .non, kit_ty (show kitB "NoneType" "int" = some false by decide +kernel), kit_ty (show kitB "NoneType" "bool" = some false by decide +kernel)⟩
theorem ty3_str (z : Str) : Ty3 K H (.str z) := ⟨_, .base (.str z), kit_ty (show kitB "str" "int" = some false by decide +kernel), kit_ty (show kitB "str" "bool" = some false by decide +kernel)⟩
theorem ty3_lst {a : Addr} {xs : List V} (e : H a = some (.lst xs)) : Ty3 K H (.ref a) := ⟨_, .base (.lst e), kit_ty (show kitB "list" "int" = some false by decide +kernel), kit_ty (show kitB "list" "bool" = some false by decide +kernel)⟩
theorem ty3_tup {a : Addr} {xs : List V} (e : H a = some (.tup xs)) : Ty3 K H (.ref a) := ⟨_, .base (.tup e), kit_ty (show kitB "tuple" "int" = some false by decide +kernel), kit_ty (show kitB "tuple" "bool" = some false by decide +kernel)⟩
end
section
variable {P : Program} {w : World} {K : PySem.W.Frag} {mg : Str → Option Value} {base : Heap}
structure Blt (mg : Str → Option Value) : Prop where
  isi : mg "isinstance" = none
  int : mg "int" = none
  bool : mg "bool" = none
def spIsInt (K : PySem.W.Frag) : Sp := fun vs H Q _ => ∃ v, vs = [v] ∧ Ty3 K H v ∧ Q (.bl (isI v)) H
abbrev sIsInt : Stmt := top 5
theorem scIsInt : FnScope ["value"] ["value"] (defScope sIsInt) := ⟨rfl, rfl, rfl, by decide +kernel, rfl, by decide +kernel, by decide +kernel⟩
theorem ok_isInt {f : Addr} {fd : FuncData} (F : FnS K "is_integer" sIsInt f fd) (B : Blt mg) : FnOk P w K mg base (L2.CX P w) 1 f fd ["value"] (spIsInt K) := by
  refine F.ok scIsInt (fun vs H Q E h => ?_) (fun cdv A outer s H vs Q E hr h => ?_)
  · obtain ⟨v, rfl, _⟩ := h
    rfl
  · obtain ⟨v, rfl, ⟨t, ht, h1, h2⟩, k⟩ := h
    refine ⟨_, pss_one (ps_ret (pe_and (pe_callB call_isi (by rfl) B.isi (by decide +kernel) (pa_cons (pv 0) (pa_cons (pe_bltn (v := .ty "int") (by rfl) B.int (by decide +kernel) rfl) pa_nil)))
      (pe_one (pe_not (pe_callB call_isi (by rfl) B.isi (by decide +kernel) (pa_cons (pv 0) (pa_cons (pe_bltn (v := .ty "bool") (by rfl) B.bool (by decide +kernel) rfl) pa_nil))))))), ?_⟩
    refine ⟨_, rfl, _, _, _, _, _, rfl, .ty "int", ht, h1, _, rfl, ?_⟩
    cases v with
    | int n =>
      refine iteT ⟨_, rfl, _, _, _, _, _, rfl, .ty "bool", ht, h2, _, rfl, k⟩
    | bl b => exact iteT ⟨_, rfl, _, _, _, _, _, rfl, .ty "bool", ht, h2, _, rfl, k⟩
    | _ => exact iteF k
theorem bN {x : Str} {st : Stmt} {f : Addr} {fd : FuncData} {ps : List Str} (F : FnS K x st f fd)
    (h : ∀ (kV doc pm : Value) (an : Option Addr) (cdv ct : Value) (us : List Value), us.length = ps.length → bindArgs (PySem.W.fnOf x x (defArgs st) (defBody st) (defScope st) .none kV doc pm an cdv ct) ⟨us, []⟩ = pure (ps.zip us)) : Binds K fd ps [] := F.bindsN h
theorem cal_mk {x : Str} {st : Stmt} {f : Addr} {fd : FuncData} {ps : List Str} {k : Nat} {sp : Sp} (F : FnS K x st f fd) (g : mg x = some (.ref f)) (ok : FnOk P w K mg base (L2.CX P w) k f fd ps sp)
    (h : ∀ (kV doc pm : Value) (an : Option Addr) (cdv ct : Value) (us : List Value), us.length = ps.length → bindArgs (PySem.W.fnOf x x (defArgs st) (defBody st) (defScope st) .none kV doc pm an cdv ct) ⟨us, []⟩ = pure (ps.zip us)) : Cal P w K mg base k x f fd ps sp :=
  ⟨g, F.kp, F.bindsN h, ok⟩
/-- whether it is a number; .. below n -/
def isN : V → Bool
  | .int i => decide (0 ≤ i)
  | _ => false
def isBel (n : Int) : V → Bool
  | .int i => decide (0 ≤ i) && decide (i < n)
  | _ => false
def spIsNum (K : PySem.W.Frag) : Sp := fun vs H Q _ => ∃ v, vs = [v] ∧ Ty3 K H v ∧ Q (.bl (isN v)) H
def spIsBel (K : PySem.W.Frag) : Sp := fun vs H Q _ => ∃ v n, vs = [v, .int n] ∧ Ty3 K H v ∧ Q (.bl (isBel n v)) H
abbrev sIsNum : Stmt := top 6
abbrev sIsBel : Stmt := top 7
theorem scIsNum : FnScope ["value"] ["value"] (defScope sIsNum) := ⟨rfl, rfl, rfl, by decide +kernel, rfl, by decide +kernel, by decide +kernel⟩
theorem ok_isNum {f f1 : Addr} {fd fd1 : FuncData} (F : FnS K "is_number" sIsNum f fd) (C1 : Cal P w K mg base 1 "is_integer" f1 fd1 ["value"] (spIsInt K)) : FnOk P w K mg base (L2.CX P w) 2 f fd ["value"] (spIsNum K) := by
  refine F.ok scIsNum (fun vs H Q E h => ?_) (fun cdv A outer s H vs Q E hr h => ?_)
  · obtain ⟨v, rfl, _⟩ := h
    rfl
  · obtain ⟨v, rfl, ht, k⟩ := h
    refine ⟨_, pss_one (ps_ret (pe_and (pe_cal C1 hr (pa_cons (pv 0) pa_nil) passU) (pe_one (pe_cmp (pc_ge (pv 0) pe_int))))), ?_⟩
    refine ⟨_, rfl, v, rfl, ht, _, rfl, ?_⟩
    cases v with
    | int n => exact iteT ⟨_, rfl, _, _, rfl, rfl, k⟩
    | _ => exact iteF k
theorem scIsBel : FnScope ["value", "limit"] ["value", "limit"] (defScope sIsBel) := ⟨rfl, rfl, rfl, by decide +kernel, rfl, by decide +kernel, by decide +kernel⟩
theorem ok_isBel {f f1 : Addr} {fd fd1 : FuncData} (F : FnS K "is_below" sIsBel f fd) (C1 : Cal P w K mg base 2 "is_number" f1 fd1 ["value"] (spIsNum K)) : FnOk P w K mg base (L2.CX P w) 3 f fd ["value", "limit"] (spIsBel K) := by
  refine F.ok scIsBel (fun vs H Q E h => ?_) (fun cdv A outer s H vs Q E hr h => ?_)
  · obtain ⟨v, n, rfl, _⟩ := h
    rfl
  · obtain ⟨v, n, rfl, ht, k⟩ := h
    refine ⟨_, pss_one (ps_ret (pe_and (pe_cal C1 hr (pa_cons (pv 0) pa_nil) passU) (pe_one (pe_cmp (pc_lt (pv 0) (pv 1)))))), ?_⟩
    refine ⟨_, rfl, v, rfl, ht, _, rfl, ?_⟩
    cases v with
    | int i =>
      have k' : Q (.bl (decide (0 ≤ i) && decide (i < n))) H := k
      show if decide (0 ≤ i) = true then _ else _
      by_cases h0 : 0 ≤ i
      · rw [decide_eq_true h0] at k' ⊢
        exact iteT ⟨_, rfl, _, rfl, _, _, rfl, rfl, k'⟩
      · rw [decide_eq_false h0] at k' ⊢
        exact iteF k'
    | _ => exact iteF k
/-- the primes to 31 -/
def primes : List Int := [2, 3, 5, 7, 11, 13, 17, 19, 23, 29, 31]
def isFld : V → Bool
  | .int i => inV (.int i) (primes.map V.int)
  | _ => false
def spIsFld (K : PySem.W.Frag) : Sp := fun vs H Q _ => ∃ v, vs = [v] ∧ Ty3 K H v ∧ Q (.bl (isFld v)) H
abbrev sIsFld : Stmt := top 13
abbrev sCheck : Stmt := top 14
theorem scIsFld : FnScope ["p"] ["p"] (defScope sIsFld) := ⟨rfl, rfl, rfl, by decide +kernel, rfl, by decide +kernel, by decide +kernel⟩
theorem ok_isFld {f f1 fP : Addr} {fd fd1 : FuncData} (F : FnS K "is_field" sIsFld f fd) (C1 : Cal P w K mg base 1 "is_integer" f1 fd1 ["value"] (spIsInt K)) (gP : mg "PRIMES" = some (.ref fP)) (tP : ∀ H, SqT K H fP (primes.map V.int)) :
    FnOk P w K mg base (L2.CX P w) 2 f fd ["p"] (spIsFld K) := by
  refine F.ok scIsFld (fun vs H Q E h => ?_) (fun cdv A outer s H vs Q E hr h => ?_)
  · obtain ⟨v, rfl, _⟩ := h
    rfl
  · obtain ⟨v, rfl, ht, k⟩ := h
    refine ⟨_, pss_one (ps_ret (pe_and (pe_cal C1 hr (pa_cons (pv 0) pa_nil) passU) (pe_one (pe_cmpR op_in_seq (pv 0) (pe_glob (v := .ref fP) rfl gP rfl) rfl)))), ?_⟩
    refine ⟨_, rfl, v, rfl, ht, _, rfl, ?_⟩
    cases v with
    | int n => exact iteT ⟨_, rfl, _, _, rfl, .inr (tP H), rfl, by decide, k⟩
    | _ => exact iteF k
/-- an error of class C with its own dict at d, in a heap that has grown -/
def Errs (C : Addr) (f : Str) (v : V) (H : Hp) (E : XK) : Prop := ∀ d H', Same H H' → H d = none → H' d = some (.xd [(f, v)]) → E (.ref C) (some d) H'
def spCheck (K : PySem.W.Frag) : Sp := fun vs H Q E => ∃ v, vs = [v] ∧ Ty3 K H v ∧ (isFld v = true → Q .non H) ∧ (isFld v = false → Errs (He.ga K "InvalidNumber") "value" v H E)
theorem scCheck : FnScope ["p"] ["p"] (defScope sCheck) := ⟨rfl, rfl, rfl, by decide +kernel, rfl, by decide +kernel, by decide +kernel⟩
theorem ok_check {f f1 : Addr} {fd fd1 fdI : FuncData} (F : FnS K "check_field" sCheck f fd) (C1 : Cal P w K mg base 2 "is_field" f1 fd1 ["p"] (spIsFld K)) (T : Exc1 K mg "InvalidNumber" "value")
    (FI : FnOk P w K mg base (L2.CX P w) 1 (He.ma K (He.ga K "InvalidNumber") "__init__") fdI ["self", "value"] (spInit1 K (He.ga K "InvalidNumber") "value")) (bI : Binds K fdI ["self", "value"] []) :
    FnOk P w K mg base (L2.CX P w) 3 f fd ["p"] (spCheck K) := by
  refine F.ok scCheck (fun vs H Q E h => ?_) (fun cdv A outer s H vs Q E hr h => ?_)
  · obtain ⟨v, rfl, _⟩ := h
    rfl
  · obtain ⟨v, rfl, ht, kY, kN⟩ := h
    refine ⟨_, pss_one (ps_if (pt_not (pt_val (pe_cal C1 hr (pa_cons (pv 0) pa_nil) passU))) (pss_one (ps_raise1 rfl (takes_of rfl rfl rfl rfl) T FI bI hr (pa_cons (pv 0) pa_nil))) pss_nil), ?_⟩
    refine ⟨_, rfl, v, rfl, ht, _, rfl, ?_⟩
    cases e : isFld v with
    | true => exact iteF (kY e)
    | false => exact iteT ⟨_, rfl, v, rfl, kN e⟩
end
section
variable {P : Program} {w : World} {K : PySem.W.Frag} {mg : Str → Option Value} {base : Heap}
/-! ### the errors' __init__ -/
theorem ok_init1 {st : Stmt} {qual fld par : Str} {f C : Addr} {fd : FuncData} (F : FunD K "__init__" qual (defArgs st) (defBody st) (defScope st) [] [] f fd) (S : FnScope (("self" : Str) :: [par]) (("self" : Str) :: [par]) (defScope st))
    (body : ∀ X : Cx, X.N = (("self" : Str) :: [par]) → X.env.scope = defScope st → PSs X (defBody st) (tOst X.K fld (tVar 0) (tVar 1))) :
    FnOk P w K mg base (L2.CX P w) 1 f fd (("self" : Str) :: [par]) (spInit1 K C fld) := by
  refine F.ok S (fun vs H Q E h => ?_) (fun cdv A outer s H vs Q E hr h => ?_)
  · obtain ⟨a, y, rfl, _⟩ := h
    rfl
  · obtain ⟨a, y, rfl, hC, hno, ha, k⟩ := h
    refine ⟨_, body _ rfl rfl, ?_⟩
    exact ⟨_, rfl, _, rfl, a, C, rfl, hC, hno, .inl ⟨ha, fun dx n ne => k dx n ne⟩⟩
abbrev sIN : Stmt := inClass (top 2) 0
abbrev sIL : Stmt := inClass (top 3) 0
theorem scIN : FnScope ["self", "value"] ["self", "value"] (defScope sIN) := ⟨rfl, rfl, rfl, by decide +kernel, rfl, by decide +kernel, by decide +kernel⟩
theorem scIL : FnScope ["self", "value"] ["self", "value"] (defScope sIL) := ⟨rfl, rfl, rfl, by decide +kernel, rfl, by decide +kernel, by decide +kernel⟩
theorem bodyIN (X : Cx) (hN : X.N = (["self", "value"] : List Str)) (hs : X.env.scope = defScope sIN) : PSs X (defBody sIN) (tOst X.K "value" (tVar 0) (tVar 1)) :=
  pss_one (ps_ost (pv 0 (by rw [hN] <;> rfl) (by rw [hs]; exact .inl rfl)) (pv 1 (by rw [hN] <;> rfl) (by rw [hs]; exact .inl rfl)))
theorem bodyIL (X : Cx) (hN : X.N = (["self", "value"] : List Str)) (hs : X.env.scope = defScope sIL) : PSs X (defBody sIL) (tOst X.K "value" (tVar 0) (tVar 1)) :=
  pss_one (ps_ost (pv 0 (by rw [hN] <;> rfl) (by rw [hs]; exact .inl rfl)) (pv 1 (by rw [hN] <;> rfl) (by rw [hs]; exact .inl rfl)))
theorem fld_mem {p : Int} (h : isFld (.int p) = true) : p ∈ primes := by
  have h' : ((primes.map V.int).any fun y => eqV y (.int p)) = true := h
  obtain ⟨y, hy, e⟩ := List.any_eq_true.mp h'
  obtain ⟨q, hq, rfl⟩ := List.mem_map.mp hy
  have e' : (q == p) = true := e
  rw [← beq_iff_eq.mp e']
  exact hq
theorem mem_fld {p : Int} (h : p ∈ primes) : isFld (.int p) = true := by
  show ((primes.map V.int).any fun y => eqV y (.int p)) = true
  exact List.any_eq_true.mpr ⟨.int p, List.mem_map.mpr ⟨p, h, rfl⟩, by show (p == p) = true; simp⟩
theorem fld_le {p : Int} (h : p ∈ primes) : 2 ≤ p ∧ p ≤ 31 := by
  have all : ∀ q ∈ primes, 2 ≤ q ∧ q ≤ 31 := by decide
  exact all p h
/-- the built-ins that the law's helpers call -/
structure Blt2 (mg : Str → Option Value) : Prop extends Blt mg where
  len : mg "len" = none
  abs : mg "abs" = none
  range : mg "range" = none
  tuple : mg "tuple" = none
abbrev sDraws : Stmt := top 22
abbrev sTake : Stmt := top 23
/-- numbers from 0 on -/
def Nn (ns : List Int) : Prop := ∀ n ∈ ns, 0 ≤ n
/-- _law_draws(script, many) -/
def spDraws (K : PySem.W.Frag) (many : Int) : Sp := fun vs H Q _ => ∃ (a : Addr) (ns : List Int), vs = [.ref a, .int many] ∧ SqL K H a (ns.map V.int) ∧ ns.length ≤ 63 ∧
  ∀ p ds H', Same H H' → H p = none → H' p = some (.lst (ds.map V.int)) → Nn ds → ds.length ≤ many.toNat → Q (.ref p) H'
theorem scDraws : FnScope ["script", "many", "cell", "rests", "draws", "k", "at", "mixed"] ["script", "many"] (defScope sDraws) := ⟨rfl, rfl, rfl, by decide +kernel, rfl, by decide +kernel, by decide +kernel⟩
def rMd : R2 := rI (fun _ j => j ≠ 0) fun i j => .int (i.fmod j)
def rDv : R2 := rI CDivN fun i j => .int (i.fdiv j)
def rMl : R2 := rI CMul fun i j => .int (i * j)
def rAd : R2 := rI0 fun i j => .int (i + j)
def tI1 (t : TE) : TE := tCB (fun xs H Q => (∃ i, xs = [V.int i] ∧ Q (.int i) H) ∨ ∃ k, xs = [V.bl k] ∧ Q (.int (if k then 1 else 0)) H) (tCons t tNil)
/-- the end of a turn: two mixings, one number put behind the others -/
def tTail (K : PySem.W.Frag) : TS := tSeq (tAsg (tOp rMd (tI1 (tOp rAd (tOp rAd (tOp rMl (tVar 2) (tC (.int 48271))) (tOp rMl (tVar 5) (tC (.int 69621)))) (tC (.int 11)))) (tC (.int 2147483647))) (gName 7))
  (tSeq (tAsg (tOp rMd (tI1 (tOp rAd (tOp rDv (tOp rMl (tVar 7) (tVar 7)) (tC (.int 4096))) (tVar 7))) (tC (.int 2147483629))) (gName 7))
    (tDrop (tBM K "list" rAppend (tVar 4) (tCons (tOp rMd (tI1 (tOp rAd (tOp rDv (tOp rMl (tVar 7) (tVar 7)) (tC (.int 4096))) (tOp rMl (tVar 5) (tC (.int 7919))))) (tC (.int 2147483629))) tNil))))
theorem fmod_bd (x : Int) {m : Int} (h : 0 < m) : 0 ≤ x.fmod m ∧ x.fmod m < m := ⟨Int.fmod_nonneg_of_pos x h, Int.fmod_lt_of_pos x h⟩
theorem tail_ok {D : Ends} {s0 s1 s3 s6 s7 : Option V} {c k : Int} {L : Addr} {ds : List Int} {H : Hp} (hL : H L = some (.lst (ds.map V.int))) (hl : ds.length ≤ 1000)
    (kk : ∀ (x : Int) (y : Option V), 0 ≤ x → D.nx [s0, s1, some (.int c), s3, some (.ref L), some (.int k), s6, y] (upd H L (.lst ((ds ++ [x]).map V.int)))) :
    tTail K D [s0, s1, some (.int c), s3, some (.ref L), some (.int k), s6, s7] H := by
  have b1 := fmod_bd (c * 48271 + k * 69621 + 11) (m := 2147483647) (by decide)
  refine ⟨_, rfl, _, _, rfl, rfl, .inr ⟨by decide, by decide⟩, _, rfl, _, _, rfl, rfl, .inr ⟨by decide, by decide⟩, _, _, rfl, rfl, _, _, rfl, rfl, .inl ⟨_, rfl, _, _, rfl, rfl, (show (2147483647 : Int) ≠ 0 by decide), ?_⟩⟩
  dsimp only
  generalize (c * 48271 + k * 69621 + 11).fmod 2147483647 = m at b1 ⊢
  have b2 := fmod_bd ((m * m).fdiv 4096 + m) (m := 2147483629) (by decide)
  refine ⟨_, rfl, _, rfl, _, _, rfl, rfl, .inl ⟨by omega, by omega⟩, _, _, rfl, rfl, ⟨by decide, by decide⟩, _, rfl, _, _, rfl, rfl, .inl ⟨_, rfl, _, _, rfl, rfl, (show (2147483629 : Int) ≠ 0 by decide), ?_⟩⟩
  dsimp only
  generalize ((m * m).fdiv 4096 + m).fmod 2147483629 = n at b2 ⊢
  refine ⟨_, rfl, .inl ⟨rfl, _, SqL.of hL⟩, ?_⟩
  refine ⟨_, rfl, _, rfl, _, _, rfl, rfl, .inl ⟨by omega, by omega⟩, _, _, rfl, rfl, ⟨by decide, by decide⟩, _, rfl, _, _, rfl, rfl, .inr ⟨by decide, by decide⟩, _, _, rfl, rfl, .inl ⟨_, rfl, _, _, rfl, rfl, (show (2147483629 : Int) ≠ 0 by decide), ?_⟩⟩
  refine ⟨L, _, _, rfl, rfl, hL, ?_, ?_⟩
  · rw [List.length_map]
    exact small1000 hl
  · have b3 := fmod_bd ((n * n).fdiv 4096 + k * 7919) (m := 2147483629) (by decide)
    have q := kk _ (some (.int n)) b3.1
    rw [List.map_append] at q
    exact q
theorem ok_draws {f : Addr} {fd : FuncData} (F : FnS K "_law_draws" sDraws f fd) (B : Blt2 mg) {many : Int} (hm0 : 0 ≤ many) (hm : many ≤ 1000) : FnOk P w K mg base (L2.CX P w) 1 f fd ["script", "many"] (spDraws K many) := by
  refine F.ok scDraws (fun vs H Q E h => ?_) (fun cdv A outer s H vs Q E hr h => ?_)
  · obtain ⟨a, ns, rfl, _⟩ := h
    rfl
  · obtain ⟨a, ns, rfl, hS, hl, k⟩ := h
    have nd := scDraws.nd
    refine ⟨_, (pss_cons (ps_setLc (i := 3) (own := [("cell", 2)]) (g := gName 2) (by rfl) nd rfl rfl (sw_true rfl rfl rfl (by decide +kernel)) (pi_list (pv 0)) (blkOk_by (own := [("cell", 2)]) (N := ["script", "many", "cell", "rests", "draws", "k", "at", "mixed"]) (sc := defScope sDraws) (by decide +kernel)) (fun _ _ _ _ _ => pg_name (i := 2) nd rfl (Or.inl rfl)) (fun _ _ _ _ _ => pts_nil) (fun _ _ _ _ _ => (pe_callB call_abs (by rfl) B.abs (by decide +kernel) (pa_cons (pe_callTy call_int1 (by rfl) B.int (by decide +kernel) (pa_cons (pv 2) pa_nil)) pa_nil))))
      (pss_cons (ps_set (i := 4) nd rfl (Or.inl rfl) (pe_lst pa_nil))
      (pss_cons (ps_for (passes_of rfl) rfl (pi_range1 rfl B.range (pa_cons (pv 1) pa_nil)) (pg_name (i := 5) nd rfl (Or.inl rfl)) (pss_cons (ps_set (i := 2) nd rfl (Or.inl rfl) (pv 5))
      (pss_cons (ps_if (pt_cmpR op_gt (pe_callB call_len_seq (by rfl) B.len (by decide +kernel) (pa_cons (pv 0) pa_nil)) pe_int (nomark _)) (pss_cons (ps_set (i := 6) nd rfl (Or.inl rfl) (pe_op op_modN (pv 5) (pe_callB call_len_seq (by rfl) B.len (by decide +kernel) (pa_cons (pv 0) pa_nil))))
      (pss_cons (ps_set (i := 2) nd rfl (Or.inl rfl) (pe_callTy call_int1 (by rfl) B.int (by decide +kernel) (pa_cons (pe_ix ix_list (pv 0) (pv 6) (fun _ _ => rfl)) pa_nil)))
      (pss_one (ps_if (PW.pt (pw_and (pt_cmpR op_ge (pv 2) (pe_op op_pow pe_int pe_int) (nomark _)) (pw_and1 (pt_cmpR op_gt (pe_ix ix_list (pv 3) (pv 6) (fun _ _ => rfl)) pe_int (nomark _))))) (pss_cons (ps_expr (pe_bm PySem.F.plainAttrs_list PySem.F.slot_list_append PySem.F.type_list_append mt_append (pv 4) (pa_cons (pe_op op_modN (pe_callTy call_int1 (by rfl) B.int (by decide +kernel) (pa_cons (pe_ix ix_list (pv 3) (pv 6) (fun _ _ => rfl)) pa_nil)) pe_int) pa_nil)))
      (pss_cons (ps_asg (pe_op op_fdivN (pe_callTy call_int1 (by rfl) B.int (by decide +kernel) (pa_cons (pe_ix ix_list (pv 3) (pv 6) (fun _ _ => rfl)) pa_nil)) pe_int) (pg_sub (pv 3) (pv 6) set_list))
      (pss_one ps_continue))) pss_nil)))) pss_nil)
      (pss_cons (ps_set (i := 7) nd rfl (Or.inl rfl) (pe_op op_modN (pe_callTy call_int1 (by rfl) B.int (by decide +kernel) (pa_cons (pe_op op_add (pe_op op_add (pe_op op_mul (pv 2) pe_int) (pe_op op_mul (pv 5) pe_int)) pe_int) pa_nil)) pe_int))
      (pss_cons (ps_set (i := 7) nd rfl (Or.inl rfl) (pe_op op_modN (pe_callTy call_int1 (by rfl) B.int (by decide +kernel) (pa_cons (pe_op op_add (pe_op op_fdivN (pe_op op_mul (pv 7) (pv 7)) pe_int) (pv 7)) pa_nil)) pe_int))
      (pss_one (ps_expr (pe_bm PySem.F.plainAttrs_list PySem.F.slot_list_append PySem.F.type_list_append mt_append (pv 4) (pa_cons (pe_op op_modN (pe_callTy call_int1 (by rfl) B.int (by decide +kernel) (pa_cons (pe_op op_add (pe_op op_fdivN (pe_op op_mul (pv 7) (pv 7)) pe_int) (pe_op op_mul (pv 5) pe_int)) pa_nil)) pe_int) pa_nil)))))))))
      (pss_one (ps_ret (pv 4)))))), ?_⟩
    refine ⟨_, rfl, a, rfl, ⟨_, hS⟩, fun D hD => lc_list (K := K) (a := a) (xs := ns.map V.int) (fun i H' => Same H H' ∧ ∃ rs : List Int, H' D = some (.lst (rs.map V.int)) ∧ rs.length = i ∧ Nn rs)
      ⟨fun c o hc => by rw [upd_ne (ne_of_none hc hD)]; exact hc, [], upd_same, rfl, fun n hn => by cases hn⟩ (fun i H' _ z => z.1.seq hS) ?_ ?_⟩
    · rintro i x H' hi ⟨s1, rs, e, l, n⟩
      obtain ⟨z, hz, rfl⟩ : ∃ z, ns[i]? = some z ∧ x = V.int z := by
        rw [List.getElem?_map] at hi
        cases q : ns[i]? with
        | none => rw [q] at hi; cases hi
        | some z => rw [q] at hi; exact ⟨z, rfl, (Option.some.inj hi).symm⟩
      have hi2 : i < ns.length := (List.getElem?_eq_some_iff.mp hz).1
      refine ⟨rfl, _, rfl, .inl ⟨z, rfl, z, rfl, _, e, ?_, fun c o hc => ?_, rs ++ [if z < 0 then -z else z], ?_, ?_, ?_⟩⟩
      · rw [List.length_map]
        exact small1000 (by omega)
      · rw [upd_ne (ne_of_none hc hD)]
        exact s1 c o hc
      · rw [upd_same, List.map_append]
        rfl
      · rw [List.length_append, l]
        rfl
      · intro m hm
        rcases List.mem_append.mp hm with hm | hm
        · exact n m hm
        · rw [List.mem_singleton.mp hm]
          split <;> omega
    · rintro H1 ⟨s1, rs, e, l, n⟩
      rw [List.length_map] at l
      refine ⟨(by show 0 ≤ sizeLine; omega), fun L hL => ?_⟩
      have hDL : D ≠ L := ne_of_none e hL
      have hL0 : H L = none := s1.free hL
      refine ⟨_, rfl, many, rfl, (by omega), (by omega), for_range (lo := 0) (n := many.toNat) (fun i σ H' => ∃ (v2 v5 v6 v7 : Option V) (rs ds : List Int), σ = [some (.ref a), some (.int many), v2, some (.ref D), some (.ref L), v5, v6, v7] ∧ Same H H' ∧
        H' D = some (.lst (rs.map V.int)) ∧ rs.length = ns.length ∧ Nn rs ∧ H' L = some (.lst (ds.map V.int)) ∧ Nn ds ∧ ds.length ≤ i)
        ⟨none, none, none, none, rs, [], rfl, fun c o hc => by rw [upd_ne (ne_of_none hc hL0)]; exact s1 c o hc, by rw [upd_ne hDL]; exact e, l, n, upd_same, (fun m hm => nomatch hm), Nat.le_refl _⟩ ?_ ?_⟩
      · rintro i σ H2 hi ⟨v2, v5, v6, v7, rs, ds, rfl, s2, eD, lD, nD, eL, nL, lL⟩
        have s2S := s2.seq hS
        have put : ∀ (x : Int) (v2 v5 v6 v7 : Option V), 0 ≤ x → ∃ (v2' v5' v6' v7' : Option V) (rs' ds' : List Int), [some (V.ref a), some (V.int many), v2, some (V.ref D), some (V.ref L), v5, v6, v7] = [some (V.ref a), some (V.int many), v2', some (V.ref D), some (V.ref L), v5', v6', v7'] ∧
            Same H (upd H2 L (.lst ((ds ++ [x]).map V.int))) ∧ upd H2 L (.lst ((ds ++ [x]).map V.int)) D = some (.lst (rs'.map V.int)) ∧ rs'.length = ns.length ∧ Nn rs' ∧ upd H2 L (.lst ((ds ++ [x]).map V.int)) L = some (.lst (ds'.map V.int)) ∧ Nn ds' ∧ ds'.length ≤ i + 1 := by
          intro x v2 v5 v6 v7 hx
          refine ⟨v2, v5, v6, v7, rs, ds ++ [x], rfl, fun c o hc => by rw [upd_ne (ne_of_none hc hL0)]; exact s2 c o hc, by rw [upd_ne hDL]; exact eD, lD, nD, upd_same, ?_, by rw [List.length_append]; show ds.length + 1 ≤ i + 1; omega⟩
          intro m hm
          rcases List.mem_append.mp hm with hm | hm
          · exact nL m hm
          · rw [List.mem_singleton.mp hm]
            exact hx
        refine ⟨_, rfl, _, rfl, _, _, rfl, .inl s2S, _, _, rfl, rfl, _, rfl, ?_⟩
        rw [List.length_map]
        by_cases h0 : ns.length = 0
        · rw [decide_eq_false (by omega)]
          refine iteF ?_
          show tTail K _ [some (.ref a), some (.int many), some (.int _), some (.ref D), some (.ref L), some (.int _), _, _] H2
          exact tail_ok eL (by omega) fun x y hx => put x _ _ _ y hx
        · rw [decide_eq_true (by omega)]
          refine iteT ?_
          refine ⟨_, rfl, _, rfl, _, _, rfl, .inl s2S, _, _, rfl, rfl, (by rw [List.length_map]; omega), ?_⟩
          have bq := fmod_bd (0 + (i : Int)) (m := ((ns.map V.int).length : Int)) (by rw [List.length_map]; omega)
          obtain ⟨q, hq⟩ : ∃ q : Nat, (0 + (i : Int)).fmod ((ns.map V.int).length : Int) = (q : Int) := ⟨((0 + (i : Int)).fmod ((ns.map V.int).length : Int)).toNat, by omega⟩
          rw [hq] at bq
          have hql : q < ns.length := by
            have := bq.2
            rw [List.length_map] at this
            omega
          have e1 : (ns.map V.int)[q]? = some (V.int ns[q]) := by rw [List.getElem?_map, List.getElem?_eq_getElem hql] <;> rfl
          have e2 : (rs.map V.int)[q]? = some (V.int (rs[q]'(by omega))) := by rw [List.getElem?_map, List.getElem?_eq_getElem (by omega)] <;> rfl
          refine ⟨_, rfl, _, rfl, a, _, _, _, rfl, rfl, s2S, (by rw [hq]; exact atI_nat e1), .inl ⟨_, rfl, ?_⟩⟩
          have ea2 : atI (rs.map V.int) ((0 + (i : Int)).fmod ((ns.map V.int).length : Int)) = some (.int (rs[q]'(by omega))) := by rw [hq]; exact atI_nat e2
          have nq : 0 ≤ rs[q]'(by omega) := nD _ (List.getElem_mem _)
          refine ⟨_, rfl, _, _, rfl, rfl, ⟨by decide, by decide, by decide⟩, _, _, rfl, rfl, _, rfl, ?_⟩
          refine iteD (fun hc => ?_) (fun hc => ?_)
          · refine ⟨_, rfl, _, rfl, D, _, _, _, rfl, rfl, SqL.of eD, ea2, _, _, rfl, rfl, _, rfl, ?_⟩
            refine iteD (fun hd => ?_) (fun hd => ?_)
            · refine ⟨_, rfl, .inl ⟨rfl, _, SqL.of eL⟩, _, rfl, _, rfl, D, _, _, _, rfl, rfl, SqL.of eD, ea2, .inl ⟨_, rfl, _, _, rfl, rfl, (show (1000003 : Int) ≠ 0 by decide), L, _, _, rfl, rfl, eL, (by rw [List.length_map]; exact small1000 (by omega)), ?_⟩⟩
              have eD2 : ∀ o, upd H2 L o D = some (.lst (rs.map V.int)) := fun o => by rw [upd_ne hDL]; exact eD
              refine ⟨_, rfl, _, rfl, D, _, _, _, rfl, rfl, SqL.of (eD2 _), ea2, .inl ⟨_, rfl, _, _, rfl, rfl, ⟨by decide, by decide⟩, _, rfl, _, rfl, D, _, _, q, rfl, rfl, eD2 _, (by rw [hq, List.length_map]; exact ixN_at (by omega)), ?_⟩⟩
              have b4 := fmod_bd (rs[q]'(by omega)) (m := 1000003) (by decide)
              have b5 : 0 ≤ (rs[q]'(by omega)).fdiv 1000003 := Int.fdiv_nonneg nq (by decide)
              have hDc : ∀ {c : Addr} {o : HO}, H c = some o → c ≠ D := fun hc => ne_of_none hc hD
              refine ⟨_, _, _, _, rs.set q ((rs[q]'(by omega)).fdiv 1000003), ds ++ [(rs[q]'(by omega)).fmod 1000003], rfl, fun c o hc => ?_, ?_, ?_, ?_, ?_, ?_, ?_⟩
              · rw [upd_ne (hDc hc), upd_ne (ne_of_none hc hL0)]
                exact s2 c o hc
              · rw [upd_same, List.map_set]
              · rw [List.length_set]
                exact lD
              · intro m hm
                rcases List.mem_or_eq_of_mem_set hm with h | h
                · exact nD m h
                · rw [h]; exact b5
              · rw [upd_ne hDL.symm, upd_same, List.map_append]
                rfl
              · intro m hm
                rcases List.mem_append.mp hm with hm | hm
                · exact nL m hm
                · rw [List.mem_singleton.mp hm]
                  exact b4.1
              · rw [List.length_append]
                show ds.length + 1 ≤ i + 1
                omega
            · show tTail K _ [some (.ref a), some (.int many), some (.int _), some (.ref D), some (.ref L), some (.int _), _, _] H2
              exact tail_ok eL (by omega) fun x y hx => put x _ _ _ y hx
          · show tTail K _ [some (.ref a), some (.int many), some (.int _), some (.ref D), some (.ref L), some (.int _), _, _] H2
            exact tail_ok eL (by omega) fun x y hx => put x _ _ _ y hx
      · rintro σ H2 ⟨v2, v5, v6, v7, rs, ds, rfl, s2, eD, lD, nD, eL, nL, lL⟩
        exact ⟨_, rfl, k L ds H2 s2 hL0 eL nL lL⟩
/-- the hand: the draws and the place in them -/
def HandAt (H : Hp) (a d : Addr) : Prop := ∃ (ds : List Int) (i : Int), H a = some (.lst [.ref d, .int i]) ∧ H d = some (.lst (ds.map V.int)) ∧ Nn ds ∧ 0 ≤ i
theorem hand_ne {H : Hp} {a d : Addr} {ds : List Int} {i : Int} (h1 : H a = some (.lst [.ref d, .int i])) (h2 : H d = some (.lst (ds.map V.int))) : a ≠ d := by
  refine ne_of h1 h2 fun z => ?_
  have z' : [V.ref d, V.int i] = ds.map V.int := HO.lst.inj z
  cases ds with
  | nil => cases z'
  | cons x r =>
    have z2 : V.ref d = V.int x := (List.cons.inj z').1
    cases z2
/-- all but what stands at a is as it was -/
def Keep (a : Addr) (H H' : Hp) : Prop := ∀ b o, b ≠ a → H b = some o → H' b = some o
theorem Keep.refl {a : Addr} {H : Hp} : Keep a H H := fun _ _ _ h => h
theorem Keep.trans {a : Addr} {H H1 H2 : Hp} (x : Keep a H H1) (y : Keep a H1 H2) : Keep a H H2 := fun b o n h => y b o n (x b o n h)
theorem Keep.of {a : Addr} {H H' : Hp} (h : Same H H') : Keep a H H' := fun b o _ e => h b o e
theorem Keep.new {a p : Addr} {o : HO} {H : Hp} (h : H p = none) : Keep a H (upd H p o) := fun b u _ e => by rw [upd_ne (ne_of_none e h)]; exact e
theorem same_new {p : Addr} {o : HO} {H : Hp} (h : H p = none) : Same H (upd H p o) := fun b u e => by rw [upd_ne (ne_of_none e h)]; exact e
theorem HandAt.same {H H' : Hp} {a d : Addr} (h : HandAt H a d) (s : Same H H') : HandAt H' a d := by
  obtain ⟨ds, i, h1, h2, h3, h4⟩ := h
  exact ⟨ds, i, s _ _ h1, s _ _ h2, h3, h4⟩
theorem HandAt.one {H : Hp} {a d : Addr} (h : HandAt H a d) : ∃ o, H a = some o := by
  obtain ⟨ds, i, h1, _⟩ := h
  exact ⟨_, h1⟩
theorem HandAt.two {H : Hp} {a d : Addr} (h : HandAt H a d) : ∃ o, H d = some o := by
  obtain ⟨ds, i, _, h2, _⟩ := h
  exact ⟨_, h2⟩
theorem HandAt.ne {H : Hp} {a d p : Addr} (h : HandAt H a d) (n : H p = none) : a ≠ p ∧ d ≠ p := by
  obtain ⟨o, e⟩ := h.one
  obtain ⟨u, e2⟩ := h.two
  exact ⟨ne_of_none e n, ne_of_none e2 n⟩
theorem HandAt.put {H : Hp} {a d p : Addr} {o : HO} (h : HandAt H a d) (n1 : a ≠ p) (n2 : d ≠ p) : HandAt (upd H p o) a d := by
  obtain ⟨ds, i, h1, h2, h3, h4⟩ := h
  exact ⟨ds, i, by rw [upd_ne n1]; exact h1, by rw [upd_ne n2]; exact h2, h3, h4⟩
theorem HandAt.new {H : Hp} {a d p : Addr} {o : HO} (h : HandAt H a d) (n : H p = none) : HandAt (upd H p o) a d := h.put (h.ne n).1 (h.ne n).2
def spTake : Sp := fun vs H Q _ => ∃ (a d : Addr) (many : Int), vs = [.ref a, .int many] ∧ 0 < many ∧ HandAt H a d ∧ ∀ r H', 0 ≤ r → r < many → HandAt H' a d → Keep a H H' → Q (.int r) H'
theorem scTake : FnScope ["hand", "many", "at", "draws"] ["hand", "many"] (defScope sTake) := ⟨rfl, rfl, rfl, by decide +kernel, rfl, by decide +kernel, by decide +kernel⟩
theorem ok_take {f : Addr} {fd : FuncData} (F : FnS K "_law_take" sTake f fd) (B : Blt2 mg) : FnOk P w K mg base (L2.CX P w) 1 f fd ["hand", "many"] spTake := by
  refine F.ok scTake (fun vs H Q E h => ?_) (fun cdv A outer s H vs Q E hr h => ?_)
  · obtain ⟨a, d, m, rfl, _⟩ := h
    rfl
  · obtain ⟨a, d, m, rfl, hm, ⟨ds, i, h1, h2, h3, h4⟩, k⟩ := h
    have nd := scTake.nd
    have nad := hand_ne h1 h2
    refine ⟨_, (pss_cons (ps_set (i := 2) nd rfl (Or.inl rfl) (pe_ix ix_list (pv 0) pe_int (fun _ _ => rfl)))
      (pss_cons (ps_asg (pe_op op_add (pv 2) pe_int) (pg_sub (pv 0) pe_int set_list))
      (pss_cons (ps_set (i := 3) nd rfl (Or.inl rfl) (pe_ix ix_list (pv 0) pe_int (fun _ _ => rfl)))
      (pss_cons (ps_if (pt_cmpR op_ge (pv 2) (pe_callB call_len_seq (by rfl) B.len (by decide +kernel) (pa_cons (pv 3) pa_nil)) (nomark _)) (pss_one (ps_ret pe_int)) pss_nil)
      (pss_one (ps_ret (pe_op op_modN (pe_op op_fdivN (pe_callTy call_int1 (by rfl) B.int (by decide +kernel) (pa_cons (pe_ix ix_list (pv 3) (pv 2) (fun _ _ => rfl)) pa_nil)) pe_int) (pv 1)))))))), ?_⟩
    refine ⟨_, rfl, a, _, _, _, rfl, rfl, SqL.of h1, atI_nat (j := 1) rfl, ?_⟩
    refine ⟨_, rfl, _, _, rfl, rfl, _, rfl, a, _, _, 1, rfl, rfl, h1, rfl, ?_⟩
    have h2' : ∀ o, upd H a o d = some (.lst (ds.map V.int)) := fun o => by rw [upd_ne nad.symm]; exact h2
    have done : ∀ r, 0 ≤ r → r < m → Q (.int r) (upd H a (.lst [.ref d, .int (i + 1)])) := fun r r0 r1 =>
      k r _ r0 r1 ⟨ds, i + 1, upd_same, h2' _, h3, by omega⟩ fun b o hb e => by rw [upd_ne hb]; exact e
    refine ⟨_, rfl, a, _, _, _, rfl, rfl, SqL.of upd_same, atI_nat (j := 0) rfl, ?_⟩
    refine ⟨_, rfl, _, rfl, d, _, rfl, .inl (SqL.of (h2' _)), _, _, rfl, rfl, _, rfl, ?_⟩
    rw [List.length_map]
    refine iteD (fun hc => ?_) (fun hc => ?_)
    · exact done 0 (by omega) (by omega)
    · obtain ⟨q, hq⟩ : ∃ q : Nat, i = (q : Int) := ⟨i.toNat, by omega⟩
      subst hq
      have hql : q < ds.length := by omega
      have e1 : (ds.map V.int)[q]? = some (V.int ds[q]) := by rw [List.getElem?_map, List.getElem?_eq_getElem hql] <;> rfl
      have b := fmod_bd (ds[q].fdiv 7) hm
      refine ⟨_, rfl, _, rfl, d, _, _, _, rfl, rfl, SqL.of (h2' _), atI_nat e1, .inl ⟨_, rfl, _, _, rfl, rfl, ⟨by decide, by decide⟩, _, rfl, _, _, rfl, rfl, (by omega), done _ b.1 b.2⟩⟩
abbrev sLF : Stmt := top 25
abbrev sLFd : Stmt := top 26
theorem fld_all {p : Int} (h2 : 2 ≤ p) (h31 : p ≤ 31) : (isFld (.int p) = true → ∀ j : Nat, (j : Int) < p - 2 → ¬ p.fmod (2 + (j : Int)) = 0) ∧ (isFld (.int p) = false → ∃ j : Nat, (j : Int) < p - 2 ∧ p.fmod (2 + (j : Int)) = 0) := by
  have t1 : ∀ n ∈ List.range 32, isFld (.int (n : Int)) = true → ∀ j ∈ List.range 32, (j : Int) < (n : Int) - 2 → ¬ (n : Int).fmod (2 + (j : Int)) = 0 := by decide +kernel
  have t2 : ∀ n ∈ List.range 32, 2 ≤ n → isFld (.int (n : Int)) = false → ∃ j ∈ List.range 32, (j : Int) < (n : Int) - 2 ∧ (n : Int).fmod (2 + (j : Int)) = 0 := by decide +kernel
  obtain ⟨n, rfl⟩ : ∃ n : Nat, p = (n : Int) := ⟨p.toNat, by omega⟩
  have hn : n ∈ List.range 32 := List.mem_range.mpr (by omega)
  refine ⟨fun h j hj => t1 n hn h j (List.mem_range.mpr (by omega)) hj, fun h => ?_⟩
  obtain ⟨j, _, h1, h2⟩ := t2 n hn (by omega) h
  exact ⟨j, h1, h2⟩
theorem fld_out {p : Int} (h : p < 2 ∨ 31 < p) : isFld (.int p) = false := by
  cases e : isFld (.int p) with
  | false => rfl
  | true =>
    have := fld_le (fld_mem e)
    omega
theorem scLF : FnScope ["p", "d"] ["p"] (defScope sLF) := ⟨rfl, rfl, rfl, by decide +kernel, rfl, by decide +kernel, by decide +kernel⟩
theorem ok_LF {f : Addr} {fd : FuncData} (F : FnS K "_law_is_field" sLF f fd) (B : Blt2 mg) : FnOk P w K mg base (L2.CX P w) 1 f fd ["p"] (spIsFld K) := by
  refine F.ok scLF (fun vs H Q E h => ?_) (fun cdv A outer s H vs Q E hr h => ?_)
  · obtain ⟨v, rfl, _⟩ := h
    rfl
  · obtain ⟨v, rfl, ⟨t, ht, h1, h2⟩, k⟩ := h
    have nd := scLF.nd
    refine ⟨_, (pss_cons (ps_if (PW.pt (pw_or (pt_not (pt_val (pe_callB call_isi (by rfl) B.isi (by decide +kernel) (pa_cons (pv 0) (pa_cons (pe_bltn (v := .ty "int") (by rfl) B.int (by decide +kernel) rfl) pa_nil))))) (pw_or (pt_val (pe_callB call_isi (by rfl) B.isi (by decide +kernel) (pa_cons (pv 0) (pa_cons (pe_bltn (v := .ty "bool") (by rfl) B.bool (by decide +kernel) rfl) pa_nil)))) (pw_or (pt_cmpR op_lt (pv 0) pe_int (nomark _)) (pw_or1 (pt_cmpR op_gt (pv 0) pe_int (nomark _))))))) (pss_one (ps_ret pe_bl)) pss_nil)
      (pss_cons (ps_for (passes_of rfl) rfl (pi_range2 rfl B.range (pa_cons pe_int (pa_cons (pe_callTy call_int1 (by rfl) B.int (by decide +kernel) (pa_cons (pv 0) pa_nil)) pa_nil))) (pg_name (i := 1) nd rfl (Or.inl rfl)) (pss_one (ps_if (pt_cmpR op_eq (pe_op op_modN (pe_callTy call_int1 (by rfl) B.int (by decide +kernel) (pa_cons (pv 0) pa_nil)) (pv 1)) pe_int (nomark _)) (pss_one (ps_ret pe_bl)) pss_nil)))
      (pss_one (ps_ret pe_bl)))), ?_⟩
    refine ⟨_, rfl, _, _, _, _, _, rfl, .ty "int", ht, h1, _, rfl, ?_⟩
    cases v with
    | int p =>
      refine iteF ⟨_, rfl, _, _, _, _, _, rfl, .ty "bool", ht, h2, _, rfl, iteF ⟨_, rfl, _, _, rfl, rfl, _, rfl, iteD (fun hc => ?_) (fun hc => ⟨_, rfl, _, _, rfl, rfl, _, rfl, iteD (fun hd => ?_) (fun hd => ?_)⟩)⟩⟩
      · rw [fld_out (.inl hc)] at k
        exact k
      · rw [fld_out (.inr hd)] at k
        exact k
      · have fa := fld_all (p := p) (by omega) (by omega)
        refine ⟨_, rfl, .inl ⟨p, rfl, 2, p, rfl, (by omega), for_range (lo := 2) (n := (p - 2).toNat) (fun i σ H' => ∃ x, σ = [some (.int p), x] ∧ H' = H ∧ ∀ j : Nat, j < i → ¬ p.fmod (2 + (j : Int)) = 0) ⟨none, rfl, rfl, fun j hj => by omega⟩ ?_ ?_⟩⟩
        · rintro i σ H' hi ⟨x, rfl, rfl, hj⟩
          refine ⟨_, rfl, .inl ⟨p, rfl, _, rfl, _, _, rfl, rfl, (by omega), rfl, _, rfl, ?_⟩⟩
          refine iteD (fun he => ?_) (fun he => ?_)
          · have he' : p.fmod (2 + (i : Int)) = 0 := V.int.inj he
            have e : isFld (.int p) = false := by
              cases q : isFld (.int p) with
              | false => rfl
              | true => exact absurd he' (fa.1 q i (by omega))
            rw [e] at k
            exact k
          · refine ⟨_, rfl, rfl, fun j hjj => ?_⟩
            by_cases z : j = i
            · subst z
              exact fun q => he (congrArg V.int q)
            · exact hj j (by omega)
        · rintro σ H' ⟨x, rfl, rfl, hj⟩
          have e : isFld (.int p) = true := by
            cases q : isFld (.int p) with
            | true => rfl
            | false =>
              obtain ⟨j, h3, h4⟩ := fa.2 q
              exact absurd h4 (hj j (by omega))
          rw [e] at k
          exact k
    | bl b => exact iteF ⟨_, rfl, _, _, _, _, _, rfl, .ty "bool", ht, h2, _, rfl, iteT k⟩
    | _ => exact iteT k
def ups (n : Nat) : List Int := ((List.range n).filter fun (j : Nat) => isFld (.int (2 + (j : Int)))).map fun (j : Nat) => 2 + (j : Int)
theorem ups_succ (n : Nat) : ups (n + 1) = if isFld (.int (2 + (n : Int))) = true then ups n ++ [2 + (n : Int)] else ups n := by
  unfold ups
  rw [List.range_succ, List.filter_append, List.map_append]
  cases h : isFld (.int (2 + (n : Int))) <;> simp [h]
theorem ups_len (n : Nat) : (ups n).length ≤ n := by
  unfold ups
  rw [List.length_map]
  exact Nat.le_trans (List.length_filter_le _ _) (by simp)
theorem ups_all : ups 30 = primes := by decide +kernel
def spLFd : Sp := fun vs H Q _ => ∃ (a d : Addr), vs = [.ref a] ∧ HandAt H a d ∧ ∀ p H', p ∈ primes → HandAt H' a d → Keep a H H' → Q (.int p) H'
theorem scLFd : FnScope ["hand", "primes", "p"] ["hand"] (defScope sLFd) := ⟨rfl, rfl, rfl, by decide +kernel, rfl, by decide +kernel, by decide +kernel⟩
theorem ok_LFd {f fF fT : Addr} {fd fdF fdT : FuncData} (F : FnS K "_law_field" sLFd f fd) (B : Blt2 mg) (CF : Cal P w K mg base 1 "_law_is_field" fF fdF ["p"] (spIsFld K)) (CT : Cal P w K mg base 1 "_law_take" fT fdT ["hand", "many"] spTake) :
    FnOk P w K mg base (L2.CX P w) 2 f fd ["hand"] spLFd := by
  refine F.ok scLFd (fun vs H Q E h => ?_) (fun cdv A outer s H vs Q E hr h => ?_)
  · obtain ⟨a, d, rfl, _⟩ := h
    rfl
  · obtain ⟨a, d, rfl, hH, k⟩ := h
    have nd := scLFd.nd
    have hr1 := hr
    refine ⟨_, (pss_cons (ps_setLc (i := 1) (own := [("p", 2)]) (g := gName 2) (by rfl) nd rfl rfl (sw_true rfl rfl rfl (by decide +kernel)) (pi_range2 rfl B.range (pa_cons pe_int (pa_cons pe_int pa_nil))) (blkOk_by (own := [("p", 2)]) (N := ["hand", "primes", "p"]) (sc := defScope sLFd) (by decide +kernel)) (fun _ _ _ _ _ => pg_name (i := 2) nd rfl (Or.inl rfl)) (fun _ _ _ _ _ => pts_one (pt_val (pe_cal CF hr (pa_cons (pv 2) pa_nil) passU))) (fun _ _ _ _ _ => (pv 2)))
      (pss_one (ps_ret (pe_ix ix_list (pv 1) (pe_ix ix_list (pe_lst (pa_cons (pe_cal CT hr1 (pa_cons (pv 0) (pa_cons pe_int pa_nil)) passU) (pa_cons (pe_cal CT hr1 (pa_cons (pv 0) (pa_cons pe_int pa_nil)) passU) pa_nil))) (pe_cal CT hr1 (pa_cons (pv 0) (pa_cons pe_int pa_nil)) passU) (fun _ _ => rfl)) (fun _ _ => rfl))))), ?_⟩
    refine ⟨2, 32, rfl, (by omega), fun D hD => lc_range (lo := 2) (n := 30) (fun i H' => Same H H' ∧ H' D = some (.lst ((ups i).map V.int))) ⟨same_new hD, upd_same⟩ ?_ ?_⟩
    · rintro i H' hi ⟨s1, e⟩
      have eu := ups_succ i
      refine ⟨rfl, _, rfl, _, rfl, ty3_int _, _, rfl, ?_⟩
      cases q : isFld (.int (2 + (i : Int))) with
      | true =>
        rw [if_pos q] at eu
        refine iteT ⟨_, rfl, _, e, (by rw [List.length_map]; exact small1000 (Nat.le_trans (ups_len i) (by omega))), fun c o hc => by rw [upd_ne (ne_of_none hc hD)]; exact s1 c o hc, ?_⟩
        rw [upd_same, eu, List.map_append]
        rfl
      | false =>
        rw [if_neg (by rw [q]; decide)] at eu
        refine iteF ⟨s1, ?_⟩
        rw [eu]
        exact e
    · rintro H1 ⟨s1, e⟩
      rw [ups_all] at e
      have h1 := hH.same s1
      refine ⟨_, rfl, _, rfl, a, d, 11, rfl, by decide, h1, fun r1 H2 a0 a1 h2 k2 => ⟨_, rfl, a, d, 3, rfl, by decide, h2, fun r2 H3 b0 b1 h3 k3 => ⟨(by show 2 ≤ sizeLine; decide), fun q hq => ⟨_, rfl, a, d, 2, rfl, by decide, h3.new hq, fun r3 H4 c0 c1 h4 k4 => ?_⟩⟩⟩⟩
      have nq := h3.ne hq
      have nD := hH.ne hD
      have eq : H4 q = some (.lst [.int r1, .int r2]) := k4 _ _ nq.1.symm upd_same
      have eD : H4 D = some (.lst (primes.map V.int)) := k4 _ _ nD.1.symm (by
        have e3 := k3 _ _ nD.1.symm (k2 _ _ nD.1.symm e)
        rw [upd_ne (ne_of_none e3 hq)]
        exact e3)
      have kk : Keep a H H4 := (Keep.of s1).trans (k2.trans (k3.trans ((Keep.new hq).trans k4)))
      have out : ∀ r : Int, 0 ≤ r → r < 11 → rIxL K (.ref D) (.int r) H4 Q := fun r z0 z1 => by
        obtain ⟨m, rfl⟩ : ∃ m : Nat, r = (m : Int) := ⟨r.toNat, by omega⟩
        have hm : m < primes.length := by show m < 11; omega
        have em : (primes.map V.int)[m]? = some (V.int primes[m]) := by rw [List.getElem?_map, List.getElem?_eq_getElem hm] <;> rfl
        exact ⟨D, _, _, _, rfl, rfl, SqL.of eD, atI_nat em, k _ _ (List.getElem_mem hm) h4 kk⟩
      have hc : r3 = 0 ∨ r3 = 1 := by omega
      rcases hc with rfl | rfl
      · exact ⟨q, _, _, .int r1, rfl, rfl, SqL.of eq, rfl, out r1 a0 a1⟩
      · exact ⟨q, _, _, .int r2, rfl, rfl, SqL.of eq, rfl, out r2 b0 (by omega)⟩
end
end WU

set_option maxRecDepth 100000
set_option maxHeartbeats 8000000
namespace WU
open PySem PySem.Spec PyProof.Rows L2
/-! ### walking what may be a list or a tuple -/
def iSeq (K : PySem.W.Frag) (tl : TE) : TI := fun σ H R => tl σ H fun x H1 => ∃ a, x = .ref a ∧ (((∃ xs, SqL K H1 a xs) ∧ R (Itl K a) H1) ∨ ((∃ xs, SqT K H1 a xs) ∧ R (Itt K a) H1))
theorem pi_seq {X : Cx} {tg l : Expr} {tl : TE} (hl : PE X l tl) : PI X tg l (iSeq X.K tl) := by
  constructor
  intro pins st σ H R I h
  refine thn (hl.run pins st σ H _ I h) fun v t1 ⟨x, H2, J, rx, a, ea, q⟩ => ?_
  subst ea
  cases rx
  have fresh : ∀ b ∈ [t1.heap.objs.size], FpOk X pins H2 b := fun b hb => by
    cases List.mem_singleton.mp hb
    exact J.fpOk (Nat.le_refl _) (J.hok.fresh (Nat.le_refl _))
  rcases q with ⟨⟨xs, hq⟩, q⟩ | ⟨⟨xs, hq⟩, q⟩
  · obtain ⟨its, rv, pl, _⟩ := J.list hq
    apply wpAny_pyIter_list pl.isList
    exact ⟨_, [t1.heap.objs.size], _, _, H2, rfl, J.kept (t' := t1.toks) fun b o e => Heap.get?_push_of_some _ e, turn_list a _, ⟨_, Heap.get?_push_size _ rfl, rfl, rfl⟩, fresh, q⟩
  · obtain ⟨its, rv, pl, _⟩ := J.tuple hq
    apply wpAny_pyIter_tuple (show t1.heap.IsTuple a its.toArray from pl)
    exact ⟨_, [t1.heap.objs.size], _, _, H2, rfl, J.kept (t' := t1.toks) fun b o e => Heap.get?_push_of_some _ e, turn_tuple a _, ⟨_, Heap.get?_push_size _ rfl, rfl, rfl⟩, fresh, q⟩
/-! ### data -/
def tyName : PyData → String
  | .none => "NoneType"
  | .bool _ => "bool"
  | .int _ => "int"
  | .str _ => "str"
  | .list _ => "list"
  | .tuple _ => "tuple"
  | .dict _ => "dict"
def isSeq : PyData → Bool
  | .list _ => true
  | .tuple _ => true
  | _ => false
def belD (p : Int) : PyData → Bool
  | .int i => decide (0 ≤ i) && decide (i < p)
  | _ => false
/-- whether it is a sequence of n letters -/
def letsD (p n : Int) : PyData → Bool
  | .list ds => decide ((ds.length : Int) = n) && ds.all (belD p)
  | .tuple ds => decide ((ds.length : Int) = n) && ds.all (belD p)
  | _ => false
def smallD : PyData → Prop
  | .list ds => ds.length ≤ 200
  | .tuple ds => ds.length ≤ 200
  | _ => True
section
variable {K : PySem.W.Frag} {H H' : Hp}
theorem sqL_ty {a : Addr} {xs : List V} (h : SqL K H a xs) : TyX K H (.ref a) (.type "list") := by
  rcases h with (h | ⟨o, h⟩) | ⟨o, its, n, h1, h2, _⟩
  · exact .base (.lst h)
  · exact .base (.frz h)
  · exact .kList h1 h2
theorem sqT_ty {a : Addr} {xs : List V} (h : SqT K H a xs) : TyX K H (.ref a) (.type "tuple") := by
  rcases h with (h | ⟨o, h⟩) | ⟨o, its, n, h1, h2, _⟩
  · exact .base (.tup h)
  · exact .fTuple h
  · exact .kTuple h1 h2
theorem dp_ty {v : V} {d : PyData} (h : Dp K H v d) : TyX K H v (.type (tyName d)) := by
  cases h with
  | non => exact .base .non
  | bl b => exact .base (.bl b)
  | int i => exact .base (.int i)
  | str x => exact .base (.str x)
  | lst h _ => exact sqL_ty h
  | tup h _ => exact sqT_ty h
theorem dp_ty3 {v : V} {d : PyData} (h : Dp K H v d) : Ty3 K H v := by
  have t := dp_ty h
  cases h with
  | non => exact ty3_non
  | bl b => exact ty3_bl b
  | int i => exact ty3_int i
  | str x => exact ty3_str x
  | lst h _ => exact ⟨_, t, kit_ty (show kitB "list" "int" = some false by decide +kernel), kit_ty (show kitB "list" "bool" = some false by decide +kernel)⟩
  | tup h _ => exact ⟨_, t, kit_ty (show kitB "tuple" "int" = some false by decide +kernel), kit_ty (show kitB "tuple" "bool" = some false by decide +kernel)⟩
theorem dp_bel {v : V} {d : PyData} (h : Dp K H v d) (p : Int) : isBel p v = belD p d := by
  cases h <;> rfl
theorem kit_seq {d : PyData} : (∀ kvs, d ≠ .dict kvs) → PySem.W.kitAny K (.type (tyName d)) [.type "list", .type "tuple"] = some (isSeq d) := by
  intro nd
  cases d with
  | none => exact kitAny_cons (b := false) (kit_ty (show kitB "NoneType" "list" = some false by decide +kernel)) (fun _ => kitAny_cons (b := false) (kit_ty (show kitB "NoneType" "tuple" = some false by decide +kernel)) (fun _ => kitAny_nil) (fun h => nomatch h)) (fun h => nomatch h)
  | bool b => exact kitAny_cons (b := false) (kit_ty (show kitB "bool" "list" = some false by decide +kernel)) (fun _ => kitAny_cons (b := false) (kit_ty (show kitB "bool" "tuple" = some false by decide +kernel)) (fun _ => kitAny_nil) (fun h => nomatch h)) (fun h => nomatch h)
  | int i => exact kitAny_cons (b := false) (kit_ty (show kitB "int" "list" = some false by decide +kernel)) (fun _ => kitAny_cons (b := false) (kit_ty (show kitB "int" "tuple" = some false by decide +kernel)) (fun _ => kitAny_nil) (fun h => nomatch h)) (fun h => nomatch h)
  | str x => exact kitAny_cons (b := false) (kit_ty (show kitB "str" "list" = some false by decide +kernel)) (fun _ => kitAny_cons (b := false) (kit_ty (show kitB "str" "tuple" = some false by decide +kernel)) (fun _ => kitAny_nil) (fun h => nomatch h)) (fun h => nomatch h)
  | list xs => exact kitAny_cons (b := true) (kit_ty (show kitB "list" "list" = some true by decide +kernel)) (fun h => nomatch h) (fun _ => rfl)
  | tuple xs => exact kitAny_cons (b := false) (kit_ty (show kitB "tuple" "list" = some false by decide +kernel)) (fun _ => kitAny_cons (b := true) (kit_ty (show kitB "tuple" "tuple" = some true by decide +kernel)) (fun h => nomatch h) (fun _ => rfl)) (fun h => nomatch h)
  | dict kvs => exact absurd rfl (nd kvs)
theorem dp_nodict {v : V} {d : PyData} (h : Dp K H v d) : ∀ kvs, d ≠ .dict kvs := fun kvs z => by
  subst z
  cases h
theorem sqL_same {a : Addr} {xs : List V} (h : SqL K H a xs) (s : Same H H') : SqL K H' a xs := SqL.ext h s
theorem sqT_same {a : Addr} {xs : List V} (h : SqT K H a xs) (s : Same H H') : SqT K H' a xs := SqT.ext h s
mutual
theorem dp_same (s : Same H H') : ∀ {v : V} {d : PyData}, Dp K H v d → Dp K H' v d
  | _, _, .non => .non
  | _, _, .bl b => .bl b
  | _, _, .int i => .int i
  | _, _, .str x => .str x
  | _, _, .lst h k => .lst (sqL_same h s) (dps_same s k)
  | _, _, .tup h k => .tup (sqT_same h s) (dps_same s k)
theorem dps_same (s : Same H H') : ∀ {vs : List V} {ds : List PyData}, DpAll K H vs ds → DpAll K H' vs ds
  | _, _, .nil => .nil
  | _, _, .cons h k => .cons (dp_same s h) (dps_same s k)
end
theorem dps_len : ∀ {vs : List V} {ds : List PyData}, DpAll K H vs ds → vs.length = ds.length
  | _, _, .nil => rfl
  | _, _, .cons _ k => congrArg Nat.succ (dps_len k)
theorem dps_at : ∀ {vs : List V} {ds : List PyData} {i : Nat} {v : V}, DpAll K H vs ds → vs[i]? = some v → ∃ d, ds[i]? = some d ∧ Dp K H v d
  | _, _, _, _, .nil, e => by cases e
  | _, _, 0, _, .cons h _, e => by
    cases e
    exact ⟨_, rfl, h⟩
  | _, _, i + 1, _, .cons _ k, e => dps_at (i := i) k e
end
structure Blt3 (mg : Str → Option Value) : Prop extends Blt2 mg where
  lst : mg "list" = none
  all : mg "all" = none
section
variable {P : Program} {w : World} {K : PySem.W.Frag} {mg : Str → Option Value} {base : Heap}
abbrev sSeq : Stmt := top 8
abbrev sLets : Stmt := top 9
def spSeq (K : PySem.W.Frag) : Sp := fun vs H Q _ => ∃ v d, vs = [v] ∧ Dp K H v d ∧ ∀ H', Same H H' → Q (.bl (isSeq d)) H'
theorem scSeq : FnScope ["value"] ["value"] (defScope sSeq) := ⟨rfl, rfl, rfl, by decide +kernel, rfl, by decide +kernel, by decide +kernel⟩
theorem ok_seq {f : Addr} {fd : FuncData} (F : FnS K "is_sequence" sSeq f fd) (B : Blt3 mg) : FnOk P w K mg base (L2.CX P w) 1 f fd ["value"] (spSeq K) := by
  refine F.ok scSeq (fun vs H Q E h => ?_) (fun cdv A outer s H vs Q E hr h => ?_)
  · obtain ⟨v, d, rfl, _⟩ := h
    rfl
  · obtain ⟨v, d, rfl, hd, k⟩ := h
    refine ⟨_, (pss_one (ps_ret (pe_callB call_isiT (by rfl) B.isi (by decide +kernel) (pa_cons (pv 0) (pa_cons (pe_tup (pa_cons (pe_bltn (v := .ty "list") (by rfl) B.lst (by decide +kernel) rfl) (pa_cons (pe_bltn (v := .ty "tuple") (by rfl) B.tuple (by decide +kernel) rfl) pa_nil))) pa_nil))))), ?_⟩
    refine ⟨_, rfl, (by show 2 ≤ sizeLine; decide), fun t ht => ⟨v, t, _, _, _, _, rfl, upd_same, .cons (.ty "list") (.cons (.ty "tuple") .nil), dp_ty (dp_same (same_new ht) hd), kit_seq (dp_nodict hd), k _ (same_new ht)⟩⟩
def spLets (K : PySem.W.Frag) : Sp := fun vs H Q _ => ∃ (p n : Int) (v : V) (d : PyData), vs = [.int p, .int n, v] ∧ Dp K H v d ∧ smallD d ∧ ∀ H', Same H H' → Q (.bl (letsD p n d)) H'
theorem scLets : FnScope ["p", "count", "value", "letter"] ["p", "count", "value"] (defScope sLets) := ⟨rfl, rfl, rfl, by decide +kernel, rfl, by decide +kernel, by decide +kernel⟩
theorem ok_lets {f f1 f2 : Addr} {fd fd1 fd2 : FuncData} (F : FnS K "are_letters" sLets f fd) (B : Blt3 mg) (CS : Cal P w K mg base 1 "is_sequence" f1 fd1 ["value"] (spSeq K)) (CB : Cal P w K mg base 3 "is_below" f2 fd2 ["value", "limit"] (spIsBel K)) :
    FnOk P w K mg base (L2.CX P w) 4 f fd ["p", "count", "value"] (spLets K) := by
  refine F.ok scLets (fun vs H Q E h => ?_) (fun cdv A outer s H vs Q E hr h => ?_)
  · obtain ⟨p, n, v, d, rfl, _⟩ := h
    rfl
  · obtain ⟨p, n, v, d, rfl, hd, hz, k⟩ := h
    have nd := scLets.nd
    have hr1 := hr.mono (show 1 ≤ 3 by decide)
    refine ⟨_, (pss_one (ps_ret (pe_and (pe_cal CS hr1 (pa_cons (pv 2) pa_nil) passU) (pe_and (pe_cmpR op_eq (pe_callB call_len_seq (by rfl) B.len (by decide +kernel) (pa_cons (pv 2) pa_nil)) (pv 1) (nomark _)) (pe_one (pe_callB (cr_all rfl) (by rfl) B.all (by decide +kernel) (pa_cons (pe_lc (own := [("letter", 3)]) (g := gName 3) (by rfl) nd (pi_seq (pv 2)) (blkOk_by (own := [("letter", 3)]) (N := ["p", "count", "value", "letter"]) (sc := defScope sLets) (by decide +kernel)) (fun _ _ _ _ _ => pg_name (i := 3) nd rfl (Or.inl rfl)) (fun _ _ _ _ _ => pts_nil) (fun _ _ _ _ _ => (pe_cal CB hr (pa_cons (pv 3) (pa_cons (pv 0) pa_nil)) passU))) pa_nil))))))), ?_⟩
    refine ⟨_, rfl, v, d, rfl, hd, fun H1 s1 => ⟨_, rfl, ?_⟩⟩
    have cs : (isSeq d = false ∧ letsD p n d = false) ∨ ∃ a xs ds, v = .ref a ∧ (SqL K H a xs ∨ SqT K H a xs) ∧ DpAll K H xs ds ∧ ds.length ≤ 200 ∧ isSeq d = true ∧ letsD p n d = (decide ((ds.length : Int) = n) && ds.all (belD p)) := by
      cases hd with
      | non => exact .inl ⟨rfl, rfl⟩
      | bl b => exact .inl ⟨rfl, rfl⟩
      | int i => exact .inl ⟨rfl, rfl⟩
      | str x => exact .inl ⟨rfl, rfl⟩
      | lst h q => exact .inr ⟨_, _, _, rfl, .inl h, q, hz, rfl, rfl⟩
      | tup h q => exact .inr ⟨_, _, _, rfl, .inr h, q, hz, rfl, rfl⟩
    rcases cs with ⟨e1, e2⟩ | ⟨a, xs, ds, rfl, hx, hds, hl, e1, e2⟩
    · rw [e1]
      rw [e2] at k
      exact iteF (k H1 s1)
    · refine iteTb e1 ?_
      rw [e2] at k
      have el := dps_len hds
      have hx1 : SqL K H1 a xs ∨ SqT K H1 a xs := hx.imp (fun h => sqL_same h s1) fun h => sqT_same h s1
      refine ⟨_, rfl, a, xs, rfl, hx1, _, rfl, rfl, _, rfl, ?_⟩
      refine iteD (fun hc => ?_) (fun hc => ?_)
      · have hc' : ((ds.length : Nat) : Int) = n := by
          rw [← el]
          exact V.int.inj hc
        rw [decide_eq_true hc', Bool.true_and] at k
        have st0 : ∀ D, H1 D = none → Same H1 (upd H1 D (.lst [])) ∧ upd H1 D (.lst []) D = some (.lst ((ds.take 0).map fun d => V.bl (belD p d))) := fun D hD => ⟨same_new hD, upd_same⟩
        have turn : ∀ (D : Addr), H1 D = none → ∀ (i : Nat) (y : V) (H2 : Hp), xs[i]? = some y → Same H1 H2 ∧ H2 D = some (.lst ((ds.take i).map fun d => V.bl (belD p d))) →
            isBel p y = belD p (ds.getD i .none) ∧ Ty3 K H2 y ∧ ((ds.take i).map fun d => V.bl (belD p d)).length < sizeLine ∧ Same H1 (upd H2 D (.lst (((ds.take i).map fun d => V.bl (belD p d)) ++ [.bl (isBel p y)]))) ∧
              upd H2 D (.lst (((ds.take i).map fun d => V.bl (belD p d)) ++ [.bl (isBel p y)])) D = some (.lst ((ds.take (i + 1)).map fun d => V.bl (belD p d))) := by
          rintro D hD i y H2 hi ⟨s2, eD⟩
          obtain ⟨di, hdi, hy⟩ := dps_at hds hi
          have eb := dp_bel hy p
          have eg : ds.getD i .none = di := by rw [List.getD_eq_getElem?_getD, hdi] <;> rfl
          refine ⟨by rw [eg]; exact eb, dp_ty3 (dp_same (s1.trans s2) hy), ?_, ?_, ?_⟩
          · rw [List.length_map, List.length_take]
            exact small1000 (by omega)
          · exact fun c o hc => by rw [upd_ne (ne_of_none hc hD)]; exact s2 c o hc
          · rw [upd_same, List.take_succ, hdi, List.map_append, eb]
            rfl
        have fin : ∀ (D : Addr) (H2 : Hp), Same H1 H2 → H2 D = some (.lst ((ds.take xs.length).map fun d => V.bl (belD p d))) → rAll K [.ref D] H2 Q := by
          intro D H2 s2 eD
          rw [el, List.take_length] at eD
          refine ⟨D, ds.map (belD p), rfl, SqL.of (by rw [eD, List.map_map]; rfl), ?_⟩
          have ea : (ds.map (belD p)).all id = ds.all (belD p) := by rw [List.all_map]; rfl
          rw [ea]
          exact k H2 (s1.trans s2)
        refine ⟨_, rfl, a, rfl, ?_⟩
        rcases hx1 with h | h
        · refine .inl ⟨⟨_, h⟩, fun D hD => lc_list (K := K) (a := a) (xs := xs) (fun i H2 => Same H1 H2 ∧ H2 D = some (.lst ((ds.take i).map fun d => V.bl (belD p d)))) (st0 D hD) (fun i H2 _ z => sqL_same h z.1) ?_ (fun H2 z => fin D H2 z.1 z.2)⟩
          rintro i y H2 hi z
          obtain ⟨t1, t2, t3, t4, t5⟩ := turn D hD i y H2 hi z
          exact ⟨rfl, _, rfl, _, rfl, y, p, rfl, t2, _, z.2, t3, t4, t5⟩
        · refine .inr ⟨⟨_, h⟩, fun D hD => lc_tup (K := K) (a := a) (xs := xs) (fun i H2 => Same H1 H2 ∧ H2 D = some (.lst ((ds.take i).map fun d => V.bl (belD p d)))) (st0 D hD) (fun i H2 _ z => sqT_same h z.1) ?_ (fun H2 z => fin D H2 z.1 z.2)⟩
          rintro i y H2 hi z
          obtain ⟨t1, t2, t3, t4, t5⟩ := turn D hD i y H2 hi z
          exact ⟨rfl, _, rfl, _, rfl, y, p, rfl, t2, _, z.2, t3, t4, t5⟩
      · have hc' : ¬ ((ds.length : Nat) : Int) = n := fun z => hc (congrArg V.int (by rw [el]; exact z))
        rw [decide_eq_false hc', Bool.false_and] at k
        exact k H1 s1
end
end WU

set_option maxRecDepth 100000
set_option maxHeartbeats 8000000
namespace WU
open PySem PySem.Spec PyProof.Rows L2
/-! ### books -/
def TB (H : Hp) (r : V) (b : List Int) : Prop := ∃ c, r = .ref c ∧ H c = some (.tup (b.map V.int))
def SB (H : Hp) (r : V) (b : List Int) : Prop := ∃ c, r = .ref c ∧ (H c = some (.lst (b.map V.int)) ∨ H c = some (.tup (b.map V.int)))
theorem TB.sb {H : Hp} {r : V} {b : List Int} (h : TB H r b) : SB H r b := by
  obtain ⟨c, e, h⟩ := h
  exact ⟨c, e, .inr h⟩
theorem TB.same {H H' : Hp} {r : V} {b : List Int} (h : TB H r b) (s : Same H H') : TB H' r b := by
  obtain ⟨c, e, h⟩ := h
  exact ⟨c, e, s _ _ h⟩
theorem SB.same {H H' : Hp} {r : V} {b : List Int} (h : SB H r b) (s : Same H H') : SB H' r b := by
  obtain ⟨c, e, h⟩ := h
  exact ⟨c, e, h.imp (s _ _) (s _ _)⟩
theorem paired_mono {α β : Type} {F G : α → β → Prop} (f : ∀ a b, F a b → G a b) : ∀ {l : List α} {m : List β}, Paired F l m → Paired G l m
  | _, _, .nil => .nil
  | _, _, .cons h t => .cons (f _ _ h) (paired_mono f t)
theorem paired_len {α β : Type} {F : α → β → Prop} : ∀ {l : List α} {m : List β}, Paired F l m → l.length = m.length
  | _, _, .nil => rfl
  | _, _, .cons _ t => congrArg Nat.succ (paired_len t)
theorem paired_at {α β : Type} {F : α → β → Prop} : ∀ {l : List α} {m : List β} {i : Nat} {x : α}, Paired F l m → l[i]? = some x → ∃ y, m[i]? = some y ∧ F x y
  | _, _, _, _, .nil, e => by cases e
  | _, _, 0, _, .cons h _, e => by
    cases e
    exact ⟨_, rfl, h⟩
  | _, _, i + 1, _, .cons _ t, e => paired_at (i := i) t e
theorem paired_of {α β : Type} {F : α → β → Prop} : ∀ {l : List α} {m : List β} {i : Nat} {y : β}, Paired F l m → m[i]? = some y → ∃ x, l[i]? = some x ∧ F x y
  | _, _, _, _, .nil, e => by cases e
  | _, _, 0, _, .cons h _, e => by
    cases e
    exact ⟨_, rfl, h⟩
  | _, _, i + 1, _, .cons _ t, e => paired_of (i := i) t e
theorem paired_app {α β : Type} {F : α → β → Prop} : ∀ {l l' : List α} {m m' : List β}, Paired F l m → Paired F l' m' → Paired F (l ++ l') (m ++ m')
  | _, _, _, _, .nil, t => t
  | _, _, _, _, .cons h s, t => .cons h (paired_app s t)
theorem paired_take {α β : Type} {F : α → β → Prop} : ∀ (n : Nat) {l : List α} {m : List β}, Paired F l m → Paired F (l.take n) (m.take n)
  | 0, _, _, _ => .nil
  | _ + 1, _, _, .nil => .nil
  | n + 1, _, _, .cons h t => .cons h (paired_take n t)
theorem paired_drop {α β : Type} {F : α → β → Prop} : ∀ (n : Nat) {l : List α} {m : List β}, Paired F l m → Paired F (l.drop n) (m.drop n)
  | 0, _, _, h => h
  | _ + 1, _, _, .nil => .nil
  | n + 1, _, _, .cons _ t => paired_drop n t
theorem dps_ints {K : PySem.W.Frag} {H : Hp} : ∀ b : List Int, DpAll K H (b.map V.int) (b.map PyData.int)
  | [] => .nil
  | i :: b => .cons (.int i) (dps_ints b)
/-- a row of letters -/
def Ltr (p : Int) (n : Nat) (b : List Int) : Prop := b.length = n ∧ ∀ i ∈ b, 0 ≤ i ∧ i < p
structure Good (p : Int) (n : Nat) (bs : List (List Int)) : Prop where
  ne : bs ≠ []
  pos : 0 < n
  le : n ≤ 100
  cnt : bs.length ≤ 100
  all : ∀ b ∈ bs, Ltr p n b
theorem lets_of {p : Int} {n : Nat} {b : List Int} (h : Ltr p n b) : letsD p n (.tuple (b.map PyData.int)) = true ∧ letsD p n (.list (b.map PyData.int)) = true := by
  have e : (decide (((b.map PyData.int).length : Int) = n) && (b.map PyData.int).all (belD p)) = true := by
    rw [List.length_map, h.1, decide_eq_true rfl, Bool.true_and, List.all_map]
    refine List.all_eq_true.mpr fun i hi => ?_
    obtain ⟨h1, h2⟩ := h.2 i hi
    show (decide (0 ≤ i) && decide (i < p)) = true
    rw [decide_eq_true h1, decide_eq_true h2]
    rfl
  exact ⟨e, e⟩
theorem sb_dp {K : PySem.W.Frag} {H : Hp} {r : V} {b : List Int} {p : Int} {n : Nat} (h : SB H r b) (g : Ltr p n b) (hn : n ≤ 100) : ∃ d, Dp K H r d ∧ smallD d ∧ letsD p n d = true ∧ isSeq d = true ∧ ∃ c, r = .ref c ∧ (SqL K H c (b.map V.int) ∨ SqT K H c (b.map V.int)) := by
  obtain ⟨c, rfl, h | h⟩ := h
  · refine ⟨.list (b.map PyData.int), .lst (SqL.of h) (dps_ints b), ?_, (lets_of g).2, rfl, c, rfl, .inl (SqL.of h)⟩
    show (b.map PyData.int).length ≤ 200
    rw [List.length_map, g.1]
    omega
  · refine ⟨.tuple (b.map PyData.int), .tup (SqT.of h) (dps_ints b), ?_, (lets_of g).1, rfl, c, rfl, .inr (SqT.of h)⟩
    show (b.map PyData.int).length ≤ 200
    rw [List.length_map, g.1]
    omega
/-- a walk over a tuple that stands -/
theorem wTup {K : PySem.W.Frag} {a : Addr} {xs : List V} {H0 : Hp} {Qd : Hp → Prop} {B : V → Hp → (Hp → Prop) → Prop} (Pv : Nat → Hp → Prop) (h0 : Pv 0 H0) (hl : ∀ i H, Pv i H → SqT K H a xs)
    (hs : ∀ i x H, xs[i]? = some x → Pv i H → B x H (Pv (i + 1))) (hd : ∀ H, Pv xs.length H → Qd H) :
    ∃ W : Nat → Nat → Hp → Prop, (∃ m, W 0 m H0) ∧ ∀ i m H, W i m H → ((Itt K a).stop i H ∧ Qd H) ∨
      ((Itt K a).go i H ∧ ∃ Nx : Hp → Prop, (∀ H', Nx H' → ∃ m', m' < m ∧ W (i + 1) m' H') ∧ ∀ x H', (Itt K a).yld i H x H' → B x H' Nx) := by
  refine ⟨fun i m H => m + i = xs.length ∧ Pv i H, ⟨xs.length, rfl, h0⟩, fun i m H h => ?_⟩
  obtain ⟨hm, pv⟩ := h
  have q := hl i H pv
  cases m with
  | zero =>
    have e : i = xs.length := by omega
    subst e
    exact .inl ⟨⟨xs, q, Nat.le_refl _⟩, hd H pv⟩
  | succ m =>
    have hi : i < xs.length := by omega
    refine .inr ⟨⟨xs, xs[i], q, List.getElem?_eq_getElem hi⟩, Pv (i + 1), fun H' p' => ⟨m, Nat.lt_succ_self m, by omega, p'⟩, fun x H' y => ?_⟩
    obtain ⟨e, y⟩ := y
    subst e
    exact hs i x _ (y xs q) pv
section
variable {P : Program} {w : World} {K : PySem.W.Frag} {mg : Str → Option Value} {base : Heap} {L : Addr}
abbrev sLO : Stmt := top 19
abbrev sAB : Stmt := top 18
abbrev sLI : Stmt := inClass (top 16) 0
/-- letters_of(books): all books are tuples -/
def spLO (K : PySem.W.Frag) : Sp := fun vs H Q _ => ∃ (a : Addr) (rs : List V) (bs : List (List Int)) (n : Nat), vs = [.ref a] ∧ SqT K H a rs ∧ Paired (TB H) rs bs ∧ bs.length ≤ 100 ∧ (∀ b ∈ bs, b.length = n) ∧ n ≤ 100 ∧
  ∀ r H', Same H H' → H' r = some (.tup (bs.flatten.map V.int)) → Q (.ref r) H'
theorem scLO : FnScope ["books", "book", "letter"] ["books"] (defScope sLO) := ⟨rfl, rfl, rfl, by decide +kernel, rfl, by decide +kernel, by decide +kernel⟩
theorem flat_len : ∀ {bs : List (List Int)} {n : Nat}, (∀ b ∈ bs, b.length = n) → bs.flatten.length = bs.length * n
  | [], n, _ => by simp
  | b :: bs, n, h => by
    rw [List.flatten_cons, List.length_append, h b (List.mem_cons_self ..), flat_len fun c hc => h c (List.mem_cons_of_mem _ hc), List.length_cons, Nat.succ_mul]
    omega
theorem ok_LO {f : Addr} {fd : FuncData} (F : FnS K "letters_of" sLO f fd) (B : Blt3 mg) : FnOk P w K mg base (L2.CX P w) 1 f fd ["books"] (spLO K) := by
  refine F.ok scLO (fun vs H Q E h => ?_) (fun cdv A outer s H vs Q E hr h => ?_)
  · obtain ⟨a, rs, bs, n, rfl, _⟩ := h
    rfl
  · obtain ⟨a, rs, bs, n, rfl, hT, hP, hc, hb, hn, k⟩ := h
    have nd := scLO.nd
    refine ⟨_, (pss_one (ps_ret (pe_callTy call_tuple_of (by rfl) B.tuple (by decide +kernel) (pa_cons (pe_lc2 (wi1 := iTup K (tVar 1)) (own := [("book", 1), ("letter", 2)]) (vs1 := [2]) (g := gName 1) (g1 := gName 2) (by rfl) nd (pi_tup (pv 0)) (blkOk_by (own := [("book", 1), ("letter", 2)]) (N := ["books", "book", "letter"]) (sc := defScope sLO) (by decide +kernel)) (by decide) (fun _ _ _ _ _ => pg_name (i := 1) nd rfl (Or.inl rfl)) (fun _ _ _ _ _ => pts_nil) (fun _ _ _ _ _ => pi_tup (pv 1)) (fun _ _ _ _ _ => pg_name (i := 2) nd rfl (Or.inl rfl)) (fun _ _ _ _ _ => pts_nil) (fun _ _ _ _ _ => pv 2)) pa_nil)))), ?_⟩
    refine ⟨_, rfl, a, rfl, ⟨_, hT⟩, fun D hD => wTup (K := K) (a := a) (xs := rs) (fun i H' => Same H H' ∧ H' D = some (.lst ((bs.take i).flatten.map V.int))) ⟨same_new hD, upd_same⟩ (fun i H' z => sqT_same hT z.1) ?_ ?_⟩
    · rintro i x H1 hi ⟨s1, e⟩
      obtain ⟨b, hbi, c, rfl, ec⟩ := paired_at hP hi
      have hb1 : b.length = n := hb b (List.mem_of_getElem? hbi)
      have hi2 : i < bs.length := (List.getElem?_eq_some_iff.mp hbi).1
      have ect := s1 _ _ ec
      have hcD : c ≠ D := ne_of_none ec hD
      have fl : ∀ j, ((bs.take i).flatten ++ b.take j).length ≤ 100 * 100 := fun j => by
        rw [List.length_append, flat_len (n := n) fun d hd => hb d (List.mem_of_mem_take hd), List.length_take, List.length_take]
        have h1 : min i bs.length * n ≤ 99 * 100 := Nat.mul_le_mul (by omega) hn
        omega
      refine ⟨rfl, _, rfl, c, rfl, ⟨_, SqT.of ect⟩, wTup (K := K) (a := c) (xs := b.map V.int) (fun j H' => Same H H' ∧ H' D = some (.lst (((bs.take i).flatten ++ b.take j).map V.int))) ⟨s1, by rw [e, List.take_zero, List.append_nil]⟩ (fun j H' z => SqT.of (z.1 _ _ ec)) ?_ ?_⟩
      · rintro j x H2 hj ⟨s2, e2⟩
        obtain ⟨z, hz, rfl⟩ : ∃ z, b[j]? = some z ∧ x = V.int z := by
          rw [List.getElem?_map] at hj
          cases q : b[j]? with
          | none => rw [q] at hj; cases hj
          | some z => rw [q] at hj; exact ⟨z, rfl, (Option.some.inj hj).symm⟩
        refine ⟨rfl, _, rfl, _, e2, ?_, fun d o hd => by rw [upd_ne (ne_of_none hd hD)]; exact s2 d o hd, ?_⟩
        · rw [List.length_map]
          have := fl j
          exact Nat.lt_of_le_of_lt this (by decide)
        · rw [upd_same, List.take_succ, hz, ← List.append_assoc, List.map_append (l₂ := (some z).toList)]
          rfl
      · rintro H2 ⟨s2, e2⟩
        refine ⟨s2, ?_⟩
        rw [e2, List.length_map, List.take_length, List.take_succ, hbi]
        simp
    · rintro H1 ⟨s1, e⟩
      rw [paired_len hP, List.take_length] at e
      refine ⟨D, _, rfl, .inl ⟨SqL.of e, fun l hl => k l _ (s1.trans (same_new hl)) upd_same⟩⟩
def rLenS (K : PySem.W.Frag) : List V → Hp → VK → Prop := fun xs H Q => ∃ p ys, xs = [V.ref p] ∧ (SqL K H p ys ∨ SqT K H p ys) ∧ Q (.int ys.length) H
/-- are_books of what are books -/
def spAB (K : PySem.W.Frag) : Sp := fun vs H Q _ => ∃ (p : Int) (a : Addr) (rs : List V) (bs : List (List Int)) (n : Nat), vs = [.int p, .ref a] ∧ (SqL K H a rs ∨ SqT K H a rs) ∧ Paired (SB H) rs bs ∧ Good p n bs ∧ ∀ H', Same H H' → Q (.bl true) H'
theorem scAB : FnScope ["p", "value", "book"] ["p", "value"] (defScope sAB) := ⟨rfl, rfl, rfl, by decide +kernel, rfl, by decide +kernel, by decide +kernel⟩
theorem ok_AB {f f1 f2 : Addr} {fd fd1 fd2 : FuncData} (F : FnS K "are_books" sAB f fd) (B : Blt3 mg) (CS : Cal P w K mg base 1 "is_sequence" f1 fd1 ["value"] (spSeq K)) (CL : Cal P w K mg base 4 "are_letters" f2 fd2 ["p", "count", "value"] (spLets K)) :
    FnOk P w K mg base (L2.CX P w) 5 f fd ["p", "value"] (spAB K) := by
  refine F.ok scAB (fun vs H Q E h => ?_) (fun cdv A outer s H vs Q E hr h => ?_)
  · obtain ⟨p, a, rs, bs, n, rfl, _⟩ := h
    rfl
  · obtain ⟨p, a, rs, bs, n, rfl, hx, hP, g, k⟩ := h
    have nd := scAB.nd
    have hr1 := hr.mono (show 1 ≤ 4 by decide)
    refine ⟨_, (pss_cons (ps_if (PW.pt (pw_or (pt_not (pt_val (pe_cal CS hr1 (pa_cons (pv 1) pa_nil) passU))) (pw_or1 (pt_cmpR op_eq (pe_callB call_len_seq (by rfl) B.len (by decide +kernel) (pa_cons (pv 1) pa_nil)) pe_int (nomark _))))) (pss_one (ps_ret pe_bl)) pss_nil)
      (pss_cons (ps_if (PW.pt (pw_or (pt_not (pt_val (pe_cal CS hr1 (pa_cons (pe_ix ix_seq (pv 1) pe_int (fun _ _ => rfl)) pa_nil) passU))) (pw_or1 (pt_cmpR op_eq (pe_callB call_len_seq (by rfl) B.len (by decide +kernel) (pa_cons (pe_ix ix_seq (pv 1) pe_int (fun _ _ => rfl)) pa_nil)) pe_int (nomark _))))) (pss_one (ps_ret pe_bl)) pss_nil)
      (pss_one (ps_ret (pe_callB (cr_all rfl) (by rfl) B.all (by decide +kernel) (pa_cons (pe_lc (te := tCall (spLets K) [] E0 (tCons (tVar 0) (tCons (tCB (rLenS K) (tCons (tOp (rIx K) (tVar 1) (tC (.int 0))) tNil)) (tCons (tVar 2) tNil)))) (own := [("book", 2)]) (g := gName 2) (by rfl) nd (pi_seq (pv 1)) (blkOk_by (own := [("book", 2)]) (N := ["p", "value", "book"]) (sc := defScope sAB) (by decide +kernel)) (fun _ _ _ _ _ => pg_name (i := 2) nd rfl (Or.inl rfl)) (fun _ _ _ _ _ => pts_nil) (fun _ _ _ _ _ => (pe_cal CL hr (pa_cons (pv 0) (pa_cons (pe_callB call_len_seq (by rfl) B.len (by decide +kernel) (pa_cons (pe_ix ix_seq (pv 1) pe_int (fun _ _ => rfl)) pa_nil)) (pa_cons (pv 2) pa_nil))) passU))) pa_nil)))))), ?_⟩
    obtain ⟨r0, rs', er⟩ : ∃ r0 rs', rs = r0 :: rs' := by
      cases rs with
      | nil =>
        cases hP
        exact absurd rfl g.ne
      | cons r0 rs' => exact ⟨r0, rs', rfl⟩
    have e0 : rs[0]? = some r0 := by rw [er]; rfl
    obtain ⟨b0, hb0, sb0⟩ := paired_at hP e0
    have g0 := g.all b0 (List.mem_of_getElem? hb0)
    have eln := paired_len hP
    have hlen : 0 < rs.length := by rw [er, List.length_cons]; omega
    -- the value is a sequence
    obtain ⟨dv, hdv, sv⟩ : ∃ d, Dp K H (.ref a) d ∧ isSeq d = true := by
      have all : ∀ {rs : List V} {bs : List (List Int)}, Paired (SB H) rs bs → ∃ ds, DpAll K H rs ds := by
        intro rs bs h
        induction h with
        | nil => exact ⟨[], .nil⟩
        | cons h _ ih =>
          obtain ⟨ds, ih⟩ := ih
          obtain ⟨c, rfl, h | h⟩ := h
          · exact ⟨_, .cons (.lst (SqL.of h) (dps_ints _)) ih⟩
          · exact ⟨_, .cons (.tup (SqT.of h) (dps_ints _)) ih⟩
      obtain ⟨ds, hds⟩ := all hP
      rcases hx with h | h
      · exact ⟨.list ds, .lst h hds, rfl⟩
      · exact ⟨.tuple ds, .tup h hds, rfl⟩
    have ixs : ∀ {H' : Hp} {Q' : VK}, Same H H' → Q' r0 H' → rIx K (.ref a) (.int 0) H' Q' := fun {H' Q'} s' q => by
      have ea : atI rs (0 : Int) = some r0 := atI_nat (j := 0) e0
      rcases hx with h | h
      · exact .inl ⟨a, rs, 0, r0, rfl, rfl, sqL_same h s', ea, q⟩
      · exact .inr (.inl ⟨a, rs, 0, r0, rfl, rfl, sqT_same h s', ea, q⟩)
    have hxs : ∀ {H' : Hp}, Same H H' → SqL K H' a rs ∨ SqT K H' a rs := fun s' => hx.imp (fun h => sqL_same h s') fun h => sqT_same h s'
    refine ⟨_, rfl, .ref a, dv, rfl, hdv, fun H1 s1 => ⟨_, rfl, ?_⟩⟩
    rw [sv]
    refine iteF ⟨_, rfl, a, rs, rfl, hxs s1, rfl, _, rfl, iteFb (decide_eq_false fun z => absurd (V.int.inj z) (by omega)) ?_⟩
    obtain ⟨d0, hd0, sm0, l0, q0, c0, ec0, hc0⟩ := sb_dp (K := K) (sb0.same s1) g0 g.le
    refine ⟨_, rfl, ixs s1 ⟨r0, d0, rfl, hd0, fun H2 s2 => ⟨_, rfl, ?_⟩⟩⟩
    rw [q0]
    have s12 := s1.trans s2
    have hc2 : SqL K H2 c0 (b0.map V.int) ∨ SqT K H2 c0 (b0.map V.int) := hc0.imp (fun h => sqL_same h s2) fun h => sqT_same h s2
    have hl0 : (b0.map V.int).length = n := by rw [List.length_map]; exact g0.1
    have hpos := g.pos
    refine iteF ⟨_, rfl, ixs s12 ⟨c0, _, by rw [ec0], hc2, rfl, _, rfl, iteFb (decide_eq_false fun z => absurd (V.int.inj z) (by omega)) ?_⟩⟩
    have turn : ∀ (D : Addr), H2 D = none → ∀ (i : Nat) (y : V) (H3 : Hp), rs[i]? = some y → Same H2 H3 ∧ H3 D = some (.lst ((List.replicate i true).map V.bl)) →
        (tCall (spLets K) [] E0 (tCons (tVar 0) (tCons (tCB (rLenS K) (tCons (tOp (rIx K) (tVar 1) (tC (.int 0))) tNil)) (tCons (tVar 2) tNil)))) [some (.int p), some (.ref a), some y] H3
          fun z H4 => ∃ acc, H4 D = some (.lst acc) ∧ acc.length < sizeLine ∧ Same H2 (upd H4 D (.lst (acc ++ [z]))) ∧ upd H4 D (.lst (acc ++ [z])) D = some (.lst ((List.replicate (i + 1) true).map V.bl)) := by
      rintro D hD i y H3 hi ⟨s3, eD⟩
      obtain ⟨b, hb, sb⟩ := paired_at hP hi
      have gb := g.all b (List.mem_of_getElem? hb)
      have hi2 : i < bs.length := (List.getElem?_eq_some_iff.mp hb).1
      have s13 := s12.trans s3
      obtain ⟨d, hd, sm, ld, _, _, _, _⟩ := sb_dp (K := K) (sb.same s13) gb g.le
      have hc3 : SqL K H3 c0 (b0.map V.int) ∨ SqT K H3 c0 (b0.map V.int) := hc2.imp (fun h => sqL_same h s3) fun h => sqT_same h s3
      refine ⟨_, rfl, _, rfl, ixs s13 ⟨c0, _, by rw [ec0], hc3, ?_⟩⟩
      rw [hl0]
      refine ⟨_, rfl, p, n, y, d, rfl, hd, sm, fun H4 s4 => ?_⟩
      rw [ld]
      refine ⟨_, s4 _ _ eD, ?_, fun c o hc => ?_, ?_⟩
      · rw [List.length_map, List.length_replicate]
        have := g.cnt
        exact small1000 (by omega)
      · rw [upd_ne (ne_of_none hc hD)]
        exact s4 _ _ (s3 _ _ hc)
      · rw [upd_same, List.replicate_succ', List.map_append]
        rfl
    have fin : ∀ (D : Addr) (H3 : Hp), Same H2 H3 → H3 D = some (.lst ((List.replicate rs.length true).map V.bl)) → rAll K [.ref D] H3 Q := fun D H3 s3 eD => by
      refine ⟨D, _, rfl, SqL.of eD, ?_⟩
      have e : (List.replicate rs.length true).all id = true := by
        refine List.all_eq_true.mpr fun x hx => ?_
        rw [List.eq_of_mem_replicate hx]
        rfl
      rw [e]
      exact k H3 (s12.trans s3)
    have st0 : ∀ D, H2 D = none → Same H2 (upd H2 D (.lst [])) ∧ upd H2 D (.lst []) D = some (.lst ((List.replicate 0 true).map V.bl)) := fun D hD => ⟨same_new hD, upd_same⟩
    refine ⟨_, rfl, a, rfl, ?_⟩
    rcases hxs s12 with h | h
    · exact .inl ⟨⟨_, h⟩, fun D hD => lc_list (K := K) (a := a) (xs := rs) (fun i H3 => Same H2 H3 ∧ H3 D = some (.lst ((List.replicate i true).map V.bl))) (st0 D hD) (fun i H3 _ z => sqL_same h z.1)
        (fun i y H3 hi z => ⟨rfl, turn D hD i y H3 hi z⟩) (fun H3 z => fin D H3 z.1 z.2)⟩
    · exact .inr ⟨⟨_, h⟩, fun D hD => lc_tup (K := K) (a := a) (xs := rs) (fun i H3 => Same H2 H3 ∧ H3 D = some (.lst ((List.replicate i true).map V.bl))) (st0 D hD) (fun i H3 _ z => sqT_same h z.1)
        (fun i y H3 hi z => ⟨rfl, turn D hD i y H3 hi z⟩) (fun H3 z => fin D H3 z.1 z.2)⟩
end
end WU

set_option maxRecDepth 100000
set_option maxHeartbeats 8000000
namespace WU
open PySem PySem.Spec PyProof.Rows L2
/-- the attributes of a Library -/
def lf (p : Int) (a : Addr) (nb nl : Int) (tl : Addr) : List (Str × V) :=
  putF "letters" (.ref tl) (putF "book_length" (.int nl) (putF "book_count" (.int nb) (putF "books" (.ref a) (putF "p" (.int p) []))))
theorem lf_p {p : Int} {a : Addr} {nb nl : Int} {tl : Addr} : (lf p a nb nl tl).lookup ("p" : Str) = some (.int p) := by
  unfold lf
  rw [lookup_putF, if_neg (by decide +kernel), lookup_putF, if_neg (by decide +kernel), lookup_putF, if_neg (by decide +kernel), lookup_putF, if_neg (by decide +kernel), lookup_putF, if_pos rfl]
theorem lf_books {p : Int} {a : Addr} {nb nl : Int} {tl : Addr} : (lf p a nb nl tl).lookup ("books" : Str) = some (.ref a) := by
  unfold lf
  rw [lookup_putF, if_neg (by decide +kernel), lookup_putF, if_neg (by decide +kernel), lookup_putF, if_neg (by decide +kernel), lookup_putF, if_pos rfl]
theorem lf_count {p : Int} {a : Addr} {nb nl : Int} {tl : Addr} : (lf p a nb nl tl).lookup ("book_count" : Str) = some (.int nb) := by
  unfold lf
  rw [lookup_putF, if_neg (by decide +kernel), lookup_putF, if_neg (by decide +kernel), lookup_putF, if_pos rfl]
theorem lf_length {p : Int} {a : Addr} {nb nl : Int} {tl : Addr} : (lf p a nb nl tl).lookup ("book_length" : Str) = some (.int nl) := by
  unfold lf
  rw [lookup_putF, if_neg (by decide +kernel), lookup_putF, if_pos rfl]
theorem lf_letters {p : Int} {a : Addr} {nb nl : Int} {tl : Addr} : (lf p a nb nl tl).lookup ("letters" : Str) = some (.ref tl) := by
  unfold lf
  rw [lookup_putF, if_pos rfl]
theorem lf_no {p : Int} {a : Addr} {nb nl : Int} {tl : Addr} {m : Str} (h1 : ¬ m = "letters") (h2 : ¬ m = "book_length") (h3 : ¬ m = "book_count") (h4 : ¬ m = "books") (h5 : ¬ m = "p") : (lf p a nb nl tl).lookup m = none := by
  unfold lf
  rw [lookup_putF, if_neg h1, lookup_putF, if_neg h2, lookup_putF, if_neg h3, lookup_putF, if_neg h4, lookup_putF, if_neg h5]
  rfl
/-- a Library stands at x -/
def LibAt (L : Addr) (H : Hp) (x : Addr) (p : Int) (n : Nat) (bs : List (List Int)) : Prop := ∃ (dx a tl : Addr) (rs : List V), H x = some (.ins L dx (lf p a bs.length n tl)) ∧ H a = some (.tup rs) ∧ Paired (TB H) rs bs ∧ H tl = some (.tup (bs.flatten.map V.int))
theorem LibAt.same {L : Addr} {H H' : Hp} {x : Addr} {p : Int} {n : Nat} {bs : List (List Int)} (h : LibAt L H x p n bs) (s : Same H H') : LibAt L H' x p n bs := by
  obtain ⟨dx, a, tl, rs, h1, h2, h3, h4⟩ := h
  exact ⟨dx, a, tl, rs, s _ _ h1, s _ _ h2, paired_mono (fun _ _ h => h.same s) h3, s _ _ h4⟩
theorem SB.keep {H H' : Hp} {x : Addr} {L dx : Addr} {fs : List (Str × V)} {r : V} {b : List Int} (hx : H x = some (.ins L dx fs)) (h : SB H r b) (k : Keep x H H') : SB H' r b := by
  obtain ⟨c, e, h | h⟩ := h
  · exact ⟨c, e, .inl (k _ _ (ne_of h hx (by intro z; cases z)) h)⟩
  · exact ⟨c, e, .inr (k _ _ (ne_of h hx (by intro z; cases z)) h)⟩
theorem TB.keep {H H' : Hp} {x : Addr} {L dx : Addr} {fs : List (Str × V)} {r : V} {b : List Int} (hx : H x = some (.ins L dx fs)) (h : TB H r b) (k : Keep x H H') : TB H' r b := by
  obtain ⟨c, e, h⟩ := h
  exact ⟨c, e, k _ _ (ne_of h hx (by intro z; cases z)) h⟩
theorem keep_upd {x : Addr} {o : HO} {H : Hp} : Keep x H (upd H x o) := fun b u hb e => by rw [upd_ne hb]; exact e
section
variable {P : Program} {w : World} {K : PySem.W.Frag} {mg : Str → Option Value} {base : Heap} {L : Addr}
/-- what is asked of the class Library, at L -/
structure LibC (K : PySem.W.Frag) (mg : Str → Option Value) (L : Addr) : Prop where
  g : mg "Library" = some (.ref L)
  cl : Cls K L
  nP : NoAttr K L "p"
  nB : NoAttr K L "books"
  nC : NoAttr K L "book_count"
  nL : NoAttr K L "book_length"
  nT : NoAttr K L "letters"
  ha : PySem.W.findIn K (.ref L) "__class__" = some (some (.builtin "object.__class__"))
  hn : PySem.W.specialIn K (.builtin "object.__class__") "__get__" = some (some (.builtin "getset_descriptor.__get__"))
  htk : PySem.W.takesIn K (.builtin "object.__class__") = some true
  hm : PySem.W.mroIn K L (.type "object") = some true
  kS : PySem.W.kitOne K (.ref L) (.ref L) = some true
def rTupOf (K : PySem.W.Frag) : List V → Hp → VK → Prop := fun xs H Q => ∃ p ys, xs = [V.ref p] ∧ ((SqL K H p ys ∧ ∀ l, H l = none → Q (.ref l) (upd H l (.tup ys))) ∨ (SqT K H p ys ∧ Q (.ref p) H))
def spLI (K : PySem.W.Frag) (L : Addr) : Sp := fun vs H Q _ => ∃ (x dx a : Addr) (p : Int) (rs : List V) (bs : List (List Int)) (n : Nat), vs = [.ref x, .int p, .ref a] ∧ H x = some (.ins L dx []) ∧ p ∈ primes ∧ (H a = some (.lst rs) ∨ H a = some (.tup rs)) ∧ Paired (SB H) rs bs ∧ Good p n bs ∧
  ∀ H', LibAt L H' x p n bs → Keep x H H' → Q .non H'
theorem scLI : FnScope ["self", "p", "books", "book"] ["self", "p", "books"] (defScope sLI) := ⟨rfl, rfl, rfl, by decide +kernel, rfl, by decide +kernel, by decide +kernel⟩
theorem ok_LI {f f1 f2 f3 : Addr} {fd fd1 fd2 fd3 : FuncData} (F : FunD K "__init__" "Library.__init__" (defArgs sLI) (defBody sLI) (defScope sLI) [] [] f fd) (B : Blt3 mg) (C : LibC K mg L) (CF : Cal P w K mg base 3 "check_field" f1 fd1 ["p"] (spCheck K))
    (CB : Cal P w K mg base 5 "are_books" f2 fd2 ["p", "value"] (spAB K)) (CO : Cal P w K mg base 1 "letters_of" f3 fd3 ["books"] (spLO K)) : FnOk P w K mg base (L2.CX P w) 6 f fd ["self", "p", "books"] (spLI K L) := by
  refine F.ok scLI (fun vs H Q E h => ?_) (fun cdv A outer s H vs Q E hr h => ?_)
  · obtain ⟨x, dx, a, p, rs, bs, n, rfl, _⟩ := h
    rfl
  · obtain ⟨x, dx, a, p, rs, bs, n, rfl, hx0, hp, hx, hP, g, k⟩ := h
    have nd := scLI.nd
    have hr1 := hr.mono (show 1 ≤ 5 by decide)
    have hr3 := hr.mono (show 3 ≤ 5 by decide)
    refine ⟨_, (pss_cons (ps_expr (pe_cal CF hr3 (pa_cons (pv 1) pa_nil) passU))
      (pss_cons (ps_if (pt_not (pt_val (pe_cal CB hr (pa_cons (pv 1) (pa_cons (pv 2) pa_nil)) passU))) (pss_one ps_never) pss_nil)
      (pss_cons (ps_fld (pv 0) (pv 1) rfl)
      (pss_cons (ps_fld (pv 0) (pe_callTy call_tuple_of (by rfl) B.tuple (by decide +kernel) (pa_cons (pe_lc (te := tCB (rTupOf K) (tCons (tVar 3) tNil)) (own := [("book", 3)]) (g := gName 3) (by rfl) nd (pi_seq (pv 2)) (blkOk_by (own := [("book", 3)]) (N := ["self", "p", "books", "book"]) (sc := defScope sLI) (by decide +kernel)) (fun _ _ _ _ _ => pg_name (i := 3) nd rfl (Or.inl rfl)) (fun _ _ _ _ _ => pts_nil) (fun _ _ _ _ _ => (pe_callTy call_tuple_of (by rfl) B.tuple (by decide +kernel) (pa_cons (pv 3) pa_nil)))) pa_nil)) rfl)
      (pss_cons (ps_fld (pv 0) (pe_callB call_len_seq (by rfl) B.len (by decide +kernel) (pa_cons (pe_fld (pv 0) rfl) pa_nil)) rfl)
      (pss_cons (ps_fld (pv 0) (pe_callB call_len_seq (by rfl) B.len (by decide +kernel) (pa_cons (pe_ix ix_tup (pe_fld (pv 0) rfl) pe_int (fun _ _ => rfl)) pa_nil)) rfl)
      (pss_one (ps_fld (pv 0) (pe_cal CO hr1 (pa_cons (pe_fld (pv 0) rfl) pa_nil) passU) rfl)))))))), ?_⟩
    refine ⟨_, rfl, .int p, rfl, ty3_int p, fun _ => ⟨_, rfl, _, rfl, p, a, rs, bs, n, rfl, hx.imp SqL.of SqT.of, hP, g, fun H1 s1 => ⟨_, rfl, iteF ?_⟩⟩, fun e => by rw [mem_fld hp] at e; cases e⟩
    have hx1 := s1 _ _ hx0
    refine ⟨_, rfl, _, rfl, x, L, dx, [], rfl, hx1, C.cl, C.nP, (by show 0 < 1000; decide), ?_⟩
    generalize h2 : upd H1 x (.ins L dx (putF "p" (.int p) [])) = H2
    have k2 : Keep x H1 H2 := by rw [← h2]; exact keep_upd
    have e2 : H2 x = some (.ins L dx (putF "p" (.int p) [])) := by rw [← h2]; exact upd_same
    have nax : a ≠ x := by
      rcases hx with h | h
      · exact ne_of h hx0 (by intro z; cases z)
      · exact ne_of h hx0 (by intro z; cases z)
    have ha2 : H2 a = some (.lst rs) ∨ H2 a = some (.tup rs) := hx.imp (fun h => k2 _ _ nax (s1 _ _ h)) fun h => k2 _ _ nax (s1 _ _ h)
    have hP2 : Paired (SB H2) rs bs := paired_mono (fun _ _ h => (h.same s1).keep hx1 k2) hP
    have cnt := g.cnt
    have turn : ∀ (D : Addr), H2 D = none → ∀ (i : Nat) (y : V) (H3 : Hp), rs[i]? = some y → (Same H2 H3 ∧ ∃ ts, H3 D = some (.lst ts) ∧ Paired (TB H3) ts (bs.take i)) →
        (tCB (rTupOf K) (tCons (tVar 3) tNil)) [some (.ref x), some (.int p), some (.ref a), some y] H3
          fun z H4 => ∃ acc, H4 D = some (.lst acc) ∧ acc.length < sizeLine ∧ Same H2 (upd H4 D (.lst (acc ++ [z]))) ∧ ∃ ts, upd H4 D (.lst (acc ++ [z])) D = some (.lst ts) ∧ Paired (TB (upd H4 D (.lst (acc ++ [z])))) ts (bs.take (i + 1)) := by
      rintro D hD i y H3 hi ⟨s3, ts, eD, hts⟩
      obtain ⟨b, hb, sb⟩ := paired_at hP2 hi
      have hi2 : i < bs.length := (List.getElem?_eq_some_iff.mp hb).1
      have tl : ts.length < sizeLine := by
        rw [paired_len hts, List.length_take]
        exact small1000 (by omega)
      have et : bs.take (i + 1) = bs.take i ++ [b] := by rw [List.take_succ, hb]; rfl
      have tbD : ∀ {H' : Hp} {o : HO} {r : V} {b : List Int} {ts0 : List V}, H' D = some (.lst ts0) → TB H' r b → TB (upd H' D o) r b := fun hl h => by
        obtain ⟨c, e, h⟩ := h
        exact ⟨c, e, by rw [upd_ne (ne_of h hl (by intro z; cases z))]; exact h⟩
      obtain ⟨c, rfl, h | h⟩ := sb.same s3
      · refine ⟨_, rfl, c, _, rfl, .inl ⟨SqL.of h, fun l hl => ?_⟩⟩
        have eD4 : upd H3 l (.tup (b.map V.int)) D = some (.lst ts) := by rw [upd_ne (ne_of_none eD hl)]; exact eD
        refine ⟨_, eD4, tl, fun d o hd => ?_, ts ++ [.ref l], upd_same, ?_⟩
        · rw [upd_ne (ne_of_none hd hD), upd_ne (ne_of_none (s3 _ _ hd) hl)]
          exact s3 _ _ hd
        · rw [et]
          exact paired_app (paired_mono (fun _ _ q => tbD eD4 (q.same (same_new hl))) hts) (.cons (tbD eD4 ⟨l, rfl, upd_same⟩) .nil)
      · refine ⟨_, rfl, c, _, rfl, .inr ⟨SqT.of h, ?_⟩⟩
        refine ⟨_, eD, tl, fun d o hd => ?_, ts ++ [.ref c], upd_same, ?_⟩
        · rw [upd_ne (ne_of_none hd hD)]
          exact s3 _ _ hd
        · rw [et]
          exact paired_app (paired_mono (fun _ _ q => tbD eD q) hts) (.cons (tbD eD ⟨c, rfl, h⟩) .nil)
    have st0 : ∀ D, H2 D = none → Same H2 (upd H2 D (.lst [])) ∧ ∃ ts, upd H2 D (.lst []) D = some (.lst ts) ∧ Paired (TB (upd H2 D (.lst []))) ts (bs.take 0) := fun D hD => ⟨same_new hD, [], upd_same, .nil⟩
    have eln := paired_len hP
    refine ⟨_, rfl, a, rfl, ?_⟩
    rcases ha2 with h | h
    refine .inl ⟨⟨_, SqL.of h⟩, fun D hD => lc_list (K := K) (a := a) (xs := rs) (fun i H3 => Same H2 H3 ∧ ∃ ts, H3 D = some (.lst ts) ∧ Paired (TB H3) ts (bs.take i)) (st0 D hD) (fun i H3 _ z => SqL.of (z.1 _ _ h))
        (fun i y H3 hi z => ⟨rfl, turn D hD i y H3 hi z⟩) ?_⟩
    rotate_left
    refine .inr ⟨⟨_, SqT.of h⟩, fun D hD => lc_tup (K := K) (a := a) (xs := rs) (fun i H3 => Same H2 H3 ∧ ∃ ts, H3 D = some (.lst ts) ∧ Paired (TB H3) ts (bs.take i)) (st0 D hD) (fun i H3 _ z => SqT.of (z.1 _ _ h))
        (fun i y H3 hi z => ⟨rfl, turn D hD i y H3 hi z⟩) ?_⟩
    all_goals
      rintro H3 ⟨s3, ts, eD, hts⟩
      rw [eln, List.take_length] at hts
      refine ⟨D, ts, rfl, .inl ⟨SqL.of eD, fun T hT => ?_⟩⟩
      have e3 := s3 _ _ e2
      have eT4 : upd H3 T (.tup ts) T = some (.tup ts) := upd_same
      have e4 : upd H3 T (.tup ts) x = some (.ins L dx (putF "p" (.int p) [])) := same_new hT _ _ e3
      have hts4 : Paired (TB (upd H3 T (.tup ts))) ts bs := paired_mono (fun _ _ q => q.same (same_new hT)) hts
      have k4 : Keep x H2 (upd H3 T (.tup ts)) := Keep.of (s3.trans (same_new hT))
      generalize h4 : upd H3 T (.tup ts) = H4 at eT4 e4 hts4 k4 ⊢
      have nTx : T ≠ x := ne_of eT4 e4 (by intro z; cases z)
      refine ⟨_, rfl, x, L, dx, _, rfl, e4, C.cl, C.nB, (by show 1 < 1000; decide), ?_⟩
      have k5 : Keep x H4 (upd H4 x (.ins L dx (putF "books" (.ref T) (putF "p" (.int p) [])))) := keep_upd
      have e5 : upd H4 x (.ins L dx (putF "books" (.ref T) (putF "p" (.int p) []))) x = some (.ins L dx (putF "books" (.ref T) (putF "p" (.int p) []))) := upd_same
      generalize upd H4 x (.ins L dx (putF "books" (.ref T) (putF "p" (.int p) []))) = H5 at k5 e5 ⊢
      have eT5 := k5 _ _ nTx eT4
      have lb5 : (putF "books" (.ref T) (putF "p" (.int p) []) : List (Str × V)).lookup ("books" : Str) = some (.ref T) := by rw [lookup_putF, if_pos rfl]
      refine ⟨_, rfl, x, L, dx, _, _, rfl, e5, C.cl, C.nB, lb5, T, ts, rfl, .inr (SqT.of eT5), _, rfl, x, L, dx, _, rfl, e5, C.cl, C.nC, (by show 2 < 1000; decide), ?_⟩
      rw [paired_len hts4]
      have k6 : Keep x H5 (upd H5 x (.ins L dx (putF "book_count" (.int (bs.length : Int)) (putF "books" (.ref T) (putF "p" (.int p) []))))) := keep_upd
      have e6 : upd H5 x (.ins L dx (putF "book_count" (.int (bs.length : Int)) (putF "books" (.ref T) (putF "p" (.int p) [])))) x = some (.ins L dx (putF "book_count" (.int (bs.length : Int)) (putF "books" (.ref T) (putF "p" (.int p) [])))) := upd_same
      generalize upd H5 x (.ins L dx (putF "book_count" (.int (bs.length : Int)) (putF "books" (.ref T) (putF "p" (.int p) [])))) = H6 at k6 e6 ⊢
      have eT6 := k6 _ _ nTx eT5
      have lb6 : (putF "book_count" (.int (bs.length : Int)) (putF "books" (.ref T) (putF "p" (.int p) [])) : List (Str × V)).lookup ("books" : Str) = some (.ref T) := by rw [lookup_putF, if_neg (by decide +kernel), lb5]
      have k46 : Keep x H4 H6 := k5.trans k6
      have hts6 : Paired (TB H6) ts bs := paired_mono (fun _ _ q => q.keep e4 k46) hts4
      obtain ⟨b0, hb0⟩ : ∃ b0, bs[0]? = some b0 := by
        cases e : bs with
        | nil => exact absurd e g.ne
        | cons b0 _ => exact ⟨b0, rfl⟩
      obtain ⟨r0, hr0, c0, er0, ec0⟩ := paired_of hts6 hb0
      have g0 := g.all b0 (List.mem_of_getElem? hb0)
      refine ⟨_, rfl, x, L, dx, _, _, rfl, e6, C.cl, C.nB, lb6, T, ts, 0, r0, rfl, rfl, SqT.of eT6, atI_nat (j := 0) hr0, c0, _, by rw [er0], .inr (SqT.of ec0), _, rfl, x, L, dx, _, rfl, e6, C.cl, C.nL, (by show 3 < 1000; decide), ?_⟩
      rw [List.length_map, g0.1]
      have k7 : Keep x H6 (upd H6 x (.ins L dx (putF "book_length" (.int (n : Int)) (putF "book_count" (.int (bs.length : Int)) (putF "books" (.ref T) (putF "p" (.int p) [])))))) := keep_upd
      have e7 : upd H6 x (.ins L dx (putF "book_length" (.int (n : Int)) (putF "book_count" (.int (bs.length : Int)) (putF "books" (.ref T) (putF "p" (.int p) []))))) x = some (.ins L dx (putF "book_length" (.int (n : Int)) (putF "book_count" (.int (bs.length : Int)) (putF "books" (.ref T) (putF "p" (.int p) []))))) := upd_same
      generalize upd H6 x (.ins L dx (putF "book_length" (.int (n : Int)) (putF "book_count" (.int (bs.length : Int)) (putF "books" (.ref T) (putF "p" (.int p) []))))) = H7 at k7 e7 ⊢
      have eT7 := k7 _ _ nTx eT6
      have hts7 : Paired (TB H7) ts bs := paired_mono (fun _ _ q => q.keep e6 k7) hts6
      have lb7 : (putF "book_length" (.int (n : Int)) (putF "book_count" (.int (bs.length : Int)) (putF "books" (.ref T) (putF "p" (.int p) []))) : List (Str × V)).lookup ("books" : Str) = some (.ref T) := by rw [lookup_putF, if_neg (by decide +kernel), lb6]
      refine ⟨_, rfl, x, L, dx, _, _, rfl, e7, C.cl, C.nB, lb7, T, ts, bs, n, rfl, SqT.of eT7, hts7, cnt, fun b hb => (g.all b hb).1, g.le, fun tl H8 s8 etl => ?_⟩
      have e8 := s8 _ _ e7
      have ntx : tl ≠ x := ne_of etl e8 (by intro z; cases z)
      refine ⟨_, rfl, x, L, dx, _, rfl, e8, C.cl, C.nT, (by show 4 < 1000; decide), ?_⟩
      have k9 : Keep x H8 (upd H8 x (.ins L dx (lf p T bs.length n tl))) := keep_upd
      refine k _ ⟨dx, T, tl, ts, upd_same, ?_, ?_, ?_⟩ ?_
      · exact k9 _ _ nTx (s8 _ _ eT7)
      · exact paired_mono (fun _ _ q => (q.same s8).keep e8 k9) hts7
      · exact k9 _ _ ntx etl
      · exact (Keep.of s1).trans (k2.trans (k4.trans (k46.trans (k7.trans ((Keep.of s8).trans k9)))))
end
end WU

set_option maxRecDepth 100000
set_option maxHeartbeats 8000000
namespace WU
open PySem PySem.Spec PyProof.Rows L2
section
variable {P : Program} {w : World} {K : PySem.W.Frag} {mg : Str → Option Value} {base : Heap} {L : Addr}
abbrev sCh : Stmt := inClass (top 16) 3
abbrev sCB : Stmt := inClass (top 16) 5
theorem scCB : FnScope ["self", "k"] ["self", "k"] (defScope sCB) := ⟨rfl, rfl, rfl, by decide +kernel, rfl, by decide +kernel, by decide +kernel⟩
theorem scCh : FnScope ["self", "k", "book"] ["self", "k", "book"] (defScope sCh) := ⟨rfl, rfl, rfl, by decide +kernel, rfl, by decide +kernel, by decide +kernel⟩
def spCB (K : PySem.W.Frag) (L : Addr) : Sp := fun vs H Q E => ∃ (x : Addr) (v : V) (p : Int) (n : Nat) (bs : List (List Int)), vs = [.ref x, v] ∧ LibAt L H x p n bs ∧ Ty3 K H v ∧ (isBel bs.length v = true → Q .non H) ∧ (isBel bs.length v = false → Errs (He.ga K "InvalidNumber") "value" v H E)
theorem ok_CB {f f1 : Addr} {fd fd1 fdI : FuncData} (F : FunD K "_check_book" "Library._check_book" (defArgs sCB) (defBody sCB) (defScope sCB) [] [] f fd) (C : LibC K mg L) (CB : Cal P w K mg base 3 "is_below" f1 fd1 ["value", "limit"] (spIsBel K)) (T : Exc1 K mg "InvalidNumber" "value")
    (FI : FnOk P w K mg base (L2.CX P w) 1 (He.ma K (He.ga K "InvalidNumber") "__init__") fdI ["self", "value"] (spInit1 K (He.ga K "InvalidNumber") "value")) (bI : Binds K fdI ["self", "value"] []) :
    FnOk P w K mg base (L2.CX P w) 4 f fd ["self", "k"] (spCB K L) := by
  refine F.ok scCB (fun vs H Q E h => ?_) (fun cdv A outer s H vs Q E hr h => ?_)
  · obtain ⟨x, v, p, n, bs, rfl, _⟩ := h
    rfl
  · obtain ⟨x, v, p, n, bs, rfl, ⟨dx, a, tl, rs, h1, h2, h3, h4⟩, hv, kY, kN⟩ := h
    have hr2 := hr.mono (show 2 ≤ 3 by decide)
    refine ⟨_, (pss_one (ps_if (pt_not (pt_val (pe_cal CB hr (pa_cons (pv 1) (pa_cons (pe_fld (pv 0) rfl) pa_nil)) passU))) (pss_one (ps_raise1 rfl (takes_of rfl rfl rfl rfl) T FI bI hr2 (pa_cons (pv 1) pa_nil))) pss_nil)), ?_⟩
    refine ⟨_, rfl, _, rfl, x, L, dx, _, _, rfl, h1, C.cl, C.nC, lf_count, v, _, rfl, hv, _, rfl, ?_⟩
    cases e : isBel bs.length v with
    | true => exact iteF (kY e)
    | false => exact iteT ⟨_, rfl, v, rfl, kN e⟩
/-- where a new book is put in the place of book k -/
theorem set_cut (bs : List (List Int)) {k : Nat} (hk : k < bs.length) (b : List Int) : bs.take k ++ ([b] ++ bs.drop (k + 1)) = bs.set k b := by
  rw [List.set_eq_take_append_cons_drop, if_pos hk]
  rfl
theorem good_set {p : Int} {n : Nat} {bs : List (List Int)} (g : Good p n bs) {k : Nat} {b : List Int} (hb : Ltr p n b) : Good p n (bs.set k b) := by
  refine ⟨fun z => g.ne (by rw [List.set_eq_nil_iff] at z; exact z), g.pos, g.le, by rw [List.length_set]; exact g.cnt, fun c hc => ?_⟩
  rcases List.mem_or_eq_of_mem_set hc with h | h
  · exact g.all c h
  · rw [h]
    exact hb
theorem slA_is {H : Hp} {a : Addr} {xs : List V} {lo hi : Option Int} {Q : VK} (h : H a = some (.tup xs)) (k : ∀ r H', Same H H' → H' r = some (.tup (cutV xs lo hi)) → Q (.ref r) H') : rSlA K (.ref a) lo hi H Q := by
  refine ⟨a, xs, rfl, SqT.of h, fun hw => ?_, fun _ r hr => k r _ (same_new hr) upd_same⟩
  have e : cutV xs lo hi = xs := by
    unfold cutV
    rw [hw.1, hw.2, List.drop_zero, Nat.sub_zero, List.take_length]
  exact k a H (Same.refl H) (by rw [e]; exact h)
theorem cut_to {xs : List V} {k : Nat} (hk : k ≤ xs.length) : cutV xs none (some (k : Int)) = xs.take k := by
  unfold cutV
  rw [HT.sIx_none, HT.sIx_nat, List.drop_zero, Nat.sub_zero, Nat.min_eq_left hk]
theorem cut_from {xs : List V} {k : Nat} (hk : k ≤ xs.length) : cutV xs (some (k : Int)) none = xs.drop k := by
  unfold cutV
  rw [HT.sIx_none, HT.sIx_nat, Nat.min_eq_left hk]
  exact List.take_of_length_le (by rw [List.length_drop]; omega)
/-- library.changed(k, book) -/
def spCh (K : PySem.W.Frag) (L : Addr) : Sp := fun vs H Q E => ∃ (x : Addr) (kv bv : V) (bd : PyData) (p : Int) (n : Nat) (bs : List (List Int)), vs = [.ref x, kv, bv] ∧ LibAt L H x p n bs ∧ Ty3 K H kv ∧ Dp K H bv bd ∧ smallD bd ∧ (letsD p n bd = true → ∃ b, SB H bv b ∧ Ltr p n b) ∧ p ∈ primes ∧ Good p n bs ∧
  (isBel bs.length kv = false → Errs (He.ga K "InvalidNumber") "value" kv H E) ∧ (isBel bs.length kv = true → letsD p n bd = false → Errs (He.ga K "InvalidLibrary") "value" bv H E) ∧
  ∀ (k : Nat) (b : List Int), kv = .int k → k < bs.length → SB H bv b → Ltr p n b → ∀ y H', Same H H' → LibAt L H' y p n (bs.set k b) → Q (.ref y) H'
theorem errs_same {C : Addr} {f : Str} {v : V} {H H' : Hp} {E : XK} (h : Errs C f v H E) (s : Same H H') : Errs C f v H' E := fun d H2 s2 n hd => h d H2 (s.trans s2) (s.free n) hd
theorem ok_Ch {f f1 fC fL : Addr} {fd fd1 fdC fdL fdE : FuncData} (F : FunD K "changed" "Library.changed" (defArgs sCh) (defBody sCh) (defScope sCh) [] [] f fd) (C : LibC K mg L) (CL : Cal P w K mg base 4 "are_letters" f1 fd1 ["p", "count", "value"] (spLets K))
    (mC : Meth K L "_check_book" fC) (GC : FnOk P w K mg base (L2.CX P w) 4 fC fdC ["self", "k"] (spCB K L)) (bC : Binds K fdC ["self", "k"] []) (TL : Exc1 K mg "InvalidLibrary" "value")
    (FL : FnOk P w K mg base (L2.CX P w) 1 (He.ma K (He.ga K "InvalidLibrary") "__init__") fdE ["self", "value"] (spInit1 K (He.ga K "InvalidLibrary") "value")) (bL : Binds K fdE ["self", "value"] [])
    (MK : Mk K L fL) (GI : FnOk P w K mg base (L2.CX P w) 6 fL fdL ["self", "p", "books"] (spLI K L)) (bI2 : Binds K fdL ["self", "p", "books"] []) :
    FnOk P w K mg base (L2.CX P w) 8 f fd ["self", "k", "book"] (spCh K L) := by
  refine F.ok scCh (fun vs H Q E h => ?_) (fun cdv A outer s H vs Q E hr h => ?_)
  · obtain ⟨x, kv, bv, bd, p, n, bs, rfl, _⟩ := h
    rfl
  · obtain ⟨x, kv, bv, bd, p, n, bs, rfl, hL, hk, hb, hz, hsb, hp, g, kN, kL, kk⟩ := h
    have hr4 := hr.mono (show 4 ≤ 7 by decide)
    have hr2 := hr.mono (show 2 ≤ 7 by decide)
    refine ⟨_, (pss_cons (ps_expr (pe_meth (E := E) (pv 0) C.cl mC GC hr4 bC .nil (passes_call (takes_of rfl rfl rfl rfl) (fun _ _ _ _ h => h)) (pa_cons (pv 1) pa_nil)))
      (pss_cons (ps_if (pt_not (pt_val (pe_cal CL hr4 (pa_cons (pe_fld (pv 0) rfl) (pa_cons (pe_fld (pv 0) rfl) (pa_cons (pv 2) pa_nil))) passU))) (pss_one (ps_raise1 rfl (takes_of rfl rfl rfl rfl) TL FL bL hr2 (pa_cons (pv 2) pa_nil))) pss_nil)
      (pss_one (ps_ret (pe_make MK GI hr (by rfl) C.g bI2 .nil passU (pa_cons (pe_fld (pv 0) rfl) (pa_cons (pe_lst (StX.pa_star (pe_slice sl_tupA (pe_fld (pv 0) rfl) po_none (po_some (pv 1))) (pa_cons (pv 2) (StX.pa_star (pe_slice sl_tupA (pe_fld (pv 0) rfl) (po_some (pe_op op_add (pv 1) pe_int)) po_none) pa_nil)))) pa_nil))))))), ?_⟩
    obtain ⟨dx, a, tl, rs, h1, h2, h3, h4⟩ := id hL
    refine ⟨_, rfl, x, dx, _, rfl, h1, lf_no (by decide +kernel) (by decide +kernel) (by decide +kernel) (by decide +kernel) (by decide +kernel), _, rfl, x, kv, p, n, bs, rfl, hL, hk, fun eb => ?_, kN⟩
    refine ⟨_, rfl, x, L, dx, _, _, rfl, h1, C.cl, C.nP, lf_p, _, rfl, x, L, dx, _, _, rfl, h1, C.cl, C.nL, lf_length, _, rfl, p, n, bv, bd, rfl, hb, hz, fun H1 s1 => ⟨_, rfl, ?_⟩⟩
    cases el : letsD p n bd with
    | false => exact iteT ⟨_, rfl, bv, rfl, errs_same (kL eb el) s1⟩
    | true =>
      refine iteF ?_
      obtain ⟨k, b, rfl, hk0, hsb, hlt⟩ : ∃ (k : Nat) (b : List Int), kv = .int k ∧ k < bs.length ∧ SB H bv b ∧ Ltr p n b := by
        cases kv with
        | int i =>
          have eb' : (decide (0 ≤ i) && decide (i < (bs.length : Int))) = true := eb
          obtain ⟨e0, e1⟩ := and2 eb'
          have i0 := of_decide_eq_true e0
          have i1 := of_decide_eq_true e1
          obtain ⟨b, hb1, hb2⟩ := hsb el
          exact ⟨i.toNat, b, by rw [show ((i.toNat : Nat) : Int) = i by omega], by omega, hb1, hb2⟩
        | _ => cases eb
      have h11 := s1 _ _ h1
      refine ⟨_, rfl, x, L, dx, _, _, rfl, h11, C.cl, C.nP, lf_p, _, rfl, x, L, dx, _, _, rfl, h11, C.cl, C.nB, lf_books, ?_⟩
      have h21 := s1 _ _ h2
      have hP1 : Paired (SB H1) rs bs := paired_mono (fun _ _ q => (q.same s1).sb) h3
      have el2 := paired_len h3
      refine ⟨_, rfl, (k : Int), rfl, ?_⟩
      refine slA_is h21 fun r1 H2 s2 e1 => ?_
      rw [cut_to (by omega)] at e1
      have h22 := s2 _ _ h21
      refine ⟨r1, rs.take k, rfl, .inl (SqT.of e1), ?_⟩
      refine ⟨_, rfl, _, rfl, x, L, dx, _, _, rfl, s2 _ _ h11, C.cl, C.nB, lf_books, ?_⟩
      refine ⟨_, rfl, (k : Int), 1, rfl, rfl, _, rfl, ?_⟩
      dsimp only [tNoPart]
      refine slA_is h22 fun r2 H3 s3 e2 => ?_
      rw [show ((k : Int) + 1) = ((k + 1 : Nat) : Int) from rfl, cut_from (by omega)] at e2
      refine ⟨r2, rs.drop (k + 1), rfl, .inl (SqT.of e2), ?_⟩
      have s23 := s2.trans s3
      have hP3 : Paired (SB H3) rs bs := paired_mono (fun _ _ q => q.same s23) hP1
      have hI : Paired (SB H3) (rs.take k ++ ([bv] ++ rs.drop (k + 1))) (bs.set k b) := by
        rw [← set_cut bs hk0 b]
        exact paired_app (paired_take k hP3) (paired_app (.cons ((hsb.same s1).same s23) .nil) (paired_drop (k + 1) hP3))
      have g2 := good_set g (k := k) hlt
      have el3 := paired_len hI
      rw [List.length_set] at el3
      have eI : rs.take k ++ bv :: (rs.drop (k + 1) ++ []) = rs.take k ++ ([bv] ++ rs.drop (k + 1)) := by rw [List.append_nil]; rfl
      refine ⟨?_, fun Z hZ y dy hy hdy hne => ?_⟩
      · rw [eI]
        exact Nat.le_of_lt (small1000 (by have := g.cnt; omega))
      · rw [eI] at hy hdy ⊢
        have eZ : upd H3 Z (.lst (rs.take k ++ ([bv] ++ rs.drop (k + 1)))) Z = some (.lst (rs.take k ++ ([bv] ++ rs.drop (k + 1)))) := upd_same
        have s4 := same_new (o := .lst (rs.take k ++ ([bv] ++ rs.drop (k + 1)))) hZ
        generalize upd H3 Z (.lst (rs.take k ++ ([bv] ++ rs.drop (k + 1)))) = H4 at hy hdy eZ s4 ⊢
        have s5 : Same H4 (upd H4 dy (.own y)) := same_new hdy
        have ey5 : upd H4 dy (.own y) y = none := by rw [upd_ne (Ne.symm hne)]; exact hy
        generalize upd H4 dy (.own y) = H5 at s5 ey5 ⊢
        have s6 := same_new (o := .ins L dy []) ey5
        have e6 : upd H5 y (.ins L dy []) y = some (.ins L dy []) := upd_same
        generalize upd H5 y (.ins L dy []) = H6 at s6 e6 ⊢
        have s46 := s5.trans s6
        refine ⟨y, dy, Z, p, _, bs.set k b, n, rfl, e6, hp, .inl (s46 _ _ eZ), paired_mono (fun _ _ q => (q.same s4).same s46) hI, g2, fun H7 hL7 k7 => ⟨rfl, ?_⟩⟩
        have s0 : Same H H4 := ((s1.trans s23).trans s4)
        refine kk k b rfl hk0 hsb hlt y H7 (fun d o hd => ?_) hL7
        exact k7 _ _ (ne_of_none (s0 _ _ hd) hy) (s46 _ _ (s0 _ _ hd))
end
end WU

set_option maxRecDepth 100000
set_option maxHeartbeats 8000000
namespace WU
open PySem PySem.Spec PyProof.Rows L2
section
variable {P : Program} {w : World} {K : PySem.W.Frag} {mg : Str → Option Value} {base : Heap}
abbrev sBk : Stmt := top 28
/-- the scope of the comprehension that is returned as a tuple -/
def lcScopeOf : Stmt → Scope
  | .FunctionDef _ _ [.Return (some (.Call _ [.ListComp _ _ sc _] _ _)) _] _ _ _ _ _ _ _ => sc
  | st => defScope st
theorem scBk : FnScope ["hand", "p", "count", "size", "k", "j"] ["hand", "p", "count", "size"] (defScope sBk) := ⟨rfl, rfl, rfl, by decide +kernel, rfl, by decide +kernel, by decide +kernel⟩
/-- r is a tuple of the books bs, each a tuple -/
def BkAt (H : Hp) (r : Addr) (bs : List (List Int)) : Prop := ∃ rs, H r = some (.tup rs) ∧ Paired (TB H) rs bs
def spBk : Sp := fun vs H Q _ => ∃ (a d : Addr) (p : Int) (c n : Nat), vs = [.ref a, .int p, .int c, .int n] ∧ HandAt H a d ∧ 0 < p ∧ c ≤ 100 ∧ n ≤ 100 ∧
  ∀ r bs H', BkAt H' r bs → bs.length = c → (∀ b ∈ bs, Ltr p n b) → HandAt H' a d → Keep a H H' → Q (.ref r) H'
theorem ok_Bk {f fT : Addr} {fd fdT : FuncData} (F : FnS K "_law_books" sBk f fd) (B : Blt3 mg) (CT : Cal P w K mg base 1 "_law_take" fT fdT ["hand", "many"] spTake) :
    FnOk P w K mg base (L2.CX P w) 2 f fd ["hand", "p", "count", "size"] spBk := by
  refine F.ok scBk (fun vs H Q E h => ?_) (fun cdv A outer s H vs Q E hr h => ?_)
  · obtain ⟨a, d, p, c, n, rfl, _⟩ := h
    rfl
  · obtain ⟨a, d, p, c, n, rfl, hH, hp, hc, hn, kk⟩ := h
    have nd := scBk.nd
    refine ⟨_, (pss_one (ps_ret (pe_callTy call_tuple_of (by rfl) B.tuple (by decide +kernel) (pa_cons
      (pe_lc (te := tCB (rTupOf K) (tCons (tLc (iRng1 (tCons (tVar 3) tNil)) (gName 5) tYes (tCall spTake [] E0 (tCons (tVar 0) (tCons (tVar 1) tNil))) [5]) tNil)) (own := [("k", 4)]) (g := gName 4) (by rfl) nd (pi_range1 rfl B.range (pa_cons (pv 2) pa_nil)) (blkOk_by (own := [("k", 4)]) (N := ["hand", "p", "count", "size", "k", "j"]) (sc := defScope sBk) (by decide +kernel)) (fun _ _ _ _ _ => pg_name (i := 4) nd rfl (Or.inl rfl)) (fun _ _ _ _ _ => pts_nil)
        (fun _ _ _ _ _ => (pe_callTy call_tuple_of (by rfl) B.tuple (by decide +kernel) (pa_cons
          (pe_lc (te := tCall spTake [] E0 (tCons (tVar 0) (tCons (tVar 1) tNil))) (own := [("j", 5)]) (g := gName 5) (by rfl) nd (pi_range1 rfl B.range (pa_cons (pv 3) pa_nil)) (blkOk_by (own := [("j", 5)]) (N := ["hand", "p", "count", "size", "k", "j"]) (sc := relS (lcScopeOf sBk) (defScope sBk)) (by decide +kernel)) (fun _ _ _ _ _ => pg_name (i := 5) nd rfl (Or.inl rfl)) (fun _ _ _ _ _ => pts_nil)
            (fun _ _ _ _ _ => (pe_cal CT hr (pa_cons (pv 0) (pa_cons (pv 1) pa_nil)) passU))) pa_nil)))) pa_nil)))), ?_⟩
    refine ⟨_, rfl, (c : Int), rfl, by omega, by omega, fun D hD => lc_range (lo := 0) (n := c)
      (fun i H' => HandAt H' a d ∧ Keep a H H' ∧ ∃ ts bs, H' D = some (.lst ts) ∧ Paired (TB H') ts bs ∧ bs.length = i ∧ ∀ b ∈ bs, Ltr p n b)
      ⟨hH.new hD, Keep.new hD, [], [], upd_same, .nil, rfl, fun b hb => by cases hb⟩ ?_ ?_⟩
    · rintro i H1 hi ⟨hH1, k1, ts, bs, eD, hts, el, all⟩
      refine ⟨rfl, _, rfl, (n : Int), rfl, by omega, by omega, fun D2 hD2 => lc_range (lo := 0) (n := n)
        (fun j H' => HandAt H' a d ∧ Keep a H1 H' ∧ ∃ ls : List Int, H' D2 = some (.lst (ls.map V.int)) ∧ ls.length = j ∧ ∀ l ∈ ls, 0 ≤ l ∧ l < p)
        ⟨hH1.new hD2, Keep.new hD2, [], upd_same, rfl, fun l hl => by cases hl⟩ ?_ ?_⟩
      · rintro j H2 hj ⟨hH2, k2, ls, e2, l2, a2⟩
        refine ⟨rfl, _, rfl, _, rfl, a, d, p, rfl, hp, hH2, fun r H3 r0 r1 hH3 k3 => ?_⟩
        have na2 : a ≠ D2 := (hH1.ne hD2).1
        have nd2 : d ≠ D2 := (hH1.ne hD2).2
        refine ⟨_, k3 _ _ na2.symm e2, by rw [List.length_map]; exact small1000 (by omega), hH3.put na2 nd2, fun b o hb e => ?_, ls ++ [r], by rw [upd_same, List.map_append]; rfl, by rw [List.length_append, l2]; rfl, fun l hl => ?_⟩
        · rw [upd_ne (ne_of_none e hD2)]
          exact k3 _ _ hb (k2 _ _ hb e)
        · rcases List.mem_append.mp hl with h | h
          · exact a2 l h
          · rw [List.mem_singleton.mp h]
            exact ⟨r0, r1⟩
      · rintro H2 ⟨hH2, k2, ls, e2, l2, a2⟩
        refine ⟨D2, _, rfl, .inl ⟨SqL.of e2, fun l hl => ?_⟩⟩
        have naD : a ≠ D := (hH.ne hD).1
        have ndD : d ≠ D := (hH.ne hD).2
        have e3 : H2 D = some (.lst ts) := k2 _ _ naD.symm eD
        have e4 := same_new (o := .tup (ls.map V.int)) hl _ _ e3
        have h4 := hH2.new (o := .tup (ls.map V.int)) hl
        have k4 : Keep a H1 (upd H2 l (.tup (ls.map V.int))) := k2.trans (Keep.new hl)
        have el4 : upd H2 l (.tup (ls.map V.int)) l = some (.tup (ls.map V.int)) := upd_same
        generalize upd H2 l (.tup (ls.map V.int)) = H4 at e4 h4 k4 el4 ⊢
        have tbs : ∀ {b ts0}, TB H4 b ts0 → TB (upd H4 D (.lst (ts ++ [.ref l]))) b ts0 := fun {b ts0} h => by
          obtain ⟨c, e, h⟩ := h
          exact ⟨c, e, by rw [upd_ne (ne_of h e4 (by intro z; cases z))]; exact h⟩
        have tb1 : ∀ {b ts0}, TB H1 b ts0 → TB H4 b ts0 := fun {b ts0} h => by
          obtain ⟨c, e, h⟩ := h
          obtain ⟨ds, i0, z1, _⟩ := hH1
          exact ⟨c, e, k4 _ _ (ne_of h z1 (by intro z; cases z)) h⟩
        have lt : ts.length < sizeLine := by
          rw [paired_len hts]
          exact small1000 (by omega)
        refine ⟨ts, e4, lt, h4.put naD ndD, fun b o hb e => ?_, ts ++ [.ref l], bs ++ [ls], upd_same, paired_app (paired_mono (fun _ _ q => tbs (tb1 q)) hts) (.cons (tbs ⟨l, rfl, el4⟩) .nil), by rw [List.length_append, el]; rfl, fun b hb => ?_⟩
        · rw [upd_ne (ne_of_none e hD)]
          exact k4 _ _ hb (k1 _ _ hb e)
        · rcases List.mem_append.mp hb with h | h
          · exact all b h
          · rw [List.mem_singleton.mp h]
            exact ⟨l2, a2⟩
    · rintro H1 ⟨hH1, k1, ts, bs, eD, hts, el, all⟩
      refine ⟨D, _, rfl, .inl ⟨SqL.of eD, fun r hr => ?_⟩⟩
      exact kk r bs _ ⟨ts, upd_same, paired_mono (fun _ _ q => q.same (same_new hr)) hts⟩ el all (hH1.new hr) (k1.trans (Keep.new hr))
end
end WU

set_option maxRecDepth 100000
set_option maxHeartbeats 8000000
namespace WU
open PySem PySem.Spec PyProof.Rows L2
/-- u and v: the same number, or tuples alike (to the depth n) -/
def EqV : Nat → Hp → V → V → Prop
  | 0, _, u, v => ∃ i, u = .int i ∧ v = .int i
  | n + 1, H, u, v => (∃ i, u = .int i ∧ v = .int i) ∨ ∃ a b xs ys, u = .ref a ∧ v = .ref b ∧ H a = some (.tup xs) ∧ H b = some (.tup ys) ∧ Paired (EqV n H) xs ys ∧ ys.length ≤ 10000
section
variable {P : Program} {w : World} {K : PySem.W.Frag} {mg : Str → Option Value} {base : Heap}
abbrev sSm : Stmt := top 29
theorem scSm : FnScope ["found", "due", "at"] ["found", "due"] (defScope sSm) := ⟨rfl, rfl, rfl, by decide +kernel, rfl, by decide +kernel, by decide +kernel⟩
def spSmP (R : Hp → V → V → Prop) : Sp := fun vs H Q _ => ∃ u v, vs = [u, v] ∧ R H u v ∧ Q (.bl true) H
def spSm (n : Nat) : Sp := spSmP (EqV n)
/-- one step: where parts are told by R, numbers and tuples of such parts are -/
theorem ok_Sm1 {R : Hp → V → V → Prop} {k : Nat} {f : Addr} {fd : FuncData} (F : FnS K "_law_same" sSm f fd) (B : Blt3 mg) (C0 : Cal P w K mg base k "_law_same" f fd ["found", "due"] (spSmP R)) :
    FnOk P w K mg base (L2.CX P w) (k + 1) f fd ["found", "due"] (spSmP fun H u v => (∃ i, u = .int i ∧ v = .int i) ∨ ∃ a b xs ys, u = .ref a ∧ v = .ref b ∧ H a = some (.tup xs) ∧ H b = some (.tup ys) ∧ Paired (R H) xs ys ∧ ys.length ≤ 10000) := by
  refine F.ok scSm (fun vs H Q E h => ?_) (fun cdv A outer s H vs Q E hr h => ?_)
  · obtain ⟨u, v, rfl, _⟩ := h
    rfl
  · obtain ⟨u, v, rfl, he, kk⟩ := h
    have nd := scSm.nd
    refine ⟨_, (pss_cons (ps_if (pt_val (pe_callB call_isi (by rfl) B.isi (by decide +kernel) (pa_cons (pv 1) (pa_cons (pe_bltn (v := .ty "tuple") (by rfl) B.tuple (by decide +kernel) rfl) pa_nil)))) (pss_cons (ps_if (PW.pt (pw_or (pt_not (pt_val (pe_callB call_isi (by rfl) B.isi (by decide +kernel) (pa_cons (pv 0) (pa_cons (pe_bltn (v := .ty "tuple") (by rfl) B.tuple (by decide +kernel) rfl) pa_nil))))) (pw_or1 (pt_cmpR op_ne (pe_callB call_len_seq (by rfl) B.len (by decide +kernel) (pa_cons (pv 0) pa_nil)) (pe_callB call_len_seq (by rfl) B.len (by decide +kernel) (pa_cons (pv 1) pa_nil)) (nomark _))))) (pss_one (ps_ret pe_bl)) pss_nil)
      (pss_cons (ps_for (passes_of rfl) rfl (pi_range1 rfl B.range (pa_cons (pe_callB call_len_seq (by rfl) B.len (by decide +kernel) (pa_cons (pv 1) pa_nil)) pa_nil)) (pg_name (i := 2) nd rfl (Or.inl rfl)) (pss_one (ps_if (pt_not (pt_val (pe_cal C0 hr (pa_cons (pe_ix ix_tup (pv 0) (pv 2) (fun _ _ => rfl)) (pa_cons (pe_ix ix_tup (pv 1) (pv 2) (fun _ _ => rfl)) pa_nil)) passU))) (pss_one (ps_ret pe_bl)) pss_nil)))
      (pss_one (ps_ret pe_bl)))) pss_nil)
      (pss_one (ps_ret (pe_and (pe_callB call_isi (by rfl) B.isi (by decide +kernel) (pa_cons (pv 0) (pa_cons (pe_bltn (v := .ty "int") (by rfl) B.int (by decide +kernel) rfl) pa_nil))) (pe_and (pe_not (pe_callB call_isi (by rfl) B.isi (by decide +kernel) (pa_cons (pv 0) (pa_cons (pe_bltn (v := .ty "bool") (by rfl) B.bool (by decide +kernel) rfl) pa_nil)))) (pe_one (pe_cmpR op_eq (pv 0) (pv 1) (nomark _)))))))), ?_⟩
    rcases he with ⟨i, rfl, rfl⟩ | ⟨a, b, xs, ys, rfl, rfl, ha, hb, hP, hl⟩
    · refine ⟨_, rfl, _, _, _, _, _, rfl, .ty "tuple", .base (.int i), kit_ty (show kitB "int" "tuple" = some false by decide +kernel), _, rfl, iteF ?_⟩
      refine ⟨_, rfl, _, _, _, _, _, rfl, .ty "int", .base (.int i), kit_ty (show kitB "int" "int" = some true by decide +kernel), _, rfl, iteT ?_⟩
      refine ⟨_, rfl, _, _, _, _, _, rfl, .ty "bool", .base (.int i), kit_ty (show kitB "int" "bool" = some false by decide +kernel), _, rfl, _, rfl, iteT ⟨_, rfl, _, rfl, rfl, ?_⟩⟩
      rw [decide_eq_true rfl]
      exact kk
    · have el := paired_len hP
      refine ⟨_, rfl, _, _, _, _, _, rfl, .ty "tuple", .base (.tup hb), kit_ty (show kitB "tuple" "tuple" = some true by decide +kernel), _, rfl, iteT ?_⟩
      refine ⟨_, rfl, _, _, _, _, _, rfl, .ty "tuple", .base (.tup ha), kit_ty (show kitB "tuple" "tuple" = some true by decide +kernel), _, rfl, iteF ?_⟩
      refine ⟨_, rfl, a, _, rfl, .inr (SqT.of ha), _, rfl, b, _, rfl, .inr (SqT.of hb), rfl, _, rfl, iteFb (by rw [decide_eq_true (congrArg (fun n : Nat => V.int n) el)]; rfl) ?_⟩
      refine ⟨_, rfl, b, _, rfl, .inr (SqT.of hb), (ys.length : Int), rfl, by omega, by omega, for_range (lo := 0) (n := ys.length) (fun i σ H' => ∃ x, σ = [some (.ref a), some (.ref b), x] ∧ H' = H) ⟨none, rfl, rfl⟩ ?_ ?_⟩
      · rintro i σ H' hi ⟨x, rfl, rfl⟩
        have hy : ys[i]? = some ys[i] := List.getElem?_eq_getElem hi
        obtain ⟨u, hx, r⟩ := paired_of hP hy
        rw [show ((0 : Int) + (i : Int)) = ((i : Nat) : Int) from Int.zero_add _]
        refine ⟨_, rfl, _, rfl, a, xs, (i : Int), u, rfl, rfl, SqT.of ha, atI_nat hx, _, rfl, _, rfl, b, ys, (i : Int), _, rfl, rfl, SqT.of hb, atI_nat hy, u, _, rfl, r, _, rfl, iteF ⟨_, rfl, rfl⟩⟩
      · rintro σ H' ⟨x, rfl, rfl⟩
        exact kk
/-- whole values, to the depth n -/
theorem ok_Sm {f : Addr} {fd : FuncData} (F : FnS K "_law_same" sSm f fd) (B : Blt3 mg) (g : mg "_law_same" = some (.ref f)) (hb : L2.Binds K fd ["found", "due"] []) : ∀ n, FnOk P w K mg base (L2.CX P w) (n + 1) f fd ["found", "due"] (spSm n)
  | 0 => by
    have e : FnOk P w K mg base (L2.CX P w) 0 f fd ["found", "due"] (spSmP fun _ _ _ => False) := ⟨fun vs H Q E ⟨_, _, _, z, _⟩ => z.elim, fun A outer s H args us vs Q E _ _ _ _ ⟨_, _, _, z, _⟩ => z.elim⟩
    exact (ok_Sm1 F B ⟨g, F.kp, hb, e⟩).imp fun vs H Q E ⟨u, v, e, h, q⟩ => ⟨u, v, e, .inl h, q⟩
  | n + 1 => ok_Sm1 F B ⟨g, F.kp, hb, ok_Sm F B g hb n⟩
end
end WU

set_option maxRecDepth 100000
set_option maxHeartbeats 8000000
namespace WU
open PySem PySem.Spec PyProof.Rows L2
theorem catA_is {K : PySem.W.Frag} {H : Hp} {a b : Addr} {xs ys : List V} {Q : VK} (ha : H a = some (.tup xs)) (hb : H b = some (.tup ys)) (hz : xs.length + ys.length ≤ sizeLine) (k : ∀ r H', Same H H' → H' r = some (.tup (xs ++ ys)) → Q (.ref r) H') : rCatA K (.ref a) (.ref b) H Q := by
  refine ⟨a, b, xs, ys, rfl, rfl, SqT.of ha, SqT.of hb, hz, fun e => ?_, fun _ e => ?_, fun _ _ r hr => k r _ (same_new hr) upd_same⟩
  · subst e
    exact k b H (Same.refl H) hb
  · subst e
    exact k a H (Same.refl H) (by rw [List.append_nil]; exact ha)
/-- a tuple of numbers is alike to one of the same numbers -/
theorem eq_ints {n : Nat} {H : Hp} : ∀ b : List Int, Paired (EqV n H) (b.map V.int) (b.map V.int)
  | [] => .nil
  | i :: b => by
    refine .cons ?_ (eq_ints b)
    cases n with
    | zero => exact ⟨i, rfl, rfl⟩
    | succ n => exact .inl ⟨i, rfl, rfl⟩
theorem eq_row {n : Nat} {H : Hp} {u v : V} {b : List Int} (hu : TB H u b) (hv : TB H v b) (hl : b.length ≤ 10000) : EqV (n + 1) H u v := by
  obtain ⟨c, e, h⟩ := hu
  obtain ⟨d, f, g⟩ := hv
  exact .inr ⟨c, d, _, _, e, f, h, g, eq_ints b, by rw [List.length_map]; exact hl⟩
theorem eq_rows {n : Nat} {H : Hp} : ∀ {us vs : List V} {bs : List (List Int)}, Paired (TB H) us bs → Paired (TB H) vs bs → (∀ b ∈ bs, b.length ≤ 10000) → Paired (EqV (n + 1) H) us vs
  | _, _, _, .nil, .nil, _ => .nil
  | _, _, _, .cons h t, .cons h2 t2, hl => .cons (eq_row h h2 (hl _ (List.mem_cons_self ..))) (eq_rows t t2 fun b hb => hl b (List.mem_cons_of_mem _ hb))
section
variable {P : Program} {w : World} {K : PySem.W.Frag} {mg : Str → Option Value} {base : Heap} {L : Addr}
abbrev sIs : Stmt := top 30
theorem scIs : FnScope ["library", "p", "books", "letters", "book", "sizes"] ["library", "p", "books"] (defScope sIs) := ⟨rfl, rfl, rfl, by decide +kernel, rfl, by decide +kernel, by decide +kernel⟩
def spIs (L : Addr) : Sp := fun vs H Q _ => ∃ (x b : Addr) (p : Int) (n : Nat) (bs : List (List Int)), vs = [.ref x, .int p, .ref b] ∧ LibAt L H x p n bs ∧ Good p n bs ∧ BkAt H b bs ∧ ∀ H', Same H H' → Q (.bl true) H'
theorem ok_Is {f fS : Addr} {fd fdS : FuncData} (F : FnS K "_law_is_library" sIs f fd) (B : Blt3 mg) (C : LibC K mg L) (CS : Cal P w K mg base 3 "_law_same" fS fdS ["found", "due"] (spSm 2)) : FnOk P w K mg base (L2.CX P w) 4 f fd ["library", "p", "books"] (spIs L) := by
  refine F.ok scIs (fun vs H Q E h => ?_) (fun cdv A outer s H vs Q E hr h => ?_)
  · obtain ⟨x, b, p, n, bs, rfl, _⟩ := h
    rfl
  · obtain ⟨x, b, p, n, bs, rfl, ⟨dx, a, tl, rs, h1, h2, h3, h4⟩, g, ⟨ts, hb, hP⟩, kk⟩ := h
    have nd := scIs.nd
    refine ⟨_, (pss_cons (ps_if (PW.pt (pw_or (pt_not (pt_val (pe_callB call_isi (by rfl) B.isi (by decide +kernel) (pa_cons (pv 0) (pa_cons (pe_glob (v := .ref L) rfl C.g rfl) pa_nil))))) (pw_or (pt_not (pt_val (pe_cal CS hr (pa_cons (pe_fld (pv 0) rfl) (pa_cons (pv 1) pa_nil)) passU))) (pw_or1 (pt_not (pt_val (pe_cal CS hr (pa_cons (pe_fld (pv 0) rfl) (pa_cons (pv 2) pa_nil)) passU))))))) (pss_one (ps_ret pe_bl)) pss_nil)
      (pss_cons (ps_set (i := 3) nd rfl (Or.inl rfl) (pe_tup pa_nil))
      (pss_cons (ps_for (passes_of rfl) rfl (pi_tup (pv 2)) (pg_name (i := 4) nd rfl (Or.inl rfl)) (pss_one (ps_set (i := 3) nd rfl (Or.inl rfl) (pe_op op_catA (pv 3) (pv 4)))))
      (pss_cons (ps_set (i := 5) nd rfl (Or.inl rfl) (pe_tup (pa_cons (pe_fld (pv 0) rfl) (pa_cons (pe_fld (pv 0) rfl) pa_nil))))
      (pss_one (ps_ret (pe_and (pe_cal CS hr (pa_cons (pv 5) (pa_cons (pe_tup (pa_cons (pe_callB call_len_seq (by rfl) B.len (by decide +kernel) (pa_cons (pv 2) pa_nil)) (pa_cons (pe_callB call_len_seq (by rfl) B.len (by decide +kernel) (pa_cons (pe_ix ix_tup (pv 2) pe_int (fun _ _ => rfl)) pa_nil)) pa_nil))) pa_nil)) passU) (pe_one (pe_cal CS hr (pa_cons (pe_fld (pv 0) rfl) (pa_cons (pv 3) pa_nil)) passU))))))))), ?_⟩
    have sm : ∀ c ∈ bs, c.length ≤ 10000 := fun c hc => by rw [(g.all c hc).1]; have := g.le; omega
    have ebs := paired_len hP
    refine ⟨_, rfl, _, _, _, _, _, rfl, .own L, .base (.ins h1 C.cl C.ha C.hn C.htk C.hm), C.kS, _, rfl, iteF ?_⟩
    refine ⟨_, rfl, x, L, dx, _, _, rfl, h1, C.cl, C.nP, lf_p, _, rfl, _, _, rfl, .inl ⟨p, rfl, rfl⟩, _, rfl, iteF ?_⟩
    refine ⟨_, rfl, x, L, dx, _, _, rfl, h1, C.cl, C.nB, lf_books, _, rfl, _, _, rfl, .inr ⟨a, b, rs, ts, rfl, rfl, h2, hb, eq_rows h3 hP sm, by have := g.cnt; omega⟩, _, rfl, iteF ?_⟩
    refine ⟨(by show 0 ≤ sizeLine; decide), fun t0 ht0 => ?_⟩
    have s0 := same_new (o := .tup []) ht0
    have e0 : upd H t0 (.tup []) t0 = some (.tup []) := upd_same
    generalize upd H t0 (.tup []) = H0 at s0 e0 ⊢
    refine ⟨_, rfl, b, rfl, ⟨_, SqT.of (s0 _ _ hb)⟩, for_tup (K := K) (a := b) (xs := ts) (fun i σ H' => ∃ t y, σ = [some (.ref x), some (.int p), some (.ref b), some (.ref t), y, none] ∧ Same H H' ∧ H' t = some (.tup ((bs.take i).flatten.map V.int))) ⟨t0, none, rfl, s0, e0⟩ ?_ ?_ ?_⟩
    · rintro i σ H' hi ⟨t, y, rfl, s1, e1⟩
      exact SqT.of (s1 _ _ hb)
    · rintro i y σ H' hi ⟨t, y0, rfl, s1, e1⟩
      obtain ⟨c, hc, d, rfl, ed⟩ := paired_at hP hi
      have hcl : c.length = n := (g.all c (List.mem_of_getElem? hc)).1
      have fl : ((bs.take i).flatten).length ≤ 100 * 100 := by
        rw [flat_len (n := n) fun d hd => (g.all d (List.mem_of_mem_take hd)).1, List.length_take]
        exact Nat.mul_le_mul (Nat.le_trans (Nat.min_le_right _ _) g.cnt) g.le
      refine ⟨_, rfl, _, rfl, catA_is e1 (s1 _ _ ed) ?_ fun r H2 s2 e2 => ⟨r, _, rfl, s1.trans s2, ?_⟩⟩
      · rw [List.length_map, List.length_map, hcl]
        have := g.le
        exact Nat.le_trans (Nat.add_le_add fl this) (by decide)
      · rw [e2, List.take_succ, hc, ← List.map_append]
        simp
    · rintro σ H1 ⟨t, y, rfl, s1, e1⟩
      rw [ebs, List.take_length] at e1
      refine ⟨_, rfl, x, L, dx, _, _, rfl, s1 _ _ h1, C.cl, C.nC, lf_count, _, rfl, x, L, dx, _, _, rfl, s1 _ _ h1, C.cl, C.nL, lf_length, (by show 2 ≤ sizeLine; decide), fun z hz => ?_⟩
      have s2 := same_new (o := .tup [.int bs.length, .int n]) hz
      have ez : upd H1 z (.tup [.int bs.length, .int n]) z = some (.tup [.int bs.length, .int n]) := upd_same
      generalize upd H1 z (.tup [.int bs.length, .int n]) = H2 at s2 ez ⊢
      have s12 := s1.trans s2
      obtain ⟨b0, hb0⟩ : ∃ b0, bs[0]? = some b0 := by
        cases e : bs with
        | nil => exact absurd e g.ne
        | cons b0 _ => exact ⟨b0, rfl⟩
      obtain ⟨r0, hr0, c0, rfl, ec0⟩ := paired_of hP hb0
      have l0 : b0.length = n := (g.all b0 (List.mem_of_getElem? hb0)).1
      refine ⟨_, rfl, _, rfl, b, ts, rfl, .inr (SqT.of (s12 _ _ hb)), _, rfl, b, ts, 0, _, rfl, rfl, SqT.of (s12 _ _ hb), atI_nat (j := 0) hr0, c0, _, rfl, .inr (SqT.of (s12 _ _ ec0)), (by show 2 ≤ sizeLine; decide), fun z2 hz2 => ?_⟩
      rw [List.length_map, l0, ebs]
      have s3 := same_new (o := .tup [.int bs.length, .int n]) hz2
      have ez2 : upd H2 z2 (.tup [.int bs.length, .int n]) z2 = some (.tup [.int bs.length, .int n]) := upd_same
      generalize upd H2 z2 (.tup [.int bs.length, .int n]) = H3 at s3 ez2 ⊢
      have s13 := s12.trans s3
      refine ⟨_, _, rfl, .inr ⟨z, z2, _, _, rfl, rfl, s3 _ _ ez, ez2, .cons (.inl ⟨_, rfl, rfl⟩) (.cons (.inl ⟨_, rfl, rfl⟩) .nil), (by show 2 ≤ 10000; decide)⟩, _, rfl, iteT ?_⟩
      refine ⟨_, rfl, x, L, dx, _, _, rfl, s13 _ _ h1, C.cl, C.nT, lf_letters, _, rfl, _, _, rfl, .inr ⟨tl, t, _, _, rfl, rfl, s13 _ _ h4, s3 _ _ (s2 _ _ e1), eq_ints _, ?_⟩, kk _ s13⟩
      rw [List.length_map, flat_len (n := n) fun d hd => (g.all d hd).1]
      exact Nat.le_trans (Nat.mul_le_mul g.cnt g.le) (by decide)
end
end WU

set_option maxRecDepth 100000
set_option maxHeartbeats 8000000
namespace WU
open PySem PySem.Spec PyProof.Rows L2
def leafV : V → Bool
  | .int _ => true
  | .bl _ => true
  | .non => true
  | .str z => PyData.strOk z
  | _ => false
/-- an odd value of lists and tuples that are new since B, to the depth n -/
def OD (B : Hp) : Nat → Hp → V → Prop
  | 0, _, v => leafV v = true
  | n + 1, H, v => leafV v = true ∨ ∃ p xs, v = .ref p ∧ B p = none ∧ (H p = some (.lst xs) ∨ H p = some (.tup xs)) ∧ xs.length ≤ 10 ∧ ∀ x ∈ xs, OD B n H x
theorem OD.leaf {B : Hp} {n : Nat} {H : Hp} {v : V} (h : leafV v = true) : OD B n H v := by
  cases n with
  | zero => exact h
  | succ n => exact .inl h
theorem OD.up {B : Hp} : ∀ {n : Nat} {H : Hp} {v : V}, OD B n H v → OD B (n + 1) H v
  | 0, _, _, h => .inl h
  | n + 1, _, _, h => by
    rcases h with h | ⟨p, xs, e, b, h, l, a⟩
    · exact .inl h
    · exact .inr ⟨p, xs, e, b, h, l, fun x hx => (a x hx).up⟩
theorem OD.frame {B : Hp} : ∀ {n : Nat} {H H' : Hp} {v : V}, OD B n H v → (∀ b o, B b = none → H b = some o → H' b = some o) → OD B n H' v
  | 0, _, _, _, h, _ => h
  | n + 1, _, _, _, h, k => by
    rcases h with h | ⟨p, xs, e, b, h, l, a⟩
    · exact .inl h
    · exact .inr ⟨p, xs, e, b, h.imp (k _ _ b) (k _ _ b), l, fun x hx => (a x hx).frame k⟩
theorem OD.base {B B' : Hp} (i : ∀ b, B b = none → B' b = none) : ∀ {n : Nat} {H : Hp} {v : V}, OD B n H v → OD B' n H v
  | 0, _, _, h => h
  | n + 1, _, _, h => by
    rcases h with h | ⟨p, xs, e, b, h, l, a⟩
    · exact .inl h
    · exact .inr ⟨p, xs, e, i _ b, h, l, fun x hx => (a x hx).base i⟩
theorem OD.imp2 {B : Hp} {n : Nat} {H : Hp} {v : V} (h : OD B n H v) : OD B n H v := h
/-! ### values and their data -/
def leafVD (v : V) (d : PyData) : Prop := (∃ i, v = .int i ∧ d = .int i) ∨ (∃ b, v = .bl b ∧ d = .bool b) ∨ (v = .non ∧ d = .none) ∨ ∃ z, v = .str z ∧ d = .str z ∧ PyData.strOk z = true
/-- v holds the data d, its lists new since B -/
def OV (B : Hp) : Nat → Hp → V → PyData → Prop
  | 0, _, v, d => leafVD v d
  | n + 1, H, v, d => leafVD v d ∨ ∃ p xs ds, v = .ref p ∧ ((B p = none ∧ H p = some (.lst xs) ∧ d = .list ds) ∨ (H p = some (.tup xs) ∧ d = .tuple ds)) ∧ xs.length ≤ 200 ∧ Paired (OV B n H) xs ds
theorem paired_ex {α β : Type} {F : α → β → Prop} : ∀ {l : List α}, (∀ x ∈ l, ∃ y, F x y) → ∃ m, Paired F l m
  | [], _ => ⟨[], .nil⟩
  | x :: l, h => by
    obtain ⟨y, hy⟩ := h x (List.mem_cons_self ..)
    obtain ⟨m, hm⟩ := paired_ex (l := l) fun z hz => h z (List.mem_cons_of_mem _ hz)
    exact ⟨y :: m, .cons hy hm⟩
theorem leaf_vd : ∀ {v : V}, leafV v = true → ∃ d, leafVD v d
  | .int i, _ => ⟨_, .inl ⟨i, rfl, rfl⟩⟩
  | .bl b, _ => ⟨_, .inr (.inl ⟨b, rfl, rfl⟩)⟩
  | .non, _ => ⟨_, .inr (.inr (.inl ⟨rfl, rfl⟩))⟩
  | .str z, h => ⟨_, .inr (.inr (.inr ⟨z, rfl, rfl, h⟩))⟩
theorem OD.ov {B : Hp} : ∀ {n : Nat} {H : Hp} {v : V}, OD B n H v → ∃ d, OV B n H v d
  | 0, _, _, h => leaf_vd h
  | n + 1, H, _, h => by
    rcases h with h | ⟨p, xs, e, b, h, l, a⟩
    · obtain ⟨d, hd⟩ := leaf_vd h
      exact ⟨d, .inl hd⟩
    · obtain ⟨ds, hds⟩ := paired_ex fun x hx => (a x hx).ov
      rcases h with h | h
      · exact ⟨.list ds, .inr ⟨p, xs, ds, e, .inl ⟨b, h, rfl⟩, Nat.le_trans l (by decide), hds⟩⟩
      · exact ⟨.tuple ds, .inr ⟨p, xs, ds, e, .inr ⟨h, rfl⟩, Nat.le_trans l (by decide), hds⟩⟩
theorem OV.up {B : Hp} : ∀ {n : Nat} {H : Hp} {v : V} {d : PyData}, OV B n H v d → OV B (n + 1) H v d
  | 0, _, _, _, h => .inl h
  | n + 1, _, _, _, h => by
    rcases h with h | ⟨p, xs, ds, e, h, l, a⟩
    · exact .inl h
    · exact .inr ⟨p, xs, ds, e, h, l, paired_mono (fun _ _ q => q.up) a⟩
/-- lists that are new since B, and tuples, are kept -/
structure KL (B H H' : Hp) : Prop where
  l : ∀ b xs, B b = none → H b = some (.lst xs) → H' b = some (.lst xs)
  t : ∀ b xs, H b = some (.tup xs) → H' b = some (.tup xs)
theorem KL.of {B H H' : Hp} (s : Same H H') : KL B H H' := ⟨fun b xs _ e => s _ _ e, fun b xs e => s _ _ e⟩
theorem KL.keep {B H H' : Hp} {q d : Addr} (k : Keep q H H') (hq : B q ≠ none) (hH : HandAt H q d) : KL B H H' := by
  obtain ⟨ds, i, g, _⟩ := hH
  exact ⟨fun b xs nb e => k b _ (fun z => by rw [z] at nb; exact hq nb) e, fun b xs e => k b _ (ne_of e g (by intro z; cases z)) e⟩
theorem KL.trans {B H H1 H2 : Hp} (x : KL B H H1) (y : KL B H1 H2) : KL B H H2 := ⟨fun b xs n e => y.l b xs n (x.l b xs n e), fun b xs e => y.t b xs (x.t b xs e)⟩
theorem OV.kl {B : Hp} : ∀ {n : Nat} {H H' : Hp} {v : V} {d : PyData}, OV B n H v d → KL B H H' → OV B n H' v d
  | 0, _, _, _, _, h, _ => h
  | n + 1, _, _, _, _, h, k => by
    rcases h with h | ⟨p, xs, ds, e, h, l, a⟩
    · exact .inl h
    · refine .inr ⟨p, xs, ds, e, ?_, l, paired_mono (fun _ _ q => q.kl k) a⟩
      rcases h with ⟨b, h, e2⟩ | ⟨h, e2⟩
      · exact .inl ⟨b, k.l _ _ b h, e2⟩
      · exact .inr ⟨k.t _ _ h, e2⟩
theorem OV.base {B B' : Hp} (i : ∀ b, B b = none → B' b = none) : ∀ {n : Nat} {H : Hp} {v : V} {d : PyData}, OV B n H v d → OV B' n H v d
  | 0, _, _, _, h => h
  | n + 1, _, _, _, h => by
    rcases h with h | ⟨p, xs, ds, e, h, l, a⟩
    · exact .inl h
    · exact .inr ⟨p, xs, ds, e, h.imp (fun ⟨b, h⟩ => ⟨i _ b, h⟩) id, l, paired_mono (fun _ _ q => q.base i) a⟩
def SlfD (n : Nat) (d : PyData) : Prop := d.canLay0 = true ∧ d.depth ≤ n ∧ PyData.eqv d d = true
theorem leaf_slf {v : V} {d : PyData} (h : leafVD v d) : SlfD 0 d := by
  rcases h with ⟨i, rfl, rfl⟩ | ⟨b, rfl, rfl⟩ | ⟨rfl, rfl⟩ | ⟨z, rfl, rfl, h⟩
  · exact ⟨rfl, Nat.le_refl _, beq_self_eq_true i⟩
  · exact ⟨rfl, Nat.le_refl _, beq_self_eq_true b⟩
  · exact ⟨rfl, Nat.le_refl _, rfl⟩
  · exact ⟨h, Nat.le_refl _, beq_self_eq_true z⟩
theorem leaf_dp {K : PySem.W.Frag} {H : Hp} {v : V} {d : PyData} (h : leafVD v d) : Dp K H v d := by
  rcases h with ⟨i, rfl, rfl⟩ | ⟨b, rfl, rfl⟩ | ⟨rfl, rfl⟩ | ⟨z, rfl, rfl, h⟩
  · exact .int i
  · exact .bl b
  · exact .non
  · exact .str z
theorem SlfD.up {n m : Nat} {d : PyData} (h : SlfD n d) (l : n ≤ m) : SlfD m d := ⟨h.1, Nat.le_trans h.2.1 l, h.2.2⟩
theorem OV.dp (K : PySem.W.Frag) {B : Hp} : ∀ {n : Nat} {H : Hp} {v : V} {d : PyData}, OV B n H v d → Dp K H v d ∧ SlfD n d
  | 0, _, _, _, h => ⟨leaf_dp h, leaf_slf h⟩
  | n + 1, H, _, _, h => by
    rcases h with h | ⟨p, xs, ds, rfl, h, l, a⟩
    · exact ⟨leaf_dp h, (leaf_slf h).up (Nat.zero_le _)⟩
    · have all : ∀ {xs : List V} {ds : List PyData}, Paired (OV B n H) xs ds → DpAll K H xs ds ∧ PyData.canLayAll0 ds = true ∧ PyData.depthAll ds ≤ n ∧ PyData.eqvAll ds ds = true := by
        intro xs
        induction xs with
        | nil =>
          intro ds q
          cases q
          exact ⟨.nil, rfl, Nat.zero_le _, rfl⟩
        | cons x xs ih =>
          intro ds q
          cases q with
          | cons h t =>
            obtain ⟨a1, a2, a3, a4⟩ := ih t
            obtain ⟨b1, b2, b3, b4⟩ := h.dp K
            refine ⟨.cons b1 a1, ?_, ?_, ?_⟩
            · simp only [PyData.canLayAll0, b2, a2, Bool.and_self]
            · simp only [PyData.depthAll]
              exact Nat.max_le.mpr ⟨b3, a3⟩
            · simp only [PyData.eqvAll, b4, a4, Bool.and_self]
      obtain ⟨a1, a2, a3, a4⟩ := all a
      rcases h with ⟨_, h, rfl⟩ | ⟨h, rfl⟩
      · exact ⟨.lst (SqL.of h) a1, a2, by simp only [PyData.depth]; omega, a4⟩
      · exact ⟨.tup (SqT.of h) a1, a2, by simp only [PyData.depth]; omega, a4⟩
section
variable {P : Program} {w : World} {K : PySem.W.Frag} {mg : Str → Option Value} {base : Heap}
abbrev sOdd : Stmt := top 24
def spOdd (n : Nat) : Sp := fun vs H Q _ => ∃ (a d : Addr) (m : Int), vs = [.ref a, .int m] ∧ 0 ≤ m ∧ m < n ∧ HandAt H a d ∧ ∀ v H', OD H n H' v → HandAt H' a d → Keep a H H' → Q v H'
theorem scOdd : FnScope ["hand", "depth", "kind", "parts", "values", "k"] ["hand", "depth"] (defScope sOdd) := ⟨rfl, rfl, rfl, by decide +kernel, rfl, by decide +kernel, by decide +kernel⟩
theorem Keep.none {a : Addr} {H H' : Hp} (k : Keep a H H') (ha : H' a ≠ Option.none) {b : Addr} (hb : H' b = Option.none) : H b = Option.none := by
  cases e : H b with
  | none => rfl
  | some o =>
    by_cases z : b = a
    · rw [z] at hb; exact absurd hb ha
    · rw [k b o z e] at hb; cases hb
theorem HandAt.alive {H : Hp} {a d : Addr} (h : HandAt H a d) : H a ≠ Option.none := by
  obtain ⟨ds, i, h1, _⟩ := h
  rw [h1]
  intro z
  cases z
theorem ok_odd {f fT : Addr} {fd fdT : FuncData} (F : FnS K "_law_odd" sOdd f fd) (B : Blt2 mg) (CT : Cal P w K mg base 1 "_law_take" fT fdT ["hand", "many"] spTake) (n : Nat)
    (CO : Cal P w K mg base (1 + n) "_law_odd" f fd ["hand", "depth"] (spOdd n)) : FnOk P w K mg base (L2.CX P w) (1 + n + 1) f fd ["hand", "depth"] (spOdd (n + 1)) := by
  refine F.ok scOdd (fun vs H Q E h => ?_) (fun cdv A outer s H vs Q E hr h => ?_)
  · obtain ⟨a, d, m, rfl, _⟩ := h
    rfl
  · obtain ⟨a, d, m, rfl, m0, m1, hH, k⟩ := h
    have nd := scOdd.nd
    have hr1 := hr.mono (show 1 ≤ 1 + n by omega)
    refine ⟨_, (pss_cons (ps_set (i := 2) nd rfl (Or.inl rfl) (pe_cal CT hr1 (pa_cons (pv 0) (pa_cons pe_int pa_nil)) passU))
      (pss_cons (ps_if (PW.pt (pw_and (pt_cmpR op_gt (pv 1) pe_int (nomark _)) (pw_and1 (pt_cmpR op_gt (pv 2) pe_int (nomark _))))) (pss_cons (ps_setLc (i := 3) (own := [("k", 5)]) (g := gName 5) (by rfl) nd rfl rfl (sw_true rfl rfl rfl (by decide +kernel)) (pi_range1 rfl B.range (pa_cons (pe_cal CT hr1 (pa_cons (pv 0) (pa_cons pe_int pa_nil)) passU) pa_nil)) (blkOk_by (own := [("k", 5)]) (N := ["hand", "depth", "kind", "parts", "values", "k"]) (sc := defScope sOdd) (by decide +kernel)) (fun _ _ _ _ _ => pg_name (i := 5) nd rfl (Or.inl rfl)) (fun _ _ _ _ _ => pts_nil) (fun _ _ _ _ _ => (pe_cal CO hr (pa_cons (pv 0) (pa_cons (pe_op op_sub (pv 1) pe_int) pa_nil)) passU)))
      (pss_one (ps_ret (pe_ix ix_list (pe_lst (pa_cons (pv 3) (pa_cons (pe_callTy call_tuple_of (by rfl) B.tuple (by decide +kernel) (pa_cons (pv 3) pa_nil)) pa_nil))) (pe_op op_sub (pv 2) pe_int) (fun _ _ => rfl))))) pss_nil)
      (pss_cons (ps_set (i := 4) nd rfl (Or.inl rfl) (pe_lst (pa_cons pe_bl (pa_cons pe_bl (pa_cons pe_non (pa_cons pe_str (pa_cons pe_str (pa_cons pe_int (pa_cons pe_int (pa_cons (pe_un un_neg pe_int) (pa_cons pe_int (pa_cons pe_int (pa_cons pe_int (pa_cons pe_int (pa_cons (pe_op op_pow pe_int pe_int) (pa_cons (pe_un un_neg (pe_op op_pow pe_int pe_int)) (pa_cons (pe_tup pa_nil) (pa_cons (pe_lst pa_nil) pa_nil))))))))))))))))))
      (pss_one (ps_ret (pe_ix ix_list (pv 4) (pe_cal CT hr1 (pa_cons (pv 0) (pa_cons pe_int pa_nil)) passU) (fun _ _ => rfl))))))), ?_⟩
    refine ⟨_, rfl, a, d, 9, rfl, by decide, hH, fun kind H1 r0 r1 hH1 k1 => ?_⟩
    have n01 : ∀ b, H1 b = none → H b = none := fun b hb => k1.none hH1.alive hb
    have vals : ∀ w3 : Option V, tSeq (tAsg (tLst (tCons (tC (.bl true)) (tCons (tC (.bl false)) (tCons (tC .non) (tCons (tC (.str "")) (tCons (tC (.str "a1")) (tCons (tC (.int 0)) (tCons (tC (.int 1)) (tCons (tUn (rU fun i => .int (-i)) (tC (.int 1))) (tCons (tC (.int 2)) (tCons (tC (.int 7)) (tCons (tC (.int 31)) (tCons (tC (.int 37))
        (tCons (tOp (rI CPow fun i j => .int (i ^ j.toNat)) (tC (.int 10)) (tC (.int 30))) (tCons (tUn (rU fun i => .int (-i)) (tOp (rI CPow fun i j => .int (i ^ j.toNat)) (tC (.int 10)) (tC (.int 30)))) (tCons (tTup tNil) (tCons (tLst tNil) tNil))))))))))))))))) (gName 4))
        (tRet (tOp (rIxL K) (tVar 4) (tCall spTake [] E0 (tCons (tVar 0) (tCons (tC (.int 16)) tNil))))) { nx := fun _ H' => Q .non H', rt := Q } [some (.ref a), some (.int m), some (.int kind), w3, none, none] H1 := by
      intro w3
      refine ⟨_, rfl, _, _, rfl, rfl, ⟨by decide, by decide, by decide⟩, _, _, rfl, rfl, ⟨by decide, by decide, by decide⟩, _, rfl, (by show 0 ≤ sizeLine; omega), fun T hT => ⟨(by show 0 ≤ sizeLine; omega), fun L hL => ⟨(by show 16 ≤ sizeLine; decide), fun Z hZ => ?_⟩⟩⟩
      have h0 := hH1.new (o := .tup []) hT
      have h1 := h0.new (o := .lst []) hL
      have s0 : Same H1 (upd (upd H1 T (.tup [])) L (.lst [])) := (same_new hT).trans (same_new hL)
      have eT : upd (upd H1 T (.tup [])) L (.lst []) T = some (.tup []) := by rw [upd_ne (ne_of_none upd_same hL), upd_same]
      have eL : upd (upd H1 T (.tup [])) L (.lst []) L = some (.lst []) := upd_same
      have nT : H T = none := n01 _ hT
      have nL : H L = none := n01 _ (by rw [upd_ne (ne_of_none upd_same hL).symm] at hL; exact hL)
      have nZ := h1.ne hZ
      refine ⟨_, rfl, _, rfl, a, d, 16, rfl, by decide, h1.new hZ, fun r H5 r0 r1 h5 k5 => ?_⟩
      have kz : Keep a (upd (upd H1 T (.tup [])) L (.lst [])) H5 := (Keep.new hZ).trans k5
      have eT5 := kz _ _ (hH1.ne hT).1.symm eT
      have eL5 := kz _ _ (h0.ne hL).1.symm eL
      have all : ∀ v ∈ ([.bl true, .bl false, .non, .str "", .str "a1", .int 0, .int 1, .int (-1), .int 2, .int 7, .int 31, .int 37, .int (10 ^ (30 : Int).toNat), .int (-(10 ^ (30 : Int).toNat)), .ref T, .ref L] : List V), OD H (n + 1) H5 v := by
        intro v hv
        simp only [List.mem_cons, List.not_mem_nil, or_false] at hv
        rcases hv with rfl | rfl | rfl | rfl | rfl | rfl | rfl | rfl | rfl | rfl | rfl | rfl | rfl | rfl | rfl | rfl
        · exact .inl rfl
        · exact .inl rfl
        · exact .inl rfl
        · exact .inl (by decide +kernel)
        · exact .inl (by decide +kernel)
        · exact .inl rfl
        · exact .inl rfl
        · exact .inl rfl
        · exact .inl rfl
        · exact .inl rfl
        · exact .inl rfl
        · exact .inl rfl
        · exact .inl rfl
        · exact .inl rfl
        · exact .inr ⟨T, [], rfl, nT, .inr eT5, by decide, fun x hx => nomatch hx⟩
        · exact .inr ⟨L, [], rfl, nL, .inl eL5, by decide, fun x hx => nomatch hx⟩
      obtain ⟨q, rfl⟩ : ∃ q : Nat, r = (q : Int) := ⟨r.toNat, by omega⟩
      have hq : q < 16 := by omega
      obtain ⟨v, hv⟩ : ∃ v, ([.bl true, .bl false, .non, .str "", .str "a1", .int 0, .int 1, .int (-1), .int 2, .int 7, .int 31, .int 37, .int (10 ^ (30 : Int).toNat), .int (-(10 ^ (30 : Int).toNat)), .ref T, .ref L] : List V)[q]? = some v := ⟨_, List.getElem?_eq_getElem (show q < 16 from hq)⟩
      have ez : H5 Z = some (.lst [.bl true, .bl false, .non, .str "", .str "a1", .int 0, .int 1, .int (-1), .int 2, .int 7, .int 31, .int 37, .int (10 ^ (30 : Int).toNat), .int (-(10 ^ (30 : Int).toNat)), .ref T, .ref L]) := k5 _ _ nZ.1.symm upd_same
      exact ⟨Z, _, _, v, rfl, rfl, SqL.of ez, atI_nat hv, k v H5 (all v (List.mem_of_getElem? hv)) h5 (k1.trans ((Keep.of s0).trans kz))⟩
    refine ⟨_, rfl, _, _, rfl, rfl, _, rfl, iteD (fun hc => ⟨_, rfl, _, _, rfl, rfl, _, rfl, iteD (fun hd => ?_) (fun hd => ?_)⟩) (fun hc => ?_)⟩
    · refine ⟨_, rfl, a, d, 4, rfl, by decide, hH1, fun cnt H2 c0 c1 hH2 k2 => ⟨cnt, rfl, (by omega), (by omega), fun D hD => ?_⟩⟩
      obtain ⟨naD, ndD⟩ := hH2.ne hD
      have n12 : ∀ b, H2 b = none → H b = none := fun b hb => n01 b (k2.none hH2.alive hb)
      refine lc_range (lo := 0) (n := cnt.toNat) (fun i H' => ∃ xs, H' D = some (.lst xs) ∧ xs.length = i ∧ (∀ x ∈ xs, OD (upd H2 D (.lst [])) n H' x) ∧ HandAt H' a d ∧ Keep a H2 H') ⟨[], upd_same, rfl, (fun x hx => nomatch hx), hH2.new hD, Keep.new hD⟩ ?_ ?_
      · rintro i H3 hi ⟨xs, e, hl, hx, h3, k3⟩
        have n3 : ∀ b, H3 b = none → upd H2 D (.lst []) b = none := fun b hb => by
          by_cases z : b = D
          · rw [z, e] at hb; cases hb
          · rw [upd_ne z]; exact k3.none h3.alive hb
        refine ⟨rfl, _, rfl, _, rfl, _, _, rfl, rfl, a, d, _, rfl, (by omega), (by omega), h3, fun v H4 o h4 k4 => ⟨xs, k4 _ _ naD.symm e, small1000 (by omega), xs ++ [v], upd_same, (by rw [List.length_append, hl]; rfl), ?_, h4.put naD ndD, ?_⟩⟩
        · have fr : ∀ b o, upd H2 D (.lst []) b = none → H4 b = some o → upd H4 D (.lst (xs ++ [v])) b = some o := fun b o nb eb => by
            have : b ≠ D := fun z => by rw [z, upd_same] at nb; cases nb
            rw [upd_ne this]
            exact eb
          have fr3 : ∀ b o, upd H2 D (.lst []) b = none → H3 b = some o → upd H4 D (.lst (xs ++ [v])) b = some o := fun b o nb eb => by
            refine fr b o nb (k4 b o (fun z => ?_) eb)
            rw [z, upd_ne naD] at nb
            exact hH2.alive nb
          intro x hm
          rcases List.mem_append.mp hm with hm | hm
          · exact (hx x hm).frame fr3
          · rw [List.mem_singleton.mp hm]
            exact (o.base n3).frame fr
        · intro b o hb hbo
          have nb : b ≠ D := ne_of_none hbo hD
          rw [upd_ne nb]
          exact k4 b o hb (k3 b o hb hbo)
      · rintro H3 ⟨xs, e, hl, hx, h3, k3⟩
        refine ⟨_, rfl, _, rfl, D, xs, rfl, .inl ⟨SqL.of e, fun T hT => ⟨(by show 2 ≤ sizeLine; decide), fun q hq => ?_⟩⟩⟩
        have nT := h3.ne hT
        have nq := (h3.new hT).ne hq
        have nDT : D ≠ T := ne_of_none e hT
        have nDq : D ≠ q := ne_of_none (show upd H3 T (.tup xs) D = some (.lst xs) by rw [upd_ne nDT]; exact e) hq
        have nTq : T ≠ q := ne_of_none (upd_same (H := H3) (a := T) (o := .tup xs)) hq
        have kk : Keep a H (upd (upd H3 T (.tup xs)) q (.lst [.ref D, .ref T])) := k1.trans (k2.trans (k3.trans ((Keep.new hT).trans (Keep.new hq))))
        have hh := (h3.new (o := .tup xs) hT).new (o := .lst [.ref D, .ref T]) hq
        have sf : Same H3 (upd (upd H3 T (.tup xs)) q (.lst [.ref D, .ref T])) := (same_new hT).trans (same_new hq)
        have hx' : ∀ x ∈ xs, OD H n (upd (upd H3 T (.tup xs)) q (.lst [.ref D, .ref T])) x := fun x hm => ((hx x hm).base fun b hb => n12 b (by
          by_cases z : b = D
          · rw [z]; exact hD
          · rw [upd_ne z] at hb; exact hb)).frame fun b o _ eb => sf _ _ eb
        have l10 : xs.length ≤ 10 := by omega
        have hk : kind = 7 ∨ kind = 8 := by omega
        rcases hk with rfl | rfl
        · refine ⟨_, rfl, _, _, rfl, rfl, q, _, _, .ref D, rfl, rfl, SqL.of upd_same, rfl, k _ _ (.inr ⟨D, xs, rfl, n12 _ hD, .inl (sf _ _ e), l10, hx'⟩) hh kk⟩
        · refine ⟨_, rfl, _, _, rfl, rfl, q, _, _, .ref T, rfl, rfl, SqL.of upd_same, rfl, k _ _ (.inr ⟨T, xs, rfl, n12 _ (k3.none h3.alive hT), .inr ?_, l10, hx'⟩) hh kk⟩
          rw [upd_ne nTq, upd_same]
    · exact vals _
    · exact vals _
end
end WU

set_option maxRecDepth 100000
set_option maxHeartbeats 8000000
namespace WU
open PySem PySem.Spec PyProof.Rows L2
section
variable {P : Program} {w : World} {K : PySem.W.Frag} {mg : Str → Option Value} {base : Heap} {L : Addr}
abbrev sLN : Stmt := top 27
theorem scLN : FnScope ["hand", "value"] ["hand"] (defScope sLN) := ⟨rfl, rfl, rfl, by decide +kernel, rfl, by decide +kernel, by decide +kernel⟩
/-- a value that is no field -/
def spLN (K : PySem.W.Frag) : Sp := fun vs H Q _ => ∃ (a d : Addr), vs = [.ref a] ∧ HandAt H a d ∧ ∀ v dv H', OV H 2 H' v dv → isFld v = false → HandAt H' a d → Keep a H H' → Q v H'
theorem ok_LN {f fT fO fF : Addr} {fd fdT fdO fdF : FuncData} (F : FnS K "_law_no_field" sLN f fd) (CT : Cal P w K mg base 1 "_law_take" fT fdT ["hand", "many"] spTake) (CO : Cal P w K mg base 3 "_law_odd" fO fdO ["hand", "depth"] (spOdd 2)) (CLF : Cal P w K mg base 1 "_law_is_field" fF fdF ["p"] (spIsFld K)) :
    FnOk P w K mg base (L2.CX P w) 4 f fd ["hand"] (spLN K) := by
  refine F.ok scLN (fun vs H Q E h => ?_) (fun cdv A outer s H vs Q E hr h => ?_)
  · obtain ⟨a, d, rfl, _⟩ := h
    rfl
  · obtain ⟨a, d, rfl, hH, k⟩ := h
    have nd := scLN.nd
    have hr1 := hr.mono (show 1 ≤ 3 by decide)
    refine ⟨_, (pss_cons (ps_set (i := 1) nd rfl (Or.inl rfl) (pe_ix ix_list (pe_lst (pa_cons (pe_op op_sub (pe_cal CT hr1 (pa_cons (pv 0) (pa_cons pe_int pa_nil)) passU) pe_int) (pa_cons (pe_cal CO hr (pa_cons (pv 0) (pa_cons pe_int pa_nil)) passU) (pa_cons pe_int (pa_cons pe_int (pa_cons pe_int (pa_cons (pe_un un_neg pe_int) (pa_cons pe_int (pa_cons pe_int pa_nil))))))))) (pe_cal CT hr1 (pa_cons (pv 0) (pa_cons pe_int pa_nil)) passU) (fun _ _ => rfl)))
      (pss_cons (ps_if (pt_val (pe_cal CLF hr1 (pa_cons (pv 1) pa_nil) passU)) (pss_one (ps_ret pe_int)) pss_nil)
      (pss_one (ps_ret (pv 1))))), ?_⟩
    refine ⟨_, rfl, a, d, 60, rfl, by decide, hH, fun r H1 r0 r1 h1 k1 => ⟨_, _, rfl, rfl, ?_⟩⟩
    refine ⟨_, rfl, a, d, 1, rfl, by decide, by decide, h1, fun o H2 ho h2 k2 => ⟨_, rfl, (by show 8 ≤ sizeLine; decide), fun Z hZ => ?_⟩⟩
    have hZ2 := h2.new (o := .lst [.int (r - 9), o, .int 37, .int 1, .int 0, .int (-2), .int 33, .int 961]) hZ
    refine ⟨_, rfl, a, d, 8, rfl, by decide, hZ2, fun m H3 m0 m1 h3 k3 => ?_⟩
    have kz : Keep a H2 H3 := (Keep.new hZ).trans k3
    have eZ : H3 Z = some (.lst [.int (r - 9), o, .int 37, .int 1, .int 0, .int (-2), .int 33, .int 961]) := k3 _ _ (h2.ne hZ).1.symm upd_same
    obtain ⟨dv, hov⟩ := ho.ov
    have n1 : ∀ b, H1 b = none → H b = none := fun b hb => k1.none h1.alive hb
    have hov3 : OV H 2 H3 o dv := (hov.kl (KL.keep kz h1.alive h2)).base n1
    have iv : ∀ i : Int, ∃ d, OV H 2 H3 (.int i) d := fun i => ⟨_, .inl (.inl ⟨i, rfl, rfl⟩)⟩
    have all : ∀ v ∈ ([.int (r - 9), o, .int 37, .int 1, .int 0, .int (-2), .int 33, .int 961] : List V), ∃ d, OV H 2 H3 v d := by
      intro v hv
      simp only [List.mem_cons, List.not_mem_nil, or_false] at hv
      rcases hv with rfl | rfl | rfl | rfl | rfl | rfl | rfl | rfl
      · exact iv _
      · exact ⟨dv, hov3⟩
      · exact iv _
      · exact iv _
      · exact iv _
      · exact iv _
      · exact iv _
      · exact iv _
    obtain ⟨q, rfl⟩ : ∃ q : Nat, m = (q : Int) := ⟨m.toNat, by omega⟩
    have hq : q < 8 := by omega
    obtain ⟨v, hv⟩ : ∃ v, ([.int (r - 9), o, .int 37, .int 1, .int 0, .int (-2), .int 33, .int 961] : List V)[q]? = some v := ⟨_, List.getElem?_eq_getElem (show q < 8 from hq)⟩
    obtain ⟨dv2, hv2⟩ := all v (List.mem_of_getElem? hv)
    have kk : Keep a H H3 := k1.trans (k2.trans kz)
    refine ⟨Z, _, _, v, rfl, rfl, SqL.of eZ, atI_nat hv, ?_⟩
    refine ⟨_, rfl, v, rfl, dp_ty3 (hv2.dp K).1, _, rfl, ?_⟩
    cases e : isFld v with
    | true => exact iteT (k _ _ H3 (.inl (.inl ⟨4, rfl, rfl⟩)) (by decide) h3 kk)
    | false => exact iteF ⟨_, rfl, k v dv2 H3 hv2 e h3 kk⟩
/-! ### are_books of any data -/
def lenD : PyData → Nat
  | .list ds => ds.length
  | .tuple ds => ds.length
  | _ => 0
def bkD (p : Int) (ds : List PyData) : Bool := match ds with
  | [] => false
  | d0 :: _ => (isSeq d0 && decide (lenD d0 ≠ 0)) && ds.all (letsD p (lenD d0))
def booksD (p : Int) : PyData → Bool
  | .list ds => bkD p ds
  | .tuple ds => bkD p ds
  | _ => false
def smallB : PyData → Prop
  | .list ds => ds.length ≤ 200 ∧ ∀ e ∈ ds, smallD e
  | .tuple ds => ds.length ≤ 200 ∧ ∀ e ∈ ds, smallD e
  | _ => True
theorem dps_of : ∀ {H : Hp} {xs : List V} {ds : List PyData} {i : Nat} {d : PyData}, DpAll K H xs ds → ds[i]? = some d → ∃ v, xs[i]? = some v ∧ Dp K H v d
  | _, _, _, _, _, .nil, e => by cases e
  | _, _, _, 0, _, .cons h _, e => by
    cases e
    exact ⟨_, rfl, h⟩
  | _, _, _, i + 1, _, .cons _ t, e => dps_of (i := i) t e
/-- are_books(p, value) -/
def spABg (K : PySem.W.Frag) : Sp := fun vs H Q _ => ∃ (p : Int) (v : V) (d : PyData), vs = [.int p, v] ∧ Dp K H v d ∧ smallB d ∧ ∀ H', Same H H' → Q (.bl (booksD p d)) H'
theorem ok_ABg {f f1 f2 : Addr} {fd fd1 fd2 : FuncData} (F : FnS K "are_books" sAB f fd) (B : Blt3 mg) (CS : Cal P w K mg base 1 "is_sequence" f1 fd1 ["value"] (spSeq K)) (CL : Cal P w K mg base 4 "are_letters" f2 fd2 ["p", "count", "value"] (spLets K)) :
    FnOk P w K mg base (L2.CX P w) 5 f fd ["p", "value"] (spABg K) := by
  refine F.ok scAB (fun vs H Q E h => ?_) (fun cdv A outer s H vs Q E hr h => ?_)
  · obtain ⟨p, v, d, rfl, _⟩ := h
    rfl
  · obtain ⟨p, v, d, rfl, hd, hsm, k⟩ := h
    have nd := scAB.nd
    have hr1 := hr.mono (show 1 ≤ 4 by decide)
    refine ⟨_, (pss_cons (ps_if (PW.pt (pw_or (pt_not (pt_val (pe_cal CS hr1 (pa_cons (pv 1) pa_nil) passU))) (pw_or1 (pt_cmpR op_eq (pe_callB call_len_seq (by rfl) B.len (by decide +kernel) (pa_cons (pv 1) pa_nil)) pe_int (nomark _))))) (pss_one (ps_ret pe_bl)) pss_nil)
      (pss_cons (ps_if (PW.pt (pw_or (pt_not (pt_val (pe_cal CS hr1 (pa_cons (pe_ix ix_seq (pv 1) pe_int (fun _ _ => rfl)) pa_nil) passU))) (pw_or1 (pt_cmpR op_eq (pe_callB call_len_seq (by rfl) B.len (by decide +kernel) (pa_cons (pe_ix ix_seq (pv 1) pe_int (fun _ _ => rfl)) pa_nil)) pe_int (nomark _))))) (pss_one (ps_ret pe_bl)) pss_nil)
      (pss_one (ps_ret (pe_callB (cr_all rfl) (by rfl) B.all (by decide +kernel) (pa_cons (pe_lc (te := tCall (spLets K) [] E0 (tCons (tVar 0) (tCons (tCB (rLenS K) (tCons (tOp (rIx K) (tVar 1) (tC (.int 0))) tNil)) (tCons (tVar 2) tNil)))) (own := [("book", 2)]) (g := gName 2) (by rfl) nd (pi_seq (pv 1)) (blkOk_by (own := [("book", 2)]) (N := ["p", "value", "book"]) (sc := defScope sAB) (by decide +kernel)) (fun _ _ _ _ _ => pg_name (i := 2) nd rfl (Or.inl rfl)) (fun _ _ _ _ _ => pts_nil) (fun _ _ _ _ _ => (pe_cal CL hr (pa_cons (pv 0) (pa_cons (pe_callB call_len_seq (by rfl) B.len (by decide +kernel) (pa_cons (pe_ix ix_seq (pv 1) pe_int (fun _ _ => rfl)) pa_nil)) (pa_cons (pv 2) pa_nil))) passU))) pa_nil)))))), ?_⟩
    refine ⟨_, rfl, v, d, rfl, hd, fun H1 s1 => ⟨_, rfl, ?_⟩⟩
    have leaf : isSeq d = false → booksD p d = false := fun e => by cases d <;> first | rfl | cases e
    cases eS : isSeq d with
    | false =>
      have q := k H1 s1
      rw [leaf eS] at q
      exact iteT q
    | true =>
      refine iteF ?_
      obtain ⟨a, rs, ds, rfl, hx, hds, hbk, hln, hse⟩ : ∃ (a : Addr) (rs : List V) (ds : List PyData), v = .ref a ∧ (SqL K H a rs ∨ SqT K H a rs) ∧ DpAll K H rs ds ∧ booksD p d = bkD p ds ∧ ds.length ≤ 200 ∧ ∀ e ∈ ds, smallD e := by
        cases hd with
        | lst h t => exact ⟨_, _, _, rfl, .inl h, t, rfl, hsm.1, hsm.2⟩
        | tup h t => exact ⟨_, _, _, rfl, .inr h, t, rfl, hsm.1, hsm.2⟩
        | _ => cases eS
      rw [hbk] at k
      have eln := dps_len hds
      have hxs : ∀ {H' : Hp}, Same H H' → SqL K H' a rs ∨ SqT K H' a rs := fun s' => hx.imp (fun h => sqL_same h s') fun h => sqT_same h s'
      cases ds with
      | nil =>
        have e0 : rs.length = 0 := eln
        refine ⟨_, rfl, a, rs, rfl, hxs s1, rfl, _, rfl, iteTb (by rw [e0]; rfl) ?_⟩
        exact k H1 s1
      | cons d0 ds' =>
        have hbe : bkD p (d0 :: ds') = ((isSeq d0 && decide (lenD d0 ≠ 0)) && (d0 :: ds').all (letsD p (lenD d0))) := rfl
        obtain ⟨r0, e0, hd0⟩ := dps_of hds (i := 0) (d := d0) rfl
        have hlen : 0 < rs.length := by rw [eln, List.length_cons]; omega
        refine ⟨_, rfl, a, rs, rfl, hxs s1, rfl, _, rfl, iteFb (decide_eq_false fun z => absurd (V.int.inj z) (by omega)) ?_⟩
        have ixs : ∀ {H' : Hp} {Q' : VK}, Same H H' → Q' r0 H' → rIx K (.ref a) (.int 0) H' Q' := fun {H' Q'} s' q => by
          have ea : atI rs (0 : Int) = some r0 := atI_nat (j := 0) e0
          rcases hx with h | h
          · exact .inl ⟨a, rs, 0, r0, rfl, rfl, sqL_same h s', ea, q⟩
          · exact .inr (.inl ⟨a, rs, 0, r0, rfl, rfl, sqT_same h s', ea, q⟩)
        refine ⟨_, rfl, ixs s1 ⟨r0, d0, rfl, dp_same s1 hd0, fun H2 s2 => ⟨_, rfl, ?_⟩⟩⟩
        have s12 := s1.trans s2
        cases eS0 : isSeq d0 with
        | false =>
          have q := k H2 s12
          rw [show bkD p (d0 :: ds') = false by rw [hbe, eS0]; rfl] at q
          exact iteT q
        | true =>
          refine iteF ?_
          obtain ⟨c0, ys, rfl, hc0, hl0⟩ : ∃ (c0 : Addr) (ys : List V), r0 = .ref c0 ∧ (SqL K H c0 ys ∨ SqT K H c0 ys) ∧ ys.length = lenD d0 := by
            cases hd0 with
            | lst h t => exact ⟨_, _, rfl, .inl h, dps_len t⟩
            | tup h t => exact ⟨_, _, rfl, .inr h, dps_len t⟩
            | _ => cases eS0
          have hc : ∀ {H' : Hp}, Same H H' → SqL K H' c0 ys ∨ SqT K H' c0 ys := fun s' => hc0.imp (fun h => sqL_same h s') fun h => sqT_same h s'
          refine ⟨_, rfl, ixs s12 ⟨c0, _, rfl, hc s12, rfl, _, rfl, ?_⟩⟩
          by_cases ez : lenD d0 = 0
          · have q := k H2 s12
            rw [show bkD p (d0 :: ds') = false by rw [hbe, eS0, ez]; rfl] at q
            exact iteTb (by rw [hl0, ez]; rfl) q
          refine iteFb (decide_eq_false fun z => absurd (V.int.inj z) (by omega)) ?_
          have turn : ∀ (D : Addr), H2 D = none → ∀ (i : Nat) (y : V) (H3 : Hp), rs[i]? = some y → Same H2 H3 ∧ H3 D = some (.lst ((((d0 :: ds').take i).map (letsD p (lenD d0))).map V.bl)) →
              (tCall (spLets K) [] E0 (tCons (tVar 0) (tCons (tCB (rLenS K) (tCons (tOp (rIx K) (tVar 1) (tC (.int 0))) tNil)) (tCons (tVar 2) tNil)))) [some (.int p), some (.ref a), some y] H3
                fun z H4 => ∃ acc, H4 D = some (.lst acc) ∧ acc.length < sizeLine ∧ Same H2 (upd H4 D (.lst (acc ++ [z]))) ∧ upd H4 D (.lst (acc ++ [z])) D = some (.lst ((((d0 :: ds').take (i + 1)).map (letsD p (lenD d0))).map V.bl)) := by
            rintro D hD i y H3 hi ⟨s3, eD⟩
            obtain ⟨e, he, hde⟩ := dps_at hds hi
            have s13 := s12.trans s3
            refine ⟨_, rfl, _, rfl, ixs s13 ⟨c0, _, rfl, hc s13, ?_⟩⟩
            rw [hl0]
            refine ⟨_, rfl, p, _, y, e, rfl, dp_same s13 hde, hse e (List.mem_of_getElem? he), fun H4 s4 => ?_⟩
            refine ⟨_, s4 _ _ eD, ?_, fun c o hc => ?_, ?_⟩
            · rw [List.length_map, List.length_map, List.length_take]
              exact small1000 (Nat.le_trans (Nat.min_le_right _ _) (by omega))
            · rw [upd_ne (ne_of_none hc hD)]
              exact s4 _ _ (s3 _ _ hc)
            · rw [upd_same, List.take_succ, he, List.map_append, List.map_append]
              rfl
          have fin : ∀ (D : Addr) (H3 : Hp), Same H2 H3 → H3 D = some (.lst ((((d0 :: ds').take rs.length).map (letsD p (lenD d0))).map V.bl)) → rAll K [.ref D] H3 Q := fun D H3 s3 eD => by
            rw [eln, List.take_length] at eD
            refine ⟨D, _, rfl, SqL.of eD, ?_⟩
            have q := k H3 (s12.trans s3)
            have e : ((d0 :: ds').map (letsD p (lenD d0))).all id = bkD p (d0 :: ds') := by
              rw [List.all_map, show bkD p (d0 :: ds') = ((isSeq d0 && decide (lenD d0 ≠ 0)) && (d0 :: ds').all (letsD p (lenD d0))) from rfl, eS0, decide_eq_true ez]
              rfl
            rw [e]
            exact q
          have st0 : ∀ D, H2 D = none → Same H2 (upd H2 D (.lst [])) ∧ upd H2 D (.lst []) D = some (.lst ((((d0 :: ds').take 0).map (letsD p (lenD d0))).map V.bl)) := fun D hD => ⟨same_new hD, upd_same⟩
          refine ⟨_, rfl, a, rfl, ?_⟩
          rcases hxs s12 with h | h
          · exact .inl ⟨⟨_, h⟩, fun D hD => lc_list (K := K) (a := a) (xs := rs) (fun i H3 => Same H2 H3 ∧ H3 D = some (.lst ((((d0 :: ds').take i).map (letsD p (lenD d0))).map V.bl))) (st0 D hD) (fun i H3 _ z => sqL_same h z.1)
              (fun i y H3 hi z => ⟨rfl, turn D hD i y H3 hi z⟩) (fun H3 z => fin D H3 z.1 z.2)⟩
          · exact .inr ⟨⟨_, h⟩, fun D hD => lc_tup (K := K) (a := a) (xs := rs) (fun i H3 => Same H2 H3 ∧ H3 D = some (.lst ((((d0 :: ds').take i).map (letsD p (lenD d0))).map V.bl))) (st0 D hD) (fun i H3 _ z => sqT_same h z.1)
              (fun i y H3 hi z => ⟨rfl, turn D hD i y H3 hi z⟩) (fun H3 z => fin D H3 z.1 z.2)⟩
end
end WU

set_option maxRecDepth 100000
set_option maxHeartbeats 8000000
namespace WU
open PySem PySem.Spec PyProof.Rows L2
section
variable {P : Program} {w : World} {K : PySem.W.Frag} {mg : Str → Option Value} {base : Heap} {L : Addr}
/-- Library.__init__ that refuses -/
def spLIf (K : PySem.W.Frag) : Sp := fun vs H Q E => ∃ (x : Addr) (pv bv : V), vs = [.ref x, pv, bv] ∧ Ty3 K H pv ∧ (isFld pv = false → Errs (He.ga K "InvalidNumber") "value" pv H E) ∧
  (isFld pv = true → ∃ (p : Int) (d : PyData), pv = .int p ∧ Dp K H bv d ∧ smallB d ∧ booksD p d = false ∧ Errs (He.ga K "InvalidLibrary") "value" bv H E)
theorem ok_LIf {f f1 f2 f3 : Addr} {fd fd1 fd2 fd3 fdE : FuncData} (F : FunD K "__init__" "Library.__init__" (defArgs sLI) (defBody sLI) (defScope sLI) [] [] f fd) (B : Blt3 mg) (C : LibC K mg L) (CF : Cal P w K mg base 3 "check_field" f1 fd1 ["p"] (spCheck K))
    (CB : Cal P w K mg base 5 "are_books" f2 fd2 ["p", "value"] (spABg K)) (CO : Cal P w K mg base 1 "letters_of" f3 fd3 ["books"] (spLO K)) (TL : Exc1 K mg "InvalidLibrary" "value")
    (FL : FnOk P w K mg base (L2.CX P w) 1 (He.ma K (He.ga K "InvalidLibrary") "__init__") fdE ["self", "value"] (spInit1 K (He.ga K "InvalidLibrary") "value")) (bL : Binds K fdE ["self", "value"] []) : FnOk P w K mg base (L2.CX P w) 6 f fd ["self", "p", "books"] (spLIf K) := by
  refine F.ok scLI (fun vs H Q E h => ?_) (fun cdv A outer s H vs Q E hr h => ?_)
  · obtain ⟨x, pv, bv, rfl, _⟩ := h
    rfl
  · obtain ⟨x, qv, bv, rfl, ht, kN, kL⟩ := h
    have nd := scLI.nd
    have hr1 := hr.mono (show 1 ≤ 5 by decide)
    have hr2 := hr.mono (show 2 ≤ 5 by decide)
    have hr3 := hr.mono (show 3 ≤ 5 by decide)
    refine ⟨_, (pss_cons (ps_expr (pe_cal (E := E) CF hr3 (pa_cons (pv 1) pa_nil) (passes_call (takes_of rfl rfl rfl rfl) (fun _ _ _ _ h => h))))
      (pss_cons (ps_if (pt_not (pt_val (pe_cal CB hr (pa_cons (pv 1) (pa_cons (pv 2) pa_nil)) passU))) (pss_one (ps_raise1 rfl (takes_of rfl rfl rfl rfl) TL FL bL hr2 (pa_cons (pv 2) pa_nil))) pss_nil)
      (pss_cons (ps_fld (pv 0) (pv 1) rfl)
      (pss_cons (ps_fld (pv 0) (pe_callTy call_tuple_of (by rfl) B.tuple (by decide +kernel) (pa_cons (pe_lc (te := tCB (rTupOf K) (tCons (tVar 3) tNil)) (own := [("book", 3)]) (g := gName 3) (by rfl) nd (pi_seq (pv 2)) (blkOk_by (own := [("book", 3)]) (N := ["self", "p", "books", "book"]) (sc := defScope sLI) (by decide +kernel)) (fun _ _ _ _ _ => pg_name (i := 3) nd rfl (Or.inl rfl)) (fun _ _ _ _ _ => pts_nil) (fun _ _ _ _ _ => (pe_callTy call_tuple_of (by rfl) B.tuple (by decide +kernel) (pa_cons (pv 3) pa_nil)))) pa_nil)) rfl)
      (pss_cons (ps_fld (pv 0) (pe_callB call_len_seq (by rfl) B.len (by decide +kernel) (pa_cons (pe_fld (pv 0) rfl) pa_nil)) rfl)
      (pss_cons (ps_fld (pv 0) (pe_callB call_len_seq (by rfl) B.len (by decide +kernel) (pa_cons (pe_ix ix_tup (pe_fld (pv 0) rfl) pe_int (fun _ _ => rfl)) pa_nil)) rfl)
      (pss_one (ps_fld (pv 0) (pe_cal CO hr1 (pa_cons (pe_fld (pv 0) rfl) pa_nil) passU) rfl)))))))), ?_⟩
    refine ⟨_, rfl, qv, rfl, ht, fun e => ?_, fun e => kN e⟩
    obtain ⟨p, d, rfl, hd, hs, hb, kE⟩ := kL e
    refine ⟨_, rfl, _, rfl, p, bv, d, rfl, hd, hs, fun H1 s1 => ⟨_, rfl, ?_⟩⟩
    rw [hb]
    exact iteT ⟨_, rfl, bv, rfl, errs_same kE s1⟩
abbrev sLBk : Stmt := inClass (top 16) 2
theorem scLBk : FnScope ["self", "k"] ["self", "k"] (defScope sLBk) := ⟨rfl, rfl, rfl, by decide +kernel, rfl, by decide +kernel, by decide +kernel⟩
/-- library.book(k) -/
def spLBk (K : PySem.W.Frag) (L : Addr) : Sp := fun vs H Q E => ∃ (x : Addr) (kv : V) (p : Int) (n : Nat) (bs : List (List Int)), vs = [.ref x, kv] ∧ LibAt L H x p n bs ∧ Ty3 K H kv ∧ (isBel bs.length kv = false → Errs (He.ga K "InvalidNumber") "value" kv H E) ∧
  (isBel bs.length kv = true → ∃ (k : Nat) (b : List Int), kv = .int k ∧ bs[k]? = some b ∧ ∀ r, TB H r b → Q r H)
theorem ok_LBk {f fC : Addr} {fd fdC : FuncData} (F : FunD K "book" "Library.book" (defArgs sLBk) (defBody sLBk) (defScope sLBk) [] [] f fd) (C : LibC K mg L)
    (mC : Meth K L "_check_book" fC) (GC : FnOk P w K mg base (L2.CX P w) 4 fC fdC ["self", "k"] (spCB K L)) (bC : Binds K fdC ["self", "k"] []) : FnOk P w K mg base (L2.CX P w) 5 f fd ["self", "k"] (spLBk K L) := by
  refine F.ok scLBk (fun vs H Q E h => ?_) (fun cdv A outer s H vs Q E hr h => ?_)
  · obtain ⟨x, kv, p, n, bs, rfl, _⟩ := h
    rfl
  · obtain ⟨x, kv, p, n, bs, rfl, hL, hk, kN, kk⟩ := h
    refine ⟨_, (pss_cons (ps_expr (pe_meth (E := E) (pv 0) C.cl mC GC hr bC .nil (passes_call (takes_of rfl rfl rfl rfl) (fun _ _ _ _ h => h)) (pa_cons (pv 1) pa_nil)))
      (pss_one (ps_ret (pe_ix ix_tup (pe_fld (pv 0) rfl) (pv 1) (fun _ _ => rfl))))), ?_⟩
    obtain ⟨dx, a, tl, rs, h1, h2, h3, h4⟩ := id hL
    refine ⟨_, rfl, x, dx, _, rfl, h1, lf_no (by decide +kernel) (by decide +kernel) (by decide +kernel) (by decide +kernel) (by decide +kernel), _, rfl, x, kv, p, n, bs, rfl, hL, hk, fun eb => ?_, kN⟩
    obtain ⟨k, b, rfl, hb, q⟩ := kk eb
    obtain ⟨r, hr0, c, rfl, hc⟩ := paired_of h3 hb
    exact ⟨_, rfl, x, L, dx, _, _, rfl, h1, C.cl, C.nB, lf_books, _, rfl, a, rs, (k : Int), _, rfl, rfl, SqT.of h2, atI_nat hr0, q _ ⟨c, rfl, hc⟩⟩
end
end WU

set_option maxRecDepth 100000
set_option maxHeartbeats 8000000
/-! a class made where the wish depends on the slots, or by a local name; a classmethod where the wish depends on the slots -/
namespace WU
open PySem PySem.Spec PyProof.Rows L2
section
variable {X : Cx} {CX : CXT} {k i : Nat} {f C : Addr} {fd : FuncData} {ps : List Str} {sp : Sp} {x : Str} {p pos : Pos} {e : Expr} {es : List Expr} {t : TA}
theorem run_makeS {E : XK} {pins : List (Addr × Obj)} {σ : L2.St} {H : Hp} {s : Shared} {Q : VK} {us : List Value} {vs : List V} (M : Mk X.K C f) (F : FnOk X.prog X.w X.K X.mg X.base CX k f fd ps sp) (hr : Room (k + 1) X.A) (hb : L2.Binds X.K fd ps [])
    (hx : PassesAt CX X σ E) (I : Inv X pins σ H s) (r : Vals vs us)
    (h : ∀ x dx, H x = none → H dx = none → dx ≠ x → sp (.ref x :: vs) (upd (upd H dx (.own x)) x (.ins C dx [])) (fun v H2 => v = .non ∧ Q (.ref x) H2) E) :
    wpAny (model X.prog X.w) X.A (call (.ref C) us) (EP X pins σ Q) X.xe s := by
  have hq := h (s.heap.objs.size + 1) s.heap.objs.size (I.hok.fresh (Nat.le_succ _)) (I.hok.fresh (Nat.le_refl _)) (Nat.ne_of_lt (Nat.lt_succ_self _))
  have I2 := Inv.made (C := C) I
  have r2 : Vals (V.ref (s.heap.objs.size + 1) :: vs) (Value.ref (s.heap.objs.size + 1) :: us) := .cons rfl r
  have hl : (Value.ref (s.heap.objs.size + 1) :: us ++ []).length = ps.length := by
    have e := r2.length
    rw [F.len _ _ _ _ hq] at e
    rw [List.append_nil]
    exact e.symm
  refine wpAny_call (make_map (f := f) I.kIn M.makes M.init (beq_iff_eq.mp M.fn) (codeAny_mono (F.run _ X.stack _ _ ⟨Value.ref (s.heap.objs.size + 1) :: us, []⟩ (Value.ref (s.heap.objs.size + 1) :: us ++ []) _ _ E (hr.make C us [])
    (I2.env0.make C us []) (hb _ (Value.ref (s.heap.objs.size + 1) :: us) I2.kIn hl) (by rw [List.append_nil]; exact r2) hq) fun r s' hq' => ?_))
  cases r with
  | error e => exact hx pins _ _ e s' I2 hq'
  | ok fl =>
    cases fl with
    | ret u =>
      obtain ⟨v, H', I3, rv, ev, q3⟩ := I2.after hq'
      subst ev
      exact ⟨rv, ⟨V.ref (s.heap.objs.size + 1), H', I3, rfl, q3⟩⟩
    | next => exact False.elim hq'
    | brk => exact False.elim hq'
    | cont => exact False.elim hq'
/-- C(..): a new instance and its dict, then __init__ -/
def tMakeS (C : Addr) (sp : Sp) (E : L2.St → XK) (t : TA) : TE := fun σ H Q => t σ H fun vs H1 => ∀ x dx, H1 x = none → H1 dx = none → dx ≠ x →
  sp (.ref x :: vs) (upd (upd H1 dx (.own x)) x (.ins C dx [])) (fun v H2 => v = .non ∧ Q (.ref x) H2) (E σ)
theorem pe_makeS {E : L2.St → XK} (M : Mk X.K C f) (F : FnOk X.prog X.w X.K X.mg X.base CX k f fd ps sp) (hr : Room (k + 1) X.A) (hg : Gl X x) (hm : X.mg x = some (.ref C)) (hb : L2.Binds X.K fd ps []) (hx : ∀ σ, PassesAt CX X σ (E σ))
    (ha : PA X (e :: es) t) (hdb : (x == ("__debug__" : Str)) = false := by decide) (he : starEach (e :: es) X.env = (false, eval e X.env) :: starEach es X.env := by rfl) (hpl : (backTo pos (starEach es X.env)).any (·.1) = false := by rfl) :
    PE X (.Call (.Name x p) (e :: es) [] pos) (tMakeS C sp E t) := by
  refine ⟨fun pins s σ H Q I h => ?_⟩
  refine wpAny_Call_Name_kw (ld_glob I hg hm ?_ hdb)
  refine PySem.W.callWith_K (h₀ := X.base) I.ok.mod.kin M.kp (thn (ha.run pos pins s σ H _ I h) fun us s1 ⟨vs, H1, I1, r, q⟩ => ⟨I1.kIn, ?_⟩) he hpl
  exact run_makeS M F hr hb (hx σ) I1 r q
/-- the i-th slot holds the class -/
def tMakeL (i : Nat) (C : Addr) (sp : Sp) (E : L2.St → XK) (t : TA) : TE := fun σ H Q => σ[i]? = some (some (.ref C)) ∧ tMakeS C sp E t σ H Q
theorem pe_makeL {E : L2.St → XK} (M : Mk X.K C f) (F : FnOk X.prog X.w X.K X.mg X.base CX k f fd ps sp) (hr : Room (k + 1) X.A) (hN : X.N[i]? = some x) (hv : Vis X.env.scope x) (hb : L2.Binds X.K fd ps []) (hx : ∀ σ, PassesAt CX X σ (E σ))
    (ha : PA X (e :: es) t) (hdb : (x == ("__debug__" : Str)) = false := by decide) (hcd : (x == ("__classdict__" : Str)) = false := by decide) (he : starEach (e :: es) X.env = (false, eval e X.env) :: starEach es X.env := by rfl) (hpl : (backTo pos (starEach es X.env)).any (·.1) = false := by rfl) :
    PE X (.Call (.Name x p) (e :: es) [] pos) (tMakeL i C sp E t) := by
  refine ⟨fun pins s σ H Q I h => ?_⟩
  obtain ⟨hs, ht⟩ := h
  refine wpAny_Call_Name_kw (thn ((pe_var (pos := p) hN hv hdb hcd).run pins s σ H (fun v H1 => v = .ref C ∧ H1 = H) I ⟨.ref C, hs, rfl, rfl⟩) fun u s1 ⟨v, H1, I1, r1, q1⟩ => ?_)
  obtain ⟨rfl, rfl⟩ := q1
  cases r1
  refine PySem.W.callWith_K (h₀ := X.base) I.ok.mod.kin M.kp (thn (ha.run pos pins s1 σ _ _ I1 ht) fun us s2 ⟨vs, H2, I2, r, q⟩ => ⟨I2.kIn, ?_⟩) he hpl
  exact run_makeS M F hr hb (hx σ) I2 r q
end
section
variable {X : Cx} {CX : CXT} {k : Nat} {C p g : Addr} {mc : Value} {sp : Sp} {o e : Expr} {es : List Expr} {m : Str} {pos apos : Pos} {ta : TE} {t : TA} {pl : Sem Bool}
theorem run_fnRS {pins : List (Addr × Obj)} {σ : L2.St} {H : Hp} {s : Shared} {f : Addr} {E : XK} {Q : VK} {us : List Value} {vs : List V} (F : FnR X.prog X.w X.K X.mg X.base CX k f sp) (hr : Room k X.A) (hx : PassesAt CX X σ E) (I : Inv X pins σ H s) (r : Vals vs us) (h : sp vs H Q E) :
    codeAny (model X.prog X.w) X.A (.call (.ref f) ⟨us, []⟩) (fun r s' => match r with | .ok (.ret v) => EP X pins σ Q v s' | .ok _ => False | .error e => X.xe e s') s := by
  refine codeAny_mono (F X.A X.stack s H us vs Q E hr I.env0 r h) fun r s' hq => ?_
  cases r with
  | error e => exact hx pins H s e s' I hq
  | ok fl =>
    cases fl with
    | ret u => exact I.after hq
    | next => exact False.elim hq
    | brk => exact False.elim hq
    | cont => exact False.elim hq
def tCMethS (C : Addr) (sp : Sp) (E : L2.St → XK) (ta : TE) (t : TA) : TE := fun σ H Q => ta σ H fun x H1 => x = .ref C ∧ t σ H1 fun vs H2 => sp (.ref C :: vs) H2 Q (E σ)
theorem pe_cmethS {E : L2.St → XK} (he : PE X o ta) (r : ClX.CRead X.K C mc) (c : ClX.CMet X.K C mc m p g) (F : FnR X.prog X.w X.K X.mg X.base CX k g sp) (hr : Room k X.A) (hx : ∀ σ, PassesAt CX X σ (E σ)) (ha : PA X (e :: es) t)
    (hst : starEach (e :: es) X.env = (false, eval e X.env) :: starEach es X.env := by rfl) (hpl : (backTo pos (starEach es X.env)).any (·.1) = false := by rfl)
    (ht : eval (.Call (.Attribute o m apos) (e :: es) [] pos) X.env = (do
      let ov ← eval o X.env
      standAt apos.atName
      let (f, first) ← holding [ov] (getMethod ov m pl)
      callWith pos f first (backTo pos (starEach (e :: es) X.env)) (backToKw pos (keywordEach [] X.env))) := by rfl) :
    PE X (.Call (.Attribute o m apos) (e :: es) [] pos) (tCMethS C sp E ta t) := by
  refine ⟨fun pins s σ H Q I h => ?_⟩
  refine PySem.W.methodCall_KW (pl := pl) (thn (he.run pins s σ H _ I h) fun u s1 ⟨x, H1, I1, rx, ex, q⟩ => ?_) ht
  subst ex
  obtain rfl : u = Value.ref C := rx
  refine ClX.getmethcm_ok I1 r c fun s2 I2 => ?_
  refine ClX.callwith_cm I2 (ClX.base_none I1 (Nat.le_refl _)) c.fi (thn (ha.run pos _ s2 σ H1 _ I2 q) fun us s3 ⟨vs, H2, I3, rv, q2⟩ => ⟨⟨ClX.pin_at I3, I3.kIn⟩, ?_⟩) hst hpl
  have z : wpAny (model X.prog X.w) X.A (call (.ref s1.heap.objs.size) us) (EP X ((s1.heap.objs.size, PySem.W.methodObj (.ref g) (.ref C)) :: pins) σ Q) X.xe s3 := wpAny_call (PySem.W.method_call (ClX.pin_at I3) (run_fnRS (us := .ref C :: us) (vs := .ref C :: vs) F hr (hx σ) I3 (.cons rfl rv) q2))
  exact thn z fun _ _ y => ClX.unpinE y
end
end WU

set_option maxRecDepth 100000
set_option maxHeartbeats 8000000
namespace WU
open PySem PySem.Spec PyProof.Rows L2
/-- the letters, cut into m books of n letters -/
def cuts (n m : Nat) (ls : List Int) : List (List Int) := (List.range m).map fun i => (ls.drop (i * n)).take n
theorem cuts_len {n m : Nat} {ls : List Int} : (cuts n m ls).length = m := by
  unfold cuts
  rw [List.length_map, List.length_range]
theorem cuts_succ {n m : Nat} {ls : List Int} : cuts n (m + 1) ls = cuts n m ls ++ [(ls.drop (m * n)).take n] := by
  unfold cuts
  rw [List.range_succ, List.map_append]
  rfl
theorem cuts_cons {n m : Nat} {b ls : List Int} (h : b.length = n) : cuts n (m + 1) (b ++ ls) = b :: cuts n m ls := by
  unfold cuts
  rw [List.range_succ_eq_map, List.map_cons, List.map_map]
  congr 1
  · rw [Nat.zero_mul, List.drop_zero, ← h, List.take_left]
  · apply List.map_congr_left
    intro i _
    show ((b ++ ls).drop ((i + 1) * n)).take n = _
    rw [Nat.succ_mul, Nat.add_comm, ← h, List.drop_append, List.drop_eq_nil_of_le (by omega), List.nil_append]
    congr 2
    omega
theorem cuts_flat {n : Nat} : ∀ {bs : List (List Int)}, (∀ b ∈ bs, b.length = n) → cuts n bs.length bs.flatten = bs
  | [], _ => rfl
  | b :: bs, h => by
    rw [List.flatten_cons, List.length_cons, cuts_cons (h b (List.mem_cons_self ..)), cuts_flat fun c hc => h c (List.mem_cons_of_mem _ hc)]
theorem cut_mid {xs : List V} {k n : Nat} (h : k + n ≤ xs.length) : cutV xs (some (k : Int)) (some ((k : Int) + (n : Int))) = (xs.drop k).take n := by
  unfold cutV
  rw [show ((k : Int) + (n : Int)) = ((k + n : Nat) : Int) from rfl, HT.sIx_nat, HT.sIx_nat, Nat.min_eq_left h, Nat.min_eq_left (by omega)]
  congr 1
  omega
theorem rg_all : ∀ n ∈ List.range 5, ∀ m ∈ List.range 17, n ≠ 0 → Builtin.Range.small 0 ((n * m : Nat) : Int) (n : Int) = true ∧ Builtin.Range.rangeSize 0 ((n * m : Nat) : Int) (n : Int) = m := by decide +kernel
theorem rg_of {n m : Nat} (h1 : 1 ≤ n) (h2 : n ≤ 4) (h3 : m ≤ 16) : RgC 0 ((n * m : Nat) : Int) (n : Int) m := by
  obtain ⟨a, b⟩ := rg_all n (List.mem_range.mpr (by omega)) m (List.mem_range.mpr (by omega)) (by omega)
  exact ⟨by omega, by omega, a, b⟩
section
variable {P : Program} {w : World} {K : PySem.W.Frag} {mg : Str → Option Value} {base : Heap} {L : Addr}
abbrev sCut : Stmt := top 20
theorem scCut : FnScope ["book_length", "letters", "at"] ["book_length", "letters"] (defScope sCut) := ⟨rfl, rfl, rfl, by decide +kernel, rfl, by decide +kernel, by decide +kernel⟩
def spCut : Sp := fun vs H Q _ => ∃ (a : Addr) (ls : List Int) (n m : Nat), vs = [.int n, .ref a] ∧ (H a = some (.lst (ls.map V.int)) ∨ H a = some (.tup (ls.map V.int))) ∧ ls.length = n * m ∧ 1 ≤ n ∧ n ≤ 4 ∧ m ≤ 16 ∧
  ∀ r H', Same H H' → BkAt H' r (cuts n m ls) → Q (.ref r) H'
theorem ok_Cut {f : Addr} {fd : FuncData} (F : FnS K "cut_in_books" sCut f fd) (B : Blt3 mg) : FnOk P w K mg base (L2.CX P w) 1 f fd ["book_length", "letters"] spCut := by
  refine F.ok scCut (fun vs H Q E h => ?_) (fun cdv A outer s H vs Q E hr h => ?_)
  · obtain ⟨a, ls, n, m, rfl, _⟩ := h
    rfl
  · obtain ⟨a, ls, n, m, rfl, ha, hl, h1, h2, h3, kk⟩ := h
    have nd := scCut.nd
    refine ⟨_, (pss_one (ps_ret (pe_callTy call_tuple_of (by rfl) B.tuple (by decide +kernel) (pa_cons
      (pe_lc (te := tCB (rTupOf K) (tCons (tSl (fun x lo hi H Q => rSlL K x lo hi H Q ∨ rSlA K x lo hi H Q) (tVar 1) (tPart (tVar 2)) (tPart (tOp rAd (tVar 2) (tVar 0)))) tNil)) (own := [("at", 2)]) (g := gName 2) (by rfl) nd (pi_range3 rfl B.range (pa_cons pe_int (pa_cons (pe_callB call_len_seq (by rfl) B.len (by decide +kernel) (pa_cons (pv 1) pa_nil)) (pa_cons (pv 0) pa_nil)))) (blkOk_by (own := [("at", 2)]) (N := ["book_length", "letters", "at"]) (sc := defScope sCut) (by decide +kernel)) (fun _ _ _ _ _ => pg_name (i := 2) nd rfl (Or.inl rfl)) (fun _ _ _ _ _ => pts_nil)
        (fun _ _ _ _ _ => (pe_callTy call_tuple_of (by rfl) B.tuple (by decide +kernel) (pa_cons (pe_slice (sl_list.or sl_tupA) (pv 1) (po_some (pv 2)) (po_some (pe_op op_add (pv 2) (pv 0)))) pa_nil)))) pa_nil)))), ?_⟩
    have hx : SqL K H a (ls.map V.int) ∨ SqT K H a (ls.map V.int) := ha.imp SqL.of SqT.of
    refine ⟨_, rfl, a, _, rfl, hx, _, rfl, 0, _, n, m, rfl, ?_, fun D hD => lc_it walk_rangeC (fun i H' => Same H H' ∧ ∃ ts, H' D = some (.lst ts) ∧ Paired (TB H') ts (cuts n i ls)) ⟨same_new hD, [], upd_same, .nil⟩ (fun _ _ _ _ => trivial) ?_ ?_⟩
    · rw [List.length_map, hl]
      exact rg_of h1 h2 h3
    · rintro i x H1 H1' hi ⟨s1, ts, eD, hts⟩ ⟨rfl, rfl⟩
      have hin : i * n + n ≤ ls.length := by
        rw [hl, Nat.mul_comm n m, ← Nat.succ_mul]
        exact Nat.mul_le_mul_right n hi
      have ei : (0 : Int) + (i : Int) * (n : Int) = ((i * n : Nat) : Int) := by rw [Int.zero_add]; simp
      show gName 2 (V.int ((0 : Int) + (i : Int) * (n : Int))) _ _ _
      rw [ei]
      have tl : ts.length < sizeLine := by
        rw [paired_len hts, cuts_len]
        exact small1000 (by omega)
      have ec : cutV (ls.map V.int) (some ((i * n : Nat) : Int)) (some (((i * n : Nat) : Int) + (n : Int))) = ((ls.drop (i * n)).take n).map V.int := by
        rw [cut_mid (by rw [List.length_map]; exact hin), List.map_take, List.map_drop]
      have tbD : ∀ {H' : Hp} {o : HO} {r : V} {b : List Int} {ts0 : List V}, H' D = some (.lst ts0) → TB H' r b → TB (upd H' D o) r b := fun hl h => by
        obtain ⟨c, e, h⟩ := h
        exact ⟨c, e, by rw [upd_ne (ne_of h hl (by intro z; cases z))]; exact h⟩
      have fin : ∀ (c : Addr) (H4 : Hp), Same H1' H4 → H4 c = some (.tup (((ls.drop (i * n)).take n).map V.int)) → ∃ acc, H4 D = some (.lst acc) ∧ acc.length < sizeLine ∧ Same H (upd H4 D (.lst (acc ++ [.ref c]))) ∧ ∃ ts, upd H4 D (.lst (acc ++ [.ref c])) D = some (.lst ts) ∧ Paired (TB (upd H4 D (.lst (acc ++ [.ref c])))) ts (cuts n (i + 1) ls) := by
        intro c H4 s4 ec4
        have eD4 := s4 _ _ eD
        refine ⟨ts, eD4, tl, fun d o hd => ?_, ts ++ [.ref c], upd_same, ?_⟩
        · rw [upd_ne (ne_of_none hd hD)]
          exact s4 _ _ (s1 _ _ hd)
        · rw [cuts_succ]
          exact paired_app (paired_mono (fun _ _ q => tbD eD4 (q.same s4)) hts) (.cons (tbD eD4 ⟨c, rfl, ec4⟩) .nil)
      refine ⟨rfl, _, rfl, _, rfl, _, rfl, _, rfl, _, rfl, _, _, rfl, rfl, _, rfl, ?_⟩
      rcases ha with h | h
      · refine .inl ⟨a, _, rfl, SqL.of (s1 _ _ h), fun c hc => ?_⟩
        rw [ec]
        have sc := same_new (o := .lst (((ls.drop (i * n)).take n).map V.int)) hc
        have ecc : upd H1' c (.lst (((ls.drop (i * n)).take n).map V.int)) c = some (.lst (((ls.drop (i * n)).take n).map V.int)) := upd_same
        exact ⟨c, _, rfl, .inl ⟨SqL.of ecc, fun q hq => fin q _ (sc.trans (same_new hq)) upd_same⟩⟩
      · refine .inr (slA_is (s1 _ _ h) fun r H3 s3 e3 => ?_)
        rw [ec] at e3
        exact ⟨r, _, rfl, .inr ⟨SqT.of e3, fin r H3 s3 e3⟩⟩
    · rintro H1 ⟨s1, ts, eD, hts⟩
      exact ⟨D, ts, rfl, .inl ⟨SqL.of eD, fun T hT => kk T _ (s1.trans (same_new hT)) ⟨ts, upd_same, paired_mono (fun _ _ q => q.same (same_new hT)) hts⟩⟩⟩
end
end WU

set_option maxRecDepth 100000
set_option maxHeartbeats 8000000
namespace WU
open PySem PySem.Spec PyProof.Rows L2
theorem good_cuts {p : Int} {n m : Nat} {ls : List Int} (hl : ls.length = n * m) (h1 : 1 ≤ n) (h2 : n ≤ 4) (h0 : 1 ≤ m) (h3 : m ≤ 16) (ha : ∀ l ∈ ls, 0 ≤ l ∧ l < p) : Good p n (cuts n m ls) := by
  refine ⟨fun z => ?_, h1, by omega, by rw [cuts_len]; omega, fun b hb => ?_⟩
  · have := congrArg List.length z
    rw [cuts_len, List.length_nil] at this
    omega
  · unfold cuts at hb
    obtain ⟨i, hi, rfl⟩ := List.mem_map.mp hb
    have hi2 := List.mem_range.mp hi
    have hin : i * n + n ≤ ls.length := by
      rw [hl, Nat.mul_comm n m, ← Nat.succ_mul]
      exact Nat.mul_le_mul_right n hi2
    refine ⟨?_, fun l hl => ha l (List.mem_of_mem_drop (List.mem_of_mem_take hl))⟩
    rw [List.length_take, List.length_drop]
    omega
theorem BkAt.same {H H' : Hp} {b : Addr} {bs : List (List Int)} (h : BkAt H b bs) (s : Same H H') : BkAt H' b bs := by
  obtain ⟨rs, e, h⟩ := h
  exact ⟨rs, s _ _ e, paired_mono (fun _ _ q => q.same s) h⟩
theorem passV {X : Cx} (σ : L2.St) : PassesAt (L2.CX X.prog X.w) X σ E0 := fun pins H s e s' I c => passU pins σ H s e s' I c
section
variable {P : Program} {w : World} {K : PySem.W.Frag} {mg : Str → Option Value} {base : Heap} {L : Addr}
abbrev sOL : Stmt := inClass (top 16) 4
theorem scOL : FnScope ["cls", "p", "book_length", "letters"] ["cls", "p", "book_length", "letters"] (defScope sOL) := ⟨rfl, rfl, rfl, by decide +kernel, rfl, by decide +kernel, by decide +kernel⟩
/-- Library.of_letters(p, n, letters) -/
def spOL (K : PySem.W.Frag) (L : Addr) : Sp := fun vs H Q E => ∃ (qv nv lv : V), vs = [.ref L, qv, nv, lv] ∧ Ty3 K H qv ∧ (isFld qv = false → Errs (He.ga K "InvalidNumber") "value" qv H E) ∧
  (isFld qv = true → ∃ (p : Int) (a : Addr) (ls : List Int) (n m : Nat), qv = .int p ∧ nv = .int n ∧ lv = .ref a ∧ (H a = some (.lst (ls.map V.int)) ∨ H a = some (.tup (ls.map V.int))) ∧ ls.length = n * m ∧ 1 ≤ n ∧ n ≤ 4 ∧ 1 ≤ m ∧ m ≤ 16 ∧ (∀ l ∈ ls, 0 ≤ l ∧ l < p) ∧
    ∀ y H', Same H H' → LibAt L H' y p n (cuts n m ls) → Good p n (cuts n m ls) → Q (.ref y) H')
theorem ok_OL {f f1 f2 fL : Addr} {fd fd1 fd2 fdL : FuncData} (F : FunD K "of_letters" "Library.of_letters" (defArgs sOL) (defBody sOL) (defScope sOL) [] [] f fd) (CF : Cal P w K mg base 3 "check_field" f1 fd1 ["p"] (spCheck K))
    (CC : Cal P w K mg base 1 "cut_in_books" f2 fd2 ["book_length", "letters"] spCut) (MK : Mk K L fL) (GI : FnOk P w K mg base (L2.CX P w) 6 fL fdL ["self", "p", "books"] (spLI K L)) (bI : L2.Binds K fdL ["self", "p", "books"] []) :
    FnOk P w K mg base (L2.CX P w) 8 f fd ["cls", "p", "book_length", "letters"] (spOL K L) := by
  refine F.ok scOL (fun vs H Q E h => ?_) (fun cdv A outer s H vs Q E hr h => ?_)
  · obtain ⟨qv, nv, lv, rfl, _⟩ := h
    rfl
  · obtain ⟨qv, nv, lv, rfl, ht, kN, kk⟩ := h
    have nd := scOL.nd
    have hr1 := hr.mono (show 1 ≤ 7 by decide)
    have hr3 := hr.mono (show 3 ≤ 7 by decide)
    refine ⟨_, (pss_cons (ps_expr (pe_cal (E := E) CF hr3 (pa_cons (pv 1) pa_nil) (passes_call (takes_of rfl rfl rfl rfl) (fun _ _ _ _ h => h))))
      (pss_one (ps_ret (pe_makeL (i := 0) (E := fun _ => E0) MK GI hr rfl (Or.inl rfl) bI passV (pa_cons (pv 1) (pa_cons (pe_cal CC hr1 (pa_cons (pv 2) (pa_cons (pv 3) pa_nil)) passU) pa_nil)))))), ?_⟩
    refine ⟨_, rfl, qv, rfl, ht, fun e => ?_, fun e => kN e⟩
    obtain ⟨p, a, ls, n, m, rfl, rfl, rfl, ha, hl, h1, h2, h0, h3, hb, q⟩ := kk e
    have g := good_cuts hl h1 h2 h0 h3 hb
    refine ⟨rfl, _, rfl, _, rfl, _, rfl, a, ls, n, m, rfl, ha, hl, h1, h2, h3, fun r H1 s1 hB => ?_⟩
    intro y dy hy hdy hne
    obtain ⟨rs, er, hrs⟩ := hB
    have s5 : Same H1 (upd H1 dy (.own y)) := same_new hdy
    have ey5 : upd H1 dy (.own y) y = none := by rw [upd_ne (Ne.symm hne)]; exact hy
    generalize upd H1 dy (.own y) = H5 at s5 ey5 ⊢
    have s6 := same_new (o := .ins L dy []) ey5
    have e6 : upd H5 y (.ins L dy []) y = some (.ins L dy []) := upd_same
    generalize upd H5 y (.ins L dy []) = H6 at s6 e6 ⊢
    have s16 := s5.trans s6
    refine ⟨y, dy, r, p, rs, cuts n m ls, n, rfl, e6, fld_mem e, .inr (s16 _ _ er), paired_mono (fun _ _ q => (q.same s16).sb) hrs, g, fun H7 hL7 k7 => ⟨rfl, q y H7 (fun d o hd => ?_) hL7 g⟩⟩
    exact k7 _ _ (ne_of_none (s1 _ _ hd) hy) (s16 _ _ (s1 _ _ hd))
end
end WU

set_option maxRecDepth 100000
set_option maxHeartbeats 8000000
namespace WU
open PySem PySem.Spec PyProof.Rows L2
theorem wIt {J : It} {n : Nat} {G : Hp → Prop} {Y : Nat → Hp → V → Hp → Prop} (w : Walk J n G Y) {H0 : Hp} {Qd : Hp → Prop} {B : V → Hp → (Hp → Prop) → Prop} (Pv : Nat → Hp → Prop) (h0 : Pv 0 H0) (hG : ∀ i H, i ≤ n → Pv i H → G H)
    (hs : ∀ i x H H', i < n → Pv i H → Y i H x H' → B x H' (Pv (i + 1))) (hd : ∀ H, Pv n H → Qd H) :
    ∃ W : Nat → Nat → Hp → Prop, (∃ m, W 0 m H0) ∧ ∀ i m H, W i m H → (J.stop i H ∧ Qd H) ∨
      (J.go i H ∧ ∃ Nx : Hp → Prop, (∀ H', Nx H' → ∃ m', m' < m ∧ W (i + 1) m' H') ∧ ∀ x H', J.yld i H x H' → B x H' Nx) := by
  refine ⟨fun i m H => m = n - i ∧ i ≤ n ∧ Pv i H, ⟨n, by simp, Nat.zero_le _, h0⟩, ?_⟩
  rintro i m H ⟨rfl, hi, p⟩
  have q := hG i H hi p
  by_cases hlt : i < n
  · exact .inr ⟨w.goes i H hlt q, Pv (i + 1), fun H' p' => ⟨n - (i + 1), by omega, rfl, hlt, p'⟩, fun x H' y => hs i x H H' hlt p (w.yields i H x H' hlt q y)⟩
  · have e : i = n := by omega
    subst e
    exact .inl ⟨w.stops H q, hd H p⟩
/-- a row and one more letter -/
def ext (q : Nat) (r : List Int) : List (List Int) := (List.range q).map fun (l : Nat) => r ++ [(l : Int)]
def rowsN (q : Nat) : Nat → List (List Int)
  | 0 => [[]]
  | t + 1 => (rowsN q t).flatMap (ext q)
theorem ext_len {q : Nat} : ∀ xs : List (List Int), (xs.flatMap (ext q)).length = xs.length * q
  | [] => by simp
  | x :: xs => by
    rw [List.flatMap_cons, List.length_append, ext_len xs, List.length_cons, Nat.succ_mul]
    unfold ext
    rw [List.length_map, List.length_range]
    omega
theorem rowsN_len {q : Nat} : ∀ t, (rowsN q t).length = q ^ t
  | 0 => rfl
  | t + 1 => by
    show ((rowsN q t).flatMap (ext q)).length = _
    rw [ext_len, rowsN_len t, Nat.pow_succ]
theorem rowsN_of {q : Nat} : ∀ t, ∀ r ∈ rowsN q t, r.length = t ∧ ∀ l ∈ r, 0 ≤ l ∧ l < (q : Int)
  | 0, r, h => by
    rw [List.mem_singleton.mp h]
    exact ⟨rfl, fun l hl => nomatch hl⟩
  | t + 1, r, h => by
    obtain ⟨s, hs, hr⟩ := List.mem_flatMap.mp h
    obtain ⟨e1, e2⟩ := rowsN_of t s hs
    obtain ⟨l, hl, rfl⟩ := List.mem_map.mp hr
    have hl2 := List.mem_range.mp hl
    refine ⟨by rw [List.length_append, e1]; rfl, fun x hx => ?_⟩
    rcases List.mem_append.mp hx with h | h
    · exact e2 x h
    · rw [List.mem_singleton.mp h]
      omega
section
variable {P : Program} {w : World} {K : PySem.W.Frag} {mg : Str → Option Value} {base : Heap} {L : Addr}
theorem FnOk.raw0 {CX : CXT} {k : Nat} {f : Addr} {fd : FuncData} {ps : List Str} {sp : Sp} (F : FnOk P w K mg base CX k f fd ps sp) (hb : L2.Binds K fd ps []) : FnR P w K mg base CX k f sp :=
  FnR.imp (F.raw hb .nil) fun vs H Q E h => by
    rw [List.append_nil]
    exact h
/-- the classmethod Library.of_letters -/
structure OLM (P : Program) (w : World) (K : PySem.W.Frag) (mg : Str → Option Value) (base : Heap) (L p g : Addr) : Prop where
  r : ClX.CRead K L (.type "type")
  c : ClX.CMet K L (.type "type") "of_letters" p g
  F : FnR P w K mg base (L2.CX P w) 8 g (spOL K L)
/-- x stands for a library of n-letter books -/
def LR (L : Addr) (p : Int) (n c : Nat) (H : Hp) (x : V) (ls : List Int) : Prop := ∃ y, x = .ref y ∧ LibAt L H y p n (cuts n c ls) ∧ Good p n (cuts n c ls)
theorem LR.same {p : Int} {n c : Nat} {H H' : Hp} {x : V} {ls : List Int} (h : LR L p n c H x ls) (s : Same H H') : LR L p n c H' x ls := by
  obtain ⟨y, e, h, g⟩ := h
  exact ⟨y, e, h.same s, g⟩
abbrev sRb : Stmt := top 10
theorem scRb : FnScope ["limit", "length", "rows", "_", "row", "number"] ["limit", "length"] (defScope sRb) := ⟨rfl, rfl, rfl, by decide +kernel, rfl, by decide +kernel, by decide +kernel⟩
/-- rows_below(limit, length) -/
def spRb : Sp := fun vs H Q _ => ∃ (q t : Nat), vs = [.int q, .int t] ∧ q ≤ 3 ∧ t ≤ 4 ∧ ∀ r rs H', Same H H' → H' r = some (.lst rs) → Paired (TB H') rs (rowsN q t) → Q (.ref r) H'
theorem ok_Rb {f : Addr} {fd : FuncData} (F : FnS K "rows_below" sRb f fd) (B : Blt3 mg) : FnOk P w K mg base (L2.CX P w) 1 f fd ["limit", "length"] spRb := by
  refine F.ok scRb (fun vs H Q E h => ?_) (fun cdv A outer s H vs Q E hr h => ?_)
  · obtain ⟨q, t, rfl, _⟩ := h
    rfl
  · obtain ⟨q, t, rfl, hq, ht, kk⟩ := h
    have nd := scRb.nd
    refine ⟨_, (pss_cons (ps_set (i := 2) nd rfl (Or.inl rfl) (pe_lst (pa_cons (pe_tup pa_nil) pa_nil)))
      (pss_cons (ps_for (passes_of rfl) rfl (pi_range1 rfl B.range (pa_cons (pv 1) pa_nil)) (pg_name (i := 3) nd rfl (Or.inl rfl)) (pss_one
        (ps_setLc2 (i := 2) (wi1 := iRng1 (tCons (tVar 0) tNil)) (te := tTup (StX.tStar K (tVar 4) (tCons (tVar 5) tNil))) (own := [("row", 4), ("number", 5)]) (vs1 := [5]) (g := gName 4) (g1 := gName 5) (by rfl) nd rfl rfl (sw_true rfl rfl rfl (by decide +kernel)) (pi_list (pv 2)) (blkOk_by (own := [("row", 4), ("number", 5)]) (N := ["limit", "length", "rows", "_", "row", "number"]) (sc := defScope sRb) (by decide +kernel)) (by decide) (fun _ _ _ _ _ => pg_name (i := 4) nd rfl (Or.inl rfl)) (fun _ _ _ _ _ => pts_nil) (fun _ _ _ _ _ => pi_range1 rfl B.range (pa_cons (pv 0) pa_nil)) (fun _ _ _ _ _ => pg_name (i := 5) nd rfl (Or.inl rfl)) (fun _ _ _ _ _ => pts_nil) (fun _ _ _ _ _ => pe_tup (StX.pa_star (pv 4) (pa_cons (pv 5) pa_nil))))))
      (pss_one (ps_ret (pv 2))))), ?_⟩
    have small : ∀ {t}, t ≤ 4 → q ^ t ≤ 81 := fun {t} h => Nat.le_trans (Nat.pow_le_pow_left hq t) (Nat.le_trans (Nat.pow_le_pow_right (by decide) h) (by decide))
    refine ⟨(by show 0 ≤ sizeLine; decide), fun T hT => ⟨(by show 1 ≤ sizeLine; decide), fun R hR => ?_⟩⟩
    have s0 := same_new (o := .tup []) hT
    have sR := same_new (o := .lst [.ref T]) hR
    have eT := sR _ _ (show upd H T (.tup []) T = some (.tup []) from upd_same)
    have eR : upd (upd H T (.tup [])) R (.lst [.ref T]) R = some (.lst [.ref T]) := upd_same
    have s00 := s0.trans sR
    generalize upd (upd H T (.tup [])) R (.lst [.ref T]) = H0 at eT eR s00 ⊢
    refine ⟨_, rfl, (t : Int), rfl, by omega, by omega,
      for_range (lo := 0) (n := t) (fun i σ H' => ∃ r y rs, σ = [some (.int q), some (.int t), some (.ref r), y, none, none] ∧ Same H H' ∧ H' r = some (.lst rs) ∧ Paired (TB H') rs (rowsN q i)) ⟨R, none, [.ref T], rfl, s00, eR, .cons ⟨T, rfl, eT⟩ .nil⟩ ?_ ?_⟩
    · rintro i σ H1 hi ⟨r, y, rs, rfl, s1, er, hrs⟩
      have hi4 : i + 1 ≤ 4 := by omega
      have elen : rs.length = q ^ i := by rw [paired_len hrs, rowsN_len]
      refine ⟨_, rfl, r, rfl, ⟨_, SqL.of er⟩, fun D hD => wIt walk_list (fun j H' => Same H1 H' ∧ ∃ ts, H' D = some (.lst ts) ∧ Paired (TB H') ts (((rowsN q i).take j).flatMap (ext q))) ⟨same_new hD, [], upd_same, .nil⟩ (fun j H' _ z => SqL.of (z.1 _ _ er)) ?_ ?_⟩
      · rintro j x H2 H2' hj ⟨s2, ts, eD, hts⟩ ⟨rfl, hx⟩
        obtain ⟨b, hb, cb, rfl, ecb⟩ := paired_at hrs hx
        have hb2 := (rowsN_of i b (List.mem_of_getElem? hb)).1
        refine ⟨rfl, _, rfl, _, rfl, by omega, by omega, wIt walk_range (fun l H' => Same H1 H' ∧ ∃ ts, H' D = some (.lst ts) ∧ Paired (TB H') ts (((rowsN q i).take j).flatMap (ext q) ++ (List.range l).map fun (l : Nat) => b ++ [(l : Int)])) ⟨s2, ts, eD, by rw [List.range_zero, List.map_nil, List.append_nil]; exact hts⟩ (fun _ _ _ _ => trivial) ?_ ?_⟩
        · rintro l x H3 H3' hl ⟨s3, us, eD3, hus⟩ ⟨rfl, rfl⟩
          show gName 5 (V.int ((0 : Int) + (l : Int))) _ _ _
          rw [Int.zero_add]
          refine ⟨rfl, _, rfl, cb, b.map V.int, rfl, .inl (SqT.of (s3 _ _ ecb)), _, rfl, ?_, fun Z hZ => ?_⟩
          · rw [List.length_append, List.length_map]
            exact Nat.le_of_lt (small1000 (by show b.length + 1 ≤ _; omega))
          · have eb : b.map V.int ++ [V.int (l : Int)] = (b ++ [(l : Int)]).map V.int := by rw [List.map_append]; rfl
            have sZ := same_new (o := .tup (b.map V.int ++ [V.int (l : Int)])) hZ
            have eZ : upd H3' Z (.tup (b.map V.int ++ [V.int (l : Int)])) Z = some (.tup ((b ++ [(l : Int)]).map V.int)) := by rw [upd_same, eb]
            have eD4 := sZ _ _ eD3
            have hus4 : Paired (TB (upd H3' Z (.tup (b.map V.int ++ [V.int (l : Int)])))) us _ := paired_mono (fun _ _ q => q.same sZ) hus
            have s4 : Same H1 (upd H3' Z (.tup (b.map V.int ++ [V.int (l : Int)]))) := s3.trans sZ
            show ∃ acc, upd H3' Z (.tup (b.map V.int ++ [V.int (l : Int)])) D = some (.lst acc) ∧ _
            generalize upd H3' Z (.tup (b.map V.int ++ [V.int (l : Int)])) = H4 at eZ eD4 hus4 s4 ⊢
            have tbD : ∀ {o : HO} {r : V} {b : List Int}, TB H4 r b → TB (upd H4 D o) r b := fun h => by
              obtain ⟨c, e, h⟩ := h
              exact ⟨c, e, by rw [upd_ne (ne_of h eD4 (by intro z; cases z))]; exact h⟩
            refine ⟨us, eD4, ?_, fun d o hd => ?_, us ++ [.ref Z], upd_same, ?_⟩
            · rw [paired_len hus, List.length_append, ext_len, List.length_map, List.length_range, List.length_take]
              have h1 : min j (rowsN q i).length * q ≤ 81 * 3 := Nat.mul_le_mul (Nat.le_trans (Nat.min_le_right _ _) (by rw [rowsN_len]; exact small (by omega))) hq
              exact small1000 (by omega)
            · rw [upd_ne (ne_of_none hd hD)]
              exact s4 _ _ hd
            · rw [List.range_succ, List.map_append, ← List.append_assoc]
              exact paired_app (paired_mono (fun _ _ q => tbD q) hus4) (.cons (tbD ⟨Z, rfl, eZ⟩) .nil)
        · rintro H3 ⟨s3, us, eD3, hus⟩
          refine ⟨s3, us, eD3, ?_⟩
          rw [List.take_succ, hb, List.flatMap_append]
          simpa [ext] using hus
      · rintro H2 ⟨s2, ts, eD, hts⟩
        rw [paired_len hrs, List.take_length] at hts
        exact ⟨D, _, ts, rfl, s1.trans s2, eD, hts⟩
    · rintro σ H1 ⟨r, y, rs, rfl, s1, er, hrs⟩
      exact ⟨_, rfl, kk r rs H1 s1 er hrs⟩
abbrev sEv : Stmt := top 17
theorem scEv : FnScope ["p", "book_count", "book_length", "row"] ["p", "book_count", "book_length"] (defScope sEv) := ⟨rfl, rfl, rfl, by decide +kernel, rfl, by decide +kernel, by decide +kernel⟩
def spEv (K : PySem.W.Frag) (L : Addr) : Sp := fun vs H Q E => ∃ (qv cv nv : V), vs = [qv, cv, nv] ∧ Ty3 K H qv ∧ (isFld qv = false → Errs (He.ga K "InvalidNumber") "value" qv H E) ∧
  (isFld qv = true → ∃ (q c n : Nat), qv = .int q ∧ cv = .int c ∧ nv = .int n ∧ 1 ≤ c ∧ 1 ≤ n ∧ c * n ≤ 4 ∧ q ≤ 3 ∧ ∀ r xs H', Same H H' → H' r = some (.tup xs) → Paired (LR L q n c H') xs (rowsN q (c * n)) → Q (.ref r) H')
theorem ok_Ev {f f1 pO gO : Addr} {fd fd1 : FuncData} (F : FnS K "every_library" sEv f fd) (B : Blt3 mg) (C : LibC K mg L) (CF : Cal P w K mg base 3 "check_field" f1 fd1 ["p"] (spCheck K)) (O : OLM P w K mg base L pO gO)
    {fR : Addr} {fdR : FuncData} (CR : Cal P w K mg base 1 "rows_below" fR fdR ["limit", "length"] spRb) :
    FnOk P w K mg base (L2.CX P w) 9 f fd ["p", "book_count", "book_length"] (spEv K L) := by
  refine F.ok scEv (fun vs H Q E h => ?_) (fun cdv A outer s H vs Q E hr h => ?_)
  · obtain ⟨qv, cv, nv, rfl, _⟩ := h
    rfl
  · obtain ⟨qv, cv, nv, rfl, ht, kN, kk⟩ := h
    have nd := scEv.nd
    have hr3 := hr.mono (show 3 ≤ 8 by decide)
    refine ⟨_, (pss_cons (ps_expr (pe_cal (E := E) CF hr3 (pa_cons (pv 0) pa_nil) (passes_call (takes_of rfl rfl rfl rfl) (fun _ _ _ _ h => h))))
      (pss_one (ps_ret (pe_callTy call_tuple_of (by rfl) B.tuple (by decide +kernel) (pa_cons
        (pe_lc (te := tCMethS L (spOL K L) (fun _ => E0) (tC (.ref L)) (tCons (tVar 0) (tCons (tVar 2) (tCons (tVar 3) tNil)))) (own := [("row", 3)]) (g := gName 3) (by rfl) nd (pi_list (pe_cal CR (hr.mono (by decide)) (pa_cons (pv 0) (pa_cons (pe_op op_mul (pv 1) (pv 2)) pa_nil)) passU)) (blkOk_by (own := [("row", 3)]) (N := ["p", "book_count", "book_length", "row"]) (sc := defScope sEv) (by decide +kernel)) (fun _ _ _ _ _ => pg_name (i := 3) nd rfl (Or.inl rfl)) (fun _ _ _ _ _ => pts_nil)
          (fun _ _ _ _ _ => pe_cmethS (E := fun _ => E0) (pe_glob (v := .ref L) rfl C.g rfl) O.r O.c O.F hr passV (pa_cons (pv 0) (pa_cons (pv 2) (pa_cons (pv 3) pa_nil))))) pa_nil))))), ?_⟩
    refine ⟨_, rfl, qv, rfl, ht, fun e => ?_, fun e => kN e⟩
    obtain ⟨q, c, n, rfl, rfl, rfl, hc, hn, hcn, hq, kk⟩ := kk e
    have small : ∀ {t}, t ≤ 4 → q ^ t ≤ 81 := fun {t} h => Nat.le_trans (Nat.pow_le_pow_left hq t) (Nat.le_trans (Nat.pow_le_pow_right (by decide) h) (by decide))
    have hc4' : c ≤ 4 := Nat.le_trans (Nat.le_mul_of_pos_right c hn) hcn
    refine ⟨_, rfl, _, rfl, _, rfl, _, _, rfl, rfl, .inl ⟨by omega, by omega⟩, q, c * n, (by rw [show (((c * n : Nat)) : Int) = (c : Int) * (n : Int) by simp]; rfl), hq, hcn, fun r rs H1 s1 er hrs => ?_⟩
    · refine ⟨r, rfl, ⟨_, SqL.of er⟩, fun D hD => lc_it walk_list (fun j H' => Same H1 H' ∧ ∃ ts, H' D = some (.lst ts) ∧ Paired (LR L q n c H') ts ((rowsN q (c * n)).take j)) ⟨same_new hD, [], upd_same, .nil⟩ (fun j H' _ z => SqL.of (z.1 _ _ er)) ?_ ?_⟩
      · rintro j x H2 H2' hj ⟨s2, ts, eD, hts⟩ ⟨rfl, hx⟩
        obtain ⟨b, hb, cb, rfl, ecb⟩ := paired_at hrs hx
        obtain ⟨b1, b2⟩ := rowsN_of (c * n) b (List.mem_of_getElem? hb)
        have hc4 : c ≤ 4 := Nat.le_trans (Nat.le_mul_of_pos_right c hn) hcn
        have hn4 : n ≤ 4 := Nat.le_trans (Nat.le_mul_of_pos_left n hc) hcn
        refine ⟨rfl, rfl, _, rfl, _, rfl, _, rfl, _, _, _, rfl, ty3_int _, fun e' => absurd e (by rw [e']; decide), fun _ => ⟨q, cb, b, n, c, rfl, rfl, rfl, .inr (s2 _ _ ecb), by rw [b1, Nat.mul_comm], hn, hn4, hc, by omega, b2, fun y H3 s3 hL g => ?_⟩⟩
        have eD3 := s3 _ _ eD
        have hts3 : Paired (LR L q n c H3) ts _ := paired_mono (fun _ _ q => q.same s3) hts
        have lrD : ∀ {o : HO} {r : V} {b : List Int}, LR L q n c H3 r b → LR L q n c (upd H3 D o) r b := fun h => by
          obtain ⟨y, e, ⟨dx, a, tl, zs, h1, h2, h3, h4⟩, g⟩ := h
          have ne : ∀ {z : Addr} {o' : HO}, H3 z = some o' → (∀ xs, o' ≠ .lst xs) → z ≠ D := fun hz hn => ne_of hz eD3 (hn _)
          refine ⟨y, e, ⟨dx, a, tl, zs, by rw [upd_ne (ne h1 (fun _ z => nomatch z))]; exact h1, by rw [upd_ne (ne h2 (fun _ z => nomatch z))]; exact h2, paired_mono (fun _ _ q => ?_) h3, by rw [upd_ne (ne h4 (fun _ z => nomatch z))]; exact h4⟩, g⟩
          obtain ⟨c, e, h⟩ := q
          exact ⟨c, e, by rw [upd_ne (ne h (fun _ z => nomatch z))]; exact h⟩
        refine ⟨ts, eD3, ?_, fun d o hd => ?_, ts ++ [.ref y], upd_same, ?_⟩
        · rw [paired_len hts, List.length_take, rowsN_len]
          exact small1000 (Nat.le_trans (Nat.min_le_right _ _) (Nat.le_trans (small (by omega)) (by decide)))
        · rw [upd_ne (ne_of_none hd hD)]
          exact s3 _ _ (s2 _ _ hd)
        · rw [List.take_succ, hb]
          exact paired_app (paired_mono (fun _ _ q => lrD q) hts3) (.cons (lrD ⟨y, rfl, hL, g⟩) .nil)
      · rintro H2 ⟨s2, ts, eD, hts⟩
        rw [paired_len hrs, List.take_length] at hts
        exact ⟨D, ts, rfl, .inl ⟨SqL.of eD, fun T hT => kk T ts _ (s1.trans (s2.trans (same_new hT))) upd_same (paired_mono (fun _ _ q => q.same (same_new hT)) hts)⟩⟩
end
end WU

set_option maxRecDepth 100000
set_option maxHeartbeats 8000000
/-! == of a value of another kind and an instance with an own __eq__: the other declines, the own one answers -/
namespace WU
open PySem PySem.Spec PyProof.Rows PySem.SeqAt
open AutoSeq1 (wpAny_loadPart')
section
variable {prog : Program} {w : World} {A : Around} {R : Result → Shared → Prop} {s : Shared}
theorem int_dec (b : Int) (u : Tok) {x C dx : Addr} (hx : s.heap.get? x = some (PySem.W.instObj C dx)) (h : R (.ok (.ret .notImplemented)) s) :
    wpAny (model prog w) A.in1 (Builtin.«int.__eq__» ⟨[.int b u, .ref x], []⟩) (GQ.FinOf prog w A R) (fun e s' => R (.error e) s') s := by
  unfold PySem.W.instObj at hx
  obtain ⟨hp, g, d, tk, os⟩ := s
  wp_walk using wpAny_loadPart' hx, wpAny_load hx
  exact h
theorem list_dec {l x : Addr} {items : Array Value} {n : Nat} {dd : Option Addr} {sl : Array (Option Value)} (hl : s.heap.get? l = some { cls := .type "list", dict := dd, data := .seq items n, slots := sl })
    (hi : PySem.W.Looks (model prog w) s.heap (isInstance (.ref x) (.type "list")) false) (h : R (.ok (.ret .notImplemented)) s) :
    wpAny (model prog w) A.in1 (Builtin.«list.__eq__» ⟨[.ref l, .ref x], []⟩) (GQ.FinOf prog w A R) (fun e s' => R (.error e) s') s := by
  have hi' : ∀ {A : Around} {Q : Bool → Shared → Prop} {E : Value → Shared → Prop}, Q false s → wpAny (model prog w) A (isInstance (.ref x) (.type "list")) Q E s := fun q => hi.here q
  obtain ⟨hp, g, d, tk, os⟩ := s
  wp_walk using hi', wpAny_loadPart' hl
  exact h
theorem tuple_dec {l x : Addr} {items : Array Value} {n : Nat} {dd : Option Addr} {sl : Array (Option Value)} (hl : s.heap.get? l = some { cls := .type "tuple", dict := dd, data := .seq items n, slots := sl })
    (hi : PySem.W.Looks (model prog w) s.heap (isInstance (.ref x) (.type "tuple")) false) (h : R (.ok (.ret .notImplemented)) s) :
    wpAny (model prog w) A.in1 (Builtin.«tuple.__eq__» ⟨[.ref l, .ref x], []⟩) (GQ.FinOf prog w A R) (fun e s' => R (.error e) s') s := by
  have hi' : ∀ {A : Around} {Q : Bool → Shared → Prop} {E : Value → Shared → Prop}, Q false s → wpAny (model prog w) A (isInstance (.ref x) (.type "tuple")) Q E s := fun q => hi.here q
  obtain ⟨hp, g, d, tk, os⟩ := s
  wp_walk using hi', wpAny_loadPart' hl
  exact h
end
end WU

set_option maxRecDepth 100000
set_option maxHeartbeats 8000000
namespace WU
open PySem PySem.Spec PyProof.Rows L2
/-! ### books as data -/
def rowD (b : List Int) : PyData := .tuple (b.map .int)
def shelfD (bs : List (List Int)) : PyData := .tuple (bs.map rowD)
theorem eqv_ints : ∀ b c : List Int, PyData.eqvAll (b.map .int) (c.map .int) = decide (b = c)
  | [], [] => rfl
  | [], _ :: _ => rfl
  | _ :: _, [] => rfl
  | x :: b, y :: c => by
    show ((x == y) && PyData.eqvAll (b.map .int) (c.map .int)) = _
    rw [eqv_ints b c]
    by_cases h : x = y <;> by_cases h2 : b = c <;> simp [h, h2]
theorem eqv_rows : ∀ b c : List (List Int), PyData.eqvAll (b.map rowD) (c.map rowD) = decide (b = c)
  | [], [] => rfl
  | [], _ :: _ => rfl
  | _ :: _, [] => rfl
  | x :: b, y :: c => by
    show (PyData.eqvAll (x.map .int) (y.map .int) && PyData.eqvAll (b.map rowD) (c.map rowD)) = _
    rw [eqv_rows b c, eqv_ints x y]
    by_cases h : x = y <;> by_cases h2 : b = c <;> simp [h, h2]
theorem eqv_shelf (b c : List (List Int)) : PyData.eqv (shelfD b) (shelfD c) = decide (b = c) := eqv_rows b c
theorem lay_ints : ∀ b : List Int, PyData.canLayAll0 (b.map PyData.int) = true ∧ PyData.depthAll (b.map PyData.int) = 0
  | [] => ⟨rfl, rfl⟩
  | x :: b => by
    obtain ⟨h1, h2⟩ := lay_ints b
    refine ⟨?_, ?_⟩
    · simp only [List.map_cons, PyData.canLayAll0, PyData.canLay0, h1, Bool.and_self]
    · simp only [List.map_cons, PyData.depthAll, PyData.depth, h2, Nat.max_self]
theorem lay_rows : ∀ b : List (List Int), PyData.canLayAll0 (b.map rowD) = true ∧ PyData.depthAll (b.map rowD) ≤ 1
  | [] => ⟨rfl, Nat.zero_le _⟩
  | x :: b => by
    obtain ⟨h1, h2⟩ := lay_rows b
    obtain ⟨g1, g2⟩ := lay_ints x
    refine ⟨?_, ?_⟩
    · simp only [List.map_cons, PyData.canLayAll0, rowD, PyData.canLay0, g1, Bool.true_and]
      exact h1
    · simp only [List.map_cons, PyData.depthAll, rowD, PyData.depth, g2]
      exact Nat.max_le.mpr ⟨Nat.le_refl _, h2⟩
theorem shaped_shelf (b : List (List Int)) : SeqAt.shaped (shelfD b) = true := by
  obtain ⟨h1, h2⟩ := lay_rows b
  unfold SeqAt.shaped shelfD
  simp only [PyData.canLay0, h1, PyData.depth, Bool.true_and]
  exact decide_eq_true (by omega)
theorem dp_rows {K : PySem.W.Frag} {H : Hp} : ∀ {rs : List V} {bs : List (List Int)}, Paired (TB H) rs bs → DpAll K H rs (bs.map rowD)
  | _, _, .nil => .nil
  | _, _, .cons ⟨c, e, h⟩ t => by
    subst e
    exact .cons (.tup (SqT.of h) (dps_ints _)) (dp_rows t)
theorem dp_shelf {K : PySem.W.Frag} {H : Hp} {a : Addr} {rs : List V} {bs : List (List Int)} (h : H a = some (.tup rs)) (p : Paired (TB H) rs bs) : Dp K H (.ref a) (shelfD bs) := .tup (SqT.of h) (dp_rows p)
section
variable {P : Program} {w : World} {K : PySem.W.Frag} {mg : Str → Option Value} {base : Heap} {L : Addr}
/-- what is asked of Library beside values of other kinds -/
structure LibE (K : PySem.W.Frag) (L fE : Addr) : Prop where
  hs : PySem.W.findIn K (.ref L) "__eq__" = some (some (.ref fE))
  hf : PySem.W.isFn K (.ref fE) = true
  kN : PySem.W.kitOne K (.type "NoneType") (.ref L) = some false
  kI : PySem.W.kitOne K (.type "int") (.ref L) = some false
  kL : PySem.W.kitOne K (.type "list") (.ref L) = some false
  kT : PySem.W.kitOne K (.type "tuple") (.ref L) = some false
  sN : PySem.W.subIn K (.ref L) (.type "NoneType") = some false
  sI : PySem.W.subIn K (.ref L) (.type "int") = some false
  sL : PySem.W.subIn K (.ref L) (.type "list") = some false
  sT : PySem.W.subIn K (.ref L) (.type "tuple") = some false
/-- a value that is no Library -/
def Oth (H : Hp) (v : V) : Prop := v = .non ∨ (∃ i, v = .int i) ∨ (∃ a xs, v = .ref a ∧ H a = some (.lst xs)) ∨ ∃ a xs, v = .ref a ∧ H a = some (.tup xs)
theorem Oth.same {H H' : Hp} {v : V} (h : Oth H v) (s : Same H H') : Oth H' v := by
  rcases h with h | h | ⟨a, xs, h, e⟩ | ⟨a, xs, h, e⟩
  · exact .inl h
  · exact .inr (.inl h)
  · exact .inr (.inr (.inl ⟨a, xs, h, s _ _ e⟩))
  · exact .inr (.inr (.inr ⟨a, xs, h, s _ _ e⟩))
theorem Oth.ty {fE : Addr} (E : LibE K L fE) {H : Hp} {v : V} (h : Oth H v) : ∃ t, TyX K H v t ∧ PySem.W.kitOne K t (.ref L) = some false := by
  rcases h with rfl | ⟨i, rfl⟩ | ⟨a, xs, rfl, e⟩ | ⟨a, xs, rfl, e⟩
  · exact ⟨_, .base .non, E.kN⟩
  · exact ⟨_, .base (.int i), E.kI⟩
  · exact ⟨_, .base (.lst e), E.kL⟩
  · exact ⟨_, .base (.tup e), E.kT⟩
abbrev sLE : Stmt := inClass (top 16) 1
theorem scLE : FnScope ["self", "other"] ["self", "other"] (defScope sLE) := ⟨rfl, rfl, rfl, by decide +kernel, rfl, by decide +kernel, by decide +kernel⟩
/-- library == other -/
def spLE (L : Addr) : Sp := fun vs H Q _ => ∃ (x : Addr) (v : V) (p : Int) (n : Nat) (bs : List (List Int)), vs = [.ref x, v] ∧ LibAt L H x p n bs ∧
  ((∃ (y : Addr) (p' : Int) (n' : Nat) (bs' : List (List Int)), v = .ref y ∧ LibAt L H y p' n' bs' ∧ ∀ H', Same H H' → Q (.bl (decide (p = p' ∧ bs = bs'))) H') ∨ (Oth H v ∧ ∀ H', Same H H' → Q (.bl false) H'))
theorem ok_LE {f fE : Addr} {fd : FuncData} (F : FunD K "__eq__" "Library.__eq__" (defArgs sLE) (defBody sLE) (defScope sLE) [] [] f fd) (B : Blt3 mg) (C : LibC K mg L) (LE : LibE K L fE) : FnOk P w K mg base (L2.CX P w) 1 f fd ["self", "other"] (spLE L) := by
  refine F.ok scLE (fun vs H Q E h => ?_) (fun cdv A outer s H vs Q E hr h => ?_)
  · obtain ⟨x, v, p, n, bs, rfl, _⟩ := h
    rfl
  · obtain ⟨x, v, p, n, bs, rfl, ⟨dx, a, tl, rs, h1, h2, h3, h4⟩, hc⟩ := h
    have hu := hr.units
    refine ⟨_, (pss_one (ps_ret (pe_and (pe_callB call_isi (by rfl) B.isi (by decide +kernel) (pa_cons (pv 1) (pa_cons (pe_glob (v := .ref L) rfl C.g rfl) pa_nil))) (pe_and (pe_cmpR op_eq (pe_fld (pv 0) rfl) (pe_fld (pv 1) rfl) (nomark _)) (pe_one (pe_cmpR (op_eqD hu) (pe_fld (pv 0) rfl) (pe_fld (pv 1) rfl) (nomark _))))))), ?_⟩
    rcases hc with ⟨y, p', n', bs', rfl, ⟨dy, b, ul, us, g1, g2, g3, g4⟩, kk⟩ | ⟨ho, kk⟩
    · refine ⟨_, rfl, _, _, _, _, _, rfl, .own L, .base (.ins g1 C.cl C.ha C.hn C.htk C.hm), C.kS, _, rfl, iteT ?_⟩
      refine ⟨_, rfl, x, L, dx, _, _, rfl, h1, C.cl, C.nP, lf_p, _, rfl, y, L, dy, _, _, rfl, g1, C.cl, C.nP, lf_p, rfl, _, rfl, ?_⟩
      have k0 := kk H (Same.refl H)
      by_cases e : p = p'
      · refine iteTb (decide_eq_true (by rw [e])) ?_
        refine ⟨_, rfl, x, L, dx, _, _, rfl, h1, C.cl, C.nB, lf_books, _, rfl, y, L, dy, _, _, rfl, g1, C.cl, C.nB, lf_books, ?_⟩
        refine ⟨_, _, dp_shelf h2 h3, dp_shelf g2 g3, shaped_shelf bs, shaped_shelf bs', ?_⟩
        rw [eqv_shelf, show decide (bs = bs') = decide (p = p' ∧ bs = bs') by simp [e]]
        exact k0
      · rw [show decide (p = p' ∧ bs = bs') = false by simp [e]] at k0
        refine iteFb (decide_eq_false fun z => e (V.int.inj z)) ?_
        exact k0
    · obtain ⟨t, ht, hk⟩ := ho.ty LE
      exact ⟨_, rfl, _, _, _, _, _, rfl, .own L, ht, hk, _, rfl, iteF (kk H (Same.refl H))⟩
end
end WU

set_option maxRecDepth 100000
set_option maxHeartbeats 8000000
namespace WU
open PySem PySem.Spec PyProof.Rows L2
section
variable {prog : Program} {w : World} {A : Around} {E : Value → Shared → Prop} {s : Shared} {K : PySem.W.Frag} {x C L f : Addr} {h₀ : Heap} {m : Str → Option Value} {ox : Obj} {od : Option Obj} {a : Value} {T ida : String}
theorem rc_back {Q : Value → Shared → Prop} (hu : A.units < cLine) (X : K.In s.heap) (I : PySem.W.InstAt s.heap x ox C od) (ha : s.TypeIs a T) (h1 : Slot T "__eq__" ida)
    (hc : ∀ Q' : Value → Shared → Prop, Q' .notImplemented s → wpAny (model prog w) A (call (.builtin ida) [a, .ref x]) Q' E s) (hsub : PySem.W.subIn K (.ref C) (.type T) = some false)
    (hs : PySem.W.findIn K (.ref C) "__eq__" = some (some (.ref f))) (hf : PySem.W.isFn K (.ref f) = true) (h : wpAny (model prog w) A (call (.ref f) [.ref x, a]) (PySem.W.CmpBack Q) E s) :
    wpAny (model prog w) A (richCompare .Eq a (.ref x)) Q E s := by
  have one : wpAny (model prog w) A (tryCompare a "__eq__" (.ref x)) (fun r s' => r = none ∧ s' = s) E s := wpAny_tryCompare_declines ha h1 (hc _ ⟨rfl, rfl, rfl⟩)
  have two : wpAny (model prog w) A (tryCompare (.ref x) "__eq__" a) (fun r s' => ∃ v, r = some v ∧ Q v s') E s := by
    unfold tryCompare
    refine wpAny_bind (PySem.W.ifBound_K X I hs hf (wpAny_mono h (fun v s' hv => ?_) fun _ _ e => e))
    cases v <;> first | exact hv.elim | exact wpAny_pure ⟨_, rfl, hv⟩
  simp only [richCompare, cmpInfo_Eq, ha.oneThing_none]
  refine wpAny_holding (wpAny_bind (wpAny_cRoomFor hu ?_))
  refine wpAny_bind (wpAny_typeOf ha ?_)
  refine wpAny_bind (I.type.here ?_)
  split
  · refine wpAny_bind ((PySem.W.looks_subIn X hsub).here ?_)
    simp only [Bool.false_eq_true, if_false, Bool.not_false, if_true]
    refine wpAny_bind (m := tryCompare a _ (.ref x)) (wpAny_mono one (fun r s1 z => ?_) fun _ _ e => e)
    obtain ⟨z1, z2⟩ := z
    subst z1
    subst z2
    refine wpAny_bind (m := tryCompare (.ref x) _ a) (wpAny_mono two (fun r s2 z => ?_) fun _ _ e => e)
    obtain ⟨v, rfl, hq⟩ := z
    exact wpAny_pure hq
  · rename_i q
    exact absurd (by simp) q
end
theorem sub_no {K : PySem.W.Frag} {C : Addr} {T : String} (e : (fastBuiltinMro T).map (fun l => l.all fun v => match v with | .type _ => true | _ => false) = some true) : PySem.W.subIn K (.type T) (.ref C) = some false := by
  show (fastBuiltinMro T).map (·.contains (.ref C)) = some false
  cases h : fastBuiltinMro T with
  | none => rw [h] at e; cases e
  | some l =>
    rw [h] at e
    have e2 : (l.all fun v => match v with | .type _ => true | _ => false) = true := Option.some.inj e
    show some (l.contains (.ref C)) = some false
    congr 1
    rw [Bool.eq_false_iff]
    intro z
    have z2 := List.contains_iff_mem.mp z
    have := List.all_eq_true.mp e2 _ z2
    cases this
/-- == where one side is a Library -/
def rLE (L : Addr) : R2 := fun x y H Q => (∃ a dx fs, x = .ref a ∧ H a = some (.ins L dx fs) ∧ (Oth H y ∨ ∃ b dy gs, y = .ref b ∧ H b = some (.ins L dy gs)) ∧ spLE L [x, y] H Q E0) ∨
  (Oth H x ∧ ∃ a dx fs, y = .ref a ∧ H a = some (.ins L dx fs) ∧ spLE L [y, x] H Q E0)
theorem spLE_bl {L : Addr} {vs : List V} {H : Hp} {Q : VK} {E : XK} (h : spLE L vs H Q E) : spLE L vs H (fun v H' => (∃ b, v = .bl b) ∧ Q v H') E := by
  obtain ⟨x, v, p, n, bs, e, hL, h⟩ := h
  refine ⟨x, v, p, n, bs, e, hL, ?_⟩
  rcases h with ⟨y, p', n', bs', e2, hL2, k⟩ | ⟨ho, k⟩
  · exact .inl ⟨y, p', n', bs', e2, hL2, fun H' s => ⟨⟨_, rfl⟩, k H' s⟩⟩
  · exact .inr ⟨ho, fun H' s => ⟨⟨_, rfl⟩, k H' s⟩⟩
section
variable {X : Cx} {L fE : Addr} {fd : FuncData} {k : Nat}
theorem ep_back {pins : List (Addr × Obj)} {σ : L2.St} {Q : VK} {u : Value} {s' : Shared} (h : EP X pins σ (fun v H' => (∃ b, v = .bl b) ∧ Q v H') u s') : PySem.W.CmpBack (EP X pins σ Q) u s' := by
  obtain ⟨v, H', I, r, ⟨b, rfl⟩, q⟩ := h
  cases r
  exact ⟨.bl b, H', I, rfl, q⟩
theorem op_lib (LE : LibE X.K L fE) (G : FnOk X.prog X.w X.K X.mg X.base (L2.CX X.prog X.w) k fE fd ["self", "other"] (spLE L)) (hb : L2.Binds X.K fd ["self", "other"] []) (hr : Room k X.A) : OpR X (compareOp .Eq) (rLE L) := by
  intro pins s σ H x y v u Q I rx ry h
  show wpAny (model X.prog X.w) X.A (richCompare .Eq v u) (EP X pins σ Q) X.xe s
  have hu := hr.units0
  obtain ⟨m, hF⟩ := I.fr
  rcases h with ⟨a, dx, fs, rfl, ha, hy, hsp⟩ | ⟨ho, a, dx, fs, rfl, ha, hsp⟩
  · cases rx
    obtain ⟨mA, J, _⟩ := ins_get I.hok ha
    obtain ⟨od, J, _⟩ := J.look
    have run := run_fn (us := [.ref a, u]) (vs := [.ref a, y]) G hr hb .nil passU I (.cons rfl (.cons ry .nil)) (spLE_bl hsp)
    have tb : ∃ t, PySem.W.Looks (model X.prog X.w) s.heap (typeOf u) t ∧ PySem.W.notFirst X.K L t = true := by
      have nf : ∀ {T : String}, PySem.W.subIn X.K (.type T) (.ref L) = some false → PySem.W.notFirst X.K L (.type T) = true := fun e => by
        unfold PySem.W.notFirst
        rw [e]
        simp
      rcases hy with (rfl | ⟨i, rfl⟩ | ⟨b, xs, rfl, e⟩ | ⟨b, xs, rfl, e⟩) | ⟨b, dy, gs, rfl, hb'⟩
      · cases ry
        exact ⟨.type "NoneType", .now, nf (sub_no (by decide +kernel))⟩
      · obtain ⟨t, rfl⟩ := ry
        exact ⟨.type "int", .now, nf (sub_no (by decide +kernel))⟩
      · cases ry
        obtain ⟨its, _, ⟨o, n, ho, hc, _⟩, _⟩ := I.list (SqL.of e)
        exact ⟨.type "list", hc ▸ (PySem.W.Looks.ld ho).andThen .now, nf (sub_no (by decide +kernel))⟩
      · cases ry
        obtain ⟨its, _, ⟨o, ho, hc, _⟩, _⟩ := I.tuple (SqT.of e)
        exact ⟨.type "tuple", hc ▸ (PySem.W.Looks.ld ho).andThen .now, nf (sub_no (by decide +kernel))⟩
      · cases ry
        obtain ⟨mB, J', _⟩ := ins_get I.hok hb'
        obtain ⟨od', J', _⟩ := J'.look
        exact ⟨.ref L, J'.type, by simp [PySem.W.notFirst]⟩
    obtain ⟨t, ht, hn⟩ := tb
    exact PySem.W.cmp_K (op := .Eq) hu hF I.ok.mod.kin J ht hn LE.hs LE.hf (wpAny_mono run (fun _ _ z => ep_back z) fun _ _ e => e)
  · cases ry
    obtain ⟨mA, J0, _⟩ := ins_get I.hok ha
    have hobj := J0.obj
    obtain ⟨od, J, _⟩ := J0.look
    have run := run_fn (us := [.ref a, v]) (vs := [.ref a, x]) G hr hb .nil passU I (.cons rfl (.cons rx .nil)) (spLE_bl hsp)
    have run' := wpAny_mono run (fun _ _ z => ep_back z) fun _ _ e => e
    have isi : ∀ {T : String}, PySem.W.subIn X.K (.ref L) (.type T) = some false → PySem.W.Looks (model X.prog X.w) s.heap (isInstance (.ref a) (.type T)) false := fun e => J.type.andThen (PySem.W.looks_subIn I.kIn e)
    rcases ho with rfl | ⟨i, rfl⟩ | ⟨b, xs, rfl, e⟩ | ⟨b, xs, rfl, e⟩
    · cases rx
      exact rc_back hu I.kIn J (show s.TypeIs .none "NoneType" from rfl) F.slot_NoneType_eq (fun Q' q => call_gives F.slot_NoneType_eq rfl F.entry_NoneType_eq (F.args_NoneType_eq_2 _ _) (PySem.SeqAt.NoneType___eq___none_ref_0 a) q) LE.sN LE.hs LE.hf run'
    · obtain ⟨t, rfl⟩ := rx
      exact rc_back hu I.kIn J (typeIs_int s i t) F.slot_int_eq (fun Q' q => GQ.call_here F.slot_int_eq (typeIs_int s i t) F.entry_int_eq (F.args_int_eq_2 _ _) (int_dec i t hobj q)) LE.sI LE.hs LE.hf run'
    · cases rx
      obtain ⟨its, _, ⟨⟨cls, dd, data, sl⟩, n, ho, hc, hdd, hd⟩, _⟩ := I.list (SqL.of e)
      simp only at hc hd hdd
      subst hc hd hdd
      exact rc_back hu I.kIn J ⟨_, ho, rfl⟩ F.slot_list_eq (fun Q' q => GQ.call_here F.slot_list_eq ⟨_, ho, rfl⟩ F.entry_list_eq (F.args_list_eq_2 _ _) (list_dec ho (isi LE.sL) q)) LE.sL LE.hs LE.hf run'
    · cases rx
      obtain ⟨its, _, ⟨⟨cls, dd, data, sl⟩, ho, hc, n, hd⟩, _⟩ := I.tuple (SqT.of e)
      simp only at hc hd
      subst hc hd
      exact rc_back hu I.kIn J ⟨_, ho, rfl⟩ F.slot_tuple_eq (fun Q' q => GQ.call_here F.slot_tuple_eq ⟨_, ho, rfl⟩ F.entry_tuple_eq (F.args_tuple_eq_2 _ _) (tuple_dec ho (isi LE.sT) q)) LE.sT LE.hs LE.hf run'
end
end WU

set_option maxRecDepth 100000
set_option maxHeartbeats 8000000
namespace WU
open PySem PySem.Spec PyProof.Rows L2
section
variable {P : Program} {w : World} {K : PySem.W.Frag} {mg : Str → Option Value} {base : Heap} {L : Addr}
abbrev sEqu : Stmt := top 34
theorem scEqu : FnScope ["one", "other", "due", "found"] ["one", "other", "due"] (defScope sEqu) := ⟨rfl, rfl, rfl, by decide +kernel, rfl, by decide +kernel, by decide +kernel⟩
/-- _law_equal, where it is as due -/
def spEqu (L : Addr) : Sp := fun vs H Q _ => ∃ (x : Addr) (v : V) (due : Bool) (p : Int) (n : Nat) (bs : List (List Int)), vs = [.ref x, v, .bl due] ∧ LibAt L H x p n bs ∧
  ((∃ (y : Addr) (p' : Int) (n' : Nat) (bs' : List (List Int)), v = .ref y ∧ LibAt L H y p' n' bs' ∧ due = decide (p = p' ∧ bs = bs')) ∨ (Oth H v ∧ due = false)) ∧ ∀ H', Same H H' → Q (.bl true) H'
theorem LibAt.ins {H : Hp} {x : Addr} {p : Int} {n : Nat} {bs : List (List Int)} (h : LibAt L H x p n bs) : ∃ dx fs, H x = some (.ins L dx fs) := by
  obtain ⟨dx, a, tl, rs, h1, _⟩ := h
  exact ⟨dx, _, h1⟩
theorem eqv_bls (a b : Bool) : PyData.eqv (.list [.bool a, .bool b]) (.list [.bool a, .bool b]) = true := by cases a <;> cases b <;> decide +kernel
theorem shp_bls (a b : Bool) : SeqAt.shaped (.list [.bool a, .bool b]) = true := by cases a <;> cases b <;> decide +kernel
theorem ok_Equ {f fE : Addr} {fd fdE : FuncData} (F : FnS K "_law_equal" sEqu f fd) (B : Blt3 mg) (LE : LibE K L fE) (G : FnOk P w K mg base (L2.CX P w) 1 fE fdE ["self", "other"] (spLE L)) (hb : L2.Binds K fdE ["self", "other"] []) :
    FnOk P w K mg base (L2.CX P w) 2 f fd ["one", "other", "due"] (spEqu L) := by
  refine F.ok scEqu (fun vs H Q E h => ?_) (fun cdv A outer s H vs Q E hr h => ?_)
  · obtain ⟨x, v, due, p, n, bs, rfl, _⟩ := h
    rfl
  · obtain ⟨x, v, due, p, n, bs, rfl, hL, hv, kk⟩ := h
    have nd := scEqu.nd
    have hu := hr.units
    refine ⟨_, (pss_cons (ps_set (i := 3) nd rfl (Or.inl rfl) (pe_lst (pa_cons (pe_cmpR (op_lib LE G hb hr) (pv 0) (pv 1) (nomark _)) (pa_cons (pe_cmpR (op_lib LE G hb hr) (pv 1) (pv 0) (nomark _)) pa_nil))))
      (pss_one (ps_ret (pe_and (pe_callB call_isi (by rfl) B.isi (by decide +kernel) (pa_cons (pe_ix ix_list (pv 3) pe_int (fun _ _ => rfl)) (pa_cons (pe_bltn (v := .ty "bool") (by rfl) B.bool (by decide +kernel) rfl) pa_nil)))
        (pe_and (pe_callB call_isi (by rfl) B.isi (by decide +kernel) (pa_cons (pe_ix ix_list (pv 3) pe_int (fun _ _ => rfl)) (pa_cons (pe_bltn (v := .ty "bool") (by rfl) B.bool (by decide +kernel) rfl) pa_nil)))
          (pe_one (pe_cmpR (op_eqD hu) (pv 3) (pe_lst (pa_cons (pv 2) (pa_cons (pv 2) pa_nil))) (nomark _)))))))), ?_⟩
    obtain ⟨dx, fs, ex⟩ := hL.ins
    have body : (∀ Q' : VK, (∀ H', Same H H' → Q' (.bl due) H') → rLE L (.ref x) v H Q') ∧ ∀ H1, Same H H1 → ∀ Q' : VK, (∀ H', Same H1 H' → Q' (.bl due) H') → rLE L v (.ref x) H1 Q' := by
      rcases hv with ⟨y, p', n', bs', rfl, hL2, rfl⟩ | ⟨ho, rfl⟩
      · obtain ⟨dy, gs, ey⟩ := hL2.ins
        refine ⟨fun Q' k => .inl ⟨x, dx, fs, rfl, ex, .inr ⟨y, dy, gs, rfl, ey⟩, x, _, p, n, bs, rfl, hL, .inl ⟨y, p', n', bs', rfl, hL2, k⟩⟩, fun H1 s1 Q' k => .inl ⟨y, dy, gs, rfl, s1 _ _ ey, .inr ⟨x, dx, fs, rfl, s1 _ _ ex⟩, y, _, p', n', bs', rfl, hL2.same s1, .inl ⟨x, p, n, bs, rfl, hL.same s1, fun H' s => ?_⟩⟩⟩
        have e : decide (p' = p ∧ bs' = bs) = decide (p = p' ∧ bs = bs') := by
          rw [decide_eq_decide]
          exact ⟨fun z => ⟨z.1.symm, z.2.symm⟩, fun z => ⟨z.1.symm, z.2.symm⟩⟩
        rw [e]
        exact k H' s
      · exact ⟨fun Q' k => .inl ⟨x, dx, fs, rfl, ex, .inl ho, x, _, p, n, bs, rfl, hL, .inr ⟨ho, k⟩⟩, fun H1 s1 Q' k => .inr ⟨ho.same s1, x, dx, fs, rfl, s1 _ _ ex, x, _, p, n, bs, rfl, hL.same s1, .inr ⟨ho.same s1, k⟩⟩⟩
    refine ⟨_, rfl, _, rfl, body.1 _ fun H1 s1 => ⟨_, rfl, _, rfl, body.2 H1 s1 _ fun H2 s2 => ⟨(by show 2 ≤ sizeLine; decide), fun q hq => ?_⟩⟩⟩
    have eq : upd H2 q (.lst [.bl due, .bl due]) q = some (.lst [.bl due, .bl due]) := upd_same
    have s3 : Same H (upd H2 q (.lst [.bl due, .bl due])) := (s1.trans s2).trans (same_new hq)
    generalize upd H2 q (.lst [.bl due, .bl due]) = H3 at eq s3 ⊢
    have kb : PySem.W.kitOne K (.type "bool") (.type "bool") = some true := kit_ty (show kitB "bool" "bool" = some true by decide +kernel)
    refine ⟨_, rfl, q, _, 0, _, rfl, rfl, SqL.of eq, rfl, _, _, _, _, _, rfl, .ty "bool", .base (.bl due), kb, _, rfl, iteT ?_⟩
    refine ⟨_, rfl, q, _, 1, _, rfl, rfl, SqL.of eq, rfl, _, _, _, _, _, rfl, .ty "bool", .base (.bl due), kb, _, rfl, iteT ?_⟩
    refine ⟨_, rfl, _, rfl, _, rfl, (by show 2 ≤ sizeLine; decide), fun Z hZ => ?_⟩
    have s4 := same_new (o := .lst [.bl due, .bl due]) hZ
    refine ⟨.list [.bool due, .bool due], .list [.bool due, .bool due], .lst (SqL.of (s4 _ _ eq)) (.cons (.bl due) (.cons (.bl due) .nil)), .lst (SqL.of upd_same) (.cons (.bl due) (.cons (.bl due) .nil)), shp_bls due due, shp_bls due due, ?_⟩
    rw [eqv_bls]
    exact kk _ (s3.trans s4)
end
end WU

set_option maxRecDepth 100000
set_option maxHeartbeats 8000000
/-! method calls: with defaults where the wish depends on the slots; with keywords alone -/
namespace WU
open PySem PySem.Spec PyProof.Rows L2
def tMethSD (C : Addr) (m : Str) (sp : Sp) (dvs : List V) (E : L2.St → XK) (ta : TE) (t : TA) : TE := fun σ H Q => ta σ H fun x H1 => ∃ a dx fs, x = .ref a ∧ H1 a = some (.ins C dx fs) ∧ fs.lookup m = none ∧ t σ H1 fun vs H2 => sp (x :: (vs ++ dvs)) H2 Q (E σ)
def tMethK (C : Addr) (m : Str) (n : Nat) (sp : Sp) (gV : List V → List V → List V) (E : XK) (ta : TE) (tk : TA) : TE := fun σ H Q => ta σ H fun x H1 => ∃ a dx fs, x = .ref a ∧ H1 a = some (.ins C dx fs) ∧ fs.lookup m = none ∧ tk σ H1 fun zs H2 => zs.length = n ∧ sp (gV [x] zs) H2 Q E
section
variable {X : Cx} {CX : CXT} {k : Nat} {f C : Addr} {fd : FuncData} {ps ks : List Str} {sp : Sp} {dvs : List V} {ds : List Value} {x m : Str} {p pos apos : Pos} {e o : Expr} {es : List Expr} {ta : TE} {t tk : TA} {kws : List Keyword} {g : List Value → List Value → List Value} {gV : List V → List V → List V}
theorem pe_methSD {pl : Sem Bool} {E : L2.St → XK} (he : PE X o ta) (c : Cls X.K C) (hm : Meth X.K C m f) (F : FnOk X.prog X.w X.K X.mg X.base CX k f fd ps sp) (hr : Room k X.A) (hb : L2.Binds X.K fd ps ds) (hd : Vals dvs ds) (hx : ∀ σ, PassesAt CX X σ (E σ)) (ha : PA X (e :: es) t)
    (hst : starEach (e :: es) X.env = (false, eval e X.env) :: starEach es X.env := by rfl) (hpl : (backTo pos (starEach es X.env)).any (·.1) = false := by rfl)
    (ht : eval (.Call (.Attribute o m apos) (e :: es) [] pos) X.env = (do
      let ov ← eval o X.env
      standAt apos.atName
      let (f, first) ← holding [ov] (getMethod ov m pl)
      callWith pos f first (backTo pos (starEach (e :: es) X.env)) (backToKw pos (keywordEach [] X.env))) := by rfl) :
    PE X (.Call (.Attribute o m apos) (e :: es) [] pos) (tMethSD C m sp dvs E ta t) := by
  refine ⟨fun pins s σ H Q I h => ?_⟩
  refine PySem.W.methodCall_KW (pl := pl) (thn (he.run pins s σ H _ I h) fun u s1 ⟨x, H1, I1, rx, a, dx, fs, ex, ea, l, q⟩ => ?_) ht
  subst ex
  obtain rfl : u = Value.ref a := rx
  refine getmeth_ok I1 ea c hm l ?_
  refine PySem.W.callWith_K (first := [.ref a]) (h₀ := X.base) I.ok.mod.kin hm.kp (thn (ha.run pos pins s1 σ H1 _ I1 q) fun us s2 ⟨vs, H2, I2, r, q2⟩ => ⟨I2.kIn, ?_⟩) hst hpl
  exact run_fnSD (us := .ref a :: us) (vs := .ref a :: vs) F hr hb hd (hx σ) I2 (.cons rfl r) q2
theorem pe_methK {pl : Sem Bool} {E : XK} (he : PE X o ta) (c : Cls X.K C) (hm : Meth X.K C m f) (F : FnOk X.prog X.w X.K X.mg X.base CX k f fd ps sp) (hr : Room k X.A) (hb : KBn X.K fd ps 1 ks g gV) (hx : Passes CX X E) (hkw : PK X kws tk)
    (hall : (backToKw pos (keywordEach kws X.env)).all (·.1.isSome) = true := by rfl) (hks : (backToKw pos (keywordEach kws X.env)).filterMap (·.1) = ks := by rfl)
    (hpl : ((backTo pos (starEach [] X.env)).any (·.1) || (backToKw pos (keywordEach kws X.env)).any (·.1.isNone)) = false := by rfl)
    (ht : eval (.Call (.Attribute o m apos) [] kws pos) X.env = (do
      let ov ← eval o X.env
      standAt apos.atName
      let (f, first) ← holding [ov] (getMethod ov m pl)
      callWith pos f first (backTo pos (starEach [] X.env)) (backToKw pos (keywordEach kws X.env))) := by rfl) :
    PE X (.Call (.Attribute o m apos) [] kws pos) (tMethK C m ks.length sp gV E ta tk) := by
  refine ⟨fun pins s σ H Q I h => ?_⟩
  refine PySem.W.methodCall_KW (pl := pl) (thn (he.run pins s σ H _ I h) fun u s1 ⟨x, H1, I1, rx, a, dx, fs, ex, ea, l, q⟩ => ?_) ht
  subst ex
  obtain rfl : u = Value.ref a := rx
  refine getmeth_ok I1 ea c hm l ?_
  refine PySem.W.callWith_KW0 (first := [.ref a]) (h₀ := X.base) I.ok.mod.kin hm.kp hall ?_ hpl
  refine thn (hkw.run pos pins s1 σ H1 _ I1 q) fun ws s2 ⟨zs, H2, I2, rz, l2, q2⟩ => ⟨I2.kIn, ?_⟩
  rw [hks]
  exact run_fnN (us := [.ref a]) (vs := [.ref a]) F hr hb hx I2 (.cons rfl .nil) rz rfl l2 q2
end
end WU

set_option maxRecDepth 100000
set_option maxHeartbeats 8000000
namespace WU
open PySem PySem.Spec PyProof.Rows L2
section
variable {P : Program} {w : World} {K : PySem.W.Frag} {mg : Str → Option Value} {base : Heap} {L : Addr}
theorem Ty3.same {H H' : Hp} {v : V} (h : Ty3 K H v) (s : Same H H') : Ty3 K H' v := by
  obtain ⟨t, ht, h1, h2⟩ := h
  refine ⟨t, ?_, h1, h2⟩
  cases ht with
  | base b =>
    refine .base ?_
    cases b with
    | non => exact .non
    | bl x => exact .bl x
    | int i => exact .int i
    | str x => exact .str x
    | flt x => exact .flt x
    | lst e => exact .lst (s _ _ e)
    | frz e => exact .frz (s _ _ e)
    | tup e => exact .tup (s _ _ e)
    | dK e => exact .dK (s _ _ e)
    | dT e => exact .dT (s _ _ e)
    | ins e cl ha hn htk hm => exact .ins (s _ _ e) cl ha hn htk hm
  | byt b => exact .byt b
  | set e => exact .set (s _ _ e)
  | kList e c => exact .kList e c
  | kTuple e c => exact .kTuple e c
  | kDict e c => exact .kDict e c
  | fTuple e => exact .fTuple (s _ _ e)
  | fDict e => exact .fDict (s _ _ e)
abbrev sTd : Stmt := top 31
theorem scTd : FnScope ["which", "library", "one", "two", "e"] ["which", "library", "one", "two"] (defScope sTd) := ⟨rfl, rfl, rfl, by decide +kernel, rfl, by decide +kernel, by decide +kernel⟩
/-- the list that _law_told hands back -/
def Told (x : Str) (v : V) (H : Hp) (Q : VK) : Prop := ∀ q H', Same H H' → H' q = some (.lst [.str x, v]) → Q (.ref q) H'
def spTd (K : PySem.W.Frag) (L : Addr) : Sp := fun vs H Q _ => ∃ (wh : Int) (x : Addr) (ov tv : V) (p : Int) (n : Nat) (bs : List (List Int)), vs = [.int wh, .ref x, ov, tv] ∧ LibAt L H x p n bs ∧ Good p n bs ∧ p ∈ primes ∧ Ty3 K H ov ∧
  ((wh = 0 ∧ (isFld ov = false → Told "number" ov H Q) ∧ (isFld ov = true → ∃ (q : Int) (d : PyData), ov = .int q ∧ Dp K H tv d ∧ smallB d ∧ booksD q d = false ∧ Told "library" tv H Q)) ∨
   (wh = 1 ∧ isBel bs.length ov = false ∧ Told "number" ov H Q) ∨
   (wh = 2 ∧ (∃ d, Dp K H tv d ∧ smallD d ∧ letsD p n d = false) ∧ (∀ b, SB H tv b → ¬ Ltr p n b) ∧ (isBel bs.length ov = false → Told "number" ov H Q) ∧ (isBel bs.length ov = true → Told "library" tv H Q)) ∨
   ((wh = 3 ∨ wh = 4) ∧ isFld ov = false ∧ Told "number" ov H Q))
/-- Library's methods -/
structure LbM (P : Program) (w : World) (K : PySem.W.Frag) (mg : Str → Option Value) (base : Heap) (L fL fB fC pO gO fV : Addr) (fdL fdB fdC fdV : FuncData) : Prop where
  made : Mk K L fL
  gI : FnOk P w K mg base (L2.CX P w) 6 fL fdL ["self", "p", "books"] (spLI K L)
  gF : FnOk P w K mg base (L2.CX P w) 6 fL fdL ["self", "p", "books"] (spLIf K)
  bI : L2.Binds K fdL ["self", "p", "books"] []
  mB : Meth K L "book" fB
  gB : FnOk P w K mg base (L2.CX P w) 5 fB fdB ["self", "k"] (spLBk K L)
  bB : L2.Binds K fdB ["self", "k"] []
  mC : Meth K L "changed" fC
  gC : FnOk P w K mg base (L2.CX P w) 8 fC fdC ["self", "k", "book"] (spCh K L)
  bC : L2.Binds K fdC ["self", "k", "book"] []
  o : OLM P w K mg base L pO gO
  v : Cal P w K mg base 9 "every_library" fV fdV ["p", "book_count", "book_length"] (spEv K L)
theorem ok_Td {f fL fB fC pO gO fV : Addr} {fd fdL fdB fdC fdV : FuncData} (F : FnS K "_law_told" sTd f fd) (C : LibC K mg L) (M : LbM P w K mg base L fL fB fC pO gO fV fdL fdB fdC fdV) (TN : Exc1 K mg "InvalidNumber" "value") (TL : Exc1 K mg "InvalidLibrary" "value")
    (XN : XfC K (He.ga K "InvalidNumber")) (XL : XfC K (He.ga K "InvalidLibrary")) (eNN : PySem.W.exmOne K (.ref (He.ga K "InvalidNumber")) (.ref (He.ga K "InvalidNumber")) = some true)
    (eLN : PySem.W.exmOne K (.ref (He.ga K "InvalidLibrary")) (.ref (He.ga K "InvalidNumber")) = some false) (eLL : PySem.W.exmOne K (.ref (He.ga K "InvalidLibrary")) (.ref (He.ga K "InvalidLibrary")) = some true) :
    FnOk P w K mg base (L2.CX P w) 10 f fd ["which", "library", "one", "two"] (spTd K L) := by
  refine F.ok scTd (fun vs H Q E h => ?_) (fun cdv A outer s H vs Q E hr h => ?_)
  · obtain ⟨wh, x, ov, tv, p, n, bs, rfl, _⟩ := h
    rfl
  · obtain ⟨wh, x, ov, tv, p, n, bs, rfl, hL, g, hp, ht, hc⟩ := h
    have nd := scTd.nd
    have hr5 := hr.mono (show 5 ≤ 9 by decide)
    have hr7 := hr.mono (show 7 ≤ 9 by decide)
    have hr8 := hr.mono (show 8 ≤ 9 by decide)
    refine ⟨_, pss_cons (ps_try_cls rfl rfl nd takes0 (fun W pn xe tk _ => pss_one
      (ps_if (pt_cmpR op_eq (pv 0) pe_int (nomark _)) (pss_one (ps_expr (pe_makeS (E := WE W) M.made M.gF hr7 rfl C.g M.bI (fun σ => passAt tk σ) (pa_cons (pv 2) (pa_cons (pv 3) pa_nil)))))
        (pss_one (ps_if (pt_cmpR op_eq (pv 0) pe_int (nomark _)) (pss_one (ps_expr (pe_methSD (E := WE W) (pv 1) C.cl M.mB M.gB hr5 M.bB .nil (fun σ => passAt tk σ) (pa_cons (pv 2) pa_nil))))
          (pss_one (ps_if (pt_cmpR op_eq (pv 0) pe_int (nomark _)) (pss_one (ps_expr (pe_methSD (E := WE W) (pv 1) C.cl M.mC M.gC hr8 M.bC .nil (fun σ => passAt tk σ) (pa_cons (pv 2) (pa_cons (pv 3) pa_nil)))))
            (pss_one (ps_if (pt_cmpR op_eq (pv 0) pe_int (nomark _)) (pss_one (ps_expr (pe_cmethS (E := WE W) (pe_glob (v := .ref L) rfl C.g rfl) M.o.r M.o.c M.o.F hr8 (fun σ => passAt tk σ) (pa_cons (pv 2) (pa_cons pe_int (pa_cons (pe_lst (pa_cons pe_int (pa_cons pe_int pa_nil))) pa_nil))))))
              (pss_one (ps_expr (pe_calS M.v hr (pa_cons (pv 2) (pa_cons pe_int (pa_cons pe_int pa_nil))) tk)))))))))))
      (.named (i := 4) rfl rfl ⟨rfl, by decide, .inl TN.glob⟩ (fun a oe cls d pn hz hf => pss_one (ps_ret (pe_lst (pa_cons pe_str (pa_cons (pe_xf XN TN.no hz hf (pv 4)) pa_nil)))))
      (.named (i := 4) rfl rfl ⟨rfl, by decide, .inl TL.glob⟩ (fun a oe cls d pn hz hf => pss_one (ps_ret (pe_lst (pa_cons pe_str (pa_cons (pe_xf XL TL.no hz hf (pv 4)) pa_nil))))) .nil)))
      (pss_one (ps_ret (pe_lst (pa_cons pe_str (pa_cons pe_int pa_nil))))), ?_⟩
    obtain ⟨dx, a, tl, rs, h1, h2, h3, h4⟩ := id hL
    have noA : ∀ {m : Str}, ¬ m = "letters" → ¬ m = "book_length" → ¬ m = "book_count" → ¬ m = "books" → ¬ m = "p" → (lf p a bs.length n tl).lookup m = none := lf_no
    rcases hc with ⟨rfl, kN, kL⟩ | ⟨rfl, hb, k⟩ | ⟨rfl, ⟨d, hd, hsd, hld⟩, hnb, kN, kL⟩ | ⟨hw, hb, k⟩
    · refine ⟨_, rfl, rfl, _, rfl, iteTb (decide_eq_true rfl) ⟨_, rfl, _, rfl, fun y dy hy hdy hne => ?_⟩⟩
      have s5 : Same H (upd H dy (.own y)) := same_new hdy
      have ey5 : upd H dy (.own y) y = none := by rw [upd_ne (Ne.symm hne)]; exact hy
      have s6 : Same H (upd (upd H dy (.own y)) y (.ins L dy [])) := s5.trans (same_new ey5)
      refine ⟨y, ov, tv, rfl, ht.same s6, fun e => ?_, fun e => ?_⟩
      · intro d H' s1 n1 hd
        exact ⟨true, eNN, fun _ ax hax => ⟨_, rfl, rfl, rfl, d, _, ov, rfl, hd, (by simp [List.lookup]), (by show 2 ≤ sizeLine; decide), fun q hq => kN e q _ (s6.trans (s1.trans (same_new hq))) upd_same⟩, fun q => nomatch q⟩
      · obtain ⟨q, d, rfl, hd, hs, hb, k⟩ := kL e
        refine ⟨q, d, rfl, dp_same s6 hd, hs, hb, ?_⟩
        intro d H' s1 n1 hd
        exact ⟨false, eLN, (fun q => nomatch q), fun _ => ⟨true, eLL, fun _ ax hax => ⟨_, rfl, rfl, rfl, d, _, tv, rfl, hd, (by simp [List.lookup]), (by show 2 ≤ sizeLine; decide), fun q hq => k q _ (s6.trans (s1.trans (same_new hq))) upd_same⟩, fun q => nomatch q⟩⟩
    · refine ⟨_, rfl, rfl, _, rfl, iteFb (decide_eq_false (by intro z; cases z)) ⟨_, rfl, rfl, _, rfl, iteTb (decide_eq_true rfl) ?_⟩⟩
      refine ⟨_, rfl, x, dx, _, rfl, h1, noA (by decide +kernel) (by decide +kernel) (by decide +kernel) (by decide +kernel) (by decide +kernel), _, rfl, x, ov, p, n, bs, rfl, hL, ht, fun e => ?_, fun e => by rw [hb] at e; cases e⟩
      intro d H' s1 n1 hd
      exact ⟨true, eNN, fun _ ax hax => ⟨_, rfl, rfl, rfl, d, _, ov, rfl, hd, (by simp [List.lookup]), (by show 2 ≤ sizeLine; decide), fun q hq => k q _ (s1.trans (same_new hq)) upd_same⟩, fun q => nomatch q⟩
    · refine ⟨_, rfl, rfl, _, rfl, iteFb (decide_eq_false (by intro z; cases z)) ⟨_, rfl, rfl, _, rfl, iteFb (decide_eq_false (by intro z; cases z)) ⟨_, rfl, rfl, _, rfl, iteTb (decide_eq_true rfl) ?_⟩⟩⟩
      refine ⟨_, rfl, x, dx, _, rfl, h1, noA (by decide +kernel) (by decide +kernel) (by decide +kernel) (by decide +kernel) (by decide +kernel), _, rfl, _, rfl, x, ov, tv, d, p, n, bs, rfl, hL, ht, hd, hsd, (fun e => by rw [hld] at e; cases e), hp, g, fun e => ?_, fun e e2 => ?_, fun k b ek hk hsb hlt => ?_⟩
      · intro d H' s1 n1 hd
        exact ⟨true, eNN, fun _ ax hax => ⟨_, rfl, rfl, rfl, d, _, ov, rfl, hd, (by simp [List.lookup]), (by show 2 ≤ sizeLine; decide), fun q hq => kN e q _ (s1.trans (same_new hq)) upd_same⟩, fun q => nomatch q⟩
      · intro d H' s1 n1 hd
        exact ⟨false, eLN, (fun q => nomatch q), fun _ => ⟨true, eLL, fun _ ax hax => ⟨_, rfl, rfl, rfl, d, _, tv, rfl, hd, (by simp [List.lookup]), (by show 2 ≤ sizeLine; decide), fun q hq => kL e q _ (s1.trans (same_new hq)) upd_same⟩, fun q => nomatch q⟩⟩
      · exact absurd hlt (hnb b hsb)
    · have i0 : ¬ (wh = 0) := by omega
      have i1 : ¬ (wh = 1) := by omega
      have i2 : ¬ (wh = 2) := by omega
      refine ⟨_, rfl, rfl, _, rfl, iteFb (decide_eq_false fun z => i0 (V.int.inj z)) ⟨_, rfl, rfl, _, rfl, iteFb (decide_eq_false fun z => i1 (V.int.inj z)) ⟨_, rfl, rfl, _, rfl, iteFb (decide_eq_false fun z => i2 (V.int.inj z)) ⟨_, rfl, rfl, _, rfl, ?_⟩⟩⟩⟩
      rcases hw with rfl | rfl
      · refine iteTb (decide_eq_true rfl) ⟨rfl, _, rfl, (by show 2 ≤ sizeLine; decide), fun Z hZ => ?_⟩
        have sZ := same_new (o := .lst [.int 0, .int 1]) hZ
        refine ⟨ov, _, _, rfl, ht.same sZ, fun e => ?_, fun e => by rw [hb] at e; cases e⟩
        intro d H' s1 n1 hd
        exact ⟨true, eNN, fun _ ax hax => ⟨_, rfl, rfl, rfl, d, _, ov, rfl, hd, (by simp [List.lookup]), (by show 2 ≤ sizeLine; decide), fun q hq => k q _ (sZ.trans (s1.trans (same_new hq))) upd_same⟩, fun q => nomatch q⟩
      · refine iteFb (decide_eq_false (by intro z; cases z)) ⟨_, rfl, ov, _, _, rfl, ht, fun e => ?_, fun e => by rw [hb] at e; cases e⟩
        intro d H' s1 n1 hd
        exact ⟨true, eNN, fun _ ax hax => ⟨_, rfl, rfl, rfl, d, _, ov, rfl, hd, (by simp [List.lookup]), (by show 2 ≤ sizeLine; decide), fun q hq => k q _ (s1.trans (same_new hq)) upd_same⟩, fun q => nomatch q⟩
end
end WU

set_option maxRecDepth 100000
set_option maxHeartbeats 8000000
namespace WU
open PySem PySem.Spec PyProof.Rows L2
theorem lets_no {p : Int} {n : Nat} {ds : List PyData} (h : ds.length ≠ n ∨ ∃ d ∈ ds, belD p d = false) : (decide ((ds.length : Int) = n) && ds.all (belD p)) = false := by
  rcases h with h | ⟨d, hd, e⟩
  · rw [decide_eq_false (by omega), Bool.false_and]
  · rw [show ds.all (belD p) = false from List.all_eq_false.mpr ⟨d, hd, by rw [e]; decide⟩, Bool.and_false]
theorem cut_1 {xs : List V} (h : 1 ≤ xs.length) : cutV xs (some 1) none = xs.drop 1 := cut_from (k := 1) h
/-- the only book of a library: not a good one -/
def oneD (p : Int) (d : PyData) : Bool := (isSeq d && decide (lenD d ≠ 0)) && letsD p (lenD d) d
def BadB (p : Int) (n : Nat) (b : List Int) (d : PyData) : Prop := letsD p n d = false ∧ smallD d ∧ (oneD p d = false ∨ d = rowD (b ++ [0]) ∨ d = rowD (b.drop 1))
theorem ov_int {B : Hp} {n : Nat} {H : Hp} {i : Int} {d : PyData} (h : OV B n H (.int i) d) : d = .int i := by
  cases n with
  | zero =>
    rcases h with ⟨j, e, e2⟩ | ⟨j, e, _⟩ | ⟨e, _⟩ | ⟨z, e, _⟩
    · cases e; exact e2
    · cases e
    · cases e
    · cases e
  | succ n =>
    rcases h with (⟨j, e, e2⟩ | ⟨j, e, _⟩ | ⟨e, _⟩ | ⟨z, e, _⟩) | ⟨p, xs, ds, e, _⟩
    · cases e; exact e2
    · cases e
    · cases e
    · cases e
    · cases e
theorem ov_ints {B : Hp} {n : Nat} {H : Hp} : ∀ {b : List Int} {ds : List PyData}, Paired (OV B n H) (b.map V.int) ds → ds = b.map .int
  | [], _, h => by cases h; rfl
  | i :: b, _, h => by
    cases h with
    | cons h t => rw [ov_int h, ov_ints t]; rfl
theorem ov_nb {B : Hp} {m : Nat} {H : Hp} {v : V} {d : PyData} {p : Int} {n : Nat} (h : OV B (m + 1) H v d) (hl : letsD p n d = false) : ∀ c, SB H v c → ¬ Ltr p n c := by
  rintro c ⟨a, rfl, hs⟩ hc
  have lt := lets_of hc
  rcases h with (⟨j, e, e2⟩ | ⟨j, e, _⟩ | ⟨e, _⟩ | ⟨z, e, _⟩) | ⟨q, xs, ds, e, hq, _, hp⟩
  · cases e
  · cases e
  · cases e
  · cases e
  · cases e
    rcases hq with ⟨_, hq, rfl⟩ | ⟨hq, rfl⟩
    · rcases hs with hs | hs
      · rw [hs] at hq
        cases hq
        rw [ov_ints hp, lt.2] at hl
        cases hl
      · rw [hs] at hq
        cases hq
    · rcases hs with hs | hs
      · rw [hs] at hq
        cases hq
      · rw [hs] at hq
        cases hq
        rw [ov_ints hp, lt.1] at hl
        cases hl
theorem ints_ov {B : Hp} {H : Hp} (n : Nat) : ∀ b : List Int, Paired (OV B (n + 1) H) (b.map V.int) (b.map PyData.int)
  | [] => .nil
  | i :: b => .cons (.inl (.inl ⟨i, rfl, rfl⟩)) (ints_ov n b)
theorem ints_leaf {B : Hp} {H : Hp} : ∀ b : List Int, Paired (OV B 0 H) (b.map V.int) (b.map PyData.int)
  | [] => .nil
  | i :: b => .cons (.inl ⟨i, rfl, rfl⟩) (ints_leaf b)
section
variable {P : Program} {w : World} {K : PySem.W.Frag} {mg : Str → Option Value} {base : Heap} {L : Addr}
abbrev sBB : Stmt := top 32
theorem scBB : FnScope ["hand", "book", "p", "at", "letter", "bad"] ["hand", "book", "p"] (defScope sBB) := ⟨rfl, rfl, rfl, by decide +kernel, rfl, by decide +kernel, by decide +kernel⟩
/-- a value that is no book as of b -/
def spBB : Sp := fun vs H Q _ => ∃ (q d bk : Addr) (p : Int) (n : Nat) (b : List Int), vs = [.ref q, .ref bk, .int p] ∧ HandAt H q d ∧ H bk = some (.tup (b.map V.int)) ∧ Ltr p n b ∧ 1 ≤ n ∧ n ≤ 100 ∧ 0 < p ∧ p ≤ 31 ∧
  ∀ v dv H', OV H 2 H' v dv → BadB p n b dv → HandAt H' q d → Keep q H H' → Q v H'
theorem ok_BB {f fT : Addr} {fd fdT : FuncData} (F : FnS K "_law_bad_book" sBB f fd) (B : Blt3 mg) (CT : Cal P w K mg base 1 "_law_take" fT fdT ["hand", "many"] spTake) : FnOk P w K mg base (L2.CX P w) 2 f fd ["hand", "book", "p"] spBB := by
  refine F.ok scBB (fun vs H Q E h => ?_) (fun cdv A outer s H vs Q E hr h => ?_)
  · obtain ⟨q, d, bk, p, n, b, rfl, _⟩ := h
    rfl
  · obtain ⟨q, d, bk, p, n, b, rfl, hH, hb, hlt, n1, n2, p0, p1, kk⟩ := h
    have nd := scBB.nd
    refine ⟨_, (pss_cons (ps_set (i := 3) nd rfl (Or.inl rfl) (pe_cal CT hr (pa_cons (pv 0) (pa_cons (pe_callB call_len_seq (by rfl) B.len (by decide +kernel) (pa_cons (pv 1) pa_nil)) pa_nil)) passU))
      (pss_cons (ps_set (i := 4) nd rfl (Or.inl rfl) (pe_ix ix_list (pe_lst (pa_cons (pv 2) (pa_cons (pe_un un_neg pe_int) (pa_cons pe_bl (pa_cons pe_non (pa_cons pe_str (pa_cons (pe_tup (pa_cons pe_int pa_nil)) (pa_cons (pe_op op_add (pv 2) (pe_op op_pow pe_int pe_int)) pa_nil)))))))) (pe_cal CT hr (pa_cons (pv 0) (pa_cons pe_int pa_nil)) passU) (fun _ _ => rfl)))
      (pss_cons (ps_set (i := 5) nd rfl (Or.inl rfl) (pe_op op_catA (pe_op op_catA (pe_slice sl_tupA (pv 1) po_none (po_some (pv 3))) (pe_tup (pa_cons (pv 4) pa_nil))) (pe_slice sl_tupA (pv 1) (po_some (pe_op op_add (pv 3) pe_int)) po_none)))
      (pss_one (ps_ret (pe_ix ix_list (pe_lst (pa_cons (pv 5) (pa_cons (pe_callTy call_list_of (by rfl) B.lst (by decide +kernel) (pa_cons (pv 5) pa_nil)) (pa_cons (pe_op op_catA (pv 1) (pe_tup (pa_cons pe_int pa_nil))) (pa_cons (pe_slice sl_tupA (pv 1) (po_some pe_int) po_none) (pa_cons pe_non (pa_cons pe_int (pa_cons pe_str (pa_cons (pe_lst pa_nil) (pa_cons (pe_tup (pa_cons (pv 1) pa_nil)) pa_nil)))))))))) (pe_cal CT hr (pa_cons (pv 0) (pa_cons pe_int pa_nil)) passU) (fun _ _ => rfl))))))), ?_⟩
    have ln : (b.map V.int).length = n := by rw [List.length_map]; exact hlt.1
    have sz : ∀ {xs ys : List V}, xs.length ≤ 200 → ys.length ≤ 200 → xs.length + ys.length ≤ sizeLine := fun a b => Nat.le_trans (Nat.add_le_add a b) (by decide)
    refine ⟨_, rfl, _, rfl, bk, _, rfl, .inr (SqT.of hb), q, d, _, rfl, by rw [ln]; omega, hH, fun at_ H1 r0 r1 h1 k1 => ?_⟩
    rw [ln] at r1
    obtain ⟨j, rfl⟩ : ∃ j : Nat, at_ = (j : Int) := ⟨at_.toNat, by omega⟩
    have hj : j < n := by omega
    have nqb : bk ≠ q := by
      obtain ⟨ds, i, g, _⟩ := hH
      exact ne_of hb g (by intro z; cases z)
    have hb1 := k1 _ _ nqb hb
    -- the letter
    refine ⟨_, rfl, 1, rfl, (by show 1 ≤ sizeLine; decide), fun T hT => ⟨_, rfl, _, _, rfl, rfl, ⟨by decide, by decide, by decide⟩, _, _, rfl, rfl, (by show 7 ≤ sizeLine; decide), fun Z hZ => ?_⟩⟩
    have sT := same_new (o := .tup [.int 0]) hT
    have eT : upd H1 T (.tup [.int 0]) T = some (.tup [.int 0]) := upd_same
    generalize upd H1 T (.tup [.int 0]) = H1a at hZ sT eT ⊢
    have sZ := same_new (o := .lst [.int p, .int (-1), .bl true, .non, .str "0", .ref T, .int (p + 10 ^ (20 : Int).toNat)]) hZ
    have eZ : upd H1a Z (.lst [.int p, .int (-1), .bl true, .non, .str "0", .ref T, .int (p + 10 ^ (20 : Int).toNat)]) Z = some (.lst [.int p, .int (-1), .bl true, .non, .str "0", .ref T, .int (p + 10 ^ (20 : Int).toNat)]) := upd_same
    have nZq : Z ≠ q := fun e => by rw [e] at hZ; exact (h1.same sT).alive hZ
    have nTq : T ≠ q := fun e => by rw [e] at hT; exact h1.alive hT
    refine ⟨_, rfl, q, d, 7, rfl, by decide, (h1.same sT).new hZ, fun r H2 c0 c1 h2 k2 => ?_⟩
    have eZ2 : H2 Z = some (.lst [.int p, .int (-1), .bl true, .non, .str "0", .ref T, .int (p + 10 ^ (20 : Int).toNat)]) := k2 _ _ nZq eZ
    have eT2 : H2 T = some (.tup [.int 0]) := k2 _ _ nTq (sZ _ _ eT)
    have hb2 : H2 bk = some (.tup (b.map V.int)) := k2 _ _ nqb (sZ _ _ (sT _ _ hb1))
    have k02 : Keep q H H2 := k1.trans ((Keep.of (sT.trans sZ)).trans k2)
    have big : (31 : Int) < 10 ^ (20 : Int).toNat := by decide +kernel
    have all : ∀ v ∈ ([.int p, .int (-1), .bl true, .non, .str "0", .ref T, .int (p + 10 ^ (20 : Int).toNat)] : List V), ∃ dv, (∀ H', Same H2 H' → OV H 1 H' v dv) ∧ belD p dv = false := by
      intro v hv
      simp only [List.mem_cons, List.not_mem_nil, or_false] at hv
      rcases hv with rfl | rfl | rfl | rfl | rfl | rfl | rfl
      · refine ⟨_, fun _ _ => .inl (.inl ⟨_, rfl, rfl⟩), ?_⟩
        show (decide (0 ≤ p) && decide (p < p)) = false
        rw [decide_eq_false (show ¬ p < p by omega), Bool.and_false]
      · exact ⟨_, fun _ _ => .inl (.inl ⟨_, rfl, rfl⟩), rfl⟩
      · exact ⟨_, fun _ _ => .inl (.inr (.inl ⟨_, rfl, rfl⟩)), rfl⟩
      · exact ⟨_, fun _ _ => .inl (.inr (.inr (.inl ⟨rfl, rfl⟩))), rfl⟩
      · exact ⟨_, fun _ _ => .inl (.inr (.inr (.inr ⟨_, rfl, rfl, by decide +kernel⟩))), rfl⟩
      · exact ⟨.tuple [.int 0], fun H' s => .inr ⟨T, _, _, rfl, .inr ⟨s _ _ eT2, rfl⟩, by decide, .cons (.inl ⟨0, rfl, rfl⟩) .nil⟩, rfl⟩
      · refine ⟨_, fun _ _ => .inl (.inl ⟨_, rfl, rfl⟩), ?_⟩
        show (decide (0 ≤ p + 10 ^ (20 : Int).toNat) && decide (p + 10 ^ (20 : Int).toNat < p)) = false
        rw [decide_eq_false (show ¬ p + 10 ^ (20 : Int).toNat < p by omega), Bool.and_false]
    obtain ⟨m, rfl⟩ : ∃ m : Nat, r = (m : Int) := ⟨r.toNat, by omega⟩
    have hm : m < 7 := by omega
    obtain ⟨lv, hlv⟩ : ∃ v, ([.int p, .int (-1), .bl true, .non, .str "0", .ref T, .int (p + 10 ^ (20 : Int).toNat)] : List V)[m]? = some v := ⟨_, List.getElem?_eq_getElem (show m < 7 from hm)⟩
    obtain ⟨ld, hlo, hlb⟩ := all lv (List.mem_of_getElem? hlv)
    refine ⟨Z, _, _, lv, rfl, rfl, SqL.of eZ2, atI_nat hlv, ?_⟩
    -- bad
    refine ⟨_, rfl, _, rfl, (j : Int), rfl, ?_⟩
    refine slA_is hb2 fun r1 H3 s3 e3 => ?_
    rw [cut_to (by omega)] at e3
    refine ⟨_, rfl, (by show 1 ≤ sizeLine; decide), fun T1 hT1 => ?_⟩
    have s4 := same_new (o := .tup [lv]) hT1
    have e4 : upd H3 T1 (.tup [lv]) T1 = some (.tup [lv]) := upd_same
    generalize upd H3 T1 (.tup [lv]) = H4 at s4 e4 ⊢
    refine catA_is (s4 _ _ e3) e4 (sz (by rw [List.length_take]; omega) (show 1 ≤ 200 by decide)) fun r2 H5 s5 e5 => ?_
    have s25 := s3.trans (s4.trans s5)
    refine ⟨_, rfl, _, rfl, (j : Int), 1, rfl, rfl, _, rfl, ?_⟩
    dsimp only [tNoPart]
    refine slA_is (s25 _ _ hb2) fun r3 H6 s6 e6 => ?_
    rw [show ((j : Int) + 1) = ((j + 1 : Nat) : Int) from rfl, cut_from (by omega)] at e6
    refine catA_is (s6 _ _ e5) e6 (sz (by rw [List.length_append, List.length_take]; show min j _ + 1 ≤ 200; omega) (by rw [List.length_drop]; omega)) fun rb H7 s7 e7 => ?_
    have s27 := s25.trans (s6.trans s7)
    have hb7 := s27 _ _ hb2
    have blen : ((b.map V.int).take j ++ [lv] ++ (b.map V.int).drop (j + 1)).length = n := by
      rw [List.length_append, List.length_append, List.length_take, List.length_drop, ln]
      show min j n + 1 + (n - (j + 1)) = n
      omega
    -- the list
    refine ⟨_, rfl, _, rfl, rb, _, rfl, .inr (SqT.of e7), fun l hl => ?_⟩
    have s8 := same_new (o := .lst ((b.map V.int).take j ++ [lv] ++ (b.map V.int).drop (j + 1))) hl
    have e8 : upd H7 l (.lst ((b.map V.int).take j ++ [lv] ++ (b.map V.int).drop (j + 1))) l = some (.lst ((b.map V.int).take j ++ [lv] ++ (b.map V.int).drop (j + 1))) := upd_same
    generalize upd H7 l (.lst ((b.map V.int).take j ++ [lv] ++ (b.map V.int).drop (j + 1))) = H8 at s8 e8 ⊢
    refine ⟨_, rfl, (by show 1 ≤ sizeLine; decide), fun T0 hT0 => ?_⟩
    have s9 := same_new (o := .tup [.int 0]) hT0
    have e9 : upd H8 T0 (.tup [.int 0]) T0 = some (.tup [.int 0]) := upd_same
    generalize upd H8 T0 (.tup [.int 0]) = H9 at s9 e9 ⊢
    refine catA_is (s9 _ _ (s8 _ _ hb7)) e9 (sz (by rw [ln]; omega) (show 1 ≤ 200 by decide)) fun r4 H10 s10 e10 => ?_
    have s710 := s8.trans (s9.trans s10)
    refine ⟨_, rfl, 1, rfl, ?_⟩
    dsimp only [tNoPart]
    refine slA_is (s710 _ _ hb7) fun r5 H11 s11 e11 => ?_
    rw [cut_1 (by rw [ln]; exact n1)] at e11
    have s711 := s710.trans s11
    refine ⟨(by show 0 ≤ sizeLine; decide), fun Lz hLz => ⟨_, rfl, (by show 1 ≤ sizeLine; decide), fun Tb hTb => ?_⟩⟩
    have s12 := same_new (o := .lst []) hLz
    have e12 : upd H11 Lz (.lst []) Lz = some (.lst []) := upd_same
    generalize upd H11 Lz (.lst []) = H12 at hTb s12 e12 ⊢
    have s13 := same_new (o := .tup [.ref bk]) hTb
    have e13 : upd H12 Tb (.tup [.ref bk]) Tb = some (.tup [.ref bk]) := upd_same
    generalize upd H12 Tb (.tup [.ref bk]) = H13 at s13 e13 ⊢
    refine ⟨(by show 9 ≤ sizeLine; decide), fun Y hY => ?_⟩
    have s14 := same_new (o := .lst [.ref rb, .ref l, .ref r4, .ref r5, .non, .int 7, .str "00", .ref Lz, .ref Tb]) hY
    have e14 : upd H13 Y (.lst [.ref rb, .ref l, .ref r4, .ref r5, .non, .int 7, .str "00", .ref Lz, .ref Tb]) Y = some (.lst [.ref rb, .ref l, .ref r4, .ref r5, .non, .int 7, .str "00", .ref Lz, .ref Tb]) := upd_same
    have s714 := s711.trans (s12.trans (s13.trans s14))
    have s214 := s27.trans s714
    have h14 := h2.same s214
    have s814 := s9.trans (s10.trans (s11.trans (s12.trans (s13.trans s14))))
    have nYq : Y ≠ q := fun e => by rw [e] at hY; exact (h2.same (s27.trans (s711.trans (s12.trans s13)))).alive hY
    generalize upd H13 Y (.lst [.ref rb, .ref l, .ref r4, .ref r5, .non, .int 7, .str "00", .ref Lz, .ref Tb]) = H14 at s14 e14 s714 s214 s814 h14 ⊢
    refine ⟨_, rfl, q, d, 9, rfl, by decide, h14, fun t H15 t0 t1 h15 k15 => ?_⟩
    have kq : ∀ {c o}, H14 c = some o → (∀ xs, o ≠ .lst xs) → H15 c = some o := fun {c o} e ne => by
      obtain ⟨ds, i, g, _⟩ := h14
      exact k15 _ _ (ne_of e g (ne _)) e
    have kl : ∀ {c o}, H14 c = some o → c ≠ q → H15 c = some o := fun e ne => k15 _ _ ne e
    have k0 : Keep q H H15 := k02.trans ((Keep.of s214).trans k15)
    have n2 : ∀ c, H2 c = none → H c = none := fun c hc => k02.none h2.alive hc
    have nl : H l = none := n2 _ (s27.free hl)
    have nLz : H Lz = none := n2 _ ((s27.trans s711).free hLz)
    have nlq : l ≠ q := fun e => by rw [e] at hl; exact (h2.same s27).alive hl
    have nLq : Lz ≠ q := fun e => by rw [e] at hLz; exact (h2.same (s27.trans s711)).alive hLz
    have hlo15 : OV H 1 H15 lv ld := by
      have z := hlo H14 s214
      refine z.kl ⟨fun c xs nb e => k15 _ _ (fun ec => by rw [ec] at nb; exact hH.alive nb) e, fun c xs e => kq e (fun _ z => nomatch z)⟩
    have hbad : Paired (OV H 1 H15) ((b.map V.int).take j ++ [lv] ++ (b.map V.int).drop (j + 1)) ((b.map PyData.int).take j ++ [ld] ++ (b.map PyData.int).drop (j + 1)) :=
      paired_app (paired_app (paired_take j (ints_ov 0 b)) (.cons hlo15 .nil)) (paired_drop (j + 1) (ints_ov 0 b))
    have hbl : ((b.map PyData.int).take j ++ [ld] ++ (b.map PyData.int).drop (j + 1)).length = n := by rw [← paired_len hbad, blen]
    have hbm : ld ∈ (b.map PyData.int).take j ++ [ld] ++ (b.map PyData.int).drop (j + 1) := by simp
    have allv : ∀ v ∈ ([.ref rb, .ref l, .ref r4, .ref r5, .non, .int 7, .str "00", .ref Lz, .ref Tb] : List V), ∃ dv, OV H 2 H15 v dv ∧ BadB p n b dv := by
      intro v hv
      simp only [List.mem_cons, List.not_mem_nil, or_false] at hv
      rcases hv with rfl | rfl | rfl | rfl | rfl | rfl | rfl | rfl | rfl
      · refine ⟨.tuple _, .inr ⟨rb, _, _, rfl, .inr ⟨kq (s714 _ _ e7) (fun _ z => nomatch z), rfl⟩, by rw [blen]; omega, hbad⟩, lets_no (.inr ⟨ld, hbm, hlb⟩), by show _ ≤ 200; rw [hbl]; omega, .inl ?_⟩
        show (_ && (decide _ && _)) = false
        rw [show (List.all _ (belD p)) = false from List.all_eq_false.mpr ⟨ld, hbm, by rw [hlb]; decide⟩, Bool.and_false, Bool.and_false]
      · refine ⟨.list _, .inr ⟨l, _, _, rfl, .inl ⟨nl, kl (s814 _ _ e8) nlq, rfl⟩, by rw [blen]; omega, hbad⟩, lets_no (.inr ⟨ld, hbm, hlb⟩), by show _ ≤ 200; rw [hbl]; omega, .inl ?_⟩
        show (_ && (decide _ && _)) = false
        rw [show (List.all _ (belD p)) = false from List.all_eq_false.mpr ⟨ld, hbm, by rw [hlb]; decide⟩, Bool.and_false, Bool.and_false]
      · refine ⟨rowD (b ++ [0]), .inr ⟨r4, _, _, rfl, .inr ⟨kq (s11.trans (s12.trans (s13.trans s14)) _ _ e10) (fun _ z => nomatch z), rfl⟩, ?_, ?_⟩, lets_no (.inl ?_), ?_, .inr (.inl rfl)⟩
        · rw [List.length_append, ln]
          show n + 1 ≤ 200
          omega
        · rw [List.map_append]
          exact paired_app (ints_ov 0 b) (.cons (.inl (.inl ⟨0, rfl, rfl⟩)) .nil)
        · rw [List.length_map, List.length_append, hlt.1]
          show n + 1 ≠ n
          omega
        · show ((b ++ [0]).map PyData.int).length ≤ 200
          rw [List.length_map, List.length_append, hlt.1]
          show n + 1 ≤ 200
          omega
      · refine ⟨rowD (b.drop 1), .inr ⟨r5, _, _, rfl, .inr ⟨kq (s12.trans (s13.trans s14) _ _ e11) (fun _ z => nomatch z), rfl⟩, ?_, ?_⟩, lets_no (.inl ?_), ?_, .inr (.inr rfl)⟩
        · rw [List.length_drop, ln]
          omega
        · rw [List.map_drop]
          exact paired_drop 1 (ints_ov 0 b)
        · rw [List.length_map, List.length_drop, hlt.1]
          omega
        · show ((b.drop 1).map PyData.int).length ≤ 200
          rw [List.length_map, List.length_drop, hlt.1]
          omega
      · exact ⟨.none, .inl (.inr (.inr (.inl ⟨rfl, rfl⟩))), rfl, trivial, .inl rfl⟩
      · exact ⟨.int 7, .inl (.inl ⟨_, rfl, rfl⟩), rfl, trivial, .inl rfl⟩
      · exact ⟨.str "00", .inl (.inr (.inr (.inr ⟨_, rfl, rfl, by decide +kernel⟩))), rfl, trivial, .inl rfl⟩
      · refine ⟨.list [], .inr ⟨Lz, _, _, rfl, .inl ⟨nLz, kl (s13.trans s14 _ _ e12) nLq, rfl⟩, by decide, .nil⟩, lets_no (.inl ?_), by show 0 ≤ 200; decide, .inl rfl⟩
        show 0 ≠ n
        omega
      · refine ⟨.tuple [rowD b], .inr ⟨Tb, _, _, rfl, .inr ⟨kq (s14 _ _ e13) (fun _ z => nomatch z), rfl⟩, (by show 1 ≤ 200; decide), .cons (.inr ⟨bk, _, _, rfl, .inr ⟨kq (s714 _ _ hb7) (fun _ z => nomatch z), rfl⟩, by rw [ln]; omega, ints_leaf b⟩) .nil⟩, lets_no (.inr ⟨rowD b, List.mem_singleton.mpr rfl, rfl⟩), by show 1 ≤ 200; decide, .inl ?_⟩
        simp [oneD, letsD, belD, rowD]
    obtain ⟨i, rfl⟩ : ∃ i : Nat, t = (i : Int) := ⟨t.toNat, by omega⟩
    have hi : i < 9 := by omega
    obtain ⟨v, hv⟩ : ∃ v, ([.ref rb, .ref l, .ref r4, .ref r5, .non, .int 7, .str "00", .ref Lz, .ref Tb] : List V)[i]? = some v := ⟨_, List.getElem?_eq_getElem (show i < 9 from hi)⟩
    obtain ⟨dv, h1v, h2v⟩ := allv v (List.mem_of_getElem? hv)
    exact ⟨Y, _, _, v, rfl, rfl, SqL.of (kl e14 nYq), atI_nat hv, kk v dv H15 h1v h2v h15 k0⟩
end
end WU

set_option maxRecDepth 100000
set_option maxHeartbeats 8000000
namespace WU
open PySem PySem.Spec PyProof.Rows L2
/-- a statement whose next state is told more loosely -/
def tWk (t : TS) : TS := fun D σ H => ∃ P : L2.St → Hp → Prop, t { D with nx := P } σ H ∧ ∀ σ1 H1, P σ1 H1 → D.nx σ1 H1
theorem ps_wk {X : Cx} {st : Stmt} {t : TS} (h : PS X st t) : PS X st (tWk t) := by
  refine ⟨fun pins s σ H D I ⟨P, q, k⟩ => thn (h.run pins s σ H { D with nx := P } I q) fun f s1 z => ?_⟩
  cases f with
  | next =>
    obtain ⟨σ', H', I', z⟩ := z
    exact ⟨σ', H', I', k _ _ z⟩
  | ret v => exact z
  | brk => exact z
  | cont => exact z
theorem bk_no {p : Int} {n : Nat} {ds : List PyData} (h1 : ∃ d ∈ ds, letsD p n d = false) (h2 : (∃ b : List Int, rowD b ∈ ds ∧ b.length = n) ∨ ∃ d, ds = [d] ∧ oneD p d = false) : bkD p ds = false := by
  cases ds with
  | nil => rfl
  | cons d0 ds' =>
    show ((isSeq d0 && decide (lenD d0 ≠ 0)) && (d0 :: ds').all (letsD p (lenD d0))) = false
    rcases h2 with ⟨b, hb, hl⟩ | ⟨d, e, h⟩
    · rw [Bool.eq_false_iff]
      intro z
      obtain ⟨_, z2⟩ := and2 z
      have za := List.all_eq_true.mp z2
      have zb := za _ hb
      obtain ⟨zc, _⟩ := and2 (show (decide (((b.map PyData.int).length : Int) = (lenD d0 : Int)) && _) = true from zb)
      have zd := of_decide_eq_true zc
      rw [List.length_map] at zd
      obtain ⟨d, hd, hf⟩ := h1
      have ze := za _ hd
      rw [show ((lenD d0 : Nat) : Int) = (n : Int) by rw [← zd, hl], hf] at ze
      cases ze
    · cases e
      show ((isSeq d0 && decide (lenD d0 ≠ 0)) && (letsD p (lenD d0) d0 && true)) = false
      rw [Bool.and_true]
      exact h
/-- d in the place at of the rows bs -/
def putD (bs : List (List Int)) (k : Nat) (d : PyData) : List PyData := (bs.map rowD).take k ++ [d] ++ (bs.map rowD).drop (k + 1)
theorem putD_len {bs : List (List Int)} {k : Nat} {d : PyData} (hk : k < bs.length) : (putD bs k d).length = bs.length := by
  unfold putD
  rw [List.length_append, List.length_append, List.length_take, List.length_drop, List.length_map]
  show min k bs.length + 1 + (bs.length - (k + 1)) = bs.length
  omega
theorem putD_small {bs : List (List Int)} {k : Nat} {d : PyData} {n : Nat} (hn : n ≤ 100) (hd : smallD d) (h : ∀ b ∈ bs, b.length = n) : ∀ e ∈ putD bs k d, smallD e := by
  have r : ∀ b ∈ bs, smallD (rowD b) := fun b hb => by
    show (b.map PyData.int).length ≤ 200
    rw [List.length_map, h b hb]
    omega
  intro e he
  unfold putD at he
  rcases List.mem_append.mp he with he | he
  · rcases List.mem_append.mp he with he | he
    · obtain ⟨b, hb, rfl⟩ := List.mem_map.mp (List.mem_of_mem_take he)
      exact r b hb
    · rw [List.mem_singleton.mp he]
      exact hd
  · obtain ⟨b, hb, rfl⟩ := List.mem_map.mp (List.mem_of_mem_drop he)
    exact r b hb
theorem put_no {p : Int} {n : Nat} {bs : List (List Int)} {k : Nat} {d : PyData} (hk : k < bs.length) (hl : ∀ b ∈ bs, b.length = n) (h1 : letsD p n d = false) (h2 : bs.length = 1 → oneD p d = false) : bkD p (putD bs k d) = false := by
  refine bk_no ⟨d, by simp [putD], h1⟩ ?_
  by_cases e : bs.length = 1
  · refine .inr ⟨d, ?_, h2 e⟩
    have : k = 0 := by omega
    subst this
    unfold putD
    rw [List.take_zero, List.drop_of_length_le (by rw [List.length_map, e]; exact Nat.le_refl 1)]
    rfl
  · refine .inl ?_
    by_cases ek : k = 0
    · have h : 1 < bs.length := by omega
      refine ⟨bs[1], ?_, hl _ (List.getElem_mem h)⟩
      unfold putD
      refine List.mem_append.mpr (.inr (List.mem_of_getElem? (i := 0) ?_))
      subst ek
      rw [List.getElem?_drop, List.getElem?_map, List.getElem?_eq_getElem (show 0 + 1 + 0 < bs.length from h)]
      rfl
    · have h : 0 < k := Nat.pos_of_ne_zero ek
      have h0 : 0 < bs.length := by omega
      refine ⟨bs[0], ?_, hl _ (List.getElem_mem h0)⟩
      unfold putD
      refine List.mem_append.mpr (.inl (List.mem_append.mpr (.inl (List.mem_of_getElem? (i := 0) ?_))))
      rw [List.getElem?_take_of_lt h, List.getElem?_map, List.getElem?_eq_getElem h0]
      rfl
theorem rows_ov {B H : Hp} {m : Nat} : ∀ {rs : List V} {bs : List (List Int)}, Paired (TB H) rs bs → (∀ b ∈ bs, b.length ≤ 200) → Paired (OV B (m + 2) H) rs (bs.map rowD)
  | _, _, .nil, _ => .nil
  | _, _, .cons ⟨c, e, h⟩ t, hl => .cons (.inr ⟨c, _, _, e, .inr ⟨h, rfl⟩, by rw [List.length_map]; exact hl _ (List.mem_cons_self ..), ints_ov m _⟩) (rows_ov t fun b hb => hl b (List.mem_cons_of_mem _ hb))
theorem SlfD.shp {n : Nat} {d : PyData} (h : SlfD n d) (hn : n ≤ 64) : SeqAt.shaped d = true := by
  unfold SeqAt.shaped
  rw [h.1, decide_eq_true (Nat.le_trans h.2.1 hn)]
  rfl
theorem shp_row (b : List Int) : SeqAt.shaped (rowD b) = true := by
  obtain ⟨h1, h2⟩ := lay_ints b
  unfold SeqAt.shaped rowD
  simp only [PyData.canLay0, h1, PyData.depth, h2, Bool.true_and]
  decide
theorem eqv_row (b : List Int) : PyData.eqv (rowD b) (rowD b) = true := by
  show PyData.eqvAll (b.map .int) (b.map .int) = true
  rw [eqv_ints]
  exact decide_eq_true rfl
theorem BkAt.keep {H H' : Hp} {q d r : Addr} {bs : List (List Int)} (hH : HandAt H q d) (h : BkAt H r bs) (k : Keep q H H') : BkAt H' r bs := by
  obtain ⟨ds, i, g, _⟩ := hH
  obtain ⟨rs, e, t⟩ := h
  refine ⟨rs, k _ _ (ne_of e g (fun z => nomatch z)) e, paired_mono (fun _ _ q => ?_) t⟩
  obtain ⟨c, e, h⟩ := q
  exact ⟨c, e, k _ _ (ne_of h g (fun z => nomatch z)) h⟩
end WU

set_option maxRecDepth 100000
set_option maxHeartbeats 8000000
namespace WU
open PySem PySem.Spec PyProof.Rows L2
section
variable {P : Program} {w : World} {K : PySem.W.Frag} {mg : Str → Option Value} {base : Heap} {L : Addr}
abbrev sBBs : Stmt := top 33
theorem scBBs : FnScope ["hand", "books", "p", "kind", "at", "bad", "found"] ["hand", "books", "p"] (defScope sBBs) := ⟨rfl, rfl, rfl, by decide +kernel, rfl, by decide +kernel, by decide +kernel⟩
/-- values that are no books -/
def spBBs : Sp := fun vs H Q _ => ∃ (q d bk : Addr) (p : Int) (n : Nat) (bs : List (List Int)), vs = [.ref q, .ref bk, .int p] ∧ HandAt H q d ∧ BkAt H bk bs ∧ Good p n bs ∧ 0 < p ∧ p ≤ 31 ∧
  ∀ v dv H', OV H 3 H' v dv → booksD p dv = false → smallB dv → HandAt H' q d → Keep q H H' → Q v H'
theorem ok_BBs {f fT fB : Addr} {fd fdT fdB : FuncData} (F : FnS K "_law_bad_books" sBBs f fd) (B : Blt3 mg) (CT : Cal P w K mg base 1 "_law_take" fT fdT ["hand", "many"] spTake) (CBB : Cal P w K mg base 2 "_law_bad_book" fB fdB ["hand", "book", "p"] spBB) :
    FnOk P w K mg base (L2.CX P w) 3 f fd ["hand", "books", "p"] spBBs := by
  refine F.ok scBBs (fun vs H Q E h => ?_) (fun cdv A outer s H vs Q E hr h => ?_)
  · obtain ⟨q, d, bk, p, n, bs, rfl, _⟩ := h
    rfl
  · obtain ⟨q, d, bk, p, n, bs, rfl, hH, hb, g, p0, p1, kk⟩ := h
    have nd := scBBs.nd
    have hu := hr.units
    have hr1 := hr.mono (show 1 ≤ 2 by decide)
    refine ⟨_, (pss_cons (ps_set (i := 3) nd rfl (Or.inl rfl) (pe_cal CT hr1 (pa_cons (pv 0) (pa_cons pe_int pa_nil)) passU))
      (pss_cons (ps_if (pt_cmpR op_eq (pv 3) pe_int (nomark _)) (pss_one (ps_ret (pe_ix ix_list (pe_lst (pa_cons (pe_tup pa_nil) (pa_cons (pe_lst pa_nil) (pa_cons (pe_lst (pa_cons (pe_lst pa_nil) pa_nil)) (pa_cons (pe_op op_repT (pe_tup (pa_cons (pe_tup pa_nil) pa_nil)) pe_int) (pa_cons pe_non (pa_cons pe_int (pa_cons pe_str (pa_cons (pe_tup (pa_cons pe_int pa_nil)) (pa_cons pe_bl pa_nil)))))))))) (pe_cal CT hr1 (pa_cons (pv 0) (pa_cons pe_int pa_nil)) passU) (fun _ _ => rfl)))) pss_nil)
      (pss_cons (ps_set (i := 4) nd rfl (Or.inl rfl) (pe_cal CT hr1 (pa_cons (pv 0) (pa_cons (pe_callB call_len_seq (by rfl) B.len (by decide +kernel) (pa_cons (pv 1) pa_nil)) pa_nil)) passU))
      (pss_cons (ps_set (i := 5) nd rfl (Or.inl rfl) (pe_cal CBB hr (pa_cons (pv 0) (pa_cons (pe_ix ix_tup (pv 1) (pv 4) (fun _ _ => rfl)) (pa_cons (pv 2) pa_nil))) passU))
      (pss_cons (ps_wk (ps_if (PW.pt (pw_and (pt_cmpR op_eq (pe_callB call_len_seq (by rfl) B.len (by decide +kernel) (pa_cons (pv 1) pa_nil)) pe_int (nomark _)) (pw_and1 (pt_cmpR (op_eqD hu) (pv 5) (pe_op op_catA (pe_ix ix_tup (pv 1) pe_int (fun _ _ => rfl)) (pe_tup (pa_cons pe_int pa_nil))) (nomark _))))) (pss_one (ps_set (i := 5) nd rfl (Or.inl rfl) (pe_tup pa_nil))) pss_nil))
      (pss_cons (ps_wk (ps_if (PW.pt (pw_and (pt_cmpR op_eq (pe_callB call_len_seq (by rfl) B.len (by decide +kernel) (pa_cons (pv 1) pa_nil)) pe_int (nomark _)) (pw_and1 (pt_cmpR (op_eqD hu) (pv 5) (pe_slice sl_tupA (pe_ix ix_tup (pv 1) pe_int (fun _ _ => rfl)) (po_some pe_int) po_none) (nomark _))))) (pss_one (ps_set (i := 5) nd rfl (Or.inl rfl) (pe_tup pa_nil))) pss_nil))
      (pss_cons (ps_set (i := 6) nd rfl (Or.inl rfl) (pe_op op_cat (pe_op op_cat (pe_callTy call_list_of (by rfl) B.lst (by decide +kernel) (pa_cons (pe_slice sl_tupA (pv 1) po_none (po_some (pv 4))) pa_nil)) (pe_lst (pa_cons (pv 5) pa_nil))) (pe_callTy call_list_of (by rfl) B.lst (by decide +kernel) (pa_cons (pe_slice sl_tupA (pv 1) (po_some (pe_op op_add (pv 4) pe_int)) po_none) pa_nil))))
      (pss_one (ps_ret (pe_ix ix_list (pe_lst (pa_cons (pv 6) (pa_cons (pe_callTy call_tuple_of (by rfl) B.tuple (by decide +kernel) (pa_cons (pv 6) pa_nil)) pa_nil))) (pe_cal CT hr1 (pa_cons (pv 0) (pa_cons pe_int pa_nil)) passU) (fun _ _ => rfl))))))))))), ?_⟩
    have hn : n ≤ 100 := g.le
    have hc : bs.length ≤ 100 := g.cnt
    have hpos : 0 < bs.length := List.length_pos_iff.mpr g.ne
    have hln : ∀ b ∈ bs, b.length = n := fun b hb => (g.all b hb).1
    refine ⟨_, rfl, q, d, 4, rfl, by decide, hH, fun kd H1 c0 c1 h1 k1 => ?_⟩
    have hb1 := hb.keep hH k1
    refine ⟨_, rfl, rfl, _, rfl, ?_⟩
    by_cases e0 : kd = 0
    · refine iteTb (decide_eq_true (by rw [e0])) ?_
      refine ⟨(by show 0 ≤ sizeLine; decide), fun t0 ht0 => ⟨(by show 0 ≤ sizeLine; decide), fun l1 hl1 => ⟨(by show 0 ≤ sizeLine; decide), fun l2 hl2 => ⟨(by show 1 ≤ sizeLine; decide), fun l3 hl3 => ⟨(by show 0 ≤ sizeLine; decide), fun t4 ht4 => ⟨(by show 1 ≤ sizeLine; decide), fun t5 ht5 => ?_⟩⟩⟩⟩⟩⟩
      have s1 := same_new (o := .tup []) ht0
      have x0 : upd H1 t0 (.tup []) t0 = some (.tup []) := upd_same
      generalize upd H1 t0 (.tup []) = Ha at hl1 hl2 hl3 ht4 ht5 s1 x0 ⊢
      have s2 := same_new (o := .lst []) hl1
      have x1 : upd Ha l1 (.lst []) l1 = some (.lst []) := upd_same
      generalize upd Ha l1 (.lst []) = Hb at hl2 hl3 ht4 ht5 s2 x1 ⊢
      have s3 := same_new (o := .lst []) hl2
      have x2 : upd Hb l2 (.lst []) l2 = some (.lst []) := upd_same
      generalize upd Hb l2 (.lst []) = Hc at hl3 ht4 ht5 s3 x2 ⊢
      have s4 := same_new (o := .lst [.ref l2]) hl3
      have x3 : upd Hc l3 (.lst [.ref l2]) l3 = some (.lst [.ref l2]) := upd_same
      generalize upd Hc l3 (.lst [.ref l2]) = Hd at ht4 ht5 s4 x3 ⊢
      have s5 := same_new (o := .tup []) ht4
      have x4 : upd Hd t4 (.tup []) t4 = some (.tup []) := upd_same
      generalize upd Hd t4 (.tup []) = He' at ht5 s5 x4 ⊢
      have s6 := same_new (o := .tup [.ref t4]) ht5
      have x5 : upd He' t5 (.tup [.ref t4]) t5 = some (.tup [.ref t4]) := upd_same
      generalize upd He' t5 (.tup [.ref t4]) = Hf at s6 x5 ⊢
      refine ⟨t5, 2, _, rfl, rfl, SqT.of x5, (fun z => nomatch z), by decide, by decide, (by show 1 ≤ 1000; decide), fun t6 ht6 => ?_⟩
      have s7 := same_new (o := .tup (List.replicate (Int.toNat 2) [V.ref t4]).flatten) ht6
      have x6 : upd Hf t6 (.tup (List.replicate (Int.toNat 2) [V.ref t4]).flatten) t6 = some (.tup [.ref t4, .ref t4]) := upd_same
      generalize upd Hf t6 (.tup (List.replicate (Int.toNat 2) [V.ref t4]).flatten) = Hg at s7 x6 ⊢
      refine ⟨(by show 1 ≤ sizeLine; decide), fun t7 ht7 => ⟨(by show 9 ≤ sizeLine; decide), fun Z hZ => ?_⟩⟩
      have s8 := same_new (o := .tup [.int 1]) ht7
      have x7 : upd Hg t7 (.tup [.int 1]) t7 = some (.tup [.int 1]) := upd_same
      generalize upd Hg t7 (.tup [.int 1]) = Hh at hZ s8 x7 ⊢
      have s9 := same_new (o := .lst [.ref t0, .ref l1, .ref l3, .ref t6, .non, .int 5, .str "a", .ref t7, .bl true]) hZ
      have xZ : upd Hh Z (.lst [.ref t0, .ref l1, .ref l3, .ref t6, .non, .int 5, .str "a", .ref t7, .bl true]) Z = some (.lst [.ref t0, .ref l1, .ref l3, .ref t6, .non, .int 5, .str "a", .ref t7, .bl true]) := upd_same
      have sAll := s1.trans (s2.trans (s3.trans (s4.trans (s5.trans (s6.trans (s7.trans (s8.trans s9)))))))
      have h9 := h1.same sAll
      generalize upd Hh Z (.lst [.ref t0, .ref l1, .ref l3, .ref t6, .non, .int 5, .str "a", .ref t7, .bl true]) = Hi at s9 xZ sAll h9 ⊢
      refine ⟨_, rfl, q, d, 9, rfl, by decide, h9, fun r H2 r0 r1 h2 k2 => ?_⟩
      have kq : ∀ {c o}, Hi c = some o → (∀ xs, o ≠ .lst xs) → H2 c = some o := fun {c o} e ne => by
        obtain ⟨ds, i, g, _⟩ := h9
        exact k2 _ _ (ne_of e g (ne _)) e
      have kl : ∀ {c o}, Hi c = some o → H1 c = none → H2 c = some o := fun {c o} e hc => k2 _ _ (fun z => by rw [z] at hc; exact h1.alive hc) e
      have k0 : Keep q H H2 := k1.trans ((Keep.of sAll).trans k2)
      have n0 : ∀ {c}, H1 c = none → H c = none := fun hc => k1.none h1.alive hc
      have nl1 : H1 l1 = none := s1.free hl1
      have nl2 : H1 l2 = none := (s1.trans s2).free hl2
      have nl3 : H1 l3 = none := (s1.trans (s2.trans s3)).free hl3
      have nZ : H1 Z = none := (s1.trans (s2.trans (s3.trans (s4.trans (s5.trans (s6.trans (s7.trans s8))))))).free hZ
      have s69 := s7.trans (s8.trans s9)
      have s49 := s5.trans (s6.trans s69)
      have y0 := kq ((s2.trans (s3.trans (s4.trans s49))) _ _ x0) (fun _ z => nomatch z)
      have y1 := kl ((s3.trans (s4.trans s49)) _ _ x1) nl1
      have y2 := kl ((s4.trans s49) _ _ x2) nl2
      have y3 := kl (s49 _ _ x3) nl3
      have y4 := kq ((s6.trans s69) _ _ x4) (fun _ z => nomatch z)
      have y6 := kq ((s8.trans s9) _ _ x6) (fun _ z => nomatch z)
      have y7 := kq (s9 _ _ x7) (fun _ z => nomatch z)
      have all : ∀ v ∈ ([.ref t0, .ref l1, .ref l3, .ref t6, .non, .int 5, .str "a", .ref t7, .bl true] : List V), ∃ dv, OV H 3 H2 v dv ∧ booksD p dv = false ∧ smallB dv := by
        intro v hv
        simp only [List.mem_cons, List.not_mem_nil, or_false] at hv
        rcases hv with rfl | rfl | rfl | rfl | rfl | rfl | rfl | rfl | rfl
        · exact ⟨.tuple [], .inr ⟨t0, _, _, rfl, .inr ⟨y0, rfl⟩, by decide, .nil⟩, rfl, by decide, fun e he => nomatch he⟩
        · exact ⟨.list [], .inr ⟨l1, _, _, rfl, .inl ⟨n0 nl1, y1, rfl⟩, by decide, .nil⟩, rfl, by decide, fun e he => nomatch he⟩
        · refine ⟨.list [.list []], .inr ⟨l3, _, _, rfl, .inl ⟨n0 nl3, y3, rfl⟩, (by show 1 ≤ 200; decide), .cons (.inr ⟨l2, _, _, rfl, .inl ⟨n0 nl2, y2, rfl⟩, by decide, .nil⟩) .nil⟩, rfl, by decide, fun e he => ?_⟩
          rw [List.mem_singleton.mp he]
          show 0 ≤ 200
          decide
        · refine ⟨.tuple [.tuple [], .tuple []], .inr ⟨t6, _, _, rfl, .inr ⟨y6, rfl⟩, (by show 2 ≤ 200; decide), .cons (.inr ⟨t4, _, _, rfl, .inr ⟨y4, rfl⟩, by decide, .nil⟩) (.cons (.inr ⟨t4, _, _, rfl, .inr ⟨y4, rfl⟩, by decide, .nil⟩) .nil)⟩, rfl, by decide, fun e he => ?_⟩
          simp only [List.mem_cons, List.not_mem_nil, or_false, or_self] at he
          rw [he]
          show 0 ≤ 200
          decide
        · exact ⟨.none, .inl (.inr (.inr (.inl ⟨rfl, rfl⟩))), rfl, trivial⟩
        · exact ⟨.int 5, .inl (.inl ⟨_, rfl, rfl⟩), rfl, trivial⟩
        · exact ⟨.str "a", .inl (.inr (.inr (.inr ⟨_, rfl, rfl, by decide +kernel⟩))), rfl, trivial⟩
        · refine ⟨.tuple [.int 1], .inr ⟨t7, _, _, rfl, .inr ⟨y7, rfl⟩, by decide, .cons (.inl (.inl ⟨_, rfl, rfl⟩)) .nil⟩, rfl, by decide, fun e he => ?_⟩
          rw [List.mem_singleton.mp he]
          trivial
        · exact ⟨.bool true, .inl (.inr (.inl ⟨_, rfl, rfl⟩)), rfl, trivial⟩
      obtain ⟨i, rfl⟩ : ∃ i : Nat, r = (i : Int) := ⟨r.toNat, by omega⟩
      have hi : i < 9 := by omega
      obtain ⟨v, hv⟩ : ∃ v, ([.ref t0, .ref l1, .ref l3, .ref t6, .non, .int 5, .str "a", .ref t7, .bl true] : List V)[i]? = some v := ⟨_, List.getElem?_eq_getElem (show i < 9 from hi)⟩
      obtain ⟨dv, z1, z2, z3⟩ := all v (List.mem_of_getElem? hv)
      exact ⟨Z, _, _, v, rfl, rfl, SqL.of (kl xZ nZ), atI_nat hv, kk v dv H2 z1 z2 z3 h2 k0⟩
    · refine iteFb (decide_eq_false fun z => e0 (V.int.inj z)) ?_
      obtain ⟨rs, er, hrs⟩ := hb1
      have erl := paired_len hrs
      refine ⟨_, rfl, _, rfl, bk, _, rfl, .inr (SqT.of er), q, d, _, rfl, by rw [erl]; omega, h1, fun at_ H2 r0 r1 h2 k2 => ?_⟩
      rw [erl] at r1
      obtain ⟨j, rfl⟩ : ∃ j : Nat, at_ = (j : Int) := ⟨at_.toNat, by omega⟩
      have hj : j < bs.length := by omega
      obtain ⟨rs2, er2, hrs2⟩ := (show BkAt H1 bk bs from ⟨rs, er, hrs⟩).keep h1 k2
      obtain ⟨b, ebj⟩ : ∃ b, bs[j]? = some b := ⟨_, List.getElem?_eq_getElem hj⟩
      have hbm : b ∈ bs := List.mem_of_getElem? ebj
      obtain ⟨rj, hrj, cj, rfl, ecj⟩ := paired_of hrs2 ebj
      refine ⟨_, rfl, _, rfl, _, rfl, bk, rs2, (j : Int), _, rfl, rfl, SqT.of er2, atI_nat hrj, _, rfl, q, d, cj, p, n, b, rfl, h2, ecj, g.all b hbm, g.pos, hn, p0, p1, fun bv bd H3 hv hbad h3 k3 => ?_⟩
      have k02 : Keep q H H2 := k1.trans k2
      have n2 : ∀ c, H2 c = none → H c = none := fun c hc => k02.none h2.alive hc
      have hv3 : OV H 2 H3 bv bd := hv.base n2
      have k03 := k02.trans k3
      have hb3 := hb.keep hH k03
      refine ⟨fun σ H4 => ∃ v1 d1, σ = [some (.ref q), some (.ref bk), some (.int p), some (.int kd), some (.int j), some v1, none] ∧ Same H3 H4 ∧ OV H 2 H4 v1 d1 ∧ letsD p n d1 = false ∧ smallD d1 ∧ (bs.length = 1 → oneD p d1 = false ∨ d1 = rowD (b.drop 1)), ?_, ?_⟩
      · obtain ⟨rs3, er3, hrs3⟩ := hb3
        have l3 := paired_len hrs3
        refine ⟨_, rfl, bk, _, rfl, .inr (SqT.of er3), rfl, _, rfl, ?_⟩
        by_cases e1 : bs.length = 1
        · have j0 : j = 0 := by omega
          subst j0
          obtain ⟨r0, hr0, c0, rfl, ec0⟩ := paired_of hrs3 ebj
          refine iteTb (by rw [l3, e1]; rfl) ⟨_, rfl, _, rfl, bk, _, 0, _, rfl, rfl, SqT.of er3, atI_nat hr0, (by show 1 ≤ sizeLine; decide), fun T hT => ?_⟩
          have sT := same_new (o := .tup [.int 0]) hT
          have eT : upd H3 T (.tup [.int 0]) T = some (.tup [.int 0]) := upd_same
          generalize upd H3 T (.tup [.int 0]) = H4 at sT eT ⊢
          refine catA_is (sT _ _ ec0) eT ?_ fun r H5 s5 e5 => ?_
          · rw [List.length_map, hln b hbm]
            exact Nat.le_trans (show n + 1 ≤ 200 by omega) (by decide)
          have hv5 : OV H 2 H5 bv bd := hv3.kl (KL.of (sT.trans s5))
          obtain ⟨dp5, slf5⟩ := hv5.dp K
          have e5' : H5 r = some (.tup ((b ++ [0]).map V.int)) := by rw [e5, List.map_append]; rfl
          refine ⟨bd, rowD (b ++ [0]), dp5, .tup (SqT.of e5') (dps_ints _), slf5.shp (by decide), shp_row _, _, rfl, ?_⟩
          cases ee : PyData.eqv bd (rowD (b ++ [0])) with
          | true =>
            refine iteT ⟨(by show 0 ≤ sizeLine; decide), fun Z hZ => ?_⟩
            refine ⟨_, .tuple [], rfl, (sT.trans s5).trans (same_new hZ), .inr ⟨Z, _, _, rfl, .inr ⟨upd_same, rfl⟩, by decide, .nil⟩, lets_no (.inl ?_), (by show 0 ≤ 200; decide), fun _ => .inl rfl⟩
            show 0 ≠ n
            have := g.pos
            omega
          | false =>
            refine iteF ⟨bv, bd, rfl, sT.trans s5, hv5, hbad.1, hbad.2.1, fun _ => ?_⟩
            rcases hbad.2.2 with h | h | h
            · exact .inl h
            · rw [h, eqv_row] at ee
              cases ee
            · exact .inr h
        · refine iteFb (by rw [l3]; exact decide_eq_false fun z => e1 (by have := V.int.inj z; omega)) ?_
          exact ⟨bv, bd, rfl, Same.refl H3, hv3, hbad.1, hbad.2.1, fun z => absurd z e1⟩
      rintro σ H4 ⟨v1, d1, rfl, s4, hv4, hl4, hs4, ho4⟩
      refine ⟨fun σ H5 => ∃ v2 d2, σ = [some (.ref q), some (.ref bk), some (.int p), some (.int kd), some (.int j), some v2, none] ∧ Same H4 H5 ∧ OV H 2 H5 v2 d2 ∧ letsD p n d2 = false ∧ smallD d2 ∧ (bs.length = 1 → oneD p d2 = false), ?_, ?_⟩
      · obtain ⟨rs3, er3, hrs3⟩ := hb.keep hH (k03.trans (Keep.of s4))
        have l3 := paired_len hrs3
        refine ⟨_, rfl, bk, _, rfl, .inr (SqT.of er3), rfl, _, rfl, ?_⟩
        by_cases e1 : bs.length = 1
        · have j0 : j = 0 := by omega
          subst j0
          obtain ⟨r0, hr0, c0, rfl, ec0⟩ := paired_of hrs3 ebj
          refine iteTb (by rw [l3, e1]; rfl) ⟨_, rfl, _, rfl, bk, _, 0, _, rfl, rfl, SqT.of er3, atI_nat hr0, 1, rfl, ?_⟩
          dsimp only [tNoPart]
          refine slA_is ec0 fun r H5 s5 e5 => ?_
          rw [cut_1 (by rw [List.length_map, hln b hbm]; exact g.pos)] at e5
          have hv5 : OV H 2 H5 v1 d1 := hv4.kl (KL.of s5)
          obtain ⟨dp5, slf5⟩ := hv5.dp K
          have e5' : H5 r = some (.tup ((b.drop 1).map V.int)) := by rw [e5, List.map_drop]
          refine ⟨d1, rowD (b.drop 1), dp5, .tup (SqT.of e5') (dps_ints _), slf5.shp (by decide), shp_row _, _, rfl, ?_⟩
          cases ee : PyData.eqv d1 (rowD (b.drop 1)) with
          | true =>
            refine iteT ⟨(by show 0 ≤ sizeLine; decide), fun Z hZ => ?_⟩
            refine ⟨_, .tuple [], rfl, s5.trans (same_new hZ), .inr ⟨Z, _, _, rfl, .inr ⟨upd_same, rfl⟩, by decide, .nil⟩, lets_no (.inl ?_), (by show 0 ≤ 200; decide), fun _ => rfl⟩
            show 0 ≠ n
            have := g.pos
            omega
          | false =>
            refine iteF ⟨v1, d1, rfl, s5, hv5, hl4, hs4, fun z => ?_⟩
            rcases ho4 z with h | h
            · exact h
            · rw [h, eqv_row] at ee
              cases ee
        · refine iteFb (by rw [l3]; exact decide_eq_false fun z => e1 (by have := V.int.inj z; omega)) ?_
          exact ⟨v1, d1, rfl, Same.refl H4, hv4, hl4, hs4, fun z => absurd z e1⟩
      rintro σ H5 ⟨v2, d2, rfl, s5, hv5, hl5, hs5, ho5⟩
      have k05 := k03.trans (Keep.of (s4.trans s5))
      obtain ⟨rs5, er5, hrs5⟩ := hb.keep hH k05
      have h5 := h3.same (s4.trans s5)
      have l5 := paired_len hrs5
      have n5 : ∀ c, H5 c = none → H c = none := fun c hc => k05.none h5.alive hc
      refine ⟨_, rfl, _, rfl, (j : Int), rfl, ?_⟩
      refine slA_is er5 fun r1 H6 s6 e6 => ?_
      rw [cut_to (by omega)] at e6
      refine ⟨r1, _, rfl, .inr (SqT.of e6), fun q1 hq1 => ⟨_, rfl, (by show 1 ≤ sizeLine; decide), fun q2 hq2 => ?_⟩⟩
      have s7 := same_new (o := .lst (rs5.take j)) hq1
      have x1 : upd H6 q1 (.lst (rs5.take j)) q1 = some (.lst (rs5.take j)) := upd_same
      generalize upd H6 q1 (.lst (rs5.take j)) = H7 at hq2 s7 x1 ⊢
      have s8 := same_new (o := .lst [v2]) hq2
      have x2 : upd H7 q2 (.lst [v2]) q2 = some (.lst [v2]) := upd_same
      generalize upd H7 q2 (.lst [v2]) = H8 at s8 x2 ⊢
      refine ⟨q1, q2, _, _, rfl, rfl, s8 _ _ x1, x2, ?_, fun q3 hq3 => ?_⟩
      · rw [List.length_take]
        exact Nat.le_trans (Nat.add_le_add (Nat.le_trans (Nat.min_le_left _ _) (show j ≤ 100 by omega)) (show 1 ≤ 1 from Nat.le_refl 1)) (by decide)
      have s9 := same_new (o := .lst (rs5.take j ++ [v2])) hq3
      have x3 : upd H8 q3 (.lst (rs5.take j ++ [v2])) q3 = some (.lst (rs5.take j ++ [v2])) := upd_same
      generalize upd H8 q3 (.lst (rs5.take j ++ [v2])) = H9 at s9 x3 ⊢
      have s59 := s6.trans (s7.trans (s8.trans s9))
      refine ⟨_, rfl, _, rfl, (j : Int), 1, rfl, rfl, _, rfl, ?_⟩
      dsimp only [tNoPart]
      refine slA_is (s59 _ _ er5) fun r4 H10 s10 e10 => ?_
      rw [show ((j : Int) + 1) = ((j + 1 : Nat) : Int) from rfl, cut_from (by omega)] at e10
      refine ⟨r4, _, rfl, .inr (SqT.of e10), fun q5 hq5 => ?_⟩
      have s11 := same_new (o := .lst (rs5.drop (j + 1))) hq5
      have x5 : upd H10 q5 (.lst (rs5.drop (j + 1))) q5 = some (.lst (rs5.drop (j + 1))) := upd_same
      generalize upd H10 q5 (.lst (rs5.drop (j + 1))) = H11 at s11 x5 ⊢
      have len5 : (rs5.take j ++ [v2] ++ rs5.drop (j + 1)).length = bs.length := by
        rw [List.length_append, List.length_append, List.length_take, List.length_drop, l5]
        show min j bs.length + 1 + (bs.length - (j + 1)) = bs.length
        omega
      refine ⟨q3, q5, _, _, rfl, rfl, s11 _ _ (s10 _ _ x3), x5, ?_, fun q6 hq6 => ?_⟩
      · rw [← List.length_append, len5]
        exact Nat.le_trans hc (by decide)
      have s12 := same_new (o := .lst (rs5.take j ++ [v2] ++ rs5.drop (j + 1))) hq6
      have x6 : upd H11 q6 (.lst (rs5.take j ++ [v2] ++ rs5.drop (j + 1))) q6 = some (.lst (rs5.take j ++ [v2] ++ rs5.drop (j + 1))) := upd_same
      have f6 := (s59.trans (s10.trans s11)).free hq6
      generalize upd H11 q6 (.lst (rs5.take j ++ [v2] ++ rs5.drop (j + 1))) = H12 at s12 x6 ⊢
      refine ⟨_, rfl, _, rfl, q6, _, rfl, .inl ⟨SqL.of x6, fun q7 hq7 => ⟨(by show 2 ≤ sizeLine; decide), fun q8 hq8 => ?_⟩⟩⟩
      have s13 := same_new (o := .tup (rs5.take j ++ [v2] ++ rs5.drop (j + 1))) hq7
      have x7 : upd H12 q7 (.tup (rs5.take j ++ [v2] ++ rs5.drop (j + 1))) q7 = some (.tup (rs5.take j ++ [v2] ++ rs5.drop (j + 1))) := upd_same
      generalize upd H12 q7 (.tup (rs5.take j ++ [v2] ++ rs5.drop (j + 1))) = H13 at hq8 s13 x7 ⊢
      have s14 := same_new (o := .lst [.ref q6, .ref q7]) hq8
      have x8 : upd H13 q8 (.lst [.ref q6, .ref q7]) q8 = some (.lst [.ref q6, .ref q7]) := upd_same
      have s514 := s59.trans (s10.trans (s11.trans (s12.trans (s13.trans s14))))
      have f8 := (s59.trans (s10.trans (s11.trans (s12.trans s13)))).free hq8
      have h14 := h5.same s514
      generalize upd H13 q8 (.lst [.ref q6, .ref q7]) = H14 at s14 x8 s514 h14 ⊢
      refine ⟨_, rfl, q, d, 2, rfl, by decide, h14, fun t H15 t0 t1 h15 k15 => ?_⟩
      have kl : ∀ {c o}, H14 c = some o → H5 c = none → H15 c = some o := fun {c o} e hc => k15 _ _ (fun z => by rw [z] at hc; exact h5.alive hc) e
      have kq : ∀ {c o}, H14 c = some o → (∀ xs, o ≠ .lst xs) → H15 c = some o := fun {c o} e ne => by
        obtain ⟨ds, i, g, _⟩ := h14
        exact k15 _ _ (ne_of e g (ne _)) e
      have k0 : Keep q H H15 := k05.trans ((Keep.of s514).trans k15)
      have hP : Paired (OV H 2 H15) (rs5.take j ++ [v2] ++ rs5.drop (j + 1)) (putD bs j d2) := by
        have kk5 : KL H H5 H15 := (KL.of s514).trans (KL.keep k15 hH.alive h14)
        have hr5 : Paired (OV H 2 H15) rs5 (bs.map rowD) := paired_mono (fun _ _ z => z.kl kk5) (rows_ov hrs5 fun b hb => by rw [hln b hb]; omega)
        exact paired_app (paired_app (paired_take j hr5) (.cons (hv5.kl kk5) .nil)) (paired_drop (j + 1) hr5)
      have hno := put_no (p := p) hj hln hl5 ho5
      have hsm := putD_small (k := j) hn hs5 hln
      have hpl := putD_len (d := d2) hj
      obtain ⟨i, rfl⟩ : ∃ i : Nat, t = (i : Int) := ⟨t.toNat, by omega⟩
      have hi : i = 0 ∨ i = 1 := by omega
      rcases hi with rfl | rfl
      · exact ⟨q8, _, _, .ref q6, rfl, rfl, SqL.of (kl x8 f8), rfl, kk _ (.list (putD bs j d2)) H15 (.inr ⟨q6, _, _, rfl, .inl ⟨n5 _ f6, kl ((s13.trans s14) _ _ x6) f6, rfl⟩, by rw [len5]; omega, hP⟩) hno ⟨by rw [hpl]; omega, hsm⟩ h15 k0⟩
      · exact ⟨q8, _, _, .ref q7, rfl, rfl, SqL.of (kl x8 f8), rfl, kk _ (.tuple (putD bs j d2)) H15 (.inr ⟨q7, _, _, rfl, .inr ⟨kq (s14 _ _ x7) (fun _ z => nomatch z), rfl⟩, by rw [len5]; omega, hP⟩) hno ⟨by rw [hpl]; omega, hsm⟩ h15 k0⟩
end
end WU

set_option maxRecDepth 100000
set_option maxHeartbeats 8000000
namespace WU
open PySem PySem.Spec PyProof.Rows L2
/-- the last i figures of a, the last one first -/
def dg (q a i : Nat) : List Int := (List.range i).map fun s => ((a / q ^ s % q : Nat) : Int)
theorem rows_dg : ∀ q ∈ [2, 3], ∀ t ∈ List.range 5, ∀ a ∈ List.range 81, a < q ^ t → (rowsN q t)[a]? = some (dg q a t).reverse := by decide +kernel
theorem dg_succ {q a i : Nat} : dg q a (i + 1) = dg q a i ++ [((a / q ^ i % q : Nat) : Int)] := by
  unfold dg
  rw [List.range_succ, List.map_append]
  rfl
theorem dg_len {q a i : Nat} : (dg q a i).length = i := by simp [dg]
section
variable {P : Program} {w : World} {K : PySem.W.Frag} {mg : Str → Option Value} {base : Heap} {L : Addr}
abbrev sEvy : Stmt := top 35
theorem scEvy : FnScope ["hand", "p", "count", "size", "found", "many", "step", "at", "rest", "letters", "books", "k"] ["hand"] (defScope sEvy) := ⟨rfl, rfl, rfl, by decide +kernel, rfl, by decide +kernel, by decide +kernel⟩
def spEvy : Sp := fun vs H Q _ => ∃ (q d : Addr), vs = [.ref q] ∧ HandAt H q d ∧ ∀ H', Keep q H H' → Q (.bl true) H'
theorem ok_Evy {f fT fE fI : Addr} {fd fdT fdE fdI : FuncData} (F : FnS K "_law_every" sEvy f fd) (B : Blt3 mg) (CT : Cal P w K mg base 1 "_law_take" fT fdT ["hand", "many"] spTake) (CE : Cal P w K mg base 9 "every_library" fE fdE ["p", "book_count", "book_length"] (spEv K L))
    (CIs : Cal P w K mg base 4 "_law_is_library" fI fdI ["library", "p", "books"] (spIs L)) : FnOk P w K mg base (L2.CX P w) 10 f fd ["hand"] spEvy := by
  refine F.ok scEvy (fun vs H Q E h => ?_) (fun cdv A outer s H vs Q E hr h => ?_)
  · obtain ⟨q, d, rfl, _⟩ := h
    rfl
  · obtain ⟨q, d, rfl, hH, kk⟩ := h
    have nd := scEvy.nd
    have hr1 := hr.mono (show 1 ≤ 9 by decide)
    have hr4 := hr.mono (show 4 ≤ 9 by decide)
    refine ⟨_, (pss_cons (ps_set (i := 1) nd rfl (Or.inl rfl) (pe_op op_add pe_int (pe_cal CT hr1 (pa_cons (pv 0) (pa_cons pe_int pa_nil)) passU)))
      (pss_cons (ps_set (i := 2) nd rfl (Or.inl rfl) (pe_op op_add pe_int (pe_cal CT hr1 (pa_cons (pv 0) (pa_cons pe_int pa_nil)) passU)))
      (pss_cons (ps_set (i := 3) nd rfl (Or.inr rfl) (pe_ix ix_list (pe_lst (pa_cons pe_int (pa_cons pe_int (pa_cons pe_int pa_nil)))) (pe_cal CT hr1 (pa_cons (pv 0) (pa_cons pe_int pa_nil)) passU) (fun _ _ => rfl)))
      (pss_cons (ps_wk (ps_if (pt_cmpR op_gt (pe_op op_mul (pv 2) (pv 3)) pe_int (nomark _)) (pss_one (ps_set (i := 3) nd rfl (Or.inr rfl) pe_int)) pss_nil))
      (pss_cons (ps_set (i := 4) nd rfl (Or.inl rfl) (pe_cal CE hr (pa_cons (pv 1) (pa_cons (pv 2) (pa_cons (pv 3) pa_nil))) passU))
      (pss_cons (ps_set (i := 5) nd rfl (Or.inl rfl) pe_int)
      (pss_cons (ps_for (passes_of rfl) rfl (pi_range1 rfl B.range (pa_cons (pe_op op_mul (pv 2) (pv 3)) pa_nil)) (pg_name (i := 6) nd rfl (Or.inl rfl)) (pss_one (ps_set (i := 5) nd rfl (Or.inl rfl) (pe_op op_mul (pv 5) (pv 1)))))
      (pss_cons (ps_if (PW.pt (pw_or (pt_not (pt_val (pe_callB call_isi (by rfl) B.isi (by decide +kernel) (pa_cons (pv 4) (pa_cons (pe_bltn (v := .ty "tuple") (by rfl) B.tuple (by decide +kernel) rfl) pa_nil))))) (pw_or1 (pt_cmpR op_ne (pe_callB call_len_seq (by rfl) B.len (by decide +kernel) (pa_cons (pv 4) pa_nil)) (pv 5) (nomark _))))) (pss_one (ps_ret pe_bl)) pss_nil)
      (pss_cons (ps_for (passes_of rfl) rfl (pi_range1 rfl B.range (pa_cons (pv 5) pa_nil)) (pg_name (i := 7) nd rfl (Or.inl rfl)) (pss_cons (ps_set (i := 8) nd rfl (Or.inl rfl) (pe_callTy call_int1 (by rfl) B.int (by decide +kernel) (pa_cons (pv 7) pa_nil)))
      (pss_cons (ps_set (i := 9) nd rfl (Or.inr rfl) (pe_lst pa_nil))
      (pss_cons (ps_for (passes_of rfl) rfl (pi_range1 rfl B.range (pa_cons (pe_op op_mul (pv 2) (pv 3)) pa_nil)) (pg_name (i := 6) nd rfl (Or.inl rfl)) (pss_cons (ps_expr (pe_bm PySem.F.plainAttrs_list PySem.F.slot_list_append PySem.F.type_list_append mt_append (pv 9) (pa_cons (pe_op op_modN (pe_callTy call_int1 (by rfl) B.int (by decide +kernel) (pa_cons (pv 8) pa_nil)) (pv 1)) pa_nil)))
      (pss_one (ps_set (i := 8) nd rfl (Or.inl rfl) (pe_op op_fdivN (pv 8) (pv 1))))))
      (pss_cons (ps_set (i := 9) nd rfl (Or.inr rfl) (pe_callTy call_tuple_of (by rfl) B.tuple (by decide +kernel) (pa_cons (pe_revL (pv 9)) pa_nil)))
      (pss_cons (ps_set (i := 10) nd rfl (Or.inl rfl) (pe_callTy call_tuple_of (by rfl) B.tuple (by decide +kernel) (pa_cons (pe_lc (te := tSl (rSlA K) (tVar 9) (tPart (tOp rMl (tVar 11) (tVar 3))) (tPart (tOp rAd (tOp rMl (tVar 11) (tVar 3)) (tVar 3)))) (own := [("k", 11)]) (g := gName 11) (by rfl) nd (pi_range1 rfl B.range (pa_cons (pv 2) pa_nil)) (blkOk_by (own := [("k", 11)]) (N := ["hand", "p", "count", "size", "found", "many", "step", "at", "rest", "letters", "books", "k"]) (sc := defScope sEvy) (by decide +kernel)) (fun _ _ _ _ _ => pg_name (i := 11) nd rfl (Or.inl rfl)) (fun _ _ _ _ _ => pts_nil) (fun _ _ _ _ _ => (pe_slice sl_tupA (pv 9) (po_some (pe_op op_mul (pv 11) (pv 3))) (po_some (pe_op op_add (pe_op op_mul (pv 11) (pv 3)) (pv 3)))))) pa_nil)))
      (pss_one (ps_if (pt_not (pt_val (pe_cal CIs hr4 (pa_cons (pe_ix ix_tup (pv 4) (pv 7) (fun _ _ => rfl)) (pa_cons (pv 1) (pa_cons (pv 10) pa_nil))) passU))) (pss_one (ps_ret pe_bl)) pss_nil))))))))
      (pss_one (ps_ret pe_bl))))))))))), ?_⟩
    refine ⟨_, rfl, q, d, 2, rfl, by decide, hH, fun a1 H1 a10 a11 h1 k1 => ⟨_, _, rfl, rfl, ?_⟩⟩
    refine ⟨_, rfl, q, d, 3, rfl, by decide, h1, fun a2 H2 a20 a21 h2 k2 => ⟨_, _, rfl, rfl, ?_⟩⟩
    refine ⟨(by show 3 ≤ sizeLine; decide), fun Z hZ => ?_⟩
    have sZ := same_new (o := .lst [.int 1, .int 2, .int 3]) hZ
    have eZ : upd H2 Z (.lst [.int 1, .int 2, .int 3]) Z = some (.lst [.int 1, .int 2, .int 3]) := upd_same
    have nZq : Z ≠ q := fun e => by rw [e] at hZ; exact h2.alive hZ
    refine ⟨_, rfl, q, d, 3, rfl, by decide, h2.new hZ, fun a3 H3 a30 a31 h3 k3 => ?_⟩
    have eZ3 := k3 _ _ nZq eZ
    have k03 : Keep q H H3 := k1.trans (k2.trans ((Keep.of sZ).trans k3))
    obtain ⟨pp, hpp, rfl⟩ : ∃ pp : Nat, (pp = 2 ∨ pp = 3) ∧ a1 = (pp : Int) - 2 := ⟨(a1 + 2).toNat, by omega, by omega⟩
    obtain ⟨c, hc1, hc3, rfl⟩ : ∃ c : Nat, 1 ≤ c ∧ c ≤ 3 ∧ a2 = (c : Int) - 1 := ⟨(a2 + 1).toNat, by omega, by omega, by omega⟩
    obtain ⟨n, hn1, hn3, rfl⟩ : ∃ n : Nat, 1 ≤ n ∧ n ≤ 3 ∧ a3 = (n : Int) - 1 := ⟨(a3 + 1).toNat, by omega, by omega, by omega⟩
    have en : atI ([.int 1, .int 2, .int 3] : List V) ((n : Int) - 1) = some (.int n) := by
      have : n = 1 ∨ n = 2 ∨ n = 3 := by omega
      rcases this with rfl | rfl | rfl <;> rfl
    refine ⟨Z, _, _, _, rfl, rfl, SqL.of eZ3, en, ?_⟩
    have ep : (2 : Int) + ((pp : Int) - 2) = (pp : Int) := by omega
    have ec : (1 : Int) + ((c : Int) - 1) = (c : Int) := by omega
    refine ⟨fun σ H' => ∃ m : Nat, σ = [some (.ref q), some (.int pp), some (.int c), some (.int m), none, none, none, none, none, none, none, none] ∧ H3 = H' ∧ 1 ≤ m ∧ m ≤ 3 ∧ c * m ≤ 4, ?_, ?_⟩
    · refine ⟨_, rfl, _, rfl, _, _, rfl, rfl, .inl ⟨by omega, by omega⟩, _, _, rfl, rfl, _, rfl, ?_⟩
      have st : ∀ m : Int, ([some (.ref q), some (V.int (2 + ((pp : Int) - 2))), some (V.int (1 + ((c : Int) - 1))), some (.int m), none, none, none, none, none, none, none, none] : L2.St) = [some (.ref q), some (.int pp), some (.int c), some (.int m), none, none, none, none, none, none, none, none] := fun m => by rw [ep, ec]
      refine iteD (fun hc => ?_) (fun hc => ?_)
      · exact ⟨1, st 1, rfl, by decide, by decide, by omega⟩
      · refine ⟨n, st n, rfl, hn1, hn3, ?_⟩
        have e : ((c * n : Nat) : Int) = (1 + ((c : Int) - 1)) * (n : Int) := by rw [ec]; simp
        omega
    rintro σ H3' ⟨m, rfl, rfl, hm1, hm3, hcm⟩
    clear eZ3 en
    have n3 : ∀ x, H3 x = none → H x = none := fun x hx => k03.none h3.alive hx
    have pmem : pp ∈ [2, 3] := by rcases hpp with rfl | rfl <;> decide
    have fld : isFld (.int (pp : Int)) = true := by rcases hpp with rfl | rfl <;> decide +kernel
    refine ⟨_, rfl, _, rfl, _, rfl, _, _, _, rfl, ty3_int _, fun e => by rw [fld] at e; (cases e), fun _ => ⟨pp, c, m, rfl, rfl, rfl, hc1, hm1, hcm, by omega, fun r xs H4 s4 er hxs => ?_⟩⟩
    have kq4 : ∀ {H5}, Same H4 H5 → Keep q H H5 := fun s5 => k03.trans (Keep.of (s4.trans s5))
    refine ⟨_, rfl, _, rfl, _, _, rfl, rfl, .inl ⟨by omega, by omega⟩, ((c * m : Nat) : Int), by rw [show (((c * m : Nat)) : Int) = (c : Int) * (m : Int) by simp], by omega, by omega,
      for_range (lo := 0) (n := c * m) (fun i σ H' => ∃ y, σ = [some (.ref q), some (.int pp), some (.int c), some (.int m), some (.ref r), some (.int ((pp ^ i : Nat) : Int)), y, none, none, none, none, none] ∧ H4 = H') ⟨none, rfl, rfl⟩ ?_ ?_⟩
    · rintro i σ H5 hi ⟨y, rfl, rfl⟩
      refine ⟨_, rfl, _, rfl, _, _, rfl, rfl, .inr ⟨by omega, by omega⟩, some (V.int (0 + (i : Int))), ?_, rfl⟩
      rw [Nat.pow_succ, Int.natCast_mul]
      rfl
    rintro σ H5 ⟨y, rfl, rfl⟩
    have hm81 : pp ^ (c * m) ≤ 81 := Nat.le_trans (Nat.pow_le_pow_left (show pp ≤ 3 by omega) _) (Nat.le_trans (Nat.pow_le_pow_right (by decide) hcm) (by decide))
    have lxs : xs.length = pp ^ (c * m) := by rw [paired_len hxs, rowsN_len]
    refine ⟨_, rfl, _, _, _, _, _, rfl, .ty "tuple", .base (.tup er), kit_ty (show kitB "tuple" "tuple" = some true by decide +kernel), _, rfl, iteF ?_⟩
    refine ⟨_, rfl, r, _, rfl, .inr (SqT.of er), _, rfl, rfl, _, rfl, iteFb (by rw [decide_eq_true (congrArg (fun n : Nat => V.int n) lxs)]; rfl) ?_⟩
    refine ⟨_, rfl, ((pp ^ (c * m) : Nat) : Int), rfl, by omega, by omega, for_range (lo := 0) (n := pp ^ (c * m)) (fun i σ H' => ∃ x1 x2 x3 x4 x5, σ = [some (.ref q), some (.int pp), some (.int c), some (.int m), some (.ref r), some (.int ((pp ^ (c * m) : Nat) : Int)), x1, x2, x3, x4, x5, none] ∧ Same H4 H') ⟨_, _, _, _, _, rfl, Same.refl H4⟩ ?_ ?_⟩
    · rintro i σ H5 hi ⟨x1, x2, x3, x4, x5, rfl, s5⟩
      show gName 7 (V.int ((0 : Int) + (i : Int))) _ _ _
      rw [Int.zero_add]
      refine ⟨_, rfl, .inl ⟨_, rfl, (by show 0 ≤ sizeLine; decide), fun D hD => ?_⟩⟩
      refine ⟨_, rfl, _, rfl, _, _, rfl, rfl, .inl ⟨by omega, by omega⟩, ((c * m : Nat) : Int), by rw [show (((c * m : Nat)) : Int) = (c : Int) * (m : Int) by simp], by omega, by omega,
        for_range (lo := 0) (n := c * m) (fun j σ H' => ∃ z, σ = [some (.ref q), some (.int pp), some (.int c), some (.int m), some (.ref r), some (.int ((pp ^ (c * m) : Nat) : Int)), z, some (.int i), some (.int ((i / pp ^ j : Nat) : Int)), some (.ref D), x5, none] ∧ Same H5 H' ∧ H' D = some (.lst ((dg pp i j).map V.int))) ⟨x1, by rw [Nat.pow_zero, Nat.div_one]; rfl, same_new hD, upd_same⟩ ?_ ?_⟩
      · rintro j σ H6 hj ⟨z, rfl, s6, eD⟩
        refine ⟨_, rfl, .inl ⟨rfl, _, SqL.of eD⟩, ?_⟩
        refine ⟨_, rfl, .inl ⟨_, rfl, _, rfl, _, _, rfl, rfl, (show (pp : Int) ≠ 0 by omega), ?_⟩⟩
        refine ⟨D, _, _, rfl, rfl, eD, ?_, ?_⟩
        · rw [List.length_map, dg_len]
          exact small1000 (by omega)
        refine ⟨_, rfl, _, rfl, _, _, rfl, rfl, ⟨by omega, by omega⟩, some (V.int (0 + (j : Int))), ?_, fun x o hx => ?_, ?_⟩
        · have e : (((i / pp ^ j : Nat) : Int)).fdiv (pp : Int) = ((i / pp ^ j / pp : Nat) : Int) := by
            rw [Int.fdiv_eq_ediv_of_nonneg _ (by omega)]
            rfl
          rw [Nat.pow_succ, ← Nat.div_div_eq_div_mul, ← e]
          rfl
        · rw [upd_ne (ne_of_none hx hD)]
          exact s6 _ _ hx
        · have e : (((i / pp ^ j : Nat) : Int)).fmod (pp : Int) = ((i / pp ^ j % pp : Nat) : Int) := by
            rw [Int.fmod_eq_emod_of_nonneg _ (by omega)]
            rfl
          rw [upd_same, dg_succ, List.map_append, ← e]
          rfl
      rintro σ H6 ⟨z, rfl, s6, eD⟩
      have hls := rows_dg pp pmem (c * m) (List.mem_range.mpr (by omega)) i (List.mem_range.mpr (by omega)) hi
      obtain ⟨v, hv, y, rfl, hL, g⟩ := paired_of hxs hls
      refine ⟨_, rfl, D, _, rfl, SqL.of eD, fun R hR => ⟨R, _, rfl, .inl ⟨SqL.of upd_same, fun T hT => ?_⟩⟩⟩
      rw [← List.map_reverse] at hT ⊢
      have s7 := same_new (o := .lst ((dg pp i (c * m)).reverse.map V.int)) hR
      have s8 := same_new (o := .tup ((dg pp i (c * m)).reverse.map V.int)) hT
      have eT : upd (upd H6 R (.lst ((dg pp i (c * m)).reverse.map V.int))) T (.tup ((dg pp i (c * m)).reverse.map V.int)) T = some (.tup ((dg pp i (c * m)).reverse.map V.int)) := upd_same
      have s68 := s7.trans s8
      have lls : (dg pp i (c * m)).reverse.length = c * m := by rw [List.length_reverse, dg_len]
      generalize (dg pp i (c * m)).reverse = ls at hls hL g eT s7 s8 s68 lls ⊢
      generalize upd (upd H6 R (.lst (ls.map V.int))) T (.tup (ls.map V.int)) = H8 at eT s68 ⊢
      clear s7 s8
      refine ⟨_, rfl, (c : Int), rfl, by omega, by omega, fun D2 hD2 => lc_range (lo := 0) (n := c) (fun k H' => Same H8 H' ∧ ∃ ts, H' D2 = some (.lst ts) ∧ Paired (TB H') ts (cuts m k ls)) ⟨same_new hD2, [], upd_same, .nil⟩ ?_ ?_⟩
      · rintro k H9 hk ⟨s9, ts, eD2, hts⟩
        have hin : k * m + m ≤ ls.length := by
          rw [lls, ← Nat.succ_mul]
          exact Nat.mul_le_mul_right m hk
        have ek : (k : Int) * (m : Int) = ((k * m : Nat) : Int) := by simp
        show gName 11 (V.int ((0 : Int) + (k : Int))) _ _ _
        rw [Int.zero_add]
        refine ⟨rfl, _, rfl, _, rfl, _, rfl, _, _, rfl, rfl, .inl ⟨by omega, by omega⟩, _, rfl, _, rfl, _, rfl, _, _, rfl, rfl, .inl ⟨by omega, by omega⟩, _, rfl, _, _, rfl, rfl, _, rfl, ?_⟩
        dsimp only
        rw [ek]
        refine slA_is (s9 _ _ eT) fun r1 H10 s10 e10 => ?_
        rw [cut_mid (by rw [List.length_map]; exact hin), ← List.map_drop, ← List.map_take] at e10
        have eD3 := s10 _ _ eD2
        have tbD : ∀ {o : HO} {r : V} {b : List Int}, TB H10 r b → TB (upd H10 D2 o) r b := fun h => by
          obtain ⟨c, e, h⟩ := h
          exact ⟨c, e, by rw [upd_ne (ne_of h eD3 (by intro z; cases z))]; exact h⟩
        refine ⟨ts, eD3, ?_, fun x o hx => ?_, ts ++ [.ref r1], upd_same, ?_⟩
        · rw [paired_len hts, cuts_len]
          exact small1000 (by omega)
        · rw [upd_ne (ne_of_none hx hD2)]
          exact s10 _ _ (s9 _ _ hx)
        · rw [cuts_succ]
          exact paired_app (paired_mono (fun _ _ q => tbD (q.same s10)) hts) (.cons (tbD ⟨r1, rfl, e10⟩) .nil)
      rintro H9 ⟨s9, ts, eD2, hts⟩
      refine ⟨D2, ts, rfl, .inl ⟨SqL.of eD2, fun T2 hT2 => ?_⟩⟩
      have s10 := same_new (o := .tup ts) hT2
      have eT2 : upd H9 T2 (.tup ts) T2 = some (.tup ts) := upd_same
      generalize upd H9 T2 (.tup ts) = H10 at s10 eT2 ⊢
      have s410 := s5.trans (s6.trans (s68.trans (s9.trans s10)))
      refine ⟨_, rfl, _, rfl, r, xs, (i : Int), _, rfl, rfl, SqT.of (s410 _ _ er), atI_nat hv, _, rfl, _, rfl, y, T2, pp, m, cuts m c ls, rfl, hL.same s410, g, ⟨ts, eT2, paired_mono (fun _ _ q => q.same s10) hts⟩, fun H11 s11 => ⟨_, rfl, iteF ⟨_, _, _, _, _, rfl, s410.trans s11⟩⟩⟩
    rintro σ H5 ⟨x1, x2, x3, x4, x5, rfl, s5⟩
    exact kk _ (kq4 s5)
end
end WU

set_option maxRecDepth 100000
set_option maxHeartbeats 8000000
namespace WU
open PySem PySem.Spec PyProof.Rows L2
abbrev NL : List Str := ["script", "hand", "p", "count", "size", "books", "passed", "library", "at", "new", "changed", "letters", "book", "other", "one", "wrong", "bad", "place", "which", "q"]
abbrev sLaw : Stmt := top 36
theorem scLaw : FnScope NL ["script"] (defScope sLaw) := ⟨rfl, rfl, rfl, by decide +kernel, rfl, by decide +kernel, by decide +kernel⟩
abbrev LB : List Stmt := defBody sLaw
def CalE (P : Program) (w : World) (K : PySem.W.Frag) (mg : Str → Option Value) (base : Heap) (k : Nat) (x : Str) (ps : List Str) (sp : Sp) : Prop := ∃ f fd, Cal P w K mg base k x f fd ps sp
/-- what the law calls -/
structure LC (P : Program) (w : World) (K : PySem.W.Frag) (mg : Str → Option Value) (base : Heap) (L : Addr) : Prop where
  B : Blt3 mg
  cL : LibC K mg L
  draws : CalE P w K mg base 1 "_law_draws" ["script", "many"] (spDraws K 200)
  take : CalE P w K mg base 1 "_law_take" ["hand", "many"] spTake
  field : CalE P w K mg base 2 "_law_field" ["hand"] spLFd
  isF : CalE P w K mg base 1 "_law_is_field" ["p"] (spIsFld K)
  noF : CalE P w K mg base 4 "_law_no_field" ["hand"] (spLN K)
  books : CalE P w K mg base 2 "_law_books" ["hand", "p", "count", "size"] spBk
  same : CalE P w K mg base 3 "_law_same" ["found", "due"] (spSm 2)
  is : CalE P w K mg base 4 "_law_is_library" ["library", "p", "books"] (spIs L)
  told : CalE P w K mg base 10 "_law_told" ["which", "library", "one", "two"] (spTd K L)
  badB : CalE P w K mg base 2 "_law_bad_book" ["hand", "book", "p"] spBB
  badBs : CalE P w K mg base 3 "_law_bad_books" ["hand", "books", "p"] spBBs
  equ : CalE P w K mg base 2 "_law_equal" ["one", "other", "due"] (spEqu L)
  every : CalE P w K mg base 10 "_law_every" ["hand"] spEvy
  lib : ∃ (fL fB fC pO gO fV : Addr) (fdL fdB fdC fdV : FuncData), LbM P w K mg base L fL fB fC pO gO fV fdL fdB fdC fdV
section
variable {L : Addr}
/-- what stands throughout -/
structure LW (L : Addr) (H : Hp) (q d bk lib : Addr) (p : Int) (n : Nat) (bs : List (List Int)) : Prop where
  hand : HandAt H q d
  ebk : BkAt H bk bs
  elib : LibAt L H lib p n bs
theorem BkAt.lset {H : Hp} {r c : Addr} {bs : List (List Int)} {xs : List V} {o : HO} (h : BkAt H r bs) (hc : H c = some (.lst xs)) : BkAt (upd H c o) r bs := by
  obtain ⟨rs, e, t⟩ := h
  refine ⟨rs, by rw [upd_ne (ne_of e hc (fun z => nomatch z))]; exact e, paired_mono (fun _ _ q => ?_) t⟩
  obtain ⟨z, e, h⟩ := q
  exact ⟨z, e, by rw [upd_ne (ne_of h hc (fun z => nomatch z))]; exact h⟩
theorem LibAt.lset {H : Hp} {x c : Addr} {p : Int} {n : Nat} {bs : List (List Int)} {xs : List V} {o : HO} (h : LibAt L H x p n bs) (hc : H c = some (.lst xs)) : LibAt L (upd H c o) x p n bs := by
  obtain ⟨dx, a, tl, rs, h1, h2, h3, h4⟩ := h
  have ne : ∀ {z : Addr} {o' : HO}, H z = some o' → (∀ xs, o' ≠ .lst xs) → z ≠ c := fun hz hn => ne_of hz hc (hn _)
  refine ⟨dx, a, tl, rs, by rw [upd_ne (ne h1 (fun _ z => nomatch z))]; exact h1, by rw [upd_ne (ne h2 (fun _ z => nomatch z))]; exact h2, paired_mono (fun _ _ q => ?_) h3, by rw [upd_ne (ne h4 (fun _ z => nomatch z))]; exact h4⟩
  obtain ⟨z, e, h⟩ := q
  exact ⟨z, e, by rw [upd_ne (ne h (fun _ z => nomatch z))]; exact h⟩
theorem LibAt.keep {H H' : Hp} {q d x : Addr} {p : Int} {n : Nat} {bs : List (List Int)} (hH : HandAt H q d) (h : LibAt L H x p n bs) (k : Keep q H H') : LibAt L H' x p n bs := by
  obtain ⟨ds, i, g, _⟩ := hH
  obtain ⟨dx, a, tl, rs, h1, h2, h3, h4⟩ := h
  refine ⟨dx, a, tl, rs, k _ _ (ne_of h1 g (fun z => nomatch z)) h1, k _ _ (ne_of h2 g (fun z => nomatch z)) h2, paired_mono (fun _ _ q => ?_) h3, k _ _ (ne_of h4 g (fun z => nomatch z)) h4⟩
  obtain ⟨c, e, h⟩ := q
  exact ⟨c, e, k _ _ (ne_of h g (fun z => nomatch z)) h⟩
theorem TB.keepH {H H' : Hp} {q d : Addr} {r : V} {b : List Int} (h : TB H r b) (hH : HandAt H q d) (k : Keep q H H') : TB H' r b := by
  obtain ⟨ds, i, g1, _⟩ := hH
  obtain ⟨c, e, h⟩ := h
  exact ⟨c, e, k _ _ (ne_of h g1 (by intro z; cases z)) h⟩
theorem LW.same {H H' : Hp} {q d bk lib : Addr} {p : Int} {n : Nat} {bs : List (List Int)} (h : LW L H q d bk lib p n bs) (s : Same H H') : LW L H' q d bk lib p n bs := ⟨h.hand.same s, h.ebk.same s, h.elib.same s⟩
theorem LW.take {H H' : Hp} {q d bk lib : Addr} {p : Int} {n : Nat} {bs : List (List Int)} (h : LW L H q d bk lib p n bs) (k : Keep q H H') (h2 : HandAt H' q d) : LW L H' q d bk lib p n bs := ⟨h2, h.ebk.keep h.hand k, h.elib.keep h.hand k⟩
theorem lib_new {K : PySem.W.Frag} {H : Hp} {a x dx : Addr} {p : Int} {n : Nat} {rs : List V} {bs : List (List Int)} {Q : VK} {E : XK} (hp : p ∈ primes) (ha : H a = some (.lst rs) ∨ H a = some (.tup rs)) (hP : Paired (SB H) rs bs) (g : Good p n bs)
    (hx : H x = none) (hdx : H dx = none) (ne : dx ≠ x) (k : ∀ H', Same H H' → LibAt L H' x p n bs → Q .non H') : spLI K L [.ref x, .int p, .ref a] (upd (upd H dx (.own x)) x (.ins L dx [])) Q E := by
  have s1 : Same H (upd (upd H dx (.own x)) x (.ins L dx [])) := (same_new hdx).trans (same_new (by rw [upd_ne (Ne.symm ne)]; exact hx))
  refine ⟨x, dx, a, p, rs, bs, n, rfl, upd_same, hp, ha.imp (s1 _ _) (s1 _ _), paired_mono (fun _ _ q => q.same s1) hP, g, fun H' hL k' => k H' (fun b o hb => ?_) hL⟩
  exact k' _ _ (ne_of_none hb hx) (s1 _ _ hb)
end
section
variable {K : PySem.W.Frag}
/-- the pairs that _law_told tells and the due ones -/
theorem pair_dp {H : Hp} {a : Addr} {x : Str} {v : V} {dv : PyData} {m : Nat} (h : H a = some (.lst [.str x, v])) (hx : PyData.strOk x = true) (hv : Dp K H v dv) (hs : SlfD m dv) (hm : m ≤ 60) :
    Dp K H (.ref a) (.list [.str x, dv]) ∧ SeqAt.shaped (.list [.str x, dv]) = true ∧ PyData.eqv (.list [.str x, dv]) (.list [.str x, dv]) = true := by
  obtain ⟨s1, s2, s3⟩ := hs
  refine ⟨.lst (SqL.of h) (.cons (.str x) (.cons hv .nil)), ?_, ?_⟩
  · refine SlfD.shp (n := m + 1) ⟨?_, ?_, ?_⟩ (by omega)
    · simp only [PyData.canLay0, PyData.canLayAll0, hx, s1, Bool.and_self]
    · simp only [PyData.depth, PyData.depthAll]
      omega
    · simp only [PyData.eqv, PyData.eqvAll, s3, Bool.and_true]
      exact beq_self_eq_true x
  · simp only [PyData.eqv, PyData.eqvAll, s3, Bool.and_true]
    exact beq_self_eq_true x
theorem told_ne {H : Hp} {a b : Addr} {x : Str} {v : V} {dv : PyData} {m : Nat} {Q : VK} (ha : H a = some (.lst [.str x, v])) (hb : H b = some (.lst [.str x, v])) (hx : PyData.strOk x = true) (hv : Dp K H v dv) (hs : SlfD m dv) (hm : m ≤ 60) (k : Q (.bl false) H) :
    rNeD K (.ref a) (.ref b) H Q := by
  obtain ⟨a1, a2, a3⟩ := pair_dp ha hx hv hs hm
  obtain ⟨b1, _, _⟩ := pair_dp hb hx hv hs hm
  refine ⟨_, _, a1, b1, a2, a2, ?_⟩
  rw [a3]
  exact k
theorem told_eq {H : Hp} {a b : Addr} {x : Str} {v : V} {dv : PyData} {m : Nat} {Q : VK} (ha : H a = some (.lst [.str x, v])) (hb : H b = some (.lst [.str x, v])) (hx : PyData.strOk x = true) (hv : Dp K H v dv) (hs : SlfD m dv) (hm : m ≤ 60) (k : Q (.bl true) H) :
    rEqD K (.ref a) (.ref b) H Q := by
  obtain ⟨a1, a2, a3⟩ := pair_dp ha hx hv hs hm
  obtain ⟨b1, _, _⟩ := pair_dp hb hx hv hs hm
  refine ⟨_, _, a1, b1, a2, a2, ?_⟩
  rw [a3]
  exact k
end
end WU

set_option maxRecDepth 100000
set_option maxHeartbeats 8000000
namespace WU
open PySem PySem.Spec PyProof.Rows L2
section
variable {P : Program} {w : World} {K : PySem.W.Frag} {mg : Str → Option Value} {base : Heap} {L : Addr} {f : Addr} {cdv : Value} {A : Around} {outer : List Env} {s : Shared} {H : Hp} {E : XK}
/-- place = .. -/
theorem pPl (C : LC P w K mg base L) (hr : Room 10 (A.deeper (envOfC "law" (defScope sLaw) s.heap.objs.size f cdv))) :
    ∃ t, PS (cxOf CX0 P w K mg base NL "law" (defScope sLaw) f cdv A outer s H E) (LB.getD 28 (.Pass ⟨0, 0, 0, 0⟩)) t ∧ ∀ (D : Ends) (H' : Hp) (q d : Addr) (c : Nat) (v0 v2 v4 v5 v6 v7 v8 v9 v10 v11 v12 v13 v14 v15 v16 v17 v18 v19 : Option V),
      HandAt H' q d → c ≤ 100 → (∀ pv pd H'', HandAt H'' q d → Keep q H' H'' → OV H' 1 H'' pv pd → isBel c pv = false → D.nx [v0, some (.ref q), v2, some (.int c), v4, v5, v6, v7, v8, v9, v10, v11, v12, v13, v14, v15, v16, some pv, v18, v19] H'') →
      t D [v0, some (.ref q), v2, some (.int c), v4, v5, v6, v7, v8, v9, v10, v11, v12, v13, v14, v15, v16, v17, v18, v19] H' := by
  obtain ⟨_, _, CT⟩ := C.take
  have B := C.B
  have nd := scLaw.nd
  have hr1 := hr.mono (show 1 ≤ 10 by decide)
  refine ⟨_, (ps_set (i := 17) nd rfl (Or.inl rfl) (pe_ix ix_list (pe_lst (pa_cons (pv 3) (pa_cons (pe_un un_neg pe_int) (pa_cons pe_bl (pa_cons pe_non (pa_cons pe_str (pa_cons (pe_tup (pa_cons pe_int pa_nil)) (pa_cons (pe_op op_pow pe_int pe_int) pa_nil)))))))) (pe_cal CT hr1 (pa_cons (pv 1) (pa_cons pe_int pa_nil)) passU) (fun _ _ => rfl))), ?_⟩
  intro D H0 q d c v0 v2 v4 v5 v6 v7 v8 v9 v10 v11 v12 v13 v14 v15 v16 v17 v18 v19 hH hc kk
  refine ⟨_, rfl, 1, rfl, (by show 1 ≤ sizeLine; decide), fun T hT => ⟨_, _, rfl, rfl, ⟨by decide, by decide, by decide⟩, (by show 7 ≤ sizeLine; decide), fun Z hZ => ?_⟩⟩
  have hH1 := hH.new (o := .tup [.int 0]) hT
  have hH2 := hH1.new (o := .lst [.int c, .int (-1), .bl true, .non, .str "0", .ref T, .int (10 ^ (30 : Int).toNat)]) hZ
  have eT := same_new (o := .lst [.int c, .int (-1), .bl true, .non, .str "0", .ref T, .int (10 ^ (30 : Int).toNat)]) hZ _ _ (show upd H0 T (.tup [.int 0]) T = some (.tup [.int 0]) from upd_same)
  have eZ : upd (upd H0 T (.tup [.int 0])) Z (.lst [.int c, .int (-1), .bl true, .non, .str "0", .ref T, .int (10 ^ (30 : Int).toNat)]) Z = some (.lst [.int c, .int (-1), .bl true, .non, .str "0", .ref T, .int (10 ^ (30 : Int).toNat)]) := upd_same
  have k2 : Keep q H0 (upd (upd H0 T (.tup [.int 0])) Z (.lst [.int c, .int (-1), .bl true, .non, .str "0", .ref T, .int (10 ^ (30 : Int).toNat)])) := (Keep.new hT).trans (Keep.new hZ)
  refine ⟨_, rfl, q, d, 7, rfl, by decide, hH2, fun r H3 r0 r1 h3 k3 => ?_⟩
  have eZ3 : H3 Z = some (.lst [.int c, .int (-1), .bl true, .non, .str "0", .ref T, .int (10 ^ (30 : Int).toNat)]) := k3 _ _ (hH1.ne hZ).1.symm eZ
  have eT3 : H3 T = some (.tup [.int 0]) := k3 _ _ (hH.ne hT).1.symm eT
  have big : (1000 : Int) ≤ 10 ^ (30 : Int).toNat := by decide +kernel
  have all : ∀ v ∈ ([.int c, .int (-1), .bl true, .non, .str "0", .ref T, .int (10 ^ (30 : Int).toNat)] : List V), ∃ dv, OV H0 1 H3 v dv ∧ isBel c v = false := by
    intro v hv
    simp only [List.mem_cons, List.not_mem_nil, or_false] at hv
    rcases hv with rfl | rfl | rfl | rfl | rfl | rfl | rfl
    · refine ⟨_, .inl (.inl ⟨_, rfl, rfl⟩), ?_⟩
      show (decide ((0 : Int) ≤ c) && decide ((c : Int) < (c : Int))) = false
      rw [decide_eq_false (show ¬ (c : Int) < (c : Int) by omega), Bool.and_false]
    · exact ⟨_, .inl (.inl ⟨_, rfl, rfl⟩), rfl⟩
    · exact ⟨_, .inl (.inr (.inl ⟨_, rfl, rfl⟩)), rfl⟩
    · exact ⟨_, .inl (.inr (.inr (.inl ⟨rfl, rfl⟩))), rfl⟩
    · exact ⟨_, .inl (.inr (.inr (.inr ⟨_, rfl, rfl, by decide +kernel⟩))), rfl⟩
    · exact ⟨.tuple [.int 0], .inr ⟨T, _, _, rfl, .inr ⟨eT3, rfl⟩, (by show 1 ≤ 200; decide), .cons (.inl ⟨_, rfl, rfl⟩) .nil⟩, rfl⟩
    · refine ⟨_, .inl (.inl ⟨_, rfl, rfl⟩), ?_⟩
      show (decide ((0 : Int) ≤ 10 ^ (30 : Int).toNat) && decide ((10 : Int) ^ (30 : Int).toNat < (c : Int))) = false
      rw [decide_eq_false (show ¬ (10 : Int) ^ (30 : Int).toNat < (c : Int) by omega), Bool.and_false]
  obtain ⟨m, rfl⟩ : ∃ m : Nat, r = (m : Int) := ⟨r.toNat, by omega⟩
  have hm : m < 7 := by omega
  obtain ⟨v, hv⟩ : ∃ v, ([.int c, .int (-1), .bl true, .non, .str "0", .ref T, .int (10 ^ (30 : Int).toNat)] : List V)[m]? = some v := ⟨_, List.getElem?_eq_getElem (show m < 7 from hm)⟩
  obtain ⟨dv, hvd, hvb⟩ := all v (List.mem_of_getElem? hv)
  exact ⟨Z, _, _, v, rfl, rfl, SqL.of eZ3, atI_nat hv, kk v dv H3 h3 (k2.trans k3) hvd hvb⟩
/-- book = .. -/
theorem pBo (C : LC P w K mg base L) (hr : Room 10 (A.deeper (envOfC "law" (defScope sLaw) s.heap.objs.size f cdv))) :
    ∃ t, PS (cxOf CX0 P w K mg base NL "law" (defScope sLaw) f cdv A outer s H E) (LB.getD 29 (.Pass ⟨0, 0, 0, 0⟩)) t ∧ ∀ (D : Ends) (H' : Hp) (q d nw : Addr) (p : Int) (n : Nat) (nb : List Int) (v0 v3 v4 v5 v6 v7 v8 v10 v11 v12 v13 v14 v15 v16 v17 v18 v19 : Option V),
      HandAt H' q d → TB H' (.ref nw) nb → Ltr p n nb → 1 ≤ n → n ≤ 100 → 0 < p → p ≤ 31 → (∀ bv bd H'', HandAt H'' q d → Keep q H' H'' → OV H' 2 H'' bv bd → letsD p n bd = false → smallD bd → D.nx [v0, some (.ref q), some (.int p), v3, v4, v5, v6, v7, v8, some (.ref nw), v10, v11, some bv, v13, v14, v15, v16, v17, v18, v19] H'') →
      t D [v0, some (.ref q), some (.int p), v3, v4, v5, v6, v7, v8, some (.ref nw), v10, v11, v12, v13, v14, v15, v16, v17, v18, v19] H' := by
  obtain ⟨_, _, CT⟩ := C.take
  obtain ⟨_, _, CBB⟩ := C.badB
  have B := C.B
  have nd := scLaw.nd
  have hr1 := hr.mono (show 1 ≤ 10 by decide)
  have hr2 := hr.mono (show 2 ≤ 10 by decide)
  refine ⟨_, (ps_set (i := 12) nd rfl (Or.inl rfl) (pe_ix ix_list (pe_lst (pa_cons (pe_cal CBB hr2 (pa_cons (pv 1) (pa_cons (pv 9) (pa_cons (pv 2) pa_nil))) passU) (pa_cons (pe_op op_catA (pv 9) (pe_tup (pa_cons pe_int pa_nil))) (pa_cons (pe_slice sl_tupA (pv 9) (po_some pe_int) po_none) (pa_cons pe_non pa_nil))))) (pe_cal CT hr1 (pa_cons (pv 1) (pa_cons pe_int pa_nil)) passU) (fun _ _ => rfl))), ?_⟩
  intro D H0 q d nw p n nb v0 v3 v4 v5 v6 v7 v8 v10 v11 v12 v13 v14 v15 v16 v17 v18 v19 hH htb hlt hn1 hn p0 p1 kk
  obtain ⟨_, enw, hnw⟩ := id htb
  cases enw
  have ln : (nb.map V.int).length = n := by rw [List.length_map]; exact hlt.1
  have sz : ∀ {xs ys : List V}, xs.length ≤ 100 → ys.length ≤ 100 → xs.length + ys.length ≤ sizeLine := fun a b => Nat.le_trans (Nat.add_le_add a b) (by decide)
  refine ⟨_, rfl, _, rfl, _, rfl, q, d, nw, p, n, nb, rfl, hH, hnw, hlt, hn1, hn, p0, p1, fun bv bd H1 hb hbad h1 k1 => ?_⟩
  obtain ⟨_, enw1, hnw1⟩ := htb.keepH hH k1
  cases enw1
  refine ⟨_, rfl, (by show 1 ≤ sizeLine; decide), fun T0 hT0 => ?_⟩
  have sA := same_new (o := .tup [.int 0]) hT0
  have eA : upd H1 T0 (.tup [.int 0]) T0 = some (.tup [.int 0]) := upd_same
  generalize upd H1 T0 (.tup [.int 0]) = H2 at sA eA ⊢
  refine catA_is (sA _ _ hnw1) eA (sz (by rw [ln]; exact hn) (show 1 ≤ 100 by decide)) fun r0 H3 s3 e3 => ?_
  refine ⟨_, rfl, 1, rfl, ?_⟩
  dsimp only [tNoPart]
  refine slA_is ((sA.trans s3) _ _ hnw1) fun r1 H4 s4 e4 => ?_
  rw [cut_1 (by rw [ln]; exact hn1)] at e4
  have s14 := sA.trans (s3.trans s4)
  refine ⟨(by show 4 ≤ sizeLine; decide), fun Z hZ => ?_⟩
  have s5 := same_new (o := .lst [bv, .ref r0, .ref r1, .non]) hZ
  have e5 : upd H4 Z (.lst [bv, .ref r0, .ref r1, .non]) Z = some (.lst [bv, .ref r0, .ref r1, .non]) := upd_same
  have nZ : H1 Z = none := s14.free hZ
  have s15 := s14.trans s5
  have h5 := h1.same s15
  generalize upd H4 Z (.lst [bv, .ref r0, .ref r1, .non]) = H5 at s5 e5 s15 h5 ⊢
  refine ⟨_, rfl, q, d, 4, rfl, by decide, h5, fun r H6 r0' r1' h6 k6 => ?_⟩
  have kq : ∀ {c o}, H5 c = some o → (∀ xs, o ≠ .lst xs) → H6 c = some o := fun {c o} e ne => by
    obtain ⟨ds, i, g, _⟩ := h5
    exact k6 _ _ (ne_of e g (ne _)) e
  have eZ6 : H6 Z = some (.lst [bv, .ref r0, .ref r1, .non]) := k6 _ _ (fun z => by rw [z] at nZ; exact h1.alive nZ) e5
  have k0 : Keep q H0 H6 := k1.trans ((Keep.of s15).trans k6)
  have hb6 : OV H0 2 H6 bv bd := hb.kl ((KL.of s15).trans (KL.keep k6 hH.alive h5))
  have all : ∀ v ∈ ([bv, .ref r0, .ref r1, .non] : List V), ∃ dv, OV H0 2 H6 v dv ∧ letsD p n dv = false ∧ smallD dv := by
    intro v hv
    simp only [List.mem_cons, List.not_mem_nil, or_false] at hv
    rcases hv with rfl | rfl | rfl | rfl
    · exact ⟨bd, hb6, hbad.1, hbad.2.1⟩
    · refine ⟨rowD (nb ++ [0]), .inr ⟨r0, _, _, rfl, .inr ⟨kq ((s4.trans s5) _ _ e3) (fun _ z => nomatch z), rfl⟩, ?_, ?_⟩, lets_no (.inl ?_), ?_⟩
      · rw [List.length_append, ln]
        show n + 1 ≤ 200
        omega
      · rw [List.map_append]
        exact paired_app (ints_ov 0 nb) (.cons (.inl (.inl ⟨0, rfl, rfl⟩)) .nil)
      · rw [List.length_map, List.length_append, hlt.1]
        show n + 1 ≠ n
        omega
      · show ((nb ++ [0]).map PyData.int).length ≤ 200
        rw [List.length_map, List.length_append, hlt.1]
        show n + 1 ≤ 200
        omega
    · refine ⟨rowD (nb.drop 1), .inr ⟨r1, _, _, rfl, .inr ⟨kq (s5 _ _ e4) (fun _ z => nomatch z), rfl⟩, ?_, ?_⟩, lets_no (.inl ?_), ?_⟩
      · rw [List.length_drop, ln]
        omega
      · rw [List.map_drop]
        exact paired_drop 1 (ints_ov 0 nb)
      · rw [List.length_map, List.length_drop, hlt.1]
        omega
      · show ((nb.drop 1).map PyData.int).length ≤ 200
        rw [List.length_map, List.length_drop, hlt.1]
        omega
    · exact ⟨.none, .inl (.inr (.inr (.inl ⟨rfl, rfl⟩))), rfl, trivial⟩
  obtain ⟨m, rfl⟩ : ∃ m : Nat, r = (m : Int) := ⟨r.toNat, by omega⟩
  have hm : m < 4 := by omega
  obtain ⟨v, hv⟩ : ∃ v, ([bv, .ref r0, .ref r1, .non] : List V)[m]? = some v := ⟨_, List.getElem?_eq_getElem (show m < 4 from hm)⟩
  obtain ⟨dv, z1, z2, z3⟩ := all v (List.mem_of_getElem? hv)
  exact ⟨Z, _, _, v, rfl, rfl, SqL.of eZ6, atI_nat hv, kk v dv H6 h6 k0 z1 z2 z3⟩
end
end WU

set_option maxRecDepth 100000
set_option maxHeartbeats 8000000
namespace WU
open PySem PySem.Spec PyProof.Rows L2
section
variable {P : Program} {w : World} {K : PySem.W.Frag} {mg : Str → Option Value} {base : Heap} {L : Addr} {f : Addr} {cdv : Value} {A : Around} {outer : List Env} {s : Shared} {H : Hp} {E : XK}
/-- the law's last part: what is refused -/
theorem g4 (C : LC P w K mg base L) (hr : Room 10 (A.deeper (envOfC "law" (defScope sLaw) s.heap.objs.size f cdv))) :
    ∃ t, PSs (cxOf CX0 P w K mg base NL "law" (defScope sLaw) f cdv A outer s H E) (LB.drop 24) t ∧ ∀ (D : Ends) (H' : Hp) (q d bk lib nw : Addr) (p : Int) (n k : Nat) (bs : List (List Int)) (nb : List Int) (v0 v6 v10 v11 v12 v13 v14 v15 v16 v17 v18 v19 : Option V),
      LW L H' q d bk lib p n bs → Good p n bs → p ∈ primes → k < bs.length → TB H' (.ref nw) nb → Ltr p n nb → (∀ H'', D.rt (.bl true) H'') →
      t D [v0, some (.ref q), some (.int p), some (.int bs.length), some (.int n), some (.ref bk), v6, some (.ref lib), some (.int k), some (.ref nw), v10, v11, v12, v13, v14, v15, v16, v17, v18, v19] H' := by
  obtain ⟨_, _, CNF⟩ := C.noF
  obtain ⟨_, _, CTd⟩ := C.told
  obtain ⟨_, _, CBBs⟩ := C.badBs
  obtain ⟨_, _, CIs⟩ := C.is
  obtain ⟨_, _, CEv⟩ := C.every
  obtain ⟨t8, q8, k8⟩ := pPl (outer := outer) (H := H) (E := E) C hr
  obtain ⟨t9, q9, k9⟩ := pBo (outer := outer) (H := H) (E := E) C hr
  have B := C.B
  have nd := scLaw.nd
  have hu := hr.units
  have hr3 := hr.mono (show 3 ≤ 10 by decide)
  have hr4 := hr.mono (show 4 ≤ 10 by decide)
  refine ⟨_, (pss_cons (ps_set (i := 15) nd rfl (Or.inl rfl) (pe_cal CNF hr4 (pa_cons (pv 1) pa_nil) passU))
    (pss_cons (ps_if (PW.pt (pw_or (pt_cmpR (op_neD hu) (pe_cal CTd hr (pa_cons pe_int (pa_cons (pv 7) (pa_cons (pv 15) (pa_cons pe_int pa_nil)))) passU) (pe_lst (pa_cons pe_str (pa_cons (pv 15) pa_nil))) (nomark _)) (pw_or1 (pt_cmpR (op_neD hu) (pe_cal CTd hr (pa_cons pe_int (pa_cons (pv 7) (pa_cons (pv 15) (pa_cons pe_int pa_nil)))) passU) (pe_lst (pa_cons pe_str (pa_cons (pv 15) pa_nil))) (nomark _))))) (pss_one (ps_ret pe_bl)) pss_nil)
    (pss_cons (ps_set (i := 16) nd rfl (Or.inl rfl) (pe_cal CBBs hr3 (pa_cons (pv 1) (pa_cons (pv 5) (pa_cons (pv 2) pa_nil))) passU))
    (pss_cons (ps_if (PW.pt (pw_or (pt_cmpR (op_neD hu) (pe_cal CTd hr (pa_cons pe_int (pa_cons (pv 7) (pa_cons (pv 15) (pa_cons (pv 16) pa_nil)))) passU) (pe_lst (pa_cons pe_str (pa_cons (pv 15) pa_nil))) (nomark _)) (pw_or1 (pt_cmpR (op_neD hu) (pe_cal CTd hr (pa_cons pe_int (pa_cons (pv 7) (pa_cons (pv 2) (pa_cons (pv 16) pa_nil)))) passU) (pe_lst (pa_cons pe_str (pa_cons (pv 16) pa_nil))) (nomark _))))) (pss_one (ps_ret pe_bl)) pss_nil)
    (pss_cons q8
    (pss_cons q9
    (pss_cons (ps_for (passes_of rfl) rfl (pi_list (pe_lst (pa_cons pe_int (pa_cons pe_int pa_nil)))) (pg_name (i := 18) nd rfl (Or.inl rfl)) (pss_one (ps_if (pt_cmpR (op_neD hu) (pe_cal CTd hr (pa_cons (pv 18) (pa_cons (pv 7) (pa_cons (pv 17) (pa_cons (pv 12) pa_nil)))) passU) (pe_lst (pa_cons pe_str (pa_cons (pv 17) pa_nil))) (nomark _)) (pss_one (ps_ret pe_bl)) pss_nil)))
    (pss_one (ps_ret (pe_and (pe_cmpR (op_eqD hu) (pe_cal CTd hr (pa_cons pe_int (pa_cons (pv 7) (pa_cons (pv 8) (pa_cons (pv 12) pa_nil)))) passU) (pe_lst (pa_cons pe_str (pa_cons (pv 12) pa_nil))) (nomark _)) (pe_and (pe_cal CIs hr4 (pa_cons (pv 7) (pa_cons (pv 2) (pa_cons (pv 5) pa_nil))) passU) (pe_one (pe_cal CEv hr (pa_cons (pv 1) pa_nil) passU))))))))))))), ?_⟩
  intro D H0 q d bk lib nw p n k bs nb v0 v6 v10 v11 v12 v13 v14 v15 v16 v17 v18 v19 W g hp hk htb hlt kk
  have pb := fld_le hp
  have okN : PyData.strOk "number" = true := by decide +kernel
  have okL : PyData.strOk "library" = true := by decide +kernel
  -- wrong
  refine ⟨_, rfl, q, d, rfl, W.hand, fun wv wd H1 hw hwf h1 k1 => ?_⟩
  have W1 := W.take k1 h1
  have tb1 := htb.keepH W.hand k1
  obtain ⟨dw1, sw1⟩ := hw.dp K
  -- told 3
  refine ⟨_, rfl, _, rfl, 3, lib, wv, _, p, n, bs, rfl, W1.elib, g, hp, dp_ty3 dw1, .inr (.inr (.inr ⟨.inl rfl, hwf, fun a2 H2 s2 e2 => ?_⟩))⟩
  refine ⟨_, rfl, (by show 2 ≤ sizeLine; decide), fun b2 hb2 => ?_⟩
  have s3 := same_new (o := .lst [.str "number", wv]) hb2
  have e3 : upd H2 b2 (.lst [.str "number", wv]) b2 = some (.lst [.str "number", wv]) := upd_same
  generalize upd H2 b2 (.lst [.str "number", wv]) = H3 at s3 e3 ⊢
  have dw3 := dp_same (s2.trans s3) dw1
  refine told_ne (s3 _ _ e2) e3 okN dw3 sw1 (by decide) ⟨_, rfl, iteF ?_⟩
  have W3 := W1.same (s2.trans s3)
  -- told 4
  refine ⟨_, rfl, _, rfl, 4, lib, wv, _, p, n, bs, rfl, W3.elib, g, hp, dp_ty3 dw3, .inr (.inr (.inr ⟨.inr rfl, hwf, fun a4 H4 s4 e4 => ?_⟩))⟩
  refine ⟨_, rfl, (by show 2 ≤ sizeLine; decide), fun b4 hb4 => ?_⟩
  have s5 := same_new (o := .lst [.str "number", wv]) hb4
  have e5 : upd H4 b4 (.lst [.str "number", wv]) b4 = some (.lst [.str "number", wv]) := upd_same
  generalize upd H4 b4 (.lst [.str "number", wv]) = H5 at s5 e5 ⊢
  have dw5 := dp_same (s4.trans s5) dw3
  refine told_ne (s5 _ _ e4) e5 okN dw5 sw1 (by decide) ⟨_, rfl, iteF ?_⟩
  have W5 := W3.same (s4.trans s5)
  have s15 := (s2.trans s3).trans (s4.trans s5)
  have tb5 := tb1.same s15
  have hw5 := hw.kl (KL.of s15)
  -- bad
  refine ⟨_, rfl, _, rfl, _, rfl, q, d, bk, p, n, bs, rfl, W5.hand, W5.ebk, g, by omega, by omega, fun bv bd H6 hb hbn hbs h6 k6 => ?_⟩
  have W6 := W5.take k6 h6
  have tb6 := tb5.keepH W5.hand k6
  have hw6 := hw5.kl (KL.keep k6 W.hand.alive W5.hand)
  obtain ⟨dw6, _⟩ := hw6.dp K
  obtain ⟨db6, sb6⟩ := hb.dp K
  -- told 0, wrong
  refine ⟨_, rfl, _, rfl, _, rfl, 0, lib, wv, bv, p, n, bs, rfl, W6.elib, g, hp, dp_ty3 dw6, .inl ⟨rfl, fun _ a7 H7 s7 e7 => ?_, fun e => by rw [hwf] at e; cases e⟩⟩
  refine ⟨_, rfl, (by show 2 ≤ sizeLine; decide), fun b7 hb7 => ?_⟩
  have s8 := same_new (o := .lst [.str "number", wv]) hb7
  have e8 : upd H7 b7 (.lst [.str "number", wv]) b7 = some (.lst [.str "number", wv]) := upd_same
  generalize upd H7 b7 (.lst [.str "number", wv]) = H8 at s8 e8 ⊢
  refine told_ne (s8 _ _ e7) e8 okN (dp_same (s7.trans s8) dw6) sw1 (by decide) ⟨_, rfl, iteF ?_⟩
  have W8 := W6.same (s7.trans s8)
  have db8 := dp_same (s7.trans s8) db6
  -- told 0, bad
  refine ⟨_, rfl, _, rfl, _, rfl, 0, lib, .int p, bv, p, n, bs, rfl, W8.elib, g, hp, ty3_int _, .inl ⟨rfl, (fun e => by rw [mem_fld hp] at e; cases e), fun _ => ⟨p, bd, rfl, db8, hbs, hbn, fun a9 H9 s9 e9 => ?_⟩⟩⟩
  refine ⟨_, rfl, (by show 2 ≤ sizeLine; decide), fun b9 hb9 => ?_⟩
  have s10 := same_new (o := .lst [.str "library", bv]) hb9
  have e10 : upd H9 b9 (.lst [.str "library", bv]) b9 = some (.lst [.str "library", bv]) := upd_same
  generalize upd H9 b9 (.lst [.str "library", bv]) = H10 at s10 e10 ⊢
  refine told_ne (s10 _ _ e9) e10 okL (dp_same (s9.trans s10) db8) sb6 (by decide) ⟨_, rfl, iteF ?_⟩
  have W10 := W8.same (s9.trans s10)
  have tb10 := tb6.same ((s7.trans s8).trans (s9.trans s10))
  -- place
  refine k8 _ H10 q d bs.length _ _ _ _ _ _ _ _ _ _ _ _ _ _ _ _ _ _ W10.hand g.cnt fun pv' pd H11 h11 k11 hpo hpb => ?_
  have W11 := W10.take k11 h11
  have tb11 := tb10.keepH W10.hand k11
  -- book
  refine k9 _ H11 q d nw p n nb _ _ _ _ _ _ _ _ _ _ _ _ _ _ _ _ _ h11 tb11 hlt g.pos g.le (by omega) (by omega) fun ov od H12 h12 k12 hoo hol hos => ?_
  have W12 := W11.take k12 h12
  have hpo12 := hpo.kl (KL.keep k12 W10.hand.alive h11)
  obtain ⟨dp12, sp12⟩ := hpo12.dp K
  obtain ⟨do12, so12⟩ := hoo.dp K
  refine ⟨(by show 2 ≤ sizeLine; decide), fun Z hZ => ?_⟩
  have s13 := same_new (o := .lst [.int 1, .int 2]) hZ
  have eZ : upd H12 Z (.lst [.int 1, .int 2]) Z = some (.lst [.int 1, .int 2]) := upd_same
  generalize upd H12 Z (.lst [.int 1, .int 2]) = H13 at s13 eZ ⊢
  have W13 := W12.same s13
  have dp13 := dp_same s13 dp12
  have do13 := dp_same s13 do12
  have nb13 : ∀ {H' : Hp}, Same H13 H' → ∀ c, SB H' ov c → ¬ Ltr p n c := fun s' => ov_nb (hoo.kl (KL.of (s13.trans s'))) hol
  refine ⟨Z, rfl, ⟨_, SqL.of eZ⟩, for_list (K := K) (a := Z) (xs := [.int 1, .int 2]) (fun i σ H' => ∃ x, σ = [v0, some (.ref q), some (.int p), some (.int bs.length), some (.int n), some (.ref bk), v6, some (.ref lib), some (.int k), some (.ref nw), v10, v11, some ov, v13, v14, some wv, some bv, some pv', x, v19] ∧ Same H13 H') ⟨_, rfl, Same.refl H13⟩ (fun i σ H' _ ⟨x, _, s'⟩ => SqL.of (s' _ _ eZ)) ?_ ?_⟩
  · rintro i x σ H14 hi ⟨x18, rfl, s14⟩
    have hx : x = .int 1 ∨ x = .int 2 := by
      have := List.mem_of_getElem? hi
      simp only [List.mem_cons, List.not_mem_nil, or_false] at this
      exact this
    have W14 := W13.same s14
    rcases hx with rfl | rfl
    · refine ⟨_, rfl, _, rfl, _, rfl, _, rfl, 1, lib, pv', ov, p, n, bs, rfl, W14.elib, g, hp, dp_ty3 (dp_same s14 dp13), .inr (.inl ⟨rfl, hpb, fun a15 H15 s15 e15 => ?_⟩)⟩
      refine ⟨_, rfl, (by show 2 ≤ sizeLine; decide), fun b15 hb15 => ?_⟩
      have s16 := same_new (o := .lst [.str "number", pv']) hb15
      exact told_ne (s16 _ _ e15) upd_same okN (dp_same (s14.trans (s15.trans s16)) dp13) sp12 (by decide) ⟨_, rfl, iteF ⟨_, rfl, s14.trans (s15.trans s16)⟩⟩
    · refine ⟨_, rfl, _, rfl, _, rfl, _, rfl, 2, lib, pv', ov, p, n, bs, rfl, W14.elib, g, hp, dp_ty3 (dp_same s14 dp13), .inr (.inr (.inl ⟨rfl, ⟨od, dp_same s14 do13, hos, hol⟩, nb13 s14, fun _ a15 H15 s15 e15 => ?_, (fun e => by rw [hpb] at e; cases e)⟩))⟩
      refine ⟨_, rfl, (by show 2 ≤ sizeLine; decide), fun b15 hb15 => ?_⟩
      have s16 := same_new (o := .lst [.str "number", pv']) hb15
      exact told_ne (s16 _ _ e15) upd_same okN (dp_same (s14.trans (s15.trans s16)) dp13) sp12 (by decide) ⟨_, rfl, iteF ⟨_, rfl, s14.trans (s15.trans s16)⟩⟩
  · rintro σ H14 ⟨x18, rfl, s14⟩
    have W14 := W13.same s14
    have hbel : isBel bs.length (.int k) = true := by
      show (decide ((0 : Int) ≤ k) && decide ((k : Int) < (bs.length : Int))) = true
      rw [decide_eq_true (show (0 : Int) ≤ k by omega), decide_eq_true (show (k : Int) < (bs.length : Int) by omega)]
      rfl
    refine ⟨_, rfl, _, rfl, _, rfl, 2, lib, .int k, ov, p, n, bs, rfl, W14.elib, g, hp, ty3_int _, .inr (.inr (.inl ⟨rfl, ⟨od, dp_same s14 do13, hos, hol⟩, nb13 s14, (fun e => by rw [hbel] at e; cases e), fun _ a15 H15 s15 e15 => ?_⟩))⟩
    refine ⟨_, rfl, (by show 2 ≤ sizeLine; decide), fun b15 hb15 => ?_⟩
    have s16 := same_new (o := .lst [.str "library", ov]) hb15
    have e16 : upd H15 b15 (.lst [.str "library", ov]) b15 = some (.lst [.str "library", ov]) := upd_same
    generalize upd H15 b15 (.lst [.str "library", ov]) = H16 at s16 e16 ⊢
    have W16 := W14.same (s15.trans s16)
    refine told_eq (s16 _ _ e15) e16 okL (dp_same (s14.trans (s15.trans s16)) do13) so12 (by decide) ⟨_, rfl, iteT ?_⟩
    refine ⟨_, rfl, _, rfl, _, rfl, lib, bk, p, n, bs, rfl, W16.elib, g, W16.ebk, fun H17 s17 => ⟨_, rfl, iteT ?_⟩⟩
    exact ⟨_, rfl, q, d, rfl, (W16.same s17).hand, fun H18 _ => kk H18⟩
end
end WU

set_option maxRecDepth 100000
set_option maxHeartbeats 8000000
namespace WU
open PySem PySem.Spec PyProof.Rows L2
theorem flat_all {p : Int} {n : Nat} {bs : List (List Int)} (g : Good p n bs) : ∀ l ∈ bs.flatten, 0 ≤ l ∧ l < p := fun l hl => by
  obtain ⟨b, hb, h⟩ := List.mem_flatten.mp hl
  exact (g.all b hb).2 l h
theorem flat_n {p : Int} {n : Nat} {bs : List (List Int)} (g : Good p n bs) : bs.flatten.length = bs.length * n := flat_len fun b hb => (g.all b hb).1
/-- list(book) -/
def rLstOf (K : PySem.W.Frag) : List V → Hp → VK → Prop := fun xs H Q => ∃ p ys, xs = [V.ref p] ∧ (SqL K H p ys ∨ SqT K H p ys) ∧ ∀ l, H l = none → Q (.ref l) (upd H l (.lst ys))
theorem good_app {p : Int} {n : Nat} {bs cs : List (List Int)} (g : Good p n bs) (h : Good p n cs) (hl : bs.length + cs.length ≤ 100) : Good p n (bs ++ cs) :=
  ⟨fun z => g.ne (List.append_eq_nil_iff.mp z).1, g.pos, g.le, by rw [List.length_append]; exact hl, fun b hb => (List.mem_append.mp hb).elim (g.all b) (h.all b)⟩
section
variable {P : Program} {w : World} {K : PySem.W.Frag} {mg : Str → Option Value} {base : Heap} {L : Addr} {f : Addr} {cdv : Value} {A : Around} {outer : List Env} {s : Shared} {H : Hp} {E : XK}
/-- other values, the letters -/
theorem g3c (C : LC P w K mg base L) (hr : Room 10 (A.deeper (envOfC "law" (defScope sLaw) s.heap.objs.size f cdv))) :
    ∃ t, PSs (cxOf CX0 P w K mg base NL "law" (defScope sLaw) f cdv A outer s H E) (LB.drop 22) t ∧ ∀ (D : Ends) (H' : Hp) (q d bk lib nw lt : Addr) (p : Int) (n k : Nat) (bs : List (List Int)) (nb : List Int) (v0 v6 v10 v12 v13 v14 v15 v16 v17 v18 v19 : Option V),
      LW L H' q d bk lib p n bs → Good p n bs → p ∈ primes → k < bs.length → bs.length ≤ 4 → n ≤ 4 → TB H' (.ref nw) nb → Ltr p n nb → H' lt = some (.lst (bs.flatten.map V.int)) → (∀ H'', D.rt (.bl true) H'') →
      t D [v0, some (.ref q), some (.int p), some (.int bs.length), some (.int n), some (.ref bk), v6, some (.ref lib), some (.int k), some (.ref nw), v10, some (.ref lt), v12, v13, v14, v15, v16, v17, v18, v19] H' := by
  obtain ⟨_, _, CEq⟩ := C.equ
  obtain ⟨_, _, CIs⟩ := C.is
  obtain ⟨fL, fB, fC, pO, gO, fV, fdL, fdB, fdC, fdV, M⟩ := C.lib
  obtain ⟨t4, q4, k4⟩ := g4 (outer := outer) (H := H) (E := E) C hr
  have B := C.B
  have CL := C.cL
  have MK := M.made
  have GI := M.gI
  have bI := M.bI
  have nd := scLaw.nd
  have hu := hr.units
  have hr2 := hr.mono (show 2 ≤ 10 by decide)
  have hr4 := hr.mono (show 4 ≤ 10 by decide)
  have hr7 := hr.mono (show 7 ≤ 10 by decide)
  refine ⟨_, (pss_cons (ps_for (passes_of rfl) rfl (pi_list (pe_lst (pa_cons (pv 5) (pa_cons pe_non (pa_cons (pv 2) (pa_cons (pv 11) (pa_cons (pe_make MK GI hr7 (by rfl) CL.g bI .nil passU (pa_cons (pv 2) (pa_cons (pe_op op_catA (pv 5) (pv 5)) pa_nil))) pa_nil))))))) (pg_name (i := 14) nd rfl (Or.inl rfl)) (pss_one (ps_if (pt_not (pt_val (pe_cal CEq hr2 (pa_cons (pv 7) (pa_cons (pv 14) (pa_cons pe_bl pa_nil))) passU))) (pss_one (ps_ret pe_bl)) pss_nil)))
    (pss_cons (ps_if (PW.pt (pw_or (pt_cmpR (op_neD hu) (pe_callTy call_tuple_of (by rfl) B.tuple (by decide +kernel) (pa_cons (pv 11) pa_nil)) (pe_fld (pv 7) rfl) (nomark _)) (pw_or1 (pt_not (pt_val (pe_cal CIs hr4 (pa_cons (pe_make MK GI hr7 (by rfl) CL.g bI .nil passU (pa_cons (pv 2) (pa_cons (pe_lc (te := tCB (rTupOf K) (tCons (tVar 12) tNil)) (own := [("book", 12)]) (g := gName 12) (by rfl) nd (pi_tup (pv 5)) (blkOk_by (own := [("book", 12)]) (N := NL) (sc := defScope sLaw) (by decide +kernel)) (fun _ _ _ _ _ => pg_name (i := 12) nd rfl (Or.inl rfl)) (fun _ _ _ _ _ => pts_nil) (fun _ _ _ _ _ => (pe_callTy call_tuple_of (by rfl) B.tuple (by decide +kernel) (pa_cons (pv 12) pa_nil)))) pa_nil))) (pa_cons (pv 2) (pa_cons (pv 5) pa_nil))) passU)))))) (pss_one (ps_ret pe_bl)) pss_nil)
    q4)), ?_⟩
  intro D H0 q d bk lib nw lt p n k bs nb v0 v6 v10 v12 v13 v14 v15 v16 v17 v18 v19 W g hp hk hc4 hn4 htb hlt elt kk
  have hln : ∀ b ∈ bs, b.length = n := fun b hb => (g.all b hb).1
  obtain ⟨rs, ebk, hrs⟩ := id W.ebk
  have lrs := paired_len hrs
  refine ⟨_, rfl, _, rfl, _, rfl, _, rfl, _, rfl, _, rfl, ?_⟩
  refine catA_is ebk ebk (Nat.le_trans (show rs.length + rs.length ≤ 200 by omega) (by decide)) fun r1 H1 s1 e1 => ?_
  have hr1 : Paired (TB H1) rs bs := paired_mono (fun _ _ q => q.same s1) hrs
  intro y dy hy hdy hne
  refine lib_new hp (.inr e1) (paired_mono (fun _ _ q => q.sb) (paired_app hr1 hr1)) (good_app g g (by omega)) hy hdy hne fun H2 s2 hL2 => ⟨rfl, ?_⟩
  refine ⟨(by show 5 ≤ sizeLine; decide), fun Z hZ => ?_⟩
  have s3 := same_new (o := .lst [.ref bk, .non, .int p, .ref lt, .ref y]) hZ
  have eZ : upd H2 Z (.lst [.ref bk, .non, .int p, .ref lt, .ref y]) Z = some (.lst [.ref bk, .non, .int p, .ref lt, .ref y]) := upd_same
  generalize upd H2 Z (.lst [.ref bk, .non, .int p, .ref lt, .ref y]) = H3 at s3 eZ ⊢
  have s03 := s1.trans (s2.trans s3)
  have W3 := W.same s03
  refine ⟨Z, rfl, ⟨_, SqL.of eZ⟩, for_list (K := K) (a := Z) (xs := [.ref bk, .non, .int p, .ref lt, .ref y]) (fun i σ H' => ∃ x, σ = [v0, some (.ref q), some (.int p), some (.int bs.length), some (.int n), some (.ref bk), v6, some (.ref lib), some (.int k), some (.ref nw), v10, some (.ref lt), v12, v13, x, v15, v16, v17, v18, v19] ∧ Same H3 H') ⟨_, rfl, Same.refl H3⟩ (fun i σ H' _ ⟨x, _, s'⟩ => SqL.of (s' _ _ eZ)) ?_ ?_⟩
  · rintro i x σ H4 hi ⟨x14, rfl, s4⟩
    have hx := List.mem_of_getElem? hi
    simp only [List.mem_cons, List.not_mem_nil, or_false] at hx
    have W4 := W3.same s4
    have s04 := s03.trans s4
    have cs : (∃ (y : Addr) (p' : Int) (n' : Nat) (bs' : List (List Int)), x = .ref y ∧ LibAt L H4 y p' n' bs' ∧ false = decide (p = p' ∧ bs = bs')) ∨ (Oth H4 x ∧ false = false) := by
      rcases hx with rfl | rfl | rfl | rfl | rfl
      · exact .inr ⟨.inr (.inr (.inr ⟨bk, _, rfl, s04 _ _ ebk⟩)), rfl⟩
      · exact .inr ⟨.inl rfl, rfl⟩
      · exact .inr ⟨.inr (.inl ⟨p, rfl⟩), rfl⟩
      · exact .inr ⟨.inr (.inr (.inl ⟨lt, _, rfl, s04 _ _ elt⟩)), rfl⟩
      · refine .inl ⟨y, p, n, bs ++ bs, rfl, hL2.same (s3.trans s4), (decide_eq_false fun z => ?_).symm⟩
        have := congrArg List.length z.2
        rw [List.length_append] at this
        omega
    exact ⟨_, rfl, _, rfl, lib, x, false, p, n, bs, rfl, W4.elib, cs, fun H5 s5 => ⟨_, rfl, iteF ⟨_, rfl, s4.trans s5⟩⟩⟩
  rintro σ H4 ⟨x14, rfl, s4⟩
  have W4 := W3.same s4
  have s04 := s03.trans s4
  refine ⟨_, rfl, lt, _, rfl, .inl ⟨SqL.of (s04 _ _ elt), fun T hT => ?_⟩⟩
  have s5 := same_new (o := .tup (bs.flatten.map V.int)) hT
  have eT : upd H4 T (.tup (bs.flatten.map V.int)) T = some (.tup (bs.flatten.map V.int)) := upd_same
  generalize upd H4 T (.tup (bs.flatten.map V.int)) = H5 at s5 eT ⊢
  have W5 := W4.same s5
  obtain ⟨dx, ba, tl, ls, h1, h2, h3, h4⟩ := W5.elib
  refine ⟨_, rfl, lib, L, dx, _, _, rfl, h1, CL.cl, CL.nT, lf_letters, ?_⟩
  refine ⟨rowD bs.flatten, rowD bs.flatten, .tup (SqT.of eT) (dps_ints _), .tup (SqT.of h4) (dps_ints _), shp_row _, shp_row _, ?_⟩
  rw [eqv_row]
  refine ⟨_, rfl, iteF ?_⟩
  have ebk5 := s5 _ _ (s04 _ _ ebk)
  refine ⟨_, rfl, _, rfl, bk, rfl, ⟨_, SqT.of ebk5⟩, fun D2 hD2 => lc_tup (K := K) (a := bk) (xs := rs) (fun i H' => Same H5 H' ∧ H' D2 = some (.lst (rs.take i))) ⟨same_new hD2, upd_same⟩ (fun i H' _ z => SqT.of (z.1 _ _ ebk5)) ?_ ?_⟩
  · rintro i x H6 hi ⟨s6, e6⟩
    obtain ⟨b, hb, c, rfl, ec⟩ := paired_at hrs hi
    refine ⟨rfl, _, rfl, c, _, rfl, .inr ⟨SqT.of (s6 _ _ (s5 _ _ (s04 _ _ ec))), _, e6, ?_, fun z o hz => ?_, ?_⟩⟩
    · rw [List.length_take]
      exact small1000 (Nat.le_trans (Nat.min_le_right _ _) (by omega))
    · rw [upd_ne (ne_of_none hz hD2)]
      exact s6 _ _ hz
    · rw [upd_same, List.take_succ, hi]
      rfl
  rintro H6 ⟨s6, e6⟩
  rw [List.take_length] at e6
  have s06 := s04.trans (s5.trans s6)
  have hr6 : Paired (TB H6) rs bs := paired_mono (fun _ _ q => q.same (s04.trans (s5.trans s6))) hrs
  intro y2 dy2 hy2 hdy2 hne2
  refine lib_new hp (.inl e6) (paired_mono (fun _ _ q => q.sb) hr6) g hy2 hdy2 hne2 fun H7 s7 hL7 => ⟨rfl, ?_⟩
  have W7 := (W5.same s6).same s7
  refine ⟨_, rfl, _, rfl, y2, bk, p, n, bs, rfl, hL7, g, W7.ebk, fun H8 s8 => ⟨_, rfl, iteF ?_⟩⟩
  have s08 := (s04.trans (s5.trans s6)).trans (s7.trans s8)
  exact k4 _ H8 q d bk lib nw p n k bs nb _ _ _ _ _ _ _ _ _ _ _ _ (W.same s08) g hp hk (htb.same s08) hlt kk
end
end WU

set_option maxRecDepth 100000
set_option maxHeartbeats 8000000
namespace WU
open PySem PySem.Spec PyProof.Rows L2
section
variable {P : Program} {w : World} {K : PySem.W.Frag} {mg : Str → Option Value} {base : Heap} {L : Addr} {f : Addr} {cdv : Value} {A : Around} {outer : List Env} {s : Shared} {H : Hp} {E : XK}
/-- libraries that are not equal -/
theorem g3b (C : LC P w K mg base L) (hr : Room 10 (A.deeper (envOfC "law" (defScope sLaw) s.heap.objs.size f cdv))) :
    ∃ t, PSs (cxOf CX0 P w K mg base NL "law" (defScope sLaw) f cdv A outer s H E) (LB.drop 18) t ∧ ∀ (D : Ends) (H' : Hp) (q d bk lib nw lt : Addr) (p : Int) (n k : Nat) (bs : List (List Int)) (nb : List Int) (v0 v6 v10 v12 v13 v14 v15 v16 v17 v18 v19 : Option V),
      LW L H' q d bk lib p n bs → Good p n bs → p ∈ primes → k < bs.length → bs.length ≤ 4 → n ≤ 4 → TB H' (.ref nw) nb → Ltr p n nb → H' lt = some (.lst (bs.flatten.map V.int)) → (∀ H'', D.rt (.bl true) H'') →
      t D [v0, some (.ref q), some (.int p), some (.int bs.length), some (.int n), some (.ref bk), v6, some (.ref lib), some (.int k), some (.ref nw), v10, some (.ref lt), v12, v13, v14, v15, v16, v17, v18, v19] H' := by
  obtain ⟨_, _, CEq⟩ := C.equ
  obtain ⟨_, _, CLF⟩ := C.isF
  obtain ⟨fL, fB, fC, pO, gO, fV, fdL, fdB, fdC, fdV, M⟩ := C.lib
  obtain ⟨t4, q4, k4⟩ := g3c (outer := outer) (H := H) (E := E) C hr
  have B := C.B
  have CL := C.cL
  have MK := M.made
  have GI := M.gI
  have bI := M.bI
  have nd := scLaw.nd
  have hu := hr.units
  have hr1 := hr.mono (show 1 ≤ 10 by decide)
  have hr2 := hr.mono (show 2 ≤ 10 by decide)
  have hr7 := hr.mono (show 7 ≤ 10 by decide)
  have hr8 := hr.mono (show 8 ≤ 10 by decide)
  refine ⟨_, (pss_cons (ps_setLc (i := 13) (own := [("q", 19)]) (g := gName 19) (by rfl) nd rfl rfl (sw_true rfl rfl rfl (by decide +kernel)) (pi_range2 rfl B.range (pa_cons (pe_op op_add (pv 2) pe_int) (pa_cons pe_int pa_nil))) (blkOk_by (own := [("q", 19)]) (N := NL) (sc := defScope sLaw) (by decide +kernel)) (fun _ _ _ _ _ => pg_name (i := 19) nd rfl (Or.inl rfl)) (fun _ _ _ _ _ => pts_one (pt_val (pe_cal CLF hr1 (pa_cons (pv 19) pa_nil) passU))) (fun _ _ _ _ _ => (pv 19)))
    (pss_cons (ps_wk (ps_if (PW.pt (pw_and (pt_cmpR op_gt (pe_callB call_len_seq (by rfl) B.len (by decide +kernel) (pa_cons (pv 13) pa_nil)) pe_int (nomark _)) (pw_and1 (pt_not (pt_val (pe_cal CEq hr2 (pa_cons (pv 7) (pa_cons (pe_make MK GI hr7 (by rfl) CL.g bI .nil passU (pa_cons (pe_ix ix_list (pv 13) pe_int (fun _ _ => rfl)) (pa_cons (pv 5) pa_nil))) (pa_cons pe_bl pa_nil))) passU)))))) (pss_one (ps_ret pe_bl)) pss_nil))
    (pss_cons (ps_wk (ps_if (PW.pt (pw_and (pt_cmpR op_gt (pv 4) pe_int (nomark _)) (pw_and1 (pt_not (pt_val (pe_cal CEq hr2 (pa_cons (pv 7) (pa_cons (pe_cmethS (E := fun _ => E0) (pe_glob (v := .ref L) rfl CL.g rfl) M.o.r M.o.c M.o.F hr8 passV (pa_cons (pv 2) (pa_cons pe_int (pa_cons (pv 11) pa_nil)))) (pa_cons pe_bl pa_nil))) passU)))))) (pss_one (ps_ret pe_bl)) pss_nil))
    (pss_cons (ps_wk (ps_if (PW.pt (pw_and (pt_cmpR op_gt (pv 3) pe_int (nomark _)) (pw_and1 (pt_not (pt_val (pe_cal CEq hr2 (pa_cons (pv 7) (pa_cons (pe_make MK GI hr7 (by rfl) CL.g bI .nil passU (pa_cons (pv 2) (pa_cons (pe_tup (pa_cons (pv 11) pa_nil)) pa_nil))) (pa_cons pe_bl pa_nil))) passU)))))) (pss_one (ps_ret pe_bl)) pss_nil))
    q4)))), ?_⟩
  intro D H0 q d bk lib nw lt p n k bs nb v0 v6 v10 v12 v13 v14 v15 v16 v17 v18 v19 W g hp hk hc4 hn4 htb hlt elt kk
  have hln : ∀ b ∈ bs, b.length = n := fun b hb => (g.all b hb).1
  have pb := fld_le hp
  have fl := flat_n g
  obtain ⟨rs, ebk, hrs⟩ := id W.ebk
  have lrs := paired_len hrs
  have hpos : 0 < bs.length := by omega
  have cn16 : bs.length * n ≤ 16 := Nat.mul_le_mul hc4 hn4
  have cn1 : bs.length ≤ bs.length * n := Nat.le_mul_of_pos_right _ g.pos
  refine ⟨_, rfl, _, _, rfl, rfl, p + 1, 32, rfl, (by omega), fun Z hZ => lc_range (lo := p + 1) (n := (32 - (p + 1)).toNat) (fun i H' => Same H0 H' ∧ ∃ qs : List Int, H' Z = some (.lst (qs.map V.int)) ∧ qs.length ≤ i ∧ ∀ x ∈ qs, x ∈ primes ∧ p < x) ⟨same_new hZ, [], upd_same, Nat.le_refl 0, fun x hx => nomatch hx⟩ ?_ ?_⟩
  · rintro i H1 hi ⟨s1, qs, e, hl, ha⟩
    refine ⟨rfl, _, rfl, _, rfl, ty3_int _, _, rfl, ?_⟩
    cases hq : isFld (.int (p + 1 + (i : Int))) with
    | true =>
      refine iteT ⟨_, rfl, _, e, (by rw [List.length_map]; exact small1000 (by omega)), fun c o hc => by rw [upd_ne (ne_of_none hc hZ)]; exact s1 c o hc, qs ++ [p + 1 + (i : Int)], by rw [upd_same, List.map_append]; rfl, by rw [List.length_append]; exact Nat.succ_le_succ hl, fun x hx => ?_⟩
      rcases List.mem_append.mp hx with hx | hx
      · exact ha x hx
      · rw [List.mem_singleton.mp hx]
        exact ⟨fld_mem hq, by omega⟩
    | false => exact iteF ⟨s1, qs, e, by omega, ha⟩
  rintro H1 ⟨s1, qs, eq, hl, ha⟩
  have W1 := W.same s1
  refine ⟨fun σ H' => ∃ x12, σ = [v0, some (.ref q), some (.int p), some (.int bs.length), some (.int n), some (.ref bk), v6, some (.ref lib), some (.int k), some (.ref nw), v10, some (.ref lt), x12, some (.ref Z), v14, v15, v16, v17, v18, v19] ∧ Same H1 H', ?_, ?_⟩
  · refine ⟨_, rfl, Z, _, rfl, .inl (SqL.of eq), _, _, rfl, rfl, _, rfl, iteD (fun h => ?_) (fun h => ⟨_, rfl, Same.refl H1⟩)⟩
    rw [List.length_map] at h
    obtain ⟨x, qs', rfl⟩ : ∃ x qs', qs = x :: qs' := by
      cases qs with
      | nil => exact absurd h (by decide)
      | cons x l => exact ⟨x, l, rfl⟩
    obtain ⟨hx, hpx⟩ := ha x (List.mem_cons_self ..)
    have gx : Good x n bs := ⟨g.ne, g.pos, g.le, g.cnt, fun b hb => ⟨(g.all b hb).1, fun l hl => ⟨((g.all b hb).2 l hl).1, Int.lt_trans ((g.all b hb).2 l hl).2 hpx⟩⟩⟩
    refine ⟨_, rfl, _, rfl, Z, _, 0, .int x, rfl, rfl, SqL.of eq, atI_nat (j := 0) rfl, _, rfl, ?_⟩
    intro y dy hy hdy hne
    refine lib_new hx (.inr (s1 _ _ ebk)) (paired_mono (fun _ _ q => (q.same s1).sb) hrs) gx hy hdy hne fun H2 s2 hL2 => ⟨rfl, ?_⟩
    exact ⟨lib, .ref y, false, p, n, bs, rfl, (W1.same s2).elib, .inl ⟨y, x, n, bs, rfl, hL2, (decide_eq_false fun z => by omega).symm⟩, fun H3 s3 => ⟨_, rfl, iteF ⟨_, rfl, s2.trans s3⟩⟩⟩
  rintro σ H2 ⟨x12, rfl, s2⟩
  have s02 := s1.trans s2
  refine ⟨fun σ H' => ∃ x12, σ = [v0, some (.ref q), some (.int p), some (.int bs.length), some (.int n), some (.ref bk), v6, some (.ref lib), some (.int k), some (.ref nw), v10, some (.ref lt), x12, some (.ref Z), v14, v15, v16, v17, v18, v19] ∧ Same H2 H', ?_, ?_⟩
  · refine ⟨_, rfl, _, _, rfl, rfl, _, rfl, iteD (fun h => ?_) (fun h => ⟨_, rfl, Same.refl H2⟩)⟩
    refine ⟨_, rfl, rfl, _, rfl, _, rfl, _, _, _, rfl, ty3_int _, (fun e => by rw [mem_fld hp] at e; cases e), fun _ => ⟨p, lt, bs.flatten, 1, bs.length * n, rfl, rfl, rfl, .inl (s02 _ _ elt), by rw [fl, Nat.one_mul], Nat.le_refl 1, by decide, by omega, cn16, flat_all g, fun y H3 s3 hL3 _ => ?_⟩⟩
    refine ⟨lib, .ref y, false, p, n, bs, rfl, (W.same (s02.trans s3)).elib, .inl ⟨y, p, 1, _, rfl, hL3, (decide_eq_false fun z => ?_).symm⟩, fun H4 s4 => ⟨_, rfl, iteF ⟨_, rfl, s3.trans s4⟩⟩⟩
    have e := congrArg List.length z.2
    rw [cuts_len] at e
    have : bs.length * 2 ≤ bs.length * n := Nat.mul_le_mul_left _ (by omega)
    omega
  rintro σ H3 ⟨x12, rfl, s3⟩
  have s03 := s02.trans s3
  refine ⟨fun σ H' => ∃ x12, σ = [v0, some (.ref q), some (.int p), some (.int bs.length), some (.int n), some (.ref bk), v6, some (.ref lib), some (.int k), some (.ref nw), v10, some (.ref lt), x12, some (.ref Z), v14, v15, v16, v17, v18, v19] ∧ Same H3 H', ?_, ?_⟩
  · refine ⟨_, rfl, _, _, rfl, rfl, _, rfl, iteD (fun h => ?_) (fun h => ⟨_, rfl, Same.refl H3⟩)⟩
    refine ⟨_, rfl, _, rfl, _, rfl, (by show 1 ≤ sizeLine; decide), fun T hT => ?_⟩
    have s4 := same_new (o := .tup [.ref lt]) hT
    have eT : upd H3 T (.tup [.ref lt]) T = some (.tup [.ref lt]) := upd_same
    generalize upd H3 T (.tup [.ref lt]) = H4 at s4 eT ⊢
    have s04 := s03.trans s4
    intro y dy hy hdy hne
    refine lib_new (n := bs.length * n) (bs := [bs.flatten]) hp (.inr eT) (.cons ⟨lt, rfl, .inl (s04 _ _ elt)⟩ .nil) ⟨(fun z => nomatch z), by omega, by omega, (by show 1 ≤ 100; decide), fun b hb => ?_⟩ hy hdy hne fun H5 s5 hL5 => ⟨rfl, ?_⟩
    · rw [List.mem_singleton.mp hb]
      exact ⟨fl, flat_all g⟩
    refine ⟨lib, .ref y, false, p, n, bs, rfl, (W.same (s04.trans s5)).elib, .inl ⟨y, p, _, _, rfl, hL5, (decide_eq_false fun z => ?_).symm⟩, fun H6 s6 => ⟨_, rfl, iteF ⟨_, rfl, s4.trans (s5.trans s6)⟩⟩⟩
    have e : bs.length = 1 := congrArg List.length z.2
    omega
  rintro σ H4 ⟨x12, rfl, s4⟩
  have s04 := s03.trans s4
  exact k4 _ H4 q d bk lib nw lt p n k bs nb _ _ _ _ _ _ _ _ _ _ _ (W.same s04) g hp hk hc4 hn4 (htb.same s04) hlt (s04 _ _ elt) kk
end
end WU

set_option maxRecDepth 100000
set_option maxHeartbeats 8000000
namespace WU
open PySem PySem.Spec PyProof.Rows L2
/-- a list of letters other than D -/
def LN (D : Addr) (H : Hp) (r : V) (b : List Int) : Prop := ∃ c, r = .ref c ∧ c ≠ D ∧ H c = some (.lst (b.map V.int))
theorem LN.same {D : Addr} {H H' : Hp} {r : V} {b : List Int} (h : LN D H r b) (s : Same H H') : LN D H' r b := by
  obtain ⟨c, e, ne, h⟩ := h
  exact ⟨c, e, ne, s _ _ h⟩
theorem LN.sb {D : Addr} {H : Hp} {r : V} {b : List Int} (h : LN D H r b) : SB H r b := by
  obtain ⟨c, e, ne, h⟩ := h
  exact ⟨c, e, .inl h⟩
section
variable {P : Program} {w : World} {K : PySem.W.Frag} {mg : Str → Option Value} {base : Heap} {L : Addr} {f : Addr} {cdv : Value} {A : Around} {outer : List Env} {s : Shared} {H : Hp} {E : XK}
/-- the letters, equal libraries -/
theorem g3a (C : LC P w K mg base L) (hr : Room 10 (A.deeper (envOfC "law" (defScope sLaw) s.heap.objs.size f cdv))) :
    ∃ t, PSs (cxOf CX0 P w K mg base NL "law" (defScope sLaw) f cdv A outer s H E) (LB.drop 14) t ∧ ∀ (D : Ends) (H' : Hp) (q d bk lib nw ch : Addr) (p : Int) (n k : Nat) (bs : List (List Int)) (nb : List Int) (v0 v6 v11 v12 v13 v14 v15 v16 v17 v18 v19 : Option V),
      LW L H' q d bk lib p n bs → Good p n bs → p ∈ primes → k < bs.length → bs.length ≤ 4 → n ≤ 4 → TB H' (.ref nw) nb → Ltr p n nb → BkAt H' ch (bs.set k nb) → (∀ H'', D.rt (.bl true) H'') →
      t D [v0, some (.ref q), some (.int p), some (.int bs.length), some (.int n), some (.ref bk), v6, some (.ref lib), some (.int k), some (.ref nw), some (.ref ch), v11, v12, v13, v14, v15, v16, v17, v18, v19] H' := by
  obtain ⟨_, _, CEq⟩ := C.equ
  obtain ⟨_, _, CIs⟩ := C.is
  obtain ⟨fL, fB, fC, pO, gO, fV, fdL, fdB, fdC, fdV, M⟩ := C.lib
  obtain ⟨t4, q4, k4⟩ := g3b (outer := outer) (H := H) (E := E) C hr
  have B := C.B
  have CL := C.cL
  have MK := M.made
  have GI := M.gI
  have bI := M.bI
  have nd := scLaw.nd
  have hu := hr.units
  have hr2 := hr.mono (show 2 ≤ 10 by decide)
  have hr4 := hr.mono (show 4 ≤ 10 by decide)
  have hr7 := hr.mono (show 7 ≤ 10 by decide)
  have hr8 := hr.mono (show 8 ≤ 10 by decide)
  refine ⟨_, (pss_cons (ps_set (i := 11) nd rfl (Or.inl rfl) (pe_lst pa_nil))
    (pss_cons (ps_for (passes_of rfl) rfl (pi_tup (pv 5)) (pg_name (i := 12) nd rfl (Or.inl rfl)) (pss_one (ps_set (i := 11) nd rfl (Or.inl rfl) (pe_op op_cat (pv 11) (pe_callTy call_list_of (by rfl) B.lst (by decide +kernel) (pa_cons (pv 12) pa_nil))))))
    (pss_cons (ps_if (PW.pt (pw_or (pt_not (pt_val (pe_cal CIs hr4 (pa_cons (pe_cmethS (E := fun _ => E0) (pe_glob (v := .ref L) rfl CL.g rfl) M.o.r M.o.c M.o.F hr8 passV (pa_cons (pv 2) (pa_cons (pv 4) (pa_cons (pv 11) pa_nil)))) (pa_cons (pv 2) (pa_cons (pv 5) pa_nil))) passU))) (pw_or1 (pt_not (pt_val (pe_cal CIs hr4 (pa_cons (pv 7) (pa_cons (pv 2) (pa_cons (pv 5) pa_nil))) passU)))))) (pss_one (ps_ret pe_bl)) pss_nil)
    (pss_cons (ps_if (PW.pt (pw_or (pt_not (pt_val (pe_cal CEq hr2 (pa_cons (pv 7) (pa_cons (pe_make MK GI hr7 (by rfl) CL.g bI .nil passU (pa_cons (pv 2) (pa_cons (pe_lc (te := tCB (rLstOf K) (tCons (tVar 12) tNil)) (own := [("book", 12)]) (g := gName 12) (by rfl) nd (pi_tup (pv 5)) (blkOk_by (own := [("book", 12)]) (N := NL) (sc := defScope sLaw) (by decide +kernel)) (fun _ _ _ _ _ => pg_name (i := 12) nd rfl (Or.inl rfl)) (fun _ _ _ _ _ => pts_nil) (fun _ _ _ _ _ => (pe_callTy call_list_of (by rfl) B.lst (by decide +kernel) (pa_cons (pv 12) pa_nil)))) pa_nil))) (pa_cons pe_bl pa_nil))) passU))) (pw_or1 (pt_not (pt_val (pe_cal CEq hr2 (pa_cons (pv 7) (pa_cons (pe_make MK GI hr7 (by rfl) CL.g bI .nil passU (pa_cons (pv 2) (pa_cons (pv 10) pa_nil))) (pa_cons (pe_cmpR (op_eqD hu) (pv 10) (pv 5) (nomark _)) pa_nil))) passU)))))) (pss_one (ps_ret pe_bl)) pss_nil)
    q4)))), ?_⟩
  intro D H0 q d bk lib nw ch p n k bs nb v0 v6 v11 v12 v13 v14 v15 v16 v17 v18 v19 W g hp hk hc4 hn4 htb hlt hch kk
  have hln : ∀ b ∈ bs, b.length = n := fun b hb => (g.all b hb).1
  have pb := fld_le hp
  have fl := flat_n g
  obtain ⟨rs, ebk, hrs⟩ := id W.ebk
  obtain ⟨cs, ech, hcs⟩ := id hch
  have lrs := paired_len hrs
  have hpos : 0 < bs.length := by omega
  have cn16 : bs.length * n ≤ 16 := Nat.mul_le_mul hc4 hn4
  refine ⟨(by show 0 ≤ sizeLine; decide), fun l0 hl0 => ?_⟩
  have s0 := same_new (o := .lst []) hl0
  have e0 : upd H0 l0 (.lst []) l0 = some (.lst []) := upd_same
  generalize upd H0 l0 (.lst []) = H1 at s0 e0 ⊢
  refine ⟨_, rfl, bk, rfl, ⟨_, SqT.of (s0 _ _ ebk)⟩, for_tup (K := K) (a := bk) (xs := rs) (fun i σ H' => ∃ lt x12, σ = [v0, some (.ref q), some (.int p), some (.int bs.length), some (.int n), some (.ref bk), v6, some (.ref lib), some (.int k), some (.ref nw), some (.ref ch), some (.ref lt), x12, v13, v14, v15, v16, v17, v18, v19] ∧ Same H0 H' ∧ H' lt = some (.lst ((bs.take i).flatten.map V.int))) ⟨l0, _, rfl, s0, e0⟩ (fun i σ H' _ z => by obtain ⟨lt, x, _, s', _⟩ := z; exact SqT.of (s' _ _ ebk)) ?_ ?_⟩
  · rintro i x σ H2 hi ⟨lt, x12, rfl, s2, e2⟩
    obtain ⟨b, hb, c, rfl, ec⟩ := paired_at hrs hi
    have hbl : b.length = n := hln b (List.mem_of_getElem? hb)
    have fl2 : ((bs.take i).flatten).length ≤ 16 := by
      rw [flat_len (n := n) fun d hd => hln d (List.mem_of_mem_take hd), List.length_take]
      exact Nat.mul_le_mul (Nat.le_trans (Nat.min_le_right _ _) hc4) hn4
    refine ⟨_, rfl, _, rfl, c, _, rfl, .inr (SqT.of (s2 _ _ ec)), fun l hl => ?_⟩
    have s3 := same_new (o := .lst (b.map V.int)) hl
    refine ⟨lt, l, _, _, rfl, rfl, s3 _ _ e2, upd_same, ?_, fun l2 hl2 => ?_⟩
    · rw [List.length_map, List.length_map, hbl]
      exact Nat.le_trans (Nat.add_le_add fl2 hn4) (by decide)
    · refine ⟨l2, _, rfl, s2.trans (s3.trans (same_new hl2)), ?_⟩
      rw [upd_same, List.take_succ, hb, ← List.map_append]
      simp
  rintro σ H2 ⟨lt, x12, rfl, s2, e2⟩
  rw [lrs, List.take_length] at e2
  have W2 := W.same s2
  refine ⟨rfl, _, rfl, _, rfl, _, rfl, _, _, _, rfl, ty3_int _, (fun e => by rw [mem_fld hp] at e; cases e), fun _ => ⟨p, lt, bs.flatten, n, bs.length, rfl, rfl, rfl, .inl e2, by rw [fl, Nat.mul_comm], g.pos, hn4, by omega, by omega, flat_all g, fun y H3 s3 hL3 _ => ?_⟩⟩
  rw [cuts_flat hln] at hL3
  have W3 := W2.same s3
  refine ⟨_, rfl, _, rfl, y, bk, p, n, bs, rfl, hL3, g, W3.ebk, fun H4 s4 => ⟨_, rfl, iteF ?_⟩⟩
  have W4 := W3.same s4
  refine ⟨_, rfl, _, rfl, _, rfl, lib, bk, p, n, bs, rfl, W4.elib, g, W4.ebk, fun H5 s5 => ⟨_, rfl, iteF ?_⟩⟩
  have s05 := s2.trans (s3.trans (s4.trans s5))
  have ebk5 := s05 _ _ ebk
  refine ⟨_, rfl, _, rfl, _, rfl, bk, rfl, ⟨_, SqT.of ebk5⟩, fun D2 hD2 => lc_tup (K := K) (a := bk) (xs := rs) (fun i H' => Same H5 H' ∧ ∃ ts, H' D2 = some (.lst ts) ∧ Paired (LN D2 H') ts (bs.take i)) ⟨same_new hD2, [], upd_same, .nil⟩ (fun i H' _ z => SqT.of (z.1 _ _ ebk5)) ?_ ?_⟩
  · rintro i x H6 hi ⟨s6, ts, eD, hts⟩
    obtain ⟨b, hb, c, rfl, ec⟩ := paired_at hrs hi
    refine ⟨rfl, _, rfl, c, _, rfl, .inr (SqT.of (s6 _ _ (s05 _ _ ec))), fun l hl => ?_⟩
    have s7 := same_new (o := .lst (b.map V.int)) hl
    have e7 : upd H6 l (.lst (b.map V.int)) l = some (.lst (b.map V.int)) := upd_same
    have nlD : l ≠ D2 := fun z => by rw [z, eD] at hl; cases hl
    have eD7 := s7 _ _ eD
    generalize upd H6 l (.lst (b.map V.int)) = H7 at s7 e7 eD7 ⊢
    refine ⟨ts, eD7, ?_, fun z o hz => ?_, ts ++ [.ref l], upd_same, ?_⟩
    · rw [paired_len hts, List.length_take]
      exact small1000 (Nat.le_trans (Nat.min_le_right _ _) (by omega))
    · rw [upd_ne (ne_of_none hz hD2)]
      exact s7 _ _ (s6 _ _ hz)
    · rw [List.take_succ, hb]
      have up : ∀ {o : HO} {r : V} {b : List Int}, LN D2 H7 r b → LN D2 (upd H7 D2 o) r b := fun h => by
        obtain ⟨c, e, ne, h⟩ := h
        exact ⟨c, e, ne, by rw [upd_ne ne]; exact h⟩
      exact paired_app (paired_mono (fun _ _ q => up (q.same s7)) hts) (.cons (up ⟨l, rfl, nlD, e7⟩) .nil)
  rintro H6 ⟨s6, ts, eD, hts⟩
  rw [lrs, List.take_length] at hts
  intro y2 dy2 hy2 hdy2 hne2
  refine lib_new hp (.inl eD) (paired_mono (fun _ _ q => q.sb) hts) g hy2 hdy2 hne2 fun H7 s7 hL7 => ⟨rfl, ?_⟩
  have W7 := ((W4.same s5).same s6).same s7
  refine ⟨lib, .ref y2, true, p, n, bs, rfl, W7.elib, .inl ⟨y2, p, n, bs, rfl, hL7, (decide_eq_true ⟨rfl, rfl⟩).symm⟩, fun H8 s8 => ⟨_, rfl, iteF ?_⟩⟩
  have s08 := s05.trans (s6.trans (s7.trans s8))
  have hcs8 : Paired (TB H8) cs (bs.set k nb) := paired_mono (fun _ _ q => q.same s08) hcs
  refine ⟨_, rfl, _, rfl, _, rfl, ?_⟩
  intro y3 dy3 hy3 hdy3 hne3
  refine lib_new hp (.inr (s08 _ _ ech)) (paired_mono (fun _ _ q => q.sb) hcs8) (good_set g hlt) hy3 hdy3 hne3 fun H9 s9 hL9 => ⟨rfl, ?_⟩
  have s09 := s08.trans s9
  refine ⟨_, rfl, _, rfl, shelfD (bs.set k nb), shelfD bs, dp_shelf (s09 _ _ ech) (paired_mono (fun _ _ q => q.same s09) hcs), dp_shelf (s09 _ _ ebk) (paired_mono (fun _ _ q => q.same s09) hrs), shaped_shelf _, shaped_shelf _, ?_⟩
  rw [eqv_shelf]
  refine ⟨lib, .ref y3, _, p, n, bs, rfl, (W.same s09).elib, .inl ⟨y3, p, n, _, rfl, hL9, ?_⟩, fun H10 s10 => ⟨_, rfl, iteF ?_⟩⟩
  · rw [decide_eq_decide]
    exact ⟨fun z => ⟨rfl, z.symm⟩, fun z => z.2.symm⟩
  have s010 := s09.trans s10
  exact k4 _ H10 q d bk lib nw lt p n k bs nb _ _ _ _ _ _ _ _ _ _ _ (W.same s010) g hp hk hc4 hn4 (htb.same s010) hlt ((s3.trans (s4.trans (s5.trans (s6.trans (s7.trans (s8.trans (s9.trans s10))))))) _ _ e2) kk
end
end WU

set_option maxRecDepth 100000
set_option maxHeartbeats 8000000
namespace WU
open PySem PySem.Spec PyProof.Rows L2
theorem int_inj : ∀ {b c : List Int}, b.map V.int = c.map V.int → b = c
  | [], [], _ => rfl
  | [], _ :: _, h => by cases h
  | _ :: _, [], h => by cases h
  | x :: b, y :: c, h => by
    obtain ⟨h1, h2⟩ := List.cons.inj h
    rw [V.int.inj h1, int_inj h2]
theorem sb_uniq {H : Hp} {l : Addr} {b c : List Int} (h : SB H (.ref l) b) (e : H l = some (.lst (c.map V.int))) : b = c := by
  obtain ⟨a, ea, h⟩ := h
  cases ea
  rcases h with h | h
  · rw [e] at h
    exact (int_inj (HO.lst.inj (Option.some.inj h))).symm
  · rw [e] at h
    cases h
section
variable {P : Program} {w : World} {K : PySem.W.Frag} {mg : Str → Option Value} {base : Heap} {L : Addr} {f : Addr} {cdv : Value} {A : Around} {outer : List Env} {s : Shared} {H : Hp} {E : XK}
/-- book, changed -/
theorem g2 (C : LC P w K mg base L) (hr : Room 10 (A.deeper (envOfC "law" (defScope sLaw) s.heap.objs.size f cdv))) :
    ∃ t, PSs (cxOf CX0 P w K mg base NL "law" (defScope sLaw) f cdv A outer s H E) (LB.drop 9) t ∧ ∀ (D : Ends) (H' : Hp) (q d bk lib : Addr) (p : Int) (n : Nat) (bs : List (List Int)) (v0 v6 v8 v9 v10 v11 v12 v13 v14 v15 v16 v17 v18 v19 : Option V),
      LW L H' q d bk lib p n bs → Good p n bs → p ∈ primes → bs.length ≤ 4 → n ≤ 4 → (∀ H'', D.rt (.bl true) H'') →
      t D [v0, some (.ref q), some (.int p), some (.int bs.length), some (.int n), some (.ref bk), v6, some (.ref lib), v8, v9, v10, v11, v12, v13, v14, v15, v16, v17, v18, v19] H' := by
  obtain ⟨_, _, CT⟩ := C.take
  obtain ⟨_, _, CBk⟩ := C.books
  obtain ⟨_, _, CSm⟩ := C.same
  obtain ⟨_, _, CIs⟩ := C.is
  obtain ⟨fL, fB, fC, pO, gO, fV, fdL, fdB, fdC, fdV, M⟩ := C.lib
  obtain ⟨t4, q4, k4⟩ := g3a (outer := outer) (H := H) (E := E) C hr
  have B := C.B
  have CL := C.cL
  have MK := M.made
  have GI := M.gI
  have bI := M.bI
  have nd := scLaw.nd
  have hr1 := hr.mono (show 1 ≤ 10 by decide)
  have hr2 := hr.mono (show 2 ≤ 10 by decide)
  have hr3 := hr.mono (show 3 ≤ 10 by decide)
  have hr4 := hr.mono (show 4 ≤ 10 by decide)
  have hr5 := hr.mono (show 5 ≤ 10 by decide)
  have hr7 := hr.mono (show 7 ≤ 10 by decide)
  have hr8 := hr.mono (show 8 ≤ 10 by decide)
  refine ⟨_, (pss_cons (ps_if (PW.pt (pw_or (pt_not (pt_val (pe_cal CIs hr4 (pa_cons (pv 7) (pa_cons (pv 2) (pa_cons (pv 5) pa_nil))) passU))) (pw_or1 (pt_not (pt_val (pe_cal CIs hr4 (pa_cons (pe_make MK GI hr7 (by rfl) CL.g bI .nil passU (pa_cons (pv 2) (pa_cons (pv 5) pa_nil))) (pa_cons (pv 2) (pa_cons (pv 5) pa_nil))) passU)))))) (pss_one (ps_ret pe_bl)) pss_nil)
    (pss_cons (ps_set (i := 8) nd rfl (Or.inl rfl) (pe_cal CT hr1 (pa_cons (pv 1) (pa_cons (pv 3) pa_nil)) passU))
    (pss_cons (ps_set (i := 9) nd rfl (Or.inl rfl) (pe_ix ix_tup (pe_cal CBk hr2 (pa_cons (pv 1) (pa_cons (pv 2) (pa_cons pe_int (pa_cons (pv 4) pa_nil)))) passU) pe_int (fun _ _ => rfl)))
    (pss_cons (ps_set (i := 10) nd rfl (Or.inl rfl) (pe_op op_catA (pe_op op_catA (pe_slice sl_tupA (pv 5) po_none (po_some (pv 8))) (pe_tup (pa_cons (pv 9) pa_nil))) (pe_slice sl_tupA (pv 5) (po_some (pe_op op_add (pv 8) pe_int)) po_none)))
    (pss_cons (ps_if (PW.pt (pw_or (pt_not (pt_val (pe_cal CSm hr3 (pa_cons (pe_methSD (E := fun _ => E0) (pv 7) CL.cl M.mB M.gB hr5 M.bB .nil passV (pa_cons (pv 8) pa_nil)) (pa_cons (pe_ix ix_tup (pv 5) (pv 8) (fun _ _ => rfl)) pa_nil)) passU))) (pw_or1 (pt_not (pt_val (pe_cal CIs hr4 (pa_cons (pe_methSD (E := fun _ => E0) (pv 7) CL.cl M.mC M.gC hr8 M.bC .nil passV (pa_cons (pv 8) (pa_cons (pe_callTy call_list_of (by rfl) B.lst (by decide +kernel) (pa_cons (pv 9) pa_nil)) pa_nil))) (pa_cons (pv 2) (pa_cons (pv 10) pa_nil))) passU)))))) (pss_one (ps_ret pe_bl)) pss_nil)
    q4))))), ?_⟩
  intro D H0 q d bk lib p n bs v0 v6 v8 v9 v10 v11 v12 v13 v14 v15 v16 v17 v18 v19 W g hp hc4 hn4 kk
  have hpos : 0 < bs.length := List.length_pos_iff.mpr g.ne
  have pb := fld_le hp
  refine ⟨_, rfl, _, rfl, _, rfl, lib, bk, p, n, bs, rfl, W.elib, g, W.ebk, fun H1 s1 => ⟨_, rfl, iteF ?_⟩⟩
  have W1 := W.same s1
  obtain ⟨rs1, ebk1, hrs1⟩ := id W1.ebk
  refine ⟨_, rfl, _, rfl, ?_⟩
  intro y dy hy hdy hne
  refine lib_new hp (.inr ebk1) (paired_mono (fun _ _ q => q.sb) hrs1) g hy hdy hne fun H2 s2 hL2 => ⟨rfl, ?_⟩
  have W2 := W1.same s2
  refine ⟨_, rfl, _, rfl, y, bk, p, n, bs, rfl, hL2, g, W2.ebk, fun H3 s3 => ⟨_, rfl, iteF ?_⟩⟩
  have W3 := W2.same s3
  clear hy hdy hne
  -- at
  refine ⟨_, rfl, _, rfl, q, d, bs.length, rfl, by omega, W3.hand, fun r H4 r0 r1 h4 k4' => ?_⟩
  have W4 := W3.take k4' h4
  obtain ⟨k, rfl⟩ : ∃ k : Nat, r = (k : Int) := ⟨r.toNat, by omega⟩
  have hk : k < bs.length := by omega
  -- new
  refine ⟨_, rfl, _, rfl, _, rfl, q, d, p, 1, n, rfl, h4, by omega, by decide, g.le, fun rb nbs H5 hbk hlen hall h5 k5 => ?_⟩
  have W5 := W4.take k5 h5
  obtain ⟨rsb, eb, hPb⟩ := hbk
  obtain ⟨nb, rfl⟩ : ∃ nb, nbs = [nb] := by
    cases nbs with
    | nil => cases hlen
    | cons x l => cases l with
      | nil => exact ⟨x, rfl⟩
      | cons y l => cases hlen
  obtain ⟨rw0, er0, tb5⟩ := paired_of hPb (i := 0) (y := nb) rfl
  obtain ⟨nw, rfl, enw⟩ := id tb5
  have hlt := hall nb (List.mem_singleton.mpr rfl)
  refine ⟨rb, rsb, 0, _, rfl, rfl, SqT.of eb, atI_nat (j := 0) er0, ?_⟩
  -- changed
  obtain ⟨rs, ebk, hrs⟩ := id W5.ebk
  have lrs := paired_len hrs
  refine ⟨_, rfl, _, rfl, (k : Int), rfl, ?_⟩
  refine slA_is ebk fun r1 H6 s6 e6 => ?_
  rw [cut_to (by omega)] at e6
  refine ⟨_, rfl, (by show 1 ≤ sizeLine; decide), fun T hT => ?_⟩
  have s7 := same_new (o := .tup [.ref nw]) hT
  have e7 : upd H6 T (.tup [.ref nw]) T = some (.tup [.ref nw]) := upd_same
  generalize upd H6 T (.tup [.ref nw]) = H7 at s7 e7 ⊢
  refine catA_is (s7 _ _ e6) e7 ?_ fun r2 H8 s8 e8 => ?_
  · rw [List.length_take]
    exact Nat.le_trans (Nat.add_le_add (Nat.le_trans (Nat.min_le_left _ _) (show k ≤ 100 by omega)) (show 1 ≤ 1 from Nat.le_refl 1)) (by decide)
  have s58 := s6.trans (s7.trans s8)
  refine ⟨_, rfl, _, rfl, (k : Int), 1, rfl, rfl, _, rfl, ?_⟩
  dsimp only [tNoPart]
  refine slA_is (s58 _ _ ebk) fun r3 H9 s9 e9 => ?_
  rw [show ((k : Int) + 1) = ((k + 1 : Nat) : Int) from rfl, cut_from (by omega)] at e9
  have lens : (rs.take k ++ [V.ref nw]).length + (rs.drop (k + 1)).length = bs.length := by
    rw [List.length_append, List.length_take, List.length_drop, lrs]
    show min k bs.length + 1 + (bs.length - (k + 1)) = bs.length
    omega
  refine catA_is (s9 _ _ e8) e9 (by rw [lens]; exact Nat.le_trans hc4 (by decide)) fun ch H10 s10 e10 => ?_
  have s510 := s58.trans (s9.trans s10)
  have W10 := W5.same s510
  have tb10 := tb5.same s510
  have hch : BkAt H10 ch (bs.set k nb) := by
    refine ⟨_, e10, ?_⟩
    rw [← set_cut bs hk nb, List.append_assoc]
    have hrs10 : Paired (TB H10) rs bs := paired_mono (fun _ _ q => q.same s510) hrs
    exact paired_app (paired_take k hrs10) (paired_app (.cons tb10 .nil) (paired_drop (k + 1) hrs10))
  have ebk10 := s510 _ _ ebk
  have hrs10 : Paired (TB H10) rs bs := paired_mono (fun _ _ q => q.same s510) hrs
  -- library.book(at)
  obtain ⟨dx, la, tl, ls, h1, h2, h3, h4'⟩ := id W10.elib
  have noA : ∀ {m : Str}, ¬ m = "letters" → ¬ m = "book_length" → ¬ m = "book_count" → ¬ m = "books" → ¬ m = "p" → (lf p la bs.length n tl).lookup m = none := lf_no
  have hbel : isBel bs.length (.int k) = true := by
    show (decide ((0 : Int) ≤ k) && decide ((k : Int) < (bs.length : Int))) = true
    rw [decide_eq_true (show (0 : Int) ≤ k by omega), decide_eq_true (show (k : Int) < (bs.length : Int) by omega)]
    rfl
  obtain ⟨b, hbk'⟩ : ∃ b, bs[k]? = some b := ⟨_, List.getElem?_eq_getElem hk⟩
  obtain ⟨rk, hrk, tbk⟩ := paired_of hrs10 hbk'
  have blen : b.length ≤ 10000 := by rw [(g.all b (List.mem_of_getElem? hbk')).1]; omega
  refine ⟨_, rfl, lib, dx, _, rfl, h1, noA (by decide +kernel) (by decide +kernel) (by decide +kernel) (by decide +kernel) (by decide +kernel), _, rfl, lib, .int k, p, n, bs, rfl, W10.elib, ty3_int _, (fun e => by rw [hbel] at e; cases e), fun _ => ⟨k, b, rfl, hbk', fun r hr' => ?_⟩⟩
  refine ⟨_, rfl, _, rfl, bk, rs, (k : Int), _, rfl, rfl, SqT.of ebk10, atI_nat hrk, _, _, rfl, eq_row hr' tbk blen, _, rfl, iteF ?_⟩
  -- library.changed(at, list(new))
  obtain ⟨_, enw', hnw⟩ := id tb10
  cases enw'
  refine ⟨_, rfl, lib, dx, _, rfl, h1, noA (by decide +kernel) (by decide +kernel) (by decide +kernel) (by decide +kernel) (by decide +kernel), _, rfl, _, rfl, nw, _, rfl, .inr (SqT.of hnw), fun l hl => ?_⟩
  have s11 := same_new (o := .lst (nb.map V.int)) hl
  have e11 : upd H10 l (.lst (nb.map V.int)) l = some (.lst (nb.map V.int)) := upd_same
  generalize upd H10 l (.lst (nb.map V.int)) = H11 at s11 e11 ⊢
  have W11 := W10.same s11
  obtain ⟨bd, dpb, smb, ltb, _, _⟩ := sb_dp (K := K) (show SB H11 (.ref l) nb from ⟨l, rfl, .inl e11⟩) hlt g.le
  refine ⟨lib, .int k, .ref l, bd, p, n, bs, rfl, W11.elib, ty3_int _, dpb, smb, fun _ => ⟨nb, ⟨l, rfl, .inl e11⟩, hlt⟩, hp, g, (fun e => by rw [hbel] at e; cases e), (fun _ e => by rw [ltb] at e; cases e), fun k' b' ek hk' hsb' hlt' y' H12 s12 hL12 => ?_⟩
  have : k = k' := by have := V.int.inj ek; omega
  subst this
  have hb' := sb_uniq hsb' e11
  subst hb'
  have s1012 := s11.trans s12
  refine ⟨_, rfl, _, rfl, y', ch, p, n, _, rfl, hL12, good_set g hlt, hch.same s1012, fun H13 s13 => ⟨_, rfl, iteF ?_⟩⟩
  have s1013 := s1012.trans s13
  exact k4 _ H13 q d bk lib nw ch p n k bs b' _ _ _ _ _ _ _ _ _ _ _ (W10.same s1013) g hp hk hc4 hn4 (tb10.same s1013) hlt (hch.same s1013) kk
end
end WU

set_option maxRecDepth 100000
set_option maxHeartbeats 8000000
namespace WU
open PySem PySem.Spec PyProof.Rows L2
theorem ixn0 {n : Nat} (h : 0 < n) : ixN n ((0 : Nat) : Int) = some 0 := by
  unfold ixN
  rw [if_pos (by omega), if_pos (by omega)]
  rfl
section
variable {P : Program} {w : World} {K : PySem.W.Frag} {mg : Str → Option Value} {base : Heap} {L : Addr}
def spLaw (K : PySem.W.Frag) : Sp := fun vs H Q _ => ∃ (a : Addr) (ns : List Int), vs = [.ref a] ∧ SqL K H a (ns.map V.int) ∧ ns.length ≤ 63 ∧ ∀ H', Q (.bl true) H'
theorem ok_Law {f : Addr} {fd : FuncData} (F : FnS K "law" sLaw f fd) (C : LC P w K mg base L) : FnOk P w K mg base CX0 11 f fd ["script"] (spLaw K) := by
  refine F.ok scLaw (fun vs H Q E h => ?_) (fun cdv A outer s H vs Q E hr h => ?_)
  · obtain ⟨a, ns, rfl, _⟩ := h
    rfl
  · obtain ⟨a0, ns, rfl, hS, hl, k⟩ := h
    have nd := scLaw.nd
    have B := C.B
    obtain ⟨_, _, CD⟩ := C.draws
    obtain ⟨_, _, CT⟩ := C.take
    obtain ⟨_, _, CF⟩ := C.field
    obtain ⟨_, _, CBk⟩ := C.books
    obtain ⟨fL, fB, fC, pO, gO, fV, fdL, fdB, fdC, fdV, M⟩ := C.lib
    have CL := C.cL
    have MK := M.made
    have GI := M.gI
    have bI := M.bI
    obtain ⟨t2, q2, k2'⟩ := g2 (outer := outer) (H := H) (E := E) C hr
    have hr1 := hr.mono (show 1 ≤ 10 by decide)
    have hr2 := hr.mono (show 2 ≤ 10 by decide)
    have hr7 := hr.mono (show 7 ≤ 10 by decide)
    refine ⟨_, (pss_cons (ps_set (i := 1) nd rfl (Or.inl rfl) (pe_lst (pa_cons (pe_cal CD hr1 (pa_cons (pv 0) (pa_cons pe_int pa_nil)) passU) (pa_cons pe_int pa_nil))))
      (pss_cons (ps_set (i := 2) nd rfl (Or.inl rfl) (pe_cal CF hr2 (pa_cons (pv 1) pa_nil) passU))
      (pss_cons (ps_set (i := 3) nd rfl (Or.inl rfl) (pe_op op_add pe_int (pe_cal CT hr1 (pa_cons (pv 1) (pa_cons pe_int pa_nil)) passU)))
      (pss_cons (ps_set (i := 4) nd rfl (Or.inl rfl) (pe_op op_add pe_int (pe_cal CT hr1 (pa_cons (pv 1) (pa_cons pe_int pa_nil)) passU)))
      (pss_cons (ps_set (i := 5) nd rfl (Or.inl rfl) (pe_cal CBk hr2 (pa_cons (pv 1) (pa_cons (pv 2) (pa_cons (pv 3) (pa_cons (pv 4) pa_nil)))) passU))
      (pss_cons (ps_setLc (te := tCB (rLstOf K) (tCons (tVar 12) tNil)) (i := 6) (own := [("book", 12)]) (g := gName 12) (by rfl) nd rfl rfl (sw_true rfl rfl rfl (by decide +kernel)) (pi_tup (pv 5)) (blkOk_by (own := [("book", 12)]) (N := NL) (sc := defScope sLaw) (by decide +kernel)) (fun _ _ _ _ _ => pg_name (i := 12) nd rfl (Or.inl rfl)) (fun _ _ _ _ _ => pts_nil) (fun _ _ _ _ _ => (pe_callTy call_list_of (by rfl) B.lst (by decide +kernel) (pa_cons (pv 12) pa_nil))))
      (pss_cons (ps_set (i := 7) nd rfl (Or.inl rfl) (pe_make MK GI hr7 (by rfl) CL.g bI .nil passU (pa_cons (pv 2) (pa_cons (pv 6) pa_nil))))
      (pss_cons (ps_asg (pe_op op_add (pv 2) pe_int) (pg_sub (pe_ix ix_list (pv 6) pe_int (fun _ _ => rfl)) pe_int set_list))
      (pss_cons (ps_expr (pe_bm PySem.F.plainAttrs_list PySem.F.slot_list_append PySem.F.type_list_append mt_append (pv 6) (pa_cons (pe_lst (pa_cons pe_int pa_nil)) pa_nil)))
      q2))))))))), ?_⟩
    refine ⟨_, rfl, a0, ns, rfl, hS, hl, fun d ds H1 s1 nd1 e1 nn ln => ⟨(by show 2 ≤ sizeLine; decide), fun q hq => ?_⟩⟩
    have hH2 : HandAt (upd H1 q (.lst [.ref d, .int 0])) q d := ⟨ds, 0, upd_same, by rw [upd_ne (ne_of_none e1 hq)]; exact e1, nn, by decide⟩
    refine ⟨_, rfl, q, d, rfl, hH2, fun p H3 hp h3 k3 => ?_⟩
    have hb := fld_le hp
    refine ⟨_, rfl, q, d, 4, rfl, by decide, h3, fun r H4 r0 r1 h4 k4 => ⟨_, _, rfl, rfl, ?_⟩⟩
    refine ⟨_, rfl, q, d, 4, rfl, by decide, h4, fun r' H5 r0' r1' h5 k5 => ⟨_, _, rfl, rfl, ?_⟩⟩
    dsimp only
    obtain ⟨c, ec, hc1, hc3⟩ : ∃ c : Nat, 1 + r = (c : Int) ∧ 1 ≤ c ∧ c ≤ 4 := ⟨(1 + r).toNat, by omega, by omega, by omega⟩
    obtain ⟨n, en, hn1, hn3⟩ : ∃ n : Nat, 1 + r' = (n : Int) ∧ 1 ≤ n ∧ n ≤ 4 := ⟨(1 + r').toNat, by omega, by omega, by omega⟩
    rw [ec, en]
    refine ⟨_, rfl, _, rfl, _, rfl, _, rfl, q, d, p, c, n, rfl, h5, by omega, by omega, by omega, fun bk bs H6 hbk hlen hall h6 k6 => ?_⟩
    subst hlen
    have gd : Good p n bs := ⟨fun z => by rw [z] at hc1; exact absurd hc1 (by decide), by omega, by omega, by omega, hall⟩
    obtain ⟨rs, ebk, hrs⟩ := id hbk
    have lrs := paired_len hrs
    -- passed
    refine ⟨_, rfl, bk, rfl, ⟨_, SqT.of ebk⟩, fun D2 hD2 => lc_tup (K := K) (a := bk) (xs := rs) (fun i H' => Same H6 H' ∧ ∃ ts, H' D2 = some (.lst ts) ∧ Paired (fun r b => LN D2 H' r b ∧ ∃ c, r = .ref c ∧ H6 c = none) ts (bs.take i)) ⟨same_new hD2, [], upd_same, .nil⟩ (fun i H' _ z => SqT.of (z.1 _ _ ebk)) ?_ ?_⟩
    · rintro i x H7 hi ⟨s7, ts, eD, hts⟩
      obtain ⟨b, hbb, cc, rfl, ecc⟩ := paired_at hrs hi
      refine ⟨rfl, _, rfl, cc, _, rfl, .inr (SqT.of (s7 _ _ ecc)), fun l hl => ?_⟩
      have s8 := same_new (o := .lst (b.map V.int)) hl
      have e8 : upd H7 l (.lst (b.map V.int)) l = some (.lst (b.map V.int)) := upd_same
      have nlD : l ≠ D2 := fun z => by rw [z, eD] at hl; cases hl
      have nl6 : H6 l = none := s7.free hl
      have eD8 := s8 _ _ eD
      generalize upd H7 l (.lst (b.map V.int)) = H8 at s8 e8 eD8 ⊢
      refine ⟨ts, eD8, ?_, fun z o hz => ?_, ts ++ [.ref l], upd_same, ?_⟩
      · rw [paired_len hts, List.length_take]
        exact small1000 (Nat.le_trans (Nat.min_le_right _ _) (by omega))
      · rw [upd_ne (ne_of_none hz hD2)]
        exact s8 _ _ (s7 _ _ hz)
      · rw [List.take_succ, hbb]
        have up : ∀ {o : HO} {r : V} {b : List Int}, LN D2 H8 r b → LN D2 (upd H8 D2 o) r b := fun h => by
          obtain ⟨c, e, ne, h⟩ := h
          exact ⟨c, e, ne, by rw [upd_ne ne]; exact h⟩
        exact paired_app (paired_mono (fun _ _ q => ⟨up (q.1.same s8), q.2⟩) hts) (.cons ⟨up ⟨l, rfl, nlD, e8⟩, l, rfl, nl6⟩ .nil)
    rintro H7 ⟨s7, ts, eD, hts⟩
    rw [lrs, List.take_length] at hts
    -- library
    refine ⟨_, rfl, _, rfl, ?_⟩
    intro lib dl hlib hdl hne
    refine lib_new hp (.inl eD) (paired_mono (fun _ _ q => q.1.sb) hts) gd hlib hdl hne fun H8 s8 hL8 => ⟨rfl, ?_⟩
    clear hlib hdl hne
    have s68 := s7.trans s8
    have h8 := h6.same s68
    have hbk8 := hbk.same s68
    have eD8 := s8 _ _ eD
    have hts8 : Paired (fun r b => LN D2 H8 r b ∧ ∃ c, r = .ref c ∧ H6 c = none) ts bs := paired_mono (fun _ _ q => ⟨q.1.same s8, q.2⟩) hts
    obtain ⟨b0, eb0⟩ : ∃ b0, bs[0]? = some b0 := ⟨_, List.getElem?_eq_getElem (show 0 < bs.length by omega)⟩
    obtain ⟨r0', er0, ⟨c0, rfl, nc0, ec0⟩, _, ez0, hc06⟩ := paired_of hts8 eb0
    cases ez0
    have bl0 : b0.length = n := (hall b0 (List.mem_of_getElem? eb0)).1
    obtain ⟨x0, b0', rfl⟩ : ∃ x b', b0 = x :: b' := by
      cases b0 with
      | nil => exact absurd bl0 (by show 0 ≠ n; omega)
      | cons x l => exact ⟨x, l, rfl⟩
    -- passed[0][0] = p + 1
    refine ⟨_, rfl, _, _, rfl, rfl, _, rfl, D2, _, 0, .ref c0, rfl, rfl, SqL.of eD8, atI_nat (j := 0) er0, c0, _, ((0 : Nat) : Int), 0, rfl, rfl, ec0, ixn0 (by rw [List.length_map, List.length_cons]; omega), ?_⟩
    have nq0 : q ≠ c0 := (h6.ne hc06).1
    have nd0 : d ≠ c0 := (h6.ne hc06).2
    have h9 := h8.put (o := .lst (((x0 :: b0').map V.int).set 0 (.int (p + 1)))) nq0 nd0
    have hbk9 := hbk8.lset (o := .lst (((x0 :: b0').map V.int).set 0 (.int (p + 1)))) ec0
    have hL9 := hL8.lset (o := .lst (((x0 :: b0').map V.int).set 0 (.int (p + 1)))) ec0
    have eD9 : upd H8 c0 (.lst (((x0 :: b0').map V.int).set 0 (.int (p + 1)))) D2 = some (.lst ts) := by rw [upd_ne (Ne.symm nc0)]; exact eD8
    generalize upd H8 c0 (.lst (((x0 :: b0').map V.int).set 0 (.int (p + 1)))) = H9 at h9 hbk9 hL9 eD9 ⊢
    -- passed.append([0])
    refine ⟨_, rfl, .inl ⟨rfl, _, SqL.of eD9⟩, (by show 1 ≤ sizeLine; decide), fun Z hZ => ?_⟩
    have sZ := same_new (o := .lst [.int 0]) hZ
    have h10 := h9.same sZ
    have hbk10 := hbk9.same sZ
    have hL10 := hL9.same sZ
    have eD10 := sZ _ _ eD9
    generalize upd H9 Z (.lst [.int 0]) = H10 at h10 hbk10 hL10 eD10 ⊢
    have nqD : q ≠ D2 := (h6.ne hD2).1
    have ndD : d ≠ D2 := (h6.ne hD2).2
    refine ⟨D2, _, _, rfl, rfl, eD10, ?_, ?_⟩
    · rw [paired_len hts8]
      exact small1000 (by omega)
    exact k2' _ _ q d bk lib p n bs _ _ _ _ _ _ _ _ _ _ _ _ _ _ ⟨h10.put nqD ndD, hbk10.lset eD10, hL10.lset eD10⟩ gd hp hc3 hn3 k
end
end WU

set_option maxRecDepth 100000
set_option maxHeartbeats 0
namespace WU
open PySem PySem.Spec PyProof.Rows L2
def dG (x : Str) (i : Nat) : He.DefD := ⟨(x, none), x, x, defArgs (top i), defBody (top i), defScope (top i), [], []⟩
def dM (c m : Str) (i j : Nat) (q : Str) (ds : List He.Dv) : He.DefD := ⟨(c, some m), m, q, defArgs (inClass (top i) j), defBody (inClass (top i) j), defScope (inClass (top i) j), ds, []⟩
def fn : List He.DefD := ([dG "is_integer" 5, dG "is_number" 6, dG "is_below" 7, dG "is_sequence" 8, dG "are_letters" 9, dG "rows_below" 10, dG "is_field" 13, dG "check_field" 14, dG "every_library" 17, dG "are_books" 18, dG "letters_of" 19, dG "cut_in_books" 20, dG "_law_draws" 22, dG "_law_take" 23, dG "_law_odd" 24, dG "_law_is_field" 25] : List He.DefD) ++ ([dG "_law_field" 26, dG "_law_no_field" 27, dG "_law_books" 28, dG "_law_same" 29, dG "_law_is_library" 30, dG "_law_told" 31, dG "_law_bad_book" 32, dG "_law_bad_books" 33, dG "_law_equal" 34, dG "_law_every" 35, dG "law" 36, dM "InvalidNumber" "__init__" 2 0 "InvalidNumber.__init__" [], dM "InvalidLibrary" "__init__" 3 0 "InvalidLibrary.__init__" [], dM "Library" "__init__" 16 0 "Library.__init__" [], dM "Library" "__eq__" 16 1 "Library.__eq__" [], dM "Library" "book" 16 2 "Library.book" []] : List He.DefD) ++ ([dM "Library" "changed" 16 3 "Library.changed" [], dM "Library" "_check_book" 16 5 "Library._check_book" []] : List He.DefD)
/-- the classmethod's def -/
def dOL : He5.DefA := { at_ := fun K => He5.wf K (He.ga K "Library") "classmethod" "of_letters", name := "of_letters", qual := "Library.of_letters", params := defArgs sOL, body := defBody sOL, scope := defScope sOL }
def frees : List Str := ["isinstance", "int", "bool", "len", "abs", "range", "tuple", "list", "all"]
def globs : List Str := ["is_integer", "is_number", "is_below", "is_sequence", "are_letters", "rows_below", "is_field", "check_field", "every_library", "are_books", "letters_of", "cut_in_books", "_law_draws", "_law_take", "_law_odd", "_law_is_field", "_law_field", "_law_no_field", "_law_books", "_law_same", "_law_is_library", "_law_told", "_law_bad_book", "_law_bad_books", "_law_equal", "_law_every", "law", "PRIMES", "Library"]
def isB0 (o : Option Bool) (b : Bool) : Bool := decide (o = some b)
def lbB (K : PySem.W.Frag) (S : Addr) : Bool :=
  (He.Fa.cls "Library").ok K && ((He.Fa.noat "Library" "p").ok K && ((He.Fa.noat "Library" "books").ok K && ((He.Fa.noat "Library" "book_count").ok K && ((He.Fa.noat "Library" "book_length").ok K && ((He.Fa.noat "Library" "letters").ok K &&
    ((He.Fa.mkr "Library").ok K && ((He.Fa.meth "Library" "changed").ok K && ((He.Fa.meth "Library" "_check_book").ok K &&
      (decide (PySem.W.findIn K (.ref S) "__class__" = some (some (.builtin "object.__class__"))) && (decide (PySem.W.specialIn K (.builtin "object.__class__") "__get__" = some (some (.builtin "getset_descriptor.__get__"))) &&
        (isB0 (PySem.W.takesIn K (.builtin "object.__class__")) true && (isB0 (PySem.W.mroIn K S (.type "object")) true && (isB0 (PySem.W.kitOne K (.ref S) (.ref S)) true && (He.Fa.meth "Library" "book").ok K)))))))))))))
def leB (K : PySem.W.Frag) (S : Addr) : Bool :=
  decide (PySem.W.findIn K (.ref S) "__eq__" = some (some (.ref (He.ma K S "__eq__")))) && (PySem.W.isFn K (.ref (He.ma K S "__eq__")) &&
    (isB0 (PySem.W.kitOne K (.type "NoneType") (.ref S)) false && (isB0 (PySem.W.kitOne K (.type "int") (.ref S)) false && (isB0 (PySem.W.kitOne K (.type "list") (.ref S)) false && (isB0 (PySem.W.kitOne K (.type "tuple") (.ref S)) false &&
      (isB0 (PySem.W.subIn K (.ref S) (.type "NoneType")) false && (isB0 (PySem.W.subIn K (.ref S) (.type "int")) false && (isB0 (PySem.W.subIn K (.ref S) (.type "list")) false && isB0 (PySem.W.subIn K (.ref S) (.type "tuple")) false))))))))
def olB (K : PySem.W.Frag) (S : Addr) : Bool :=
  PySem.W.readsIn K S (.type "type") && (He5.wrapB K S "classmethod" "classmethod.__get__" "of_letters" && PySem.W.fnIn K (He5.wf K S "classmethod" "of_letters"))
def exmB (K : PySem.W.Frag) (x y : Str) (b : Bool) : Bool := isB0 (PySem.W.exmOne K (.ref (He.ga K x)) (.ref (He.ga K y))) b
def ex (K : PySem.W.Frag) : Bool :=
  freeB K frees && (globB K globs && (exc1B K "InvalidNumber" "value" && (exc1B K "InvalidLibrary" "value" && (xfB K (He.ga K "InvalidNumber") && (xfB K (He.ga K "InvalidLibrary") &&
    (exmB K "InvalidNumber" "InvalidNumber" true && (exmB K "InvalidLibrary" "InvalidNumber" false && (exmB K "InvalidLibrary" "InvalidLibrary" true &&
      (He.tupB K "PRIMES" (primes.map He.Dv.int) && (lbB K (He.ga K "Library") && (leB K (He.ga K "Library") && olB K (He.ga K "Library"))))))))))))
theorem cread_new {K : PySem.W.Frag} {C : Addr} (h : PySem.W.readsIn K C (.type "type") = true) : ClX.CRead K C (.type "type") := by
  refine ⟨h, ?_⟩
  unfold PySem.W.readsIn at h
  obtain ⟨h, _⟩ := and2 h
  obtain ⟨h, _⟩ := and2 h
  obtain ⟨h, h3⟩ := and2 h
  obtain ⟨_, h2⟩ := and2 h
  unfold PySem.W.specialIn
  rw [beq_iff_eq.mp h2, Option.bind_some]
  exact beq_iff_eq.mp h3
theorem getG {K : PySem.W.Frag} (c : He.SaysD [] fn K) (i : Nat) {x : Str} {j : Nat} (h : fn[i]? = some (dG x j)) : ∃ fd, FnS K x (top j) (He.ga K x) fd := c.def_ i h
theorem getM {K : PySem.W.Frag} (c : He.SaysD [] fn K) (i : Nat) {cl m q : Str} {ds : List He.Dv} {j k : Nat} (h : fn[i]? = some (dM cl m j k q ds)) :
    ∃ fd, FunD K m q (defArgs (inClass (top j) k)) (defBody (inClass (top j) k)) (defScope (inClass (top j) k)) (ds.map (He.Dv.v K)) [] (He.ma K (He.ga K cl) m) fd := c.def_ i h
theorem facts {P : Program} {w : World} {K : PySem.W.Frag} {h : Heap} {mg : Str → Option Value} {fa : Addr} (X : K.In h) (G : h.Ns mainGlobals mg) (hfa : mg "law" = some (.ref fa)) (c : He.SaysD [] fn K) (ca : He5.SaysA [] [dOL] K) (e : ex K = true) :
    ∃ fd : FuncData, (∀ (s : Shared) (v : Value), BindsTo s fd ⟨[v], []⟩ [("script", v)]) ∧ ∀ base : Heap, K.In base → base.Ns mainGlobals mg → FnOk P w K mg base CX0 11 fa fd ["script"] (spLaw K) := by
  obtain ⟨e1, e⟩ := and2 e
  obtain ⟨e2, e⟩ := and2 e
  obtain ⟨e3, e⟩ := and2 e
  obtain ⟨e4, e⟩ := and2 e
  obtain ⟨e5, e⟩ := and2 e
  obtain ⟨e6, e⟩ := and2 e
  obtain ⟨e7, e⟩ := and2 e
  obtain ⟨e8, e⟩ := and2 e
  obtain ⟨e9, e⟩ := and2 e
  obtain ⟨e10, e⟩ := and2 e
  obtain ⟨l, e⟩ := and2 e
  obtain ⟨z, y⟩ := and2 e
  obtain ⟨l1, l⟩ := and2 l
  obtain ⟨l2, l⟩ := and2 l
  obtain ⟨l3, l⟩ := and2 l
  obtain ⟨l4, l⟩ := and2 l
  obtain ⟨l5, l⟩ := and2 l
  obtain ⟨l6, l⟩ := and2 l
  obtain ⟨l7, l⟩ := and2 l
  obtain ⟨l8, l⟩ := and2 l
  obtain ⟨l9, l⟩ := and2 l
  obtain ⟨l10, l⟩ := and2 l
  obtain ⟨l11, l⟩ := and2 l
  obtain ⟨l12, l⟩ := and2 l
  obtain ⟨l13, l⟩ := and2 l
  obtain ⟨l14, l15⟩ := and2 l
  obtain ⟨z1, z⟩ := and2 z
  obtain ⟨z2, z⟩ := and2 z
  obtain ⟨z3, z⟩ := and2 z
  obtain ⟨z4, z⟩ := and2 z
  obtain ⟨z5, z⟩ := and2 z
  obtain ⟨z6, z⟩ := and2 z
  obtain ⟨z7, z⟩ := and2 z
  obtain ⟨z8, z⟩ := and2 z
  obtain ⟨z9, z10⟩ := and2 z
  obtain ⟨y1, y⟩ := and2 y
  obtain ⟨y2, y3⟩ := and2 y
  have fr : ∀ {x : Str}, x ∈ frees → mg x = none := fun hx => freeB_ok X G e1 hx
  have gl : ∀ {x : Str}, x ∈ globs → mg x = some (.ref (He.ga K x)) := fun hx => globB_ok X G e2 hx
  have B : Blt3 mg := { isi := fr (by decide +kernel), int := fr (by decide +kernel), bool := fr (by decide +kernel), len := fr (by decide +kernel), abs := fr (by decide +kernel), range := fr (by decide +kernel), tuple := fr (by decide +kernel), lst := fr (by decide +kernel), all := fr (by decide +kernel) }
  have TN : Exc1 K mg "InvalidNumber" "value" := exc1B_ok X G e3
  have TL : Exc1 K mg "InvalidLibrary" "value" := exc1B_ok X G e4
  have XN := xfB_ok e5
  have XL := xfB_ok e6
  have b0 : ∀ {o : Option Bool} {b : Bool}, isB0 o b = true → o = some b := fun h => of_decide_eq_true h
  have CLb : LibC K mg (He.ga K "Library") := { g := gl (by decide +kernel), cl := He.cls_ok l1, nP := He.noat_ok l2, nB := He.noat_ok l3, nC := He.noat_ok l4, nL := He.noat_ok l5, nT := He.noat_ok l6, ha := of_decide_eq_true l10, hn := of_decide_eq_true l11, htk := b0 l12, hm := b0 l13, kS := b0 l14 }
  have LE : LibE K (He.ga K "Library") (He.ma K (He.ga K "Library") "__eq__") := { hs := of_decide_eq_true z1, hf := z2, kN := b0 z3, kI := b0 z4, kL := b0 z5, kT := b0 z6, sN := b0 z7, sI := b0 z8, sL := b0 z9, sT := b0 z10 }
  have MKL := He.mkr_ok l7
  have MCh := He.meth_ok l8
  have MCB := He.meth_ok l9
  have MBk := He.meth_ok l15
  obtain ⟨fd0, F0⟩ := getG c 0 (x := "is_integer") (j := 5) rfl
  obtain ⟨fd1, F1⟩ := getG c 1 (x := "is_number") (j := 6) rfl
  obtain ⟨fd2, F2⟩ := getG c 2 (x := "is_below") (j := 7) rfl
  obtain ⟨fd3, F3⟩ := getG c 3 (x := "is_sequence") (j := 8) rfl
  obtain ⟨fd4, F4⟩ := getG c 4 (x := "are_letters") (j := 9) rfl
  obtain ⟨fd5, F5⟩ := getG c 5 (x := "rows_below") (j := 10) rfl
  obtain ⟨fd6, F6⟩ := getG c 6 (x := "is_field") (j := 13) rfl
  obtain ⟨fd7, F7⟩ := getG c 7 (x := "check_field") (j := 14) rfl
  obtain ⟨fd8, F8⟩ := getG c 8 (x := "every_library") (j := 17) rfl
  obtain ⟨fd9, F9⟩ := getG c 9 (x := "are_books") (j := 18) rfl
  obtain ⟨fd10, F10⟩ := getG c 10 (x := "letters_of") (j := 19) rfl
  obtain ⟨fd11, F11⟩ := getG c 11 (x := "cut_in_books") (j := 20) rfl
  obtain ⟨fd12, F12⟩ := getG c 12 (x := "_law_draws") (j := 22) rfl
  obtain ⟨fd13, F13⟩ := getG c 13 (x := "_law_take") (j := 23) rfl
  obtain ⟨fd14, F14⟩ := getG c 14 (x := "_law_odd") (j := 24) rfl
  obtain ⟨fd15, F15⟩ := getG c 15 (x := "_law_is_field") (j := 25) rfl
  obtain ⟨fd16, F16⟩ := getG c 16 (x := "_law_field") (j := 26) rfl
  obtain ⟨fd17, F17⟩ := getG c 17 (x := "_law_no_field") (j := 27) rfl
  obtain ⟨fd18, F18⟩ := getG c 18 (x := "_law_books") (j := 28) rfl
  obtain ⟨fd19, F19⟩ := getG c 19 (x := "_law_same") (j := 29) rfl
  obtain ⟨fd20, F20⟩ := getG c 20 (x := "_law_is_library") (j := 30) rfl
  obtain ⟨fd21, F21⟩ := getG c 21 (x := "_law_told") (j := 31) rfl
  obtain ⟨fd22, F22⟩ := getG c 22 (x := "_law_bad_book") (j := 32) rfl
  obtain ⟨fd23, F23⟩ := getG c 23 (x := "_law_bad_books") (j := 33) rfl
  obtain ⟨fd24, F24⟩ := getG c 24 (x := "_law_equal") (j := 34) rfl
  obtain ⟨fd25, F25⟩ := getG c 25 (x := "_law_every") (j := 35) rfl
  obtain ⟨fd26, F26⟩ := getG c 26 (x := "law") (j := 36) rfl
  obtain ⟨fd27, F27⟩ := getM c 27 (cl := "InvalidNumber") (m := "__init__") (q := "InvalidNumber.__init__") (ds := []) (j := 2) (k := 0) rfl
  obtain ⟨fd28, F28⟩ := getM c 28 (cl := "InvalidLibrary") (m := "__init__") (q := "InvalidLibrary.__init__") (ds := []) (j := 3) (k := 0) rfl
  obtain ⟨fd29, F29⟩ := getM c 29 (cl := "Library") (m := "__init__") (q := "Library.__init__") (ds := []) (j := 16) (k := 0) rfl
  obtain ⟨fd30, F30⟩ := getM c 30 (cl := "Library") (m := "__eq__") (q := "Library.__eq__") (ds := []) (j := 16) (k := 1) rfl
  obtain ⟨fd31, F31⟩ := getM c 31 (cl := "Library") (m := "book") (q := "Library.book") (ds := []) (j := 16) (k := 2) rfl
  obtain ⟨fd32, F32⟩ := getM c 32 (cl := "Library") (m := "changed") (q := "Library.changed") (ds := []) (j := 16) (k := 3) rfl
  obtain ⟨fd33, F33⟩ := getM c 33 (cl := "Library") (m := "_check_book") (q := "Library._check_book") (ds := []) (j := 16) (k := 5) rfl
  obtain ⟨fdO, FO⟩ := ca.def_ 0 (d := dOL) rfl
  have efa := hfa.symm.trans (gl (x := "law") (by decide +kernel))
  cases efa
  have bl := FunD.bindsA (ps := ["script"]) F26 fun _ _ _ _ _ _ us hl => match us, hl with | [_], _ => rfl
  refine ⟨fd26, fun s v => bl s [v] rfl, fun base _ _ => ?_⟩
  have Cint : Cal P w K mg base 1 "is_integer" _ fd0 ["value"] (spIsInt K) := cal_mk F0 (gl (by decide +kernel)) (ok_isInt F0 B.toBlt) fun _ _ _ _ _ _ us hl => match us, hl with | [_], _ => rfl
  have Cnum : Cal P w K mg base 2 "is_number" _ fd1 ["value"] (spIsNum K) := cal_mk F1 (gl (by decide +kernel)) (ok_isNum F1 Cint) fun _ _ _ _ _ _ us hl => match us, hl with | [_], _ => rfl
  have Cbel : Cal P w K mg base 3 "is_below" _ fd2 ["value", "limit"] (spIsBel K) := cal_mk F2 (gl (by decide +kernel)) (ok_isBel F2 Cnum) fun _ _ _ _ _ _ us hl => match us, hl with | [_, _], _ => rfl
  have Cseq : Cal P w K mg base 1 "is_sequence" _ fd3 ["value"] (spSeq K) := cal_mk F3 (gl (by decide +kernel)) (ok_seq F3 B) fun _ _ _ _ _ _ us hl => match us, hl with | [_], _ => rfl
  have Clet : Cal P w K mg base 4 "are_letters" _ fd4 ["p", "count", "value"] (spLets K) := cal_mk F4 (gl (by decide +kernel)) (ok_lets F4 B Cseq Cbel) fun _ _ _ _ _ _ us hl => match us, hl with | [_, _, _], _ => rfl
  have tP : ∀ H, SqT K H (He.ga K "PRIMES") (primes.map V.int) := fun H => He.tupB_ok e10 H
  have Cfld : Cal P w K mg base 2 "is_field" _ fd6 ["p"] (spIsFld K) := cal_mk F6 (gl (by decide +kernel)) (ok_isFld F6 Cint (gl (by decide +kernel)) tP) fun _ _ _ _ _ _ us hl => match us, hl with | [_], _ => rfl
  have GN := ok_init1 (P := P) (w := w) (K := K) (mg := mg) (base := base) (C := He.ga K "InvalidNumber") F27 scIN bodyIN
  have bN : L2.Binds K fd27 ["self", "value"] [] := FunD.bindsN F27 fun _ _ _ _ _ _ us hl => match us, hl with | [_, _], _ => rfl
  have GL := ok_init1 (P := P) (w := w) (K := K) (mg := mg) (base := base) (C := He.ga K "InvalidLibrary") F28 scIL bodyIL
  have bL : L2.Binds K fd28 ["self", "value"] [] := FunD.bindsN F28 fun _ _ _ _ _ _ us hl => match us, hl with | [_, _], _ => rfl
  have Cchk : Cal P w K mg base 3 "check_field" _ fd7 ["p"] (spCheck K) := cal_mk F7 (gl (by decide +kernel)) (ok_check F7 Cfld TN GN bN) fun _ _ _ _ _ _ us hl => match us, hl with | [_], _ => rfl
  have CAB : Cal P w K mg base 5 "are_books" _ fd9 ["p", "value"] (spAB K) := cal_mk F9 (gl (by decide +kernel)) (ok_AB F9 B Cseq Clet) fun _ _ _ _ _ _ us hl => match us, hl with | [_, _], _ => rfl
  have CABg : Cal P w K mg base 5 "are_books" _ fd9 ["p", "value"] (spABg K) := cal_mk F9 (gl (by decide +kernel)) (ok_ABg F9 B Cseq Clet) fun _ _ _ _ _ _ us hl => match us, hl with | [_, _], _ => rfl
  have CLO : Cal P w K mg base 1 "letters_of" _ fd10 ["books"] (spLO K) := cal_mk F10 (gl (by decide +kernel)) (ok_LO F10 B) fun _ _ _ _ _ _ us hl => match us, hl with | [_], _ => rfl
  have CCut : Cal P w K mg base 1 "cut_in_books" _ fd11 ["book_length", "letters"] spCut := cal_mk F11 (gl (by decide +kernel)) (ok_Cut F11 B) fun _ _ _ _ _ _ us hl => match us, hl with | [_, _], _ => rfl
  have GLI := ok_LI (P := P) (w := w) (base := base) F29 B CLb Cchk CAB CLO
  have bLI : L2.Binds K fd29 ["self", "p", "books"] [] := FunD.bindsN F29 fun _ _ _ _ _ _ us hl => match us, hl with | [_, _, _], _ => rfl
  have GLIf := ok_LIf (P := P) (w := w) (base := base) F29 B CLb Cchk CABg CLO TL GL bL
  have GCB := ok_CB (P := P) (w := w) (base := base) F33 CLb Cbel TN GN bN
  have bCB : L2.Binds K fd33 ["self", "k"] [] := FunD.bindsN F33 fun _ _ _ _ _ _ us hl => match us, hl with | [_, _], _ => rfl
  have GCh := ok_Ch (P := P) (w := w) (base := base) F32 CLb Clet MCB GCB bCB TL GL bL MKL GLI bLI
  have bCh : L2.Binds K fd32 ["self", "k", "book"] [] := FunD.bindsN F32 fun _ _ _ _ _ _ us hl => match us, hl with | [_, _, _], _ => rfl
  have GBk := ok_LBk (P := P) (w := w) (base := base) F31 CLb MCB GCB bCB
  have bBk : L2.Binds K fd31 ["self", "k"] [] := FunD.bindsN F31 fun _ _ _ _ _ _ us hl => match us, hl with | [_, _], _ => rfl
  have GEq := ok_LE (P := P) (w := w) (base := base) F30 B CLb LE
  have bEq : L2.Binds K fd30 ["self", "other"] [] := FunD.bindsN F30 fun _ _ _ _ _ _ us hl => match us, hl with | [_, _], _ => rfl
  have GOL := ok_OL (P := P) (w := w) (base := base) FO Cchk CCut MKL GLI bLI
  have bOL : L2.Binds K fdO ["cls", "p", "book_length", "letters"] [] := FunD.bindsN FO fun _ _ _ _ _ _ us hl => match us, hl with | [_, _, _, _], _ => rfl
  have OL : OLM P w K mg base (He.ga K "Library") _ _ := { r := cread_new y1, c := He5.cmet_of y2 y3, F := WU.FnOk.raw0 GOL bOL }
  have CRb : Cal P w K mg base 1 "rows_below" _ fd5 ["limit", "length"] spRb := cal_mk F5 (gl (by decide +kernel)) (ok_Rb F5 B) fun _ _ _ _ _ _ us hl => match us, hl with | [_, _], _ => rfl
  have CEv : Cal P w K mg base 9 "every_library" _ fd8 ["p", "book_count", "book_length"] (spEv K (He.ga K "Library")) := cal_mk F8 (gl (by decide +kernel)) (ok_Ev F8 B CLb Cchk OL CRb) fun _ _ _ _ _ _ us hl => match us, hl with | [_, _, _], _ => rfl
  have M : LbM P w K mg base (He.ga K "Library") _ _ _ _ _ _ _ _ _ _ := { made := MKL, gI := GLI, gF := GLIf, bI := bLI, mB := MBk, gB := GBk, bB := bBk, mC := MCh, gC := GCh, bC := bCh, o := OL, v := CEv }
  have CD : Cal P w K mg base 1 "_law_draws" _ fd12 ["script", "many"] (spDraws K 200) := cal_mk F12 (gl (by decide +kernel)) (ok_draws F12 B.toBlt2 (by decide) (by decide)) fun _ _ _ _ _ _ us hl => match us, hl with | [_, _], _ => rfl
  have CT : Cal P w K mg base 1 "_law_take" _ fd13 ["hand", "many"] spTake := cal_mk F13 (gl (by decide +kernel)) (ok_take F13 B.toBlt2) fun _ _ _ _ _ _ us hl => match us, hl with | [_, _], _ => rfl
  have bO : L2.Binds K fd14 ["hand", "depth"] [] := FunD.bindsN F14 fun _ _ _ _ _ _ us hl => match us, hl with | [_, _], _ => rfl
  have co : ∀ n, FnOk P w K mg base (L2.CX P w) (1 + n) (He.ga K "_law_odd") fd14 ["hand", "depth"] (spOdd n) := by
    intro n
    induction n with
    | zero => exact ⟨fun vs H Q E ⟨_, _, _, _, z1, z2, _⟩ => absurd z2 (by omega), fun A outer s H args us vs Q E _ _ _ _ ⟨_, _, _, _, z1, z2, _⟩ => absurd z2 (by omega)⟩
    | succ n ih => exact ok_odd F14 B.toBlt2 CT n ⟨gl (by decide +kernel), F14.kp, bO, ih⟩
  have CO : Cal P w K mg base 3 "_law_odd" _ fd14 ["hand", "depth"] (spOdd 2) := ⟨gl (by decide +kernel), F14.kp, bO, co 2⟩
  have CLF : Cal P w K mg base 1 "_law_is_field" _ fd15 ["p"] (spIsFld K) := cal_mk F15 (gl (by decide +kernel)) (ok_LF F15 B.toBlt2) fun _ _ _ _ _ _ us hl => match us, hl with | [_], _ => rfl
  have CFd : Cal P w K mg base 2 "_law_field" _ fd16 ["hand"] spLFd := cal_mk F16 (gl (by decide +kernel)) (ok_LFd F16 B.toBlt2 CLF CT) fun _ _ _ _ _ _ us hl => match us, hl with | [_], _ => rfl
  have CNF : Cal P w K mg base 4 "_law_no_field" _ fd17 ["hand"] (spLN K) := cal_mk F17 (gl (by decide +kernel)) (ok_LN F17 CT CO CLF) fun _ _ _ _ _ _ us hl => match us, hl with | [_], _ => rfl
  have CBk : Cal P w K mg base 2 "_law_books" _ fd18 ["hand", "p", "count", "size"] spBk := cal_mk F18 (gl (by decide +kernel)) (ok_Bk F18 B CT) fun _ _ _ _ _ _ us hl => match us, hl with | [_, _, _, _], _ => rfl
  have bSm : L2.Binds K fd19 ["found", "due"] [] := FunD.bindsN F19 fun _ _ _ _ _ _ us hl => match us, hl with | [_, _], _ => rfl
  have CSm : Cal P w K mg base 3 "_law_same" _ fd19 ["found", "due"] (spSm 2) := ⟨gl (by decide +kernel), F19.kp, bSm, ok_Sm F19 B (gl (by decide +kernel)) bSm 2⟩
  have CIs : Cal P w K mg base 4 "_law_is_library" _ fd20 ["library", "p", "books"] (spIs (He.ga K "Library")) := cal_mk F20 (gl (by decide +kernel)) (ok_Is F20 B CLb CSm) fun _ _ _ _ _ _ us hl => match us, hl with | [_, _, _], _ => rfl
  have CTd : Cal P w K mg base 10 "_law_told" _ fd21 ["which", "library", "one", "two"] (spTd K (He.ga K "Library")) := cal_mk F21 (gl (by decide +kernel)) (ok_Td F21 CLb M TN TL XN XL (b0 e7) (b0 e8) (b0 e9)) fun _ _ _ _ _ _ us hl => match us, hl with | [_, _, _, _], _ => rfl
  have CBB : Cal P w K mg base 2 "_law_bad_book" _ fd22 ["hand", "book", "p"] spBB := cal_mk F22 (gl (by decide +kernel)) (ok_BB F22 B CT) fun _ _ _ _ _ _ us hl => match us, hl with | [_, _, _], _ => rfl
  have CBBs : Cal P w K mg base 3 "_law_bad_books" _ fd23 ["hand", "books", "p"] spBBs := cal_mk F23 (gl (by decide +kernel)) (ok_BBs F23 B CT CBB) fun _ _ _ _ _ _ us hl => match us, hl with | [_, _, _], _ => rfl
  have CEq : Cal P w K mg base 2 "_law_equal" _ fd24 ["one", "other", "due"] (spEqu (He.ga K "Library")) := cal_mk F24 (gl (by decide +kernel)) (ok_Equ F24 B LE GEq bEq) fun _ _ _ _ _ _ us hl => match us, hl with | [_, _, _], _ => rfl
  have CEvy : Cal P w K mg base 10 "_law_every" _ fd25 ["hand"] spEvy := cal_mk F25 (gl (by decide +kernel)) (ok_Evy F25 B CT CEv CIs) fun _ _ _ _ _ _ us hl => match us, hl with | [_], _ => rfl
  exact ok_Law F26 { B := B, cL := CLb, draws := ⟨_, _, CD⟩, take := ⟨_, _, CT⟩, field := ⟨_, _, CFd⟩, isF := ⟨_, _, CLF⟩, noF := ⟨_, _, CNF⟩, books := ⟨_, _, CBk⟩, same := ⟨_, _, CSm⟩, is := ⟨_, _, CIs⟩, told := ⟨_, _, CTd⟩, badB := ⟨_, _, CBB⟩, badBs := ⟨_, _, CBBs⟩, equ := ⟨_, _, CEq⟩, every := ⟨_, _, CEvy⟩, lib := ⟨_, _, _, _, _, _, _, _, _, _, M⟩ }
end WU

namespace WU
open PySem PySem.Spec PyProof.Rows L2
theorem walk {l : PySem.W.OpenLaw} {q : Program} {loose : List Str} {XP : (Str → Option Value) → Heap → Prop} {YP : World → Heap → Prop} {d : DefRec} {K : Params → PySem.W.Frag} (hn : l.most = some 63) (hdf : d.params.defaults = []) (hname : d.name = ("law" : Str))
    (hY : ∀ (w : World) (h : Heap), YP w h → (K w.params).In h) (hD : ∀ w : World, He.SaysD [] fn (K w.params)) (hA : ∀ w : World, He5.SaysA [] [dOL] (K w.params)) (hE : ∀ w : World, ex (K w.params) = true) :
    PySem.W.WalkO q loose XP YP l.row.toRowW d [] (fun f vs => PySem.call f vs) :=
  L2.walk_of (n := 63) (k := 11) (x := "script") (CX := fun _ => CX0) (sp := fun w => spLaw (K w.params)) hn (by decide) hdf ⟨rfl, by decide, by decide⟩ hY
    (fun w mg fa h KX G hmg => facts KX G (by rw [← hname]; exact hmg) (hD w) (hA w) (hE w)) (fun _ _ a ns hl _ hS => ⟨a, ns, rfl, hS, hl, fun _ => rfl⟩) fun _ _ _ _ _ z => z
end WU
open PySem PySem.W PyProof.Rows
set_option maxRecDepth 100000 in
set_option maxHeartbeats 0 in
theorem PySem.Challenge.cw_wishunseen_k07_libraries_holds : PySem.Challenge.rw_wishunseen_k07_libraries.Holds := by
  w_on; o_law; k_head; (case hw => w_witness2)
  k_fill
  refine WU.walk (l := PySem.Challenge.rw_wishunseen_k07_libraries) rfl rfl (by rfl) (fun w h Y => PySem.W.kIn_of Y) ?D ?A ?E
  case D =>
    intro w
    show He.obsD [] WU.fn _ = He.valD WU.fn
    kernel_rfl
  case A =>
    intro w
    show He5.obsA [] [WU.dOL] _ = He5.valA [WU.dOL]
    kernel_rfl
  case E =>
    intro w
    kernel_rfl

