import PyProof.Rows.All
import Wide.All
import OpenK.AllK
import Wide.FinOn
import HandS.Base
import HandS.Call
import HandS.Exc
import HandS.List
import HandS.Comp
import HandS.Ends
import HandS.ExcOwn
import HandS.ExcInit
import HandS.OwnEq
import HandS.Words
import HandS.Defaults
import HandS.Head0
import HandS.Head1
import HandS.Head2
import HandS.HeadHook1
import HandS.HeadHook2
import HandS.IsInst
import HandS.Conv
import HandS.Star
import HandS.Wide
import HandS.MakeKwOnly
import HandS.MakeKw
import HandS.HeadEnd
import PySem.Challenge.RW_wishunseen_k69_lines
set_option Elab.async false
set_option linter.all false
set_option maxRecDepth 100000
set_option maxHeartbeats 4000000
/-! try with several clauses «except C as n», and with clauses without a name among them -/
namespace WU
open PySem PySem.Spec PyProof.Rows L2
/-- a clause: the class, its name's slot (if it has one), what the suite does -/
abbrev Cl := Value × Option Nat × (Addr → Value → Option Addr → TS)
/-- behind a named suite the slot is empty -/
def wiped (i : Nat) (D : Ends) : Ends := { nx := fun z h => D.nx (z.set i none) h, rt := D.rt, bk := fun z h => D.bk (z.set i none) h, ct := fun z h => D.ct (z.set i none) h }
def suiteOf (i : Option Nat) (ts : TS) (D : Ends) (σ : L2.St) (H : Hp) (a : Addr) : Prop :=
  match i with
  | some j => ts (wiped j D) (σ.set j (some (V.ref a))) H
  | none => ts D σ H
/-- what the clauses wish of an exception that leaves the body -/
def wCls (K : PySem.W.Frag) (Wout : WX) (D : Ends) : List Cl → WX
  | [] => Wout
  | q :: r => fun cls d σ H => ∃ b, PySem.W.exmOne K cls q.1 = some b ∧ (b = true → ∀ a, H a = none → suiteOf q.2.1 (q.2.2 a cls d) D σ H a) ∧ (b = false → wCls K Wout D r cls d σ H)
inductive Clauses (X : Cx) : List ExceptHandler → List Cl → Prop
  | nil : Clauses X [] []
  | named {x n : Str} {i : Nat} {c : Value} {ts : Addr → Value → Option Addr → TS} {b : Stmt} {su : List Stmt} {p q : Pos} {hs : List ExceptHandler} {l : List Cl}
      (hi : X.N[i]? = some n) (hl : X.env.kindOf n = some .local) (hc : Names X x c)
      (hsu : ∀ (a : Addr) (oe : Obj) (cls : Value) (d : Option Addr) (pn : List (Addr × Obj)), Zc cls d oe → (∃ vs, oe.data = .fields vs) → PSs (X.suite a ((a, oe) :: pn)) (b :: su) (ts a cls d))
      (r : Clauses X hs l) : Clauses X (.ExceptHandler (some (.Name x p)) (some n) (b :: su) q :: hs) ((c, some i, ts) :: l)
section
variable {X : Cx} {body : List Stmt} {h₀ : ExceptHandler} {hds : List ExceptHandler} {l : List Cl} {pos : Pos} {tb : WX → TS} {Wout : WX}
theorem ps_try_cls (hst : X.stack = X.env :: X.outer) (hfr : X.env.frame = some X.env.locals) (hN : X.N.Nodup) (tk : Takes X Wout)
    (hb : ∀ (W : WX) (pn : List (Addr × Obj)) (xe : Value → Shared → Prop), Takes (X.tr pn xe) W →
      PassesOwn (model X.prog X.w) X.A X.env xe → PSs (X.tr pn xe) body (tb W))
    (hh : Clauses X (h₀ :: hds) l) : PS X (.Try body (h₀ :: hds) [] [] pos) (fun D σ H => tb (wCls X.K Wout D l) D σ H) := by
  constructor
  intro pins s σ H D I h
  have okX := I.ok
  have frA : X.A.frames = some (X.env :: X.outer) := okX.frames.trans (congrArg some hst)
  apply wpAny_Try_except
  let xe1 : Value → Shared → Prop := fun e s₁ => wpAny (model X.prog X.w) X.A (noteFrame e X.env) (fun _ s₂ =>
    wpAny (model X.prog X.w) X.A (setFlight e none) (fun _ s₃ => wpAny (model X.prog X.w) X.A (handleBy e X.env (h₀ :: hds))
      (SP X pins D) X.xe s₃) X.xe s₂) X.xe s₁
  have taken : Takes (X.tr (X.pn ++ pins) xe1) (wCls X.K Wout D l) := by
    rintro u st ⟨a, B, sI, pins', σ', H', cls, d, rfl, J', nb, up, sky, na, os, ag, wish⟩
    have J : Inv X pins σ' H' sI := J'.ofTry okX
    rw [show (X.tr (X.pn ++ pins) xe1).stack = X.env :: X.outer from hst] at sky
    show wpAny (model X.prog X.w) X.A (noteFrame (Value.ref a) X.env) _ _ _
    refine Sky.land Zc.steady frA hfr sky fun hA flA upA => ?_
    have JA : Inv X pins σ' H' { st with heap := hA } := J.landed nb flA.1 (up.trans upA) os ag
    obtain ⟨oA, vA, eA, zA, dA⟩ := flA.there
    have offF : a ∉ frs (X.env :: X.outer) := fun hm => by
      obtain ⟨_, o', e', hn⟩ := flA.2.2.1.mem hm
      cases eA.symm.trans e'
      exact hn _ dA
    have offL : a ≠ X.env.locals := by
      rintro rfl
      exact offF (List.mem_filterMap.mpr ⟨X.env, .head _, hfr⟩)
    have offO : a ∉ X.fs := fun hm => by
      obtain ⟨en, hen, q⟩ := List.mem_filterMap.mp hm
      exact offF (List.mem_filterMap.mpr ⟨en, .tail _ hen, q⟩)
    have SA := JA.suite eA dA na offL offO
    have isT : PySem.W.Looks (model X.prog X.w) hA (typeOf (.ref a)) cls := by
      intro A Q E s2 kk q
      refine wpAny_typeOf_ref (kk _ _ eA) ?_
      rw [zA.1]
      exact q
    have onward : ∀ {hs : List ExceptHandler} {l' : List Cl}, Clauses X hs l' → wCls X.K Wout D l' cls d σ' H' →
        wpAny (model X.prog X.w) X.A (handleBy (.ref a) X.env hs) (SP X pins D) X.xe { st with heap := hA } := by
      intro hs l' hk
      induction hk with
      | nil =>
        intro wout
        apply wpAny_handleBy_nil
        obtain ⟨_, _, _, oe, vs, T, oT, tt, he, hz, hd, h1, hr⟩ := id flA
        unfold PySem.passOn
        apply wpAny_bind
        refine wpAny_field he hd h1 ?_
        have nn : ¬ ((Value.ref T == Value.none) = true) := by simp
        rw [if_neg nn]
        have fin : wpAny (model X.prog X.w) X.A (setFlight (.ref a) X.env.frame) (fun _ s4 =>
            wpAny (model X.prog X.w) X.A (throw (.ref a) : Sem Flow) (SP X pins D) X.xe s4) X.xe { st with heap := hA } := by
          rw [hfr]
          refine HandSPX.setFlight_upZ flA fun hB hhB upB => ?_
          apply wpAny_throw
          apply tk
          refine ⟨a, B, sI, pins, σ', H', cls, d, rfl, J, nb, (up.trans upA).trans upB, ?_, na, os, ag, wout⟩
          right; right
          rw [hst]
          exact hhB
        first
          | exact wpAny_bind (wpAny_pure (wpAny_bind fin))
          | exact wpAny_bind fin
      | @named x n i c ts b su p q hs2 l2 hi hl hc hsu r ih =>
        rintro ⟨yes, hyn, onYes, onNo⟩
        refine wpAny_handleBy_cons (codeAny_handlers_test ?_) (by intro z; cases z)
        have hits := PySem.W.exm_one (M := model X.prog X.w) JA.kIn isT hyn
        have asked : ∀ {Q E : Value → Shared → Prop}, Q c { st with heap := hA } →
            wpAny (model X.prog X.w) (X.A.mark (some (.ref a))) (eval (.Name x p) X.env) Q E { st with heap := hA } := by
          intro Q E q
          obtain ⟨g1, g2, g3⟩ := hc
          rcases g3 with g3 | ⟨g3, g4, g5⟩
          · exact ld_glob (X := X.suite a ((a, oA) :: (X.pn ++ pins))) SA g1 g3 q g2
          · exact ld_blt (X := X.suite a ((a, oA) :: (X.pn ++ pins))) SA g1 g3 g4 q g5 g2
        apply asked
        refine hits.here ?_
        cases yes with
        | false => exact ih (onNo rfl)
        | true =>
          apply codeAny_handlers_suite_as
          refine HandSPX.lands_againZ flA fun hB flB upB => ?_
          have JB : Inv X pins σ' H' { st with heap := hB } := J.landed nb flB.1 ((up.trans upA).trans upB) os ag
          obtain ⟨oB, vB, eB, zB, dB⟩ := flB.there
          have SB := JB.suite eB dB na offL offO
          refine store_ok (X := X.suite a ((a, oB) :: (X.pn ++ pins))) (v := .ref a) SB hN hi (Or.inl hl) rfl (fun s5 S5 => ?_) (Or.inr hl)
          have runs := (hsu a oB cls d (X.pn ++ pins) zB ⟨_, dB⟩).run [] s5 _ H' _ S5 (onYes rfl a na)
          refine wpAny_mono runs (fun f s6 hsp => ?_) fun _ _ z => z.elim
          have left_ : ∀ {σ6 : L2.St} {H6 : Hp} {Q : Shared → Prop}, Inv (X.suite a ((a, oB) :: (X.pn ++ pins))) [] σ6 H6 s6 →
              (∀ s7, Inv X pins (σ6.set i none) H6 s7 → Q s7) →
              wpAny (model X.prog X.w) X.A (do bindName X.env n .none; unbindBehindTheSuite X.env n q) (fun _ s7 => Q s7) X.xe s6 :=
            fun S6 k => gone_ok (S6.unsuite okX) hN hi hl k
          match f, hsp with
          | .next, ⟨σ6, H6, S6, q6⟩ => exact left_ S6 fun s7 J7 => ⟨_, _, J7, q6⟩
          | .brk, ⟨σ6, H6, S6, q6⟩ => exact left_ S6 fun s7 J7 => ⟨_, _, J7, q6⟩
          | .cont, ⟨σ6, H6, S6, q6⟩ => exact left_ S6 fun s7 J7 => ⟨_, _, J7, q6⟩
          | .ret u, ⟨v6, σ6, H6, S6, r6, q6⟩ => exact left_ S6 fun s7 J7 => ⟨_, _, _, J7, r6, q6⟩
    exact onward hh wish
  have body_ := (hb _ (X.pn ++ pins) xe1 taken PassesOwn.looking).run [] s σ H D (I.toTry _) h
  refine wpAny_mono body_ (fun f s1 hsp => ?_) fun _ _ z => z
  match f, hsp with
  | .next, ⟨σ', H', J', q⟩ => exact wpAny_execs_nil ⟨σ', H', J'.ofTry okX, q⟩
  | .brk, ⟨σ', H', J', q⟩ => exact ⟨σ', H', J'.ofTry okX, q⟩
  | .cont, ⟨σ', H', J', q⟩ => exact ⟨σ', H', J'.ofTry okX, q⟩
  | .ret u, ⟨v, σ', H', J', r, q⟩ => exact ⟨v, σ', H', J'.ofTry okX, r, q⟩
end
end WU

set_option maxRecDepth 100000
set_option maxHeartbeats 4000000
namespace WU
open PySem PySem.Spec PyProof.Rows L2
/-! ### the head's facts -/
/-- the facts of the defs, and one more Bool -/
def hookB (n : Nat) (fn : List He.DefD) (ex : PySem.W.Frag → Bool) : PySem.W.Hook where
  α := He.AlD × Bool
  obs := fun s => (He.obsDG n [] fn s.heap.get?, ex (He.frG s.heap.get? (He.asD s.heap.get? n)))
  val := fun _ => (He.valD fn, true)
  says := fun _ h => ∃ K : PySem.W.Frag, K.In h ∧ He.SaysD [] fn K ∧ ex K = true
  of := fun _ _ e => ⟨_, He.frG_in, congrArg Prod.fst e, congrArg Prod.snd e⟩
  keeps := fun _ _ _ ⟨K, hK, c⟩ k => ⟨K, PySem.W.Frag.In.keeps hK k, c⟩
def obB (n : Nat) (fn : List He.DefD) (ex : PySem.W.Frag → Bool) (s : PySem.W.SharedT) : He.AlD × Bool :=
  (He.obsDG n [] fn (HandSHeadRun.getT s), ex (He.frG (HandSHeadRun.getT s) (He.asD (HandSHeadRun.getT s) n)))
theorem obB_eq {n : Nat} {fn : List He.DefD} {ex : PySem.W.Frag → Bool} (s : PySem.W.SharedT) : obB n fn ex s = (hookB n fn ex).obs s.abs := by
  have e : HandSHeadRun.getT s = s.abs.heap.get? := funext (HandSHeadRun.getT_eq s)
  unfold obB
  rw [e]
  rfl
theorem and2 {a b : Bool} (h : (a && b) = true) : a = true ∧ b = true := Bool.and_eq_true_iff.mp h
/-- names that the module leaves to the built-ins; names that stand for objects -/
def freeB (K : PySem.W.Frag) (xs : List Str) : Bool := xs.all fun x => decide (PySem.W.nsIn K mainGlobals x = some none)
def globB (K : PySem.W.Frag) (xs : List Str) : Bool := xs.all fun x => decide (PySem.W.nsIn K mainGlobals x = some (some (.ref (He.ga K x))))
section
variable {K : PySem.W.Frag} {h : Heap} {mg : Str → Option Value}
theorem freeB_ok (X : K.In h) (G : h.Ns mainGlobals mg) {xs : List Str} (c : freeB K xs = true) {x : Str} (hx : x ∈ xs) : mg x = none :=
  PySem.W.mg_none_of X G (of_decide_eq_true (List.all_eq_true.mp c x hx))
theorem globB_ok (X : K.In h) (G : h.Ns mainGlobals mg) {xs : List Str} (c : globB K xs = true) {x : Str} (hx : x ∈ xs) : mg x = some (.ref (He.ga K x)) :=
  PySem.W.mg_of X G (of_decide_eq_true (List.all_eq_true.mp c x hx))
end
/-! ### an own exception class over ValueError (or over own ones that are) -/
def oexShape (C : Addr) : Option Obj → Bool
  | some ⟨.type t, _, .cls ⟨_, _, .ref C' :: bm, _, _, true, _, _, _, _, false⟩, ⟨[_, _, _, _, some (.builtin id), _]⟩⟩ =>
    decide (t = "type") && (decide (C' = C) && (decide (id = "ValueError.__new__") && PySem.HandSPX.refsVE bm))
  | _ => false
def oexB (K : PySem.W.Frag) (C : Addr) : Bool :=
  oexShape C (K.lookup C) && (decide (PySem.W.findIn K (.ref C) "__setattr__" = some (some (.builtin "object.__setattr__"))) &&
    (decide (PySem.W.subIn K (.ref C) (.type "BaseException") = some true) && (decide (PySem.W.typeIn K (.ref C) = some (.type "type")) && PySem.W.keepIn K (.ref C))))
theorem oexB_ok {K : PySem.W.Frag} {C : Addr} (h : oexB K C = true) : OexC K C := by
  obtain ⟨h1, h⟩ := and2 h
  obtain ⟨h2, h⟩ := and2 h
  obtain ⟨h3, h⟩ := and2 h
  obtain ⟨h4, h5⟩ := and2 h
  refine ⟨?_, of_decide_eq_true h2, of_decide_eq_true h3, of_decide_eq_true h4, h5⟩
  unfold oexShape at h1
  split at h1
  · rename_i t dd nm bs C' bm N q sn sub ab col k0 k1 k2 k3 id k5 heq
    obtain ⟨e1, h1⟩ := and2 h1
    obtain ⟨e2, h1⟩ := and2 h1
    obtain ⟨e3, e4⟩ := and2 h1
    have q1 := of_decide_eq_true e1
    have q2 := of_decide_eq_true e2
    have q3 := of_decide_eq_true e3
    subst q1 q2 q3
    exact ⟨_, _, _, _, _, _, _, _, _, _, _, _, _, _, _, heq, e4⟩
  · cases h1
/-- what every body asks of an exception class X whose __init__ stands at fI and keeps one field f -/
structure Exc1 (K : PySem.W.Frag) (mg : Str → Option Value) (x : Str) (f : Str) : Prop where
  glob : mg x = some (.ref (He.ga K x))
  oex : OexC K (He.ga K x)
  no : PySem.W.findIn K (.ref (He.ga K x)) f = some none
  init : PySem.W.findIn K (.ref (He.ga K x)) "__init__" = some (some (.ref (He.ma K (He.ga K x) "__init__")))
  tI : PySem.W.typeIn K (.ref (He.ma K (He.ga K x) "__init__")) = some (.type "function")
def exc1B (K : PySem.W.Frag) (x f : Str) : Bool :=
  decide (PySem.W.nsIn K mainGlobals x = some (some (.ref (He.ga K x)))) && (oexB K (He.ga K x) && (decide (PySem.W.findIn K (.ref (He.ga K x)) f = some none) &&
    (decide (PySem.W.findIn K (.ref (He.ga K x)) "__init__" = some (some (.ref (He.ma K (He.ga K x) "__init__")))) && decide (PySem.W.typeIn K (.ref (He.ma K (He.ga K x) "__init__")) = some (.type "function")))))
theorem exc1B_ok {K : PySem.W.Frag} {h : Heap} {mg : Str → Option Value} (X : K.In h) (G : h.Ns mainGlobals mg) {x f : Str} (c : exc1B K x f = true) : Exc1 K mg x f := by
  obtain ⟨h1, c⟩ := and2 c
  obtain ⟨h2, c⟩ := and2 c
  obtain ⟨h3, c⟩ := and2 c
  obtain ⟨h4, h5⟩ := and2 c
  exact ⟨PySem.W.mg_of X G (of_decide_eq_true h1), oexB_ok h2, of_decide_eq_true h3, of_decide_eq_true h4, of_decide_eq_true h5⟩
/-- an if whose test is known by an equation -/
theorem iteTb {c : Bool} {A B : Prop} (hc : c = true) (h : A) : if c = true then A else B := by
  rw [if_pos hc]
  exact h
theorem iteFb {c : Bool} {A B : Prop} (hc : c = false) (h : B) : if c = true then A else B := by
  rw [if_neg (by rw [hc]; decide)]
  exact h
theorem iteD {c : Prop} [Decidable c] {A B : Prop} (h1 : c → A) (h2 : ¬ c → B) : if decide c = true then A else B := by
  by_cases h : c
  · rw [decide_eq_true h]
    exact iteT (h1 h)
  · rw [decide_eq_false h]
    exact iteF (h2 h)
theorem ixN_at {n q : Nat} (h : q < n) : ixN n (q : Int) = some q := by
  unfold ixN
  rw [if_pos (by omega), if_pos (by omega)]
  simp
/-! ### calls -/
/-- the name x stands for a def that keeps sp -/
structure Cal (P : Program) (w : World) (K : PySem.W.Frag) (mg : Str → Option Value) (base : Heap) (k : Nat) (x : Str) (f : Addr) (fd : FuncData) (ps : List Str) (sp : Sp) : Prop where
  glob : mg x = some (.ref f)
  kp : PySem.W.keepIn K (.ref f) = true
  binds : Binds K fd ps []
  ok : FnOk P w K mg base (L2.CX P w) k f fd ps sp
theorem passU {X : Cx} : Passes (L2.CX X.prog X.w) X E0 := fun _ _ _ _ _ _ _ ⟨_, _, _, _, _, _, _, _, _, _, _, _, z⟩ => z.elim
section
variable {X : Cx} {k : Nat} {x : Str} {f : Addr} {fd : FuncData} {ps : List Str} {sp : Sp} {E : XK} {e : Expr} {es : List Expr} {t : TA} {p pos : Pos}
theorem pe_cal (C : Cal X.prog X.w X.K X.mg X.base k x f fd ps sp) (hr : Room k X.A) (ha : PA X (e :: es) t) (hx : Passes (L2.CX X.prog X.w) X E) (hg : Gl X x := by rfl) (hdb : (x == ("__debug__" : Str)) = false := by decide)
    (he : starEach (e :: es) X.env = (false, eval e X.env) :: starEach es X.env := by rfl) (hpl : (backTo pos (starEach es X.env)).any (·.1) = false := by rfl) :
    PE X (.Call (.Name x p) (e :: es) [] pos) (tCall sp [] E t) := pe_call C.ok hr hg C.glob C.kp C.binds .nil hx ha hdb he hpl
theorem pe_calS {W : WX} (C : Cal X.prog X.w X.K X.mg X.base k x f fd ps sp) (hr : Room k X.A) (ha : PA X (e :: es) t) (tk : Takes X W) (hg : Gl X x := by rfl) (hdb : (x == ("__debug__" : Str)) = false := by decide)
    (he : starEach (e :: es) X.env = (false, eval e X.env) :: starEach es X.env := by rfl) (hpl : (backTo pos (starEach es X.env)).any (·.1) = false := by rfl) :
    PE X (.Call (.Name x p) (e :: es) [] pos) (tCallS sp (WE W) t) := pe_callS C.ok hr hg C.glob C.kp C.binds (fun σ => passAt tk σ) ha hdb he hpl
end
/-! ### raise X(e), X's __init__ keeping one field -/
/-- self.f = value -/
def spInit1 (K : PySem.W.Frag) (C : Addr) (f : Str) : Sp := fun vs H Q _ => ∃ (a : Addr) (y : V), vs = [.ref a, y] ∧ OexC K C ∧ PySem.W.findIn K (.ref C) f = some none ∧ H a = some (exo a C none) ∧
  ∀ dx, H dx = none → dx ≠ a → Q .non (upd (upd H dx (exd dx [(f, y)])) a (exo a C (some dx)))
/-- the reading: the error's class, its own dict, the heap behind -/
def tMk1 (C : Addr) (f : Str) (ta : TA) : L2.St → Hp → XK → Prop := fun σ H Q => ta σ H fun vs H1 => ∃ v, vs = [v] ∧ ∀ d H', Same H1 H' → H1 d = none → H' d = some (.xd [(f, v)]) → Q (.ref C) (some d) H'
/-- a reading that may be weakened -/
def lax (ta : TA) : TA := fun σ H Q => ∃ Q0 : List V → Hp → Prop, ta σ H Q0 ∧ ∀ vs H1, Q0 vs H1 → Q vs H1
theorem pa_lax {X : Cx} {es : List Expr} {ta : TA} (ha : PA X es ta) : PA X es (lax ta) :=
  ⟨fun pos pins s σ H Q I h => by
    obtain ⟨Q0, h0, hq⟩ := h
    refine wpAny_mono (ha.run pos pins s σ H Q0 I h0) (fun us s1 hu => ?_) fun _ _ z => z
    obtain ⟨vs, H1, I1, r, q⟩ := hu
    exact ⟨vs, H1, I1, r, hq vs H1 q⟩⟩
section
variable {X : Cx} {k : Nat} {x f : Str} {fd : FuncData} {q : Str} {e : Expr} {ta : TA} {p pos pos2 : Pos}
theorem pmk_1 (T : Exc1 X.K X.mg x f) (F : FnOk X.prog X.w X.K X.mg X.base (L2.CX X.prog X.w) k (He.ma X.K (He.ga X.K x) "__init__") fd ["self", q] (spInit1 X.K (He.ga X.K x) f)) (b : Binds X.K fd ["self", q] [])
    (hr : Room (k + 1) X.A) (ha : PA X [e] ta) (hg : Gl X x := by rfl) (hdb : (x == ("__debug__" : Str)) = false := by decide)
    (he : starEach (e :: []) X.env = (false, eval e X.env) :: starEach [] X.env := by rfl) (hpl : (backTo pos (starEach [] X.env)).any (·.1) = false := by rfl) :
    PMk X (.Call (.Name x p) [e] [] pos) (tMk1 (He.ga X.K x) f ta) := by
  intro pins s σ H Q I h
  refine pmk_oex (CX := L2.CX X.prog X.w) (dvs := []) T.oex T.init T.tI F hr b .nil passU hg T.glob (pa_lax ha) hdb he hpl pins s σ H Q I ⟨_, h, fun vs H1 hv => ?_⟩
  obtain ⟨v, rfl, kk⟩ := hv
  refine ⟨(show 1 ≤ 1000 by decide), fun a na => ⟨a, v, rfl, T.oex, T.no, upd_same, fun dx ndx hdx => ⟨rfl, dx, [(f, v)], upd_same, by rw [upd_ne hdx, upd_same], ?_, ?_⟩⟩⟩
  · rw [upd_ne hdx] at ndx
    exact ndx
  · rw [upd_ne hdx] at ndx
    refine kk dx _ (fun c o hc => ?_) ndx upd_same
    have c1 : c ≠ dx := ne_of_none hc ndx
    have c2 : c ≠ a := ne_of_none hc na
    rw [upd_ne c1, del_ne c2, upd_ne c2, upd_ne c1, upd_ne c2]
    exact hc
theorem ps_raise1 {W : WX} (hc : X.calm = true) (tk : Takes X W) (T : Exc1 X.K X.mg x f) (F : FnOk X.prog X.w X.K X.mg X.base (L2.CX X.prog X.w) k (He.ma X.K (He.ga X.K x) "__init__") fd ["self", q] (spInit1 X.K (He.ga X.K x) f)) (b : Binds X.K fd ["self", q] [])
    (hr : Room (k + 1) X.A) (ha : PA X [e] ta) (hg : Gl X x := by rfl) (hdb : (x == ("__debug__" : Str)) = false := by decide)
    (he : starEach (e :: []) X.env = (false, eval e X.env) :: starEach [] X.env := by rfl) (hpl : (backTo pos (starEach [] X.env)).any (·.1) = false := by rfl) :
    PS X (.Raise (some (.Call (.Name x p) [e] [] pos)) none pos2) (fun _ σ H => tMk1 (He.ga X.K x) f ta σ H fun cls d H' => W cls d σ H') :=
  ps_raise hc tk (pmk_1 T F b hr ha hg hdb he hpl)
end
end WU

namespace WU
open PySem PySem.Spec PyProof.Rows L2
def top (i : Nat) : Stmt := PySem.Challenge.pw_wishunseen_k69_lines.main.body.getD i (.Pass ⟨0, 0, 0, 0⟩)
abbrev sLine_init : Stmt := inClass (top 1) 0
abbrev sLine_send : Stmt := inClass (top 1) 1
abbrev sLine_rest : Stmt := inClass (top 1) 2
abbrev sLine_next_mark : Stmt := inClass (top 1) 3
abbrev s_law_draw : Stmt := top 3
abbrev s_law_state : Stmt := top 4
abbrev s_law_pick : Stmt := top 5
abbrev s_law_same : Stmt := top 6
abbrev s_law_marks : Stmt := top 7
abbrev s_law_message : Stmt := top 8
abbrev s_law_sent : Stmt := top 9
abbrev sLaw : Stmt := top 10
end WU

set_option maxRecDepth 100000
set_option maxHeartbeats 4000000
namespace WU
open PySem PySem.Spec PyProof.Rows L2
abbrev FnS (K : PySem.W.Frag) (x : Str) (st : Stmt) (f : Addr) (fd : FuncData) : Prop := FunD K x x (defArgs st) (defBody st) (defScope st) [] [] f fd
structure Blt0 (mg : Str → Option Value) : Prop where
  isi : mg "isinstance" = none
  int : mg "int" = none
  bool : mg "bool" = none
  str : mg "str" = none
  len : mg "len" = none
  abs : mg "abs" = none
  range : mg "range" = none
  tuple : mg "tuple" = none
  lst : mg "list" = none
theorem cal_mk {P : Program} {w : World} {K : PySem.W.Frag} {mg : Str → Option Value} {base : Heap} {x : Str} {st : Stmt} {f : Addr} {fd : FuncData} {ps : List Str} {k : Nat} {sp : Sp} (F : FnS K x st f fd) (g : mg x = some (.ref f)) (ok : FnOk P w K mg base (L2.CX P w) k f fd ps sp)
    (h : ∀ (kV doc pm : Value) (an : Option Addr) (cdv ct : Value) (us : List Value), us.length = ps.length → bindArgs (PySem.W.fnOf x x (defArgs st) (defBody st) (defScope st) .none kV doc pm an cdv ct) ⟨us, []⟩ = pure (ps.zip us)) : Cal P w K mg base k x f fd ps sp :=
  ⟨g, F.kp, F.bindsN h, ok⟩
/-! ### the rules whose readings name the written part, with K told (for use within the blocks of comprehensions) -/
section
variable {X : Cx} {K : PySem.W.Frag}
theorem ix_tupK (hK : X.K = K := by rfl) : IxR X (rIxT K) := hK ▸ ix_tup
theorem ix_listK (hK : X.K = K := by rfl) : IxR X (rIxL K) := hK ▸ ix_list
theorem cr_allK (hc : X.calm = true) (hK : X.K = K := by rfl) : CallR X (.builtin "all") (rAll K) := hK ▸ cr_all hc
theorem cr_anyK (hc : X.calm = true) (hK : X.K = K := by rfl) : CallR X (.builtin "any") (rAny K) := hK ▸ cr_any hc
theorem cr_sumK (hc : X.calm = true) (hK : X.K = K := by rfl) : CallR X (.builtin "sum") (rSum K) := hK ▸ cr_sum hc
def rLenK (K : PySem.W.Frag) : List V → Hp → VK → Prop := fun xs H Q => ∃ p ys, xs = [.ref p] ∧ (SqL K H p ys ∨ SqT K H p ys) ∧ Q (.int ys.length) H
theorem len_seqK (hK : X.K = K := by rfl) : CallR X (.builtin "len") (rLenK K) := hK ▸ call_len_seq
def rListK (K : PySem.W.Frag) : List V → Hp → VK → Prop := fun xs H Q => ∃ p ys, xs = [.ref p] ∧ (SqL K H p ys ∨ SqT K H p ys) ∧ ∀ l, H l = none → Q (.ref l) (upd H l (.lst ys))
theorem list_ofK (hK : X.K = K := by rfl) : CallR X (.type "list") (rListK K) := hK ▸ call_list_of
def rTupK (K : PySem.W.Frag) : List V → Hp → VK → Prop := fun xs H Q => ∃ p ys, xs = [.ref p] ∧ ((SqL K H p ys ∧ ∀ l, H l = none → Q (.ref l) (upd H l (.tup ys))) ∨ (SqT K H p ys ∧ Q (.ref p) H))
theorem tup_ofK (hK : X.K = K := by rfl) : CallR X (.type "tuple") (rTupK K) := hK ▸ call_tuple_of
theorem isiK (hK : X.K = K := by rfl) : CallR X (.builtin "isinstance") (rIsi K) := hK ▸ call_isi
theorem sl_listK (hK : X.K = K := by rfl) : SlR X (rSlL K) := hK ▸ sl_list
theorem op_inK (hK : X.K = K := by rfl) : OpR X (compareOp .In) (rIn K false) := hK ▸ op_in_seq
theorem op_notInK (hK : X.K = K := by rfl) : OpR X (compareOp .NotIn) (rIn K true) := hK ▸ op_notIn_seq
theorem op_neDK (hu : X.A.units + 64 < cLine) (hK : X.K = K := by rfl) : OpR X (compareOp .NotEq) (rNeD K) := hK ▸ op_neD hu
theorem op_eqDK (hu : X.A.units + 64 < cLine) (hK : X.K = K := by rfl) : OpR X (compareOp .Eq) (rEqD K) := hK ▸ op_eqD hu
theorem pi_listK {tg l : Expr} {tl : TE} (hl : PE X l tl) (hK : X.K = K := by rfl) : PI X tg l (iList K tl) := hK ▸ pi_list hl
theorem pi_tupK {tg l : Expr} {tl : TE} (hl : PE X l tl) (hK : X.K = K := by rfl) : PI X tg l (iTup K tl) := hK ▸ pi_tup hl
theorem pg_tupK {es : List Expr} {k : Nat} {pos : Pos} {t : List V → L2.St → Hp → (L2.St → Hp → Prop) → Prop} {n : Nat} (h : PG X (.Tuple es k pos) (gTup X.K n t)) (hK : X.K = K := by rfl) : PG X (.Tuple es k pos) (gTup K n t) := hK ▸ h
theorem pe_bmK {o e : Expr} {es : List Expr} {to : TE} {t : TA} {name : Str} {apos cpos : Pos} {T id : String} {r : V → List V → Hp → VK → Prop} (h : PE X (.Call (.Attribute o name apos) (e :: es) [] cpos) (tBM X.K T r to t)) (hK : X.K = K := by rfl) :
    PE X (.Call (.Attribute o name apos) (e :: es) [] cpos) (tBM K T r to t) := hK ▸ h
theorem pe_fldK {e : Expr} {f : Str} {pos : Pos} {ta : TE} (he : PE X e ta) (hb : attributeBase e f X.env (eval e X.env) = eval e X.env) (hK : X.K = K := by rfl) : PE X (.Attribute e f pos) (tFld K ta f) := hK ▸ pe_fld he hb
end
theorem small4k {n : Nat} (h : n ≤ 4000) : n < sizeLine := Nat.lt_of_le_of_lt h (by decide)
theorem same_new {p : Addr} {o : HO} {H : Hp} (h : H p = none) : Same H (upd H p o) := fun b u e => by rw [upd_ne (ne_of_none e h)]; exact e
def rMd : R2 := rI (fun _ j => j ≠ 0) fun i j => .int (i.fmod j)
def rDv : R2 := rI CDivN fun i j => .int (i.fdiv j)
def rMl : R2 := rI CMul fun i j => .int (i * j)
def rAd : R2 := rI0 fun i j => .int (i + j)
def tI1 (t : TE) : TE := tCB (fun xs H Q => (∃ i, xs = [V.int i] ∧ Q (.int i) H) ∨ ∃ k, xs = [V.bl k] ∧ Q (.int (if k then 1 else 0)) H) (tCons t tNil)
theorem fmod_bd (x : Int) {m : Int} (h : 0 < m) : 0 ≤ x.fmod m ∧ x.fmod m < m := ⟨Int.fmod_nonneg_of_pos x h, Int.fmod_lt_of_pos x h⟩
/-! ### frames: what stands outside M stays, and all tuples stay -/
structure Fr (M : List Addr) (H H' : Hp) : Prop where
  k : ∀ b o, b ∉ M → H b = some o → H' b = some o
  t : ∀ b xs, H b = some (.tup xs) → H' b = some (.tup xs)
theorem Fr.refl {M : List Addr} {H : Hp} : Fr M H H := ⟨fun _ _ _ e => e, fun _ _ e => e⟩
theorem Fr.of {M : List Addr} {H H' : Hp} (s : Same H H') : Fr M H H' := ⟨fun b o _ e => s b o e, fun b xs e => s b _ e⟩
theorem Fr.trans {M : List Addr} {H H1 H2 : Hp} (x : Fr M H H1) (y : Fr M H1 H2) : Fr M H H2 := ⟨fun b o n e => y.k b o n (x.k b o n e), fun b xs e => y.t b xs (x.t b xs e)⟩
theorem Fr.mono {M N : List Addr} {H H' : Hp} (x : Fr M H H') (h : ∀ b, b ∈ M → b ∈ N) : Fr N H H' := ⟨fun b o n e => x.k b o (fun z => n (h b z)) e, x.t⟩
theorem Fr.new {M : List Addr} {p : Addr} {o : HO} {H : Hp} (h : H p = none) : Fr M H (upd H p o) := .of (same_new h)
theorem Fr.put {a : Addr} {o u : HO} {H : Hp} (e : H a = some o) (n : ∀ xs, o ≠ .tup xs) : Fr [a] H (upd H a u) :=
  ⟨fun b v nb eb => by rw [upd_ne fun z => nb (by rw [z]; exact List.mem_singleton.mpr rfl)]; exact eb, fun b xs eb => by rw [upd_ne (ne_of eb e (fun z => n _ z.symm))]; exact eb⟩
theorem Fr.putL {a : Addr} {xs : List V} {u : HO} {H : Hp} (e : H a = some (.lst xs)) : Fr [a] H (upd H a u) := .put e (by intro xs z; cases z)
theorem Fr.one {a b : Addr} {o : HO} {H H' : Hp} (x : Fr [a] H H') (h : H b = some o) (n : b ≠ a) : H' b = some o := x.k b o (fun z => n (List.mem_singleton.mp z)) h
theorem sqL_fr {K : PySem.W.Frag} {M : List Addr} {H H' : Hp} {a : Addr} {xs : List V} (h : SqL K H a xs) (x : Fr M H H') (n : a ∉ M) : SqL K H' a xs := by
  rcases h with (h | ⟨o, h⟩) | h
  · exact .inl (.inl (x.k _ _ n h))
  · exact .inl (.inr ⟨o, x.k _ _ n h⟩)
  · exact .inr h
/-! ### the script, and the state of its draws -/
structure Scr (K : PySem.W.Frag) (H : Hp) (a : Addr) (ns : List Int) : Prop where
  sq : SqL K H a (ns.map V.int)
  le : ns.length ≤ 63
/-- a change at b is none of the script -/
def Far (K : PySem.W.Frag) (a : Addr) (ns : List Int) (b : Addr) : Prop := a ≠ b ∨ ∀ H, SqL K H a (ns.map V.int)
theorem Scr.fr {K : PySem.W.Frag} {M : List Addr} {H H' : Hp} {a : Addr} {ns : List Int} (h : Scr K H a ns) (x : Fr M H H') (n : ∀ b ∈ M, Far K a ns b) : Scr K H' a ns := by
  by_cases m : a ∈ M
  · rcases n a m with z | z
    · exact absurd rfl z
    · exact ⟨z H', h.le⟩
  · exact ⟨sqL_fr h.sq x m, h.le⟩
theorem Scr.fr1 {K : PySem.W.Frag} {s : Addr} {H H' : Hp} {a : Addr} {ns : List Int} (h : Scr K H a ns) (x : Fr [s] H H') (n : Far K a ns s) : Scr K H' a ns := h.fr x fun b hb => by rw [List.mem_singleton.mp hb]; exact n
theorem far_new {K : PySem.W.Frag} {H : Hp} {a b : Addr} {ns : List Int} (h : Scr K H a ns) (n : H b = none) : Far K a ns b := by
  rcases h.sq with (h | ⟨o, h⟩) | h
  · exact .inl (ne_of_none h n)
  · exact .inl (ne_of_none h n)
  · exact .inr fun _ => .inr h
theorem Scr.same {K : PySem.W.Frag} {H H' : Hp} {a : Addr} {ns : List Int} (h : Scr K H a ns) (x : Same H H') : Scr K H' a ns := ⟨x.seq h.sq, h.le⟩
def StL (a b c d : Int) : List V := [.int a, .int b, .int c, .int d]
def StA (H : Hp) (s : Addr) : Prop := ∃ a b c d : Int, H s = some (.lst (StL a b c d)) ∧ 0 ≤ a ∧ a ≤ 63
theorem StA.same {H H' : Hp} {s : Addr} (h : StA H s) (x : Same H H') : StA H' s := by
  obtain ⟨a, b, c, d, e, h⟩ := h
  exact ⟨a, b, c, d, x _ _ e, h⟩
theorem StA.fr {H H' : Hp} {M : List Addr} {s : Addr} (h : StA H s) (x : Fr M H H') (n : s ∉ M) : StA H' s := by
  obtain ⟨a, b, c, d, e, h⟩ := h
  exact ⟨a, b, c, d, x.k _ _ n e, h⟩
theorem StA.ne {H : Hp} {s q : Addr} (h : StA H s) (n : H q = none) : s ≠ q := by
  obtain ⟨a, b, c, d, e, h⟩ := h
  exact ne_of_none e n
section
variable {P : Program} {w : World} {K : PySem.W.Frag} {mg : Str → Option Value} {base : Heap}
/-- _law_draw(script, state, many) -/
def spDraw (K : PySem.W.Frag) : Sp := fun vs H Q _ => ∃ (a s : Addr) (ns : List Int) (m : Int), vs = [.ref a, .ref s, .int m] ∧ Scr K H a ns ∧ Far K a ns s ∧ StA H s ∧ 0 < m ∧ m.natAbs.log2 < 9000 ∧
  ∀ (r : Int) H', 0 ≤ r → r < m → StA H' s → Fr [s] H H' → Q (.int r) H'
theorem scDraw : FnScope ["script", "state", "many", "found", "k", "rest", "base", "mixed"] ["script", "state", "many"] (defScope s_law_draw) := ⟨rfl, rfl, rfl, by decide +kernel, rfl, by decide +kernel, by decide +kernel⟩
theorem ok_draw {f : Addr} {fd : FuncData} (F : FnS K "_law_draw" s_law_draw f fd) (B : Blt0 mg) : FnOk P w K mg base (L2.CX P w) 1 f fd ["script", "state", "many"] (spDraw K) := by
  refine F.ok scDraw (fun vs H Q E h => ?_) (fun cdv A outer s H vs Q E hr h => ?_)
  · obtain ⟨a, t, ns, m, rfl, _⟩ := h
    rfl
  · obtain ⟨a, t, ns, m, rfl, hS, nat, ⟨s0, s1, s2, s3, e0, p0, p1⟩, hm, hl, kk⟩ := h
    have nd := scDraw.nd
    have hne : m ≠ 0 := by omega
    refine ⟨_, (pss_cons (ps_if (pt_cmpR op_gt (pe_ix (ix_listK (K := K)) (pv 1) pe_int (fun _ _ => rfl)) pe_int (nomark _)) (pss_cons (ps_set (i := 3) nd rfl (Or.inl rfl) (pe_op op_modN (pe_callTy call_int1 (by rfl) B.int (by decide +kernel) (pa_cons (pe_ix (ix_listK (K := K)) (pv 1) pe_int (fun _ _ => rfl)) pa_nil)) (pv 2)))
      (pss_cons (ps_asg (pe_op op_fdivW (pe_ix (ix_listK (K := K)) (pv 1) pe_int (fun _ _ => rfl)) (pv 2)) (pg_sub (pv 1) pe_int set_list))
      (pss_one (ps_ret (pv 3))))) pss_nil)
      (pss_cons (ps_for (passes_of rfl) rfl (pi_range2 rfl B.range (pa_cons (pe_ix (ix_listK (K := K)) (pv 1) pe_int (fun _ _ => rfl)) (pa_cons (pe_callB (len_seqK (K := K)) (by rfl) B.len (by decide +kernel) (pa_cons (pv 0) pa_nil)) pa_nil))) (pg_name (i := 4) nd rfl (Or.inl rfl)) (pss_cons (ps_asg (pe_op op_add (pv 4) pe_int) (pg_sub (pv 1) pe_int set_list))
      (pss_one (ps_if (PW.pt (pw_or (pt_cmpR op_ge (pe_ix (ix_listK (K := K)) (pv 0) (pv 4) (fun _ _ => rfl)) (pe_op op_pow pe_int pe_int) (nomark _)) (pw_or1 (pt_cmpR op_le (pe_ix (ix_listK (K := K)) (pv 0) (pv 4) (fun _ _ => rfl)) (pe_un un_neg (pe_op op_pow pe_int pe_int)) (nomark _))))) (pss_cons (ps_set (i := 5) nd rfl (Or.inl rfl) (pe_callB call_abs (by rfl) B.abs (by decide +kernel) (pa_cons (pe_ix (ix_listK (K := K)) (pv 0) (pv 4) (fun _ _ => rfl)) pa_nil)))
      (pss_cons (ps_asg (pe_op op_fdivW (pv 5) (pv 2)) (pg_sub (pv 1) pe_int set_list))
      (pss_one (ps_ret (pe_op op_modN (pe_callTy call_int1 (by rfl) B.int (by decide +kernel) (pa_cons (pv 5) pa_nil)) (pv 2)))))) pss_nil))))
      (pss_cons (ps_asg (pe_op op_add (pe_ix (ix_listK (K := K)) (pv 1) pe_int (fun _ _ => rfl)) pe_int) (pg_sub (pv 1) pe_int set_list))
      (pss_cons (ps_set (i := 6) nd rfl (Or.inl rfl) (pe_ifExp (pt_cmpR op_gt (pe_callB (len_seqK (K := K)) (by rfl) B.len (by decide +kernel) (pa_cons (pv 0) pa_nil)) pe_int (nomark _)) (pe_ix (ix_listK (K := K)) (pv 0) (pe_op op_modN (pe_callTy call_int1 (by rfl) B.int (by decide +kernel) (pa_cons (pe_ix (ix_listK (K := K)) (pv 1) pe_int (fun _ _ => rfl)) pa_nil)) (pe_callB (len_seqK (K := K)) (by rfl) B.len (by decide +kernel) (pa_cons (pv 0) pa_nil))) (fun _ _ => rfl)) pe_int))
      (pss_cons (ps_asg (pe_op op_modN (pe_callTy call_int1 (by rfl) B.int (by decide +kernel) (pa_cons (pe_op op_add (pe_op op_add (pe_op op_add (pe_op op_mul (pe_ix (ix_listK (K := K)) (pv 1) pe_int (fun _ _ => rfl)) pe_int) (pe_op op_mul (pv 6) pe_int)) (pe_op op_mul (pe_ix (ix_listK (K := K)) (pv 1) pe_int (fun _ _ => rfl)) pe_int)) pe_int) pa_nil)) pe_int) (pg_sub (pv 1) pe_int set_list))
      (pss_cons (ps_set (i := 7) nd rfl (Or.inl rfl) (pe_op op_modN (pe_callTy call_int1 (by rfl) B.int (by decide +kernel) (pa_cons (pe_op op_add (pe_op op_add (pe_op op_mul (pe_ix (ix_listK (K := K)) (pv 1) pe_int (fun _ _ => rfl)) (pe_ix (ix_listK (K := K)) (pv 1) pe_int (fun _ _ => rfl))) (pe_op op_mul (pe_ix (ix_listK (K := K)) (pv 1) pe_int (fun _ _ => rfl)) pe_int)) pe_int) pa_nil)) pe_int))
      (pss_one (ps_ret (pe_op op_modN (pe_callTy call_int1 (by rfl) B.int (by decide +kernel) (pa_cons (pe_op op_fdivN (pv 7) pe_int) pa_nil)) (pv 2)))))))))), ?_⟩
    have at_ : ∀ {j : Nat} {a b c d : Int} {v : V}, (StL a b c d)[j]? = some v → atI (StL a b c d) (j : Int) = some v := fun e => atI_nat e
    have put : ∀ (H1 : Hp) (b0 b1 b2 b3 : Int), Fr [t] H H1 → (∃ c0 c1 c2 c3 : Int, H1 t = some (.lst (StL c0 c1 c2 c3))) → Fr [t] H (upd H1 t (.lst (StL b0 b1 b2 b3))) := fun H1 b0 b1 b2 b3 x ⟨_, _, _, _, e⟩ => x.trans (.putL e)
    refine ⟨_, rfl, t, _, 1, _, rfl, rfl, SqL.of e0, atI_nat (j := 1) rfl, _, _, rfl, rfl, _, rfl, iteD (fun h1 => ?_) fun h1 => ?_⟩
    · refine ⟨_, rfl, t, _, 1, _, rfl, rfl, SqL.of e0, atI_nat (j := 1) rfl, .inl ⟨_, rfl, _, rfl, _, _, rfl, rfl, hne, ?_⟩⟩
      refine ⟨_, rfl, t, _, 1, _, rfl, rfl, SqL.of e0, atI_nat (j := 1) rfl, _, rfl, _, _, rfl, rfl, ⟨hm, hl⟩, _, rfl, t, _, 1, 1, rfl, rfl, e0, rfl, ?_⟩
      have b := fmod_bd s1 hm
      exact ⟨_, rfl, kk _ _ b.1 b.2 ⟨s0, _, s2, s3, upd_same, p0, p1⟩ (put H _ _ _ _ .refl ⟨_, _, _, _, e0⟩)⟩
    · have hle := hS.le
      refine ⟨_, rfl, t, _, 0, _, rfl, rfl, SqL.of e0, atI_nat (j := 0) rfl, _, rfl, a, _, rfl, .inl hS.sq, _, _, rfl, ⟨by omega, by omega, by rw [List.length_map]; omega, by rw [List.length_map]; omega⟩, ?_⟩
      have hk : ∀ {q : Int}, 0 ≤ q → q < ns.length → ∃ z, atI (ns.map V.int) q = some (V.int z) := fun {q} h0 h2 => by
        obtain ⟨j, rfl⟩ : ∃ j : Nat, q = (j : Int) := ⟨q.toNat, by omega⟩
        have hj : j < ns.length := by omega
        exact ⟨ns[j], atI_nat (by rw [List.getElem?_map, List.getElem?_eq_getElem hj] <;> rfl)⟩
      have big : (2 : Int) ^ 62 = 4611686018427387904 := by decide
      have p18 : (10 : Int) ^ (18 : Int).toNat = 1000000000000000000 := by decide
      refine for_range (lo := s0) (n := (((ns.map V.int).length : Int) - s0).toNat) (fun i σ H1 => ∃ y4, σ = [some (.ref a), some (.ref t), some (.int m), none, y4, none, none, none] ∧ Fr [t] H H1 ∧ ∃ b0 : Int, H1 t = some (.lst (StL b0 s1 s2 s3)) ∧ 0 ≤ b0 ∧ b0 ≤ 63) ⟨_, rfl, .refl, s0, e0, p0, p1⟩ ?_ ?_
      · rintro i σ H1 hi ⟨y4, rfl, x1, b0, e1, q0, q1⟩
        rw [List.length_map] at hi
        obtain ⟨z, hz⟩ := hk (q := s0 + i) (by omega) (by omega)
        refine ⟨_, rfl, _, _, rfl, rfl, _, rfl, t, _, 0, 0, rfl, rfl, e1, rfl, ?_⟩
        have x2 : Fr [t] H (upd H1 t (.lst ((StL b0 s1 s2 s3).set 0 (.int (s0 + i + 1))))) := put H1 (s0 + i + 1) s1 s2 s3 x1 ⟨_, _, _, _, e1⟩
        have e2 : upd H1 t (.lst ((StL b0 s1 s2 s3).set 0 (.int (s0 + i + 1)))) t = some (.lst (StL (s0 + i + 1) s1 s2 s3)) := upd_same
        generalize upd H1 t (.lst ((StL b0 s1 s2 s3).set 0 (.int (s0 + i + 1)))) = H2 at x2 e2 ⊢
        have hS2 := (hS.fr1 x2 nat).sq
        have take : ∀ (u : Int) (σ : L2.St), u = (if z < 0 then -z else z) → Q (.int (u.fmod m)) (upd H2 t (.lst (StL (s0 + i + 1) (u / m) s2 s3))) := fun u _ _ => by
          have b := fmod_bd u hm
          exact kk _ _ b.1 b.2 ⟨_, _, _, _, upd_same, by omega, by omega⟩ (put H2 _ _ _ _ x2 ⟨_, _, _, _, e2⟩)
        refine ⟨_, rfl, _, rfl, a, _, _, _, rfl, rfl, hS2, hz, _, _, rfl, rfl, ⟨by omega, by omega, by decide⟩, _, _, rfl, rfl, _, rfl, iteD (fun h2 => ?_) fun h2 => ?_⟩
        · refine iteT ⟨_, rfl, _, rfl, a, _, _, _, rfl, rfl, hS2, hz, _, rfl, _, rfl, _, rfl, _, _, rfl, rfl, ⟨hm, hl⟩, _, rfl, t, _, 1, 1, rfl, rfl, e2, rfl, _, rfl, .inl ⟨_, rfl, _, rfl, _, _, rfl, rfl, hne, take _ [] rfl⟩⟩
        · refine ⟨_, rfl, _, rfl, a, _, _, _, rfl, rfl, hS2, hz, _, _, rfl, rfl, ⟨by omega, by omega, by decide⟩, _, rfl, _, _, rfl, rfl, _, rfl, iteD (fun h3 => ?_) fun h3 => ?_⟩
          · refine ⟨_, rfl, _, rfl, a, _, _, _, rfl, rfl, hS2, hz, _, rfl, _, rfl, _, rfl, _, _, rfl, rfl, ⟨hm, hl⟩, _, rfl, t, _, 1, 1, rfl, rfl, e2, rfl, _, rfl, .inl ⟨_, rfl, _, rfl, _, _, rfl, rfl, hne, take _ [] rfl⟩⟩
          · exact ⟨_, rfl, x2, _, e2, by omega, by omega⟩
      · rintro σ H1 ⟨y4, rfl, x1, b0, e1, q0, q1⟩
        have hS1 := (hS.fr1 x1 nat).sq
        refine ⟨_, rfl, t, _, 2, _, rfl, rfl, SqL.of e1, atI_nat (j := 2) rfl, _, _, rfl, rfl, _, rfl, t, _, 2, 2, rfl, rfl, e1, rfl, ?_⟩
        have x2 : Fr [t] H (upd H1 t (.lst ((StL b0 s1 s2 s3).set 2 (.int (s2 + 1))))) := put H1 b0 s1 (s2 + 1) s3 x1 ⟨_, _, _, _, e1⟩
        have e2 : upd H1 t (.lst ((StL b0 s1 s2 s3).set 2 (.int (s2 + 1)))) t = some (.lst (StL b0 s1 (s2 + 1) s3)) := upd_same
        generalize upd H1 t (.lst ((StL b0 s1 s2 s3).set 2 (.int (s2 + 1)))) = H2 at x2 e2 ⊢
        have hS2 := (hS.fr1 x2 nat).sq
        have rest : ∀ z : Int, ∃ t0 t1, t0 = t1 := fun _ => ⟨0, 0, rfl⟩
        have fin : ∀ z : Int, (tSeq (tAsg (tOp rMd (tI1 (tOp rAd (tOp rAd (tOp rAd (tOp rMl (tOp (rIxL K) (tVar 1) (tC (.int 3))) (tC (.int 48271))) (tOp rMl (tVar 6) (tC (.int 16807)))) (tOp rMl (tOp (rIxL K) (tVar 1) (tC (.int 2))) (tC (.int 69621)))) (tC (.int 11)))) (tC (.int 2147483647))) (gSub (tVar 1) (tC (.int 3)) rSetL))
            (tSeq (tAsg (tOp rMd (tI1 (tOp rAd (tOp rAd (tOp rMl (tOp (rIxL K) (tVar 1) (tC (.int 3))) (tOp (rIxL K) (tVar 1) (tC (.int 3)))) (tOp rMl (tOp (rIxL K) (tVar 1) (tC (.int 2))) (tC (.int 40692)))) (tC (.int 3)))) (tC (.int 2147483399))) (gName 7))
              (tRet (tOp rMd (tI1 (tOp rDv (tVar 7) (tC (.int 7)))) (tVar 2))))) { nx := fun _ H' => Q .non H', rt := Q } [some (.ref a), some (.ref t), some (.int m), none, y4, none, some (.int z), none] H2 := fun z => by
          refine ⟨_, rfl, t, _, 3, _, rfl, rfl, SqL.of e2, atI_nat (j := 3) rfl, _, _, rfl, rfl, .inr ⟨by decide, by decide⟩, _, rfl, _, _, rfl, rfl, .inr ⟨by decide, by decide⟩, _, _, rfl, rfl, _, rfl, t, _, 2, _, rfl, rfl, SqL.of e2, atI_nat (j := 2) rfl, _, _, rfl, rfl, .inr ⟨by decide, by decide⟩, _, _, rfl, rfl, _, _, rfl, rfl, .inl ⟨_, rfl, _, _, rfl, rfl, (show (2147483647 : Int) ≠ 0 by decide), _, rfl, t, _, 3, 3, rfl, rfl, e2, rfl, ?_⟩⟩
          have b3 := fmod_bd (s3 * 48271 + z * 16807 + (s2 + 1) * 69621 + 11) (m := 2147483647) (by decide)
          dsimp only
          generalize (s3 * 48271 + z * 16807 + (s2 + 1) * 69621 + 11).fmod 2147483647 = d at b3 ⊢
          have x3 : Fr [t] H (upd H2 t (.lst ((StL b0 s1 (s2 + 1) s3).set 3 (.int d)))) := put H2 b0 s1 (s2 + 1) d x2 ⟨_, _, _, _, e2⟩
          have e3 : upd H2 t (.lst ((StL b0 s1 (s2 + 1) s3).set 3 (.int d))) t = some (.lst (StL b0 s1 (s2 + 1) d)) := upd_same
          generalize upd H2 t (.lst ((StL b0 s1 (s2 + 1) s3).set 3 (.int d))) = H3 at x3 e3 ⊢
          refine ⟨_, rfl, t, _, 3, _, rfl, rfl, SqL.of e3, atI_nat (j := 3) rfl, _, rfl, t, _, 3, _, rfl, rfl, SqL.of e3, atI_nat (j := 3) rfl, _, _, rfl, rfl, .inl ⟨by omega, by omega⟩, _, rfl, t, _, 2, _, rfl, rfl, SqL.of e3, atI_nat (j := 2) rfl, _, _, rfl, rfl, .inr ⟨by decide, by decide⟩, _, _, rfl, rfl, _, _, rfl, rfl, .inl ⟨_, rfl, _, _, rfl, rfl, (show (2147483399 : Int) ≠ 0 by decide), ?_⟩⟩
          dsimp only
          generalize (d * d + (s2 + 1) * 40692 + 3).fmod 2147483399 = g
          have b := fmod_bd (g.fdiv 7) hm
          exact ⟨_, rfl, _, _, rfl, rfl, ⟨by decide, by decide⟩, .inl ⟨_, rfl, _, rfl, _, _, rfl, rfl, hne, kk _ _ b.1 b.2 ⟨_, _, _, _, e3, q0, q1⟩ x3⟩⟩
        refine ⟨_, rfl, a, _, rfl, .inl hS2, _, _, rfl, rfl, _, rfl, ?_⟩
        rw [List.length_map]
        refine iteD (fun h4 => ?_) fun h4 => fin 5
        have b := fmod_bd (s2 + 1) (m := (ns.length : Int)) (by omega)
        obtain ⟨z, hz⟩ := hk b.1 b.2
        refine ⟨_, rfl, _, rfl, t, _, 2, _, rfl, rfl, SqL.of e2, atI_nat (j := 2) rfl, .inl ⟨_, rfl, _, rfl, a, _, rfl, .inl hS2, _, _, rfl, rfl, by rw [List.length_map]; omega, a, _, _, _, rfl, rfl, hS2, by rw [List.length_map]; exact hz, fin z⟩⟩
end
end WU

set_option maxRecDepth 100000
set_option maxHeartbeats 4000000
namespace WU
open PySem PySem.Spec PyProof.Rows L2
section
variable {P : Program} {w : World} {K : PySem.W.Frag} {mg : Str → Option Value} {base : Heap}
theorem Scr.at_ {H : Hp} {a : Addr} {ns : List Int} (h : Scr K H a ns) {q : Nat} (hq : q < ns.length) : ∃ z, atI (ns.map V.int) (q : Int) = some (V.int z) :=
  ⟨ns[q], atI_nat (by rw [List.getElem?_map, List.getElem?_eq_getElem hq] <;> rfl)⟩
def spState (K : PySem.W.Frag) : Sp := fun vs H Q _ => ∃ (a : Addr) (ns : List Int), vs = [.ref a] ∧ Scr K H a ns ∧ ∀ s H', H s = none → Same H H' → StA H' s → Q (.ref s) H'
theorem scState : FnScope ["script", "state", "k"] ["script"] (defScope s_law_state) := ⟨rfl, rfl, rfl, by decide +kernel, rfl, by decide +kernel, by decide +kernel⟩
theorem ok_state {f : Addr} {fd : FuncData} (F : FnS K "_law_state" s_law_state f fd) (B : Blt0 mg) : FnOk P w K mg base (L2.CX P w) 1 f fd ["script"] (spState K) := by
  refine F.ok scState (fun vs H Q E h => ?_) (fun cdv A outer s H vs Q E hr h => ?_)
  · obtain ⟨a, ns, rfl, _⟩ := h
    rfl
  · obtain ⟨a, ns, rfl, hS, kk⟩ := h
    have nd := scState.nd
    have hle := hS.le
    refine ⟨_, (pss_cons (ps_set (i := 1) nd rfl (Or.inl rfl) (pe_lst (pa_cons pe_int (pa_cons pe_int (pa_cons pe_int (pa_cons (pe_callB (len_seqK (K := K)) (by rfl) B.len (by decide +kernel) (pa_cons (pv 0) pa_nil)) pa_nil))))))
      (pss_cons (ps_for (passes_of rfl) rfl (pi_range1 rfl B.range (pa_cons (pe_callB (len_seqK (K := K)) (by rfl) B.len (by decide +kernel) (pa_cons (pv 0) pa_nil)) pa_nil)) (pg_name (i := 2) nd rfl (Or.inl rfl)) (pss_one (ps_asg (pe_op op_modN (pe_callTy call_int1 (by rfl) B.int (by decide +kernel) (pa_cons (pe_op op_add (pe_op op_add (pe_op op_mul (pe_ix (ix_listK (K := K)) (pv 1) pe_int (fun _ _ => rfl)) pe_int) (pe_ix (ix_listK (K := K)) (pv 0) (pv 2) (fun _ _ => rfl))) (pv 2)) pa_nil)) pe_int) (pg_sub (pv 1) pe_int set_list))))
      (pss_one (ps_ret (pv 1))))), ?_⟩
    refine ⟨_, rfl, a, _, rfl, .inl hS.sq, (by show 4 ≤ sizeLine; decide), fun t ht => ?_⟩
    have ft := far_new hS ht
    have x0 : Same H (upd H t (.lst (StL 0 0 0 ((ns.map V.int).length : Int)))) := same_new ht
    have e0 : upd H t (.lst (StL 0 0 0 ((ns.map V.int).length : Int))) t = some (.lst (StL 0 0 0 ((ns.map V.int).length : Int))) := upd_same
    refine ⟨_, rfl, a, _, rfl, .inl (x0.seq hS.sq), _, rfl, by omega, by rw [List.length_map]; omega, ?_⟩
    refine for_range (lo := 0) (n := (ns.map V.int).length) (fun i σ H1 => ∃ y2, σ = [some (.ref a), some (.ref t), y2] ∧ Same H H1 ∧ ∃ d : Int, H1 t = some (.lst (StL 0 0 0 d))) ⟨none, rfl, x0, _, e0⟩ ?_ ?_
    · rintro i σ H1 hi ⟨y2, rfl, x1, d, e1⟩
      rw [List.length_map] at hi
      obtain ⟨z, hz⟩ := hS.at_ hi
      rw [show ((0 : Int) + (i : Int)) = ((i : Nat) : Int) from Int.zero_add _]
      refine ⟨_, rfl, t, _, 3, _, rfl, rfl, SqL.of e1, atI_nat (j := 3) rfl, _, _, rfl, rfl, .inr ⟨by decide, by decide⟩, _, rfl, _, rfl, a, _, _, _, rfl, rfl, x1.seq hS.sq, hz, _, _, rfl, rfl, _, rfl, _, _, rfl, rfl, .inl ⟨_, rfl, _, _, rfl, rfl, (show (2147483647 : Int) ≠ 0 by decide), _, rfl, t, _, 3, 3, rfl, rfl, e1, rfl, ?_⟩⟩
      exact ⟨_, rfl, fun b o hb => by rw [upd_ne (ne_of_none hb ht)]; exact x1 b o hb, _, upd_same⟩
    · rintro σ H1 ⟨y2, rfl, x1, d, e1⟩
      exact ⟨_, rfl, kk t H1 ht x1 ⟨_, _, _, _, e1, by omega, by omega⟩⟩
/-- _law_pick(script, state, things) -/
def spPick (K : PySem.W.Frag) : Sp := fun vs H Q _ => ∃ (a s t : Addr) (ns : List Int) (xs : List V), vs = [.ref a, .ref s, .ref t] ∧ Scr K H a ns ∧ Far K a ns s ∧ StA H s ∧ H t = some (.lst xs) ∧ t ≠ s ∧ 0 < xs.length ∧ xs.length ≤ 1000000 ∧
  ∀ (i : Nat) (y : V) H', xs[i]? = some y → StA H' s → Fr [s] H H' → Q y H'
theorem scPick : FnScope ["script", "state", "things"] ["script", "state", "things"] (defScope s_law_pick) := ⟨rfl, rfl, rfl, by decide +kernel, rfl, by decide +kernel, by decide +kernel⟩
theorem ok_pick {f f1 : Addr} {fd fd1 : FuncData} (F : FnS K "_law_pick" s_law_pick f fd) (B : Blt0 mg) (CD : Cal P w K mg base 1 "_law_draw" f1 fd1 ["script", "state", "many"] (spDraw K)) : FnOk P w K mg base (L2.CX P w) 2 f fd ["script", "state", "things"] (spPick K) := by
  refine F.ok scPick (fun vs H Q E h => ?_) (fun cdv A outer s H vs Q E hr h => ?_)
  · obtain ⟨a, t, u, ns, xs, rfl, _⟩ := h
    rfl
  · obtain ⟨a, t, u, ns, xs, rfl, hS, fa, hA, hu, ne, h0, h1, kk⟩ := h
    have nd := scPick.nd
    refine ⟨_, (pss_one (ps_ret (pe_ix (ix_listK (K := K)) (pv 2) (pe_cal CD (hr.mono (by decide)) (pa_cons (pv 0) (pa_cons (pv 1) (pa_cons (pe_callB (len_seqK (K := K)) (by rfl) B.len (by decide +kernel) (pa_cons (pv 2) pa_nil)) pa_nil))) passU) (fun _ _ => rfl)))), ?_⟩
    refine ⟨_, rfl, _, rfl, _, rfl, _, rfl, u, _, rfl, .inl (SqL.of hu), a, t, ns, _, rfl, hS, fa, hA, by omega, ?_, fun r H1 r0 r1 hA1 x1 => ?_⟩
    · exact Nat.lt_of_lt_of_le (PySem.Flt.log2_lt_of (n := xs.length) (k := 20) (by decide) (by omega)) (by decide)
    · obtain ⟨j, rfl⟩ : ∃ j : Nat, r = (j : Int) := ⟨r.toNat, by omega⟩
      have hj : j < xs.length := by omega
      exact ⟨u, _, _, _, rfl, rfl, SqL.of (x1.one hu ne), atI_nat (List.getElem?_eq_getElem hj), kk j _ H1 (List.getElem?_eq_getElem hj) hA1 x1⟩
end
end WU

set_option maxRecDepth 100000
set_option maxHeartbeats 4000000
namespace WU
open PySem PySem.Spec PyProof.Rows L2
theorem paired_mono {α β : Type} {F G : α → β → Prop} (f : ∀ a b, F a b → G a b) : ∀ {l : List α} {m : List β}, Paired F l m → Paired G l m
  | _, _, .nil => .nil
  | _, _, .cons h t => .cons (f _ _ h) (paired_mono f t)
theorem paired_len {α β : Type} {F : α → β → Prop} : ∀ {l : List α} {m : List β}, Paired F l m → l.length = m.length
  | _, _, .nil => rfl
  | _, _, .cons _ t => congrArg Nat.succ (paired_len t)
theorem paired_of {α β : Type} {F : α → β → Prop} : ∀ {l : List α} {m : List β} {i : Nat} {y : β}, Paired F l m → m[i]? = some y → ∃ x, l[i]? = some x ∧ F x y
  | _, _, _, _, .nil, e => by cases e
  | _, _, 0, _, .cons h _, e => by
    cases e
    exact ⟨_, rfl, h⟩
  | _, _, i + 1, _, .cons _ t, e => paired_of (i := i) t e
theorem paired_refl {α : Type} {F : α → α → Prop} : ∀ {l : List α}, (∀ x ∈ l, F x x) → Paired F l l
  | [], _ => .nil
  | x :: l, h => .cons (h x List.mem_cons_self) (paired_refl fun y hy => h y (List.mem_cons_of_mem _ hy))
/-- numbers and texts -/
def Atom (u v : V) : Prop := (∃ i, u = .int i ∧ v = .int i) ∨ ∃ z, u = .str z ∧ v = .str z
/-- u and v: the same number or text, or tuples alike (to the depth n) -/
def EqV : Nat → Hp → V → V → Prop
  | 0, _, u, v => Atom u v
  | n + 1, H, u, v => Atom u v ∨ ∃ a b xs ys, u = .ref a ∧ v = .ref b ∧ H a = some (.tup xs) ∧ H b = some (.tup ys) ∧ Paired (EqV n H) xs ys ∧ ys.length ≤ 10000
theorem EqV.fr {M : List Addr} {H H' : Hp} (x : Fr M H H') : ∀ {n : Nat} {u v : V}, EqV n H u v → EqV n H' u v
  | 0, _, _, h => h
  | n + 1, _, _, .inl h => .inl h
  | n + 1, _, _, .inr ⟨a, b, xs, ys, e, f, h, g, p, l⟩ => .inr ⟨a, b, xs, ys, e, f, x.t _ _ h, x.t _ _ g, paired_mono (fun _ _ q => EqV.fr x q) p, l⟩
theorem EqV.same {n : Nat} {H H' : Hp} {u v : V} (h : EqV n H u v) (x : Same H H') : EqV n H' u v := EqV.fr (M := []) (.of x) h
section
variable {P : Program} {w : World} {K : PySem.W.Frag} {mg : Str → Option Value} {base : Heap}
theorem scSm : FnScope ["actual", "due", "k"] ["actual", "due"] (defScope s_law_same) := ⟨rfl, rfl, rfl, by decide +kernel, rfl, by decide +kernel, by decide +kernel⟩
def spSmP (R : Hp → V → V → Prop) : Sp := fun vs H Q _ => ∃ u v, vs = [u, v] ∧ R H u v ∧ Q (.bl true) H
def spSm (n : Nat) : Sp := spSmP (EqV n)
/-- one step: where parts are told by R, numbers and tuples of such parts are -/
theorem ok_Sm1 {R : Hp → V → V → Prop} {k : Nat} {f : Addr} {fd : FuncData} (F : FnS K "_law_same" s_law_same f fd) (B : Blt0 mg) (C0 : Cal P w K mg base k "_law_same" f fd ["actual", "due"] (spSmP R)) :
    FnOk P w K mg base (L2.CX P w) (k + 1) f fd ["actual", "due"] (spSmP fun H u v => Atom u v ∨ ∃ a b xs ys, u = .ref a ∧ v = .ref b ∧ H a = some (.tup xs) ∧ H b = some (.tup ys) ∧ Paired (R H) xs ys ∧ ys.length ≤ 10000) := by
  refine F.ok scSm (fun vs H Q E h => ?_) (fun cdv A outer s H vs Q E hr h => ?_)
  · obtain ⟨u, v, rfl, _⟩ := h
    rfl
  · obtain ⟨u, v, rfl, he, kk⟩ := h
    have nd := scSm.nd
    refine ⟨_, (pss_cons (ps_if (pt_cmpR op_isN (pv 1) pe_non (nomark _)) (pss_one (ps_ret (pe_cmpR op_isN (pv 0) pe_non (nomark _)))) pss_nil)
      (pss_cons (ps_if (pt_val (pe_callB (isiK (K := K)) (by rfl) B.isi (by decide +kernel) (pa_cons (pv 1) (pa_cons (pe_bltn (v := .ty "bool") (by rfl) B.bool (by decide +kernel) rfl) pa_nil)))) (pss_one (ps_ret (pe_and (pe_callB (isiK (K := K)) (by rfl) B.isi (by decide +kernel) (pa_cons (pv 0) (pa_cons (pe_bltn (v := .ty "bool") (by rfl) B.bool (by decide +kernel) rfl) pa_nil))) (pe_one (pe_cmpR op_eq (pv 0) (pv 1) (nomark _)))))) pss_nil)
      (pss_cons (ps_if (pt_val (pe_callB (isiK (K := K)) (by rfl) B.isi (by decide +kernel) (pa_cons (pv 1) (pa_cons (pe_bltn (v := .ty "str") (by rfl) B.str (by decide +kernel) rfl) pa_nil)))) (pss_one (ps_ret (pe_and (pe_callB (isiK (K := K)) (by rfl) B.isi (by decide +kernel) (pa_cons (pv 0) (pa_cons (pe_bltn (v := .ty "str") (by rfl) B.str (by decide +kernel) rfl) pa_nil))) (pe_one (pe_cmpR op_eq (pv 0) (pv 1) (nomark _)))))) pss_nil)
      (pss_cons (ps_if (pt_val (pe_callB (isiK (K := K)) (by rfl) B.isi (by decide +kernel) (pa_cons (pv 1) (pa_cons (pe_bltn (v := .ty "int") (by rfl) B.int (by decide +kernel) rfl) pa_nil)))) (pss_one (ps_ret (pe_and (pe_callB (isiK (K := K)) (by rfl) B.isi (by decide +kernel) (pa_cons (pv 0) (pa_cons (pe_bltn (v := .ty "int") (by rfl) B.int (by decide +kernel) rfl) pa_nil))) (pe_and (pe_not (pe_callB (isiK (K := K)) (by rfl) B.isi (by decide +kernel) (pa_cons (pv 0) (pa_cons (pe_bltn (v := .ty "bool") (by rfl) B.bool (by decide +kernel) rfl) pa_nil)))) (pe_one (pe_cmpR op_eq (pv 0) (pv 1) (nomark _))))))) pss_nil)
      (pss_cons (ps_if (pt_val (pe_callB (isiK (K := K)) (by rfl) B.isi (by decide +kernel) (pa_cons (pv 1) (pa_cons (pe_bltn (v := .ty "list") (by rfl) B.lst (by decide +kernel) rfl) pa_nil)))) (pss_one (ps_if (PW.pt (pw_or (pt_not (pt_val (pe_callB (isiK (K := K)) (by rfl) B.isi (by decide +kernel) (pa_cons (pv 0) (pa_cons (pe_bltn (v := .ty "list") (by rfl) B.lst (by decide +kernel) rfl) pa_nil))))) (pw_or1 (pt_cmpR op_ne (pe_callB (len_seqK (K := K)) (by rfl) B.len (by decide +kernel) (pa_cons (pv 0) pa_nil)) (pe_callB (len_seqK (K := K)) (by rfl) B.len (by decide +kernel) (pa_cons (pv 1) pa_nil)) (nomark _))))) (pss_one (ps_ret pe_bl)) pss_nil)) (pss_one (ps_if (PW.pt (pw_or (pt_not (pt_val (pe_callB (isiK (K := K)) (by rfl) B.isi (by decide +kernel) (pa_cons (pv 0) (pa_cons (pe_bltn (v := .ty "tuple") (by rfl) B.tuple (by decide +kernel) rfl) pa_nil))))) (pw_or1 (pt_cmpR op_ne (pe_callB (len_seqK (K := K)) (by rfl) B.len (by decide +kernel) (pa_cons (pv 0) pa_nil)) (pe_callB (len_seqK (K := K)) (by rfl) B.len (by decide +kernel) (pa_cons (pv 1) pa_nil)) (nomark _))))) (pss_one (ps_ret pe_bl)) pss_nil)))
      (pss_cons (ps_for (passes_of rfl) rfl (pi_range1 rfl B.range (pa_cons (pe_callB (len_seqK (K := K)) (by rfl) B.len (by decide +kernel) (pa_cons (pv 1) pa_nil)) pa_nil)) (pg_name (i := 2) nd rfl (Or.inl rfl)) (pss_one (ps_if (pt_not (pt_val (pe_cal C0 hr (pa_cons (pe_ix (ix_tupK (K := K)) (pv 0) (pv 2) (fun _ _ => rfl)) (pa_cons (pe_ix (ix_tupK (K := K)) (pv 1) (pv 2) (fun _ _ => rfl)) pa_nil)) passU))) (pss_one (ps_ret pe_bl)) pss_nil)))
      (pss_one (ps_ret pe_bl)))))))), ?_⟩
    rcases he with (⟨i, rfl, rfl⟩ | ⟨z, rfl, rfl⟩) | ⟨a, b, xs, ys, rfl, rfl, ha, hb, hP, hl⟩
    · refine ⟨_, rfl, rfl, _, rfl, iteFb rfl ?_⟩
      refine ⟨_, rfl, _, _, _, _, _, rfl, .ty "bool", .base (.int i), kit_ty (show kitB "int" "bool" = some false by decide +kernel), _, rfl, iteF ?_⟩
      refine ⟨_, rfl, _, _, _, _, _, rfl, .ty "str", .base (.int i), kit_ty (show kitB "int" "str" = some false by decide +kernel), _, rfl, iteF ?_⟩
      refine ⟨_, rfl, _, _, _, _, _, rfl, .ty "int", .base (.int i), kit_ty (show kitB "int" "int" = some true by decide +kernel), _, rfl, iteT ?_⟩
      refine ⟨_, rfl, _, _, _, _, _, rfl, .ty "int", .base (.int i), kit_ty (show kitB "int" "int" = some true by decide +kernel), _, rfl, iteT ?_⟩
      refine ⟨_, rfl, _, _, _, _, _, rfl, .ty "bool", .base (.int i), kit_ty (show kitB "int" "bool" = some false by decide +kernel), _, rfl, _, rfl, iteT ⟨_, rfl, _, rfl, rfl, ?_⟩⟩
      rw [decide_eq_true rfl]
      exact kk
    · refine ⟨_, rfl, rfl, _, rfl, iteFb rfl ?_⟩
      refine ⟨_, rfl, _, _, _, _, _, rfl, .ty "bool", .base (.str z), kit_ty (show kitB "str" "bool" = some false by decide +kernel), _, rfl, iteF ?_⟩
      refine ⟨_, rfl, _, _, _, _, _, rfl, .ty "str", .base (.str z), kit_ty (show kitB "str" "str" = some true by decide +kernel), _, rfl, iteT ?_⟩
      refine ⟨_, rfl, _, _, _, _, _, rfl, .ty "str", .base (.str z), kit_ty (show kitB "str" "str" = some true by decide +kernel), _, rfl, iteT ⟨_, rfl, _, rfl, rfl, ?_⟩⟩
      rw [decide_eq_true rfl]
      exact kk
    · have el := paired_len hP
      refine ⟨_, rfl, rfl, _, rfl, iteFb rfl ?_⟩
      refine ⟨_, rfl, _, _, _, _, _, rfl, .ty "bool", .base (.tup hb), kit_ty (show kitB "tuple" "bool" = some false by decide +kernel), _, rfl, iteF ?_⟩
      refine ⟨_, rfl, _, _, _, _, _, rfl, .ty "str", .base (.tup hb), kit_ty (show kitB "tuple" "str" = some false by decide +kernel), _, rfl, iteF ?_⟩
      refine ⟨_, rfl, _, _, _, _, _, rfl, .ty "int", .base (.tup hb), kit_ty (show kitB "tuple" "int" = some false by decide +kernel), _, rfl, iteF ?_⟩
      refine ⟨_, rfl, _, _, _, _, _, rfl, .ty "list", .base (.tup hb), kit_ty (show kitB "tuple" "list" = some false by decide +kernel), _, rfl, iteF ?_⟩
      refine ⟨_, rfl, _, _, _, _, _, rfl, .ty "tuple", .base (.tup ha), kit_ty (show kitB "tuple" "tuple" = some true by decide +kernel), _, rfl, iteF ?_⟩
      refine ⟨_, rfl, a, _, rfl, .inr (SqT.of ha), _, rfl, b, _, rfl, .inr (SqT.of hb), rfl, _, rfl, iteFb (by rw [decide_eq_true (congrArg (fun n : Nat => V.int n) el)]; rfl) ?_⟩
      refine ⟨_, rfl, b, _, rfl, .inr (SqT.of hb), (ys.length : Int), rfl, by omega, by omega, for_range (lo := 0) (n := ys.length) (fun i σ H' => ∃ x, σ = [some (.ref a), some (.ref b), x] ∧ H' = H) ⟨none, rfl, rfl⟩ ?_ ?_⟩
      · rintro i σ H' hi ⟨x, rfl, rfl⟩
        have hy : ys[i]? = some ys[i] := List.getElem?_eq_getElem hi
        obtain ⟨u, hx, r⟩ := paired_of hP hy
        rw [show ((0 : Int) + (i : Int)) = ((i : Nat) : Int) from Int.zero_add _]
        refine ⟨_, rfl, _, rfl, a, xs, (i : Int), u, rfl, rfl, SqT.of ha, atI_nat hx, _, rfl, _, rfl, b, ys, (i : Int), _, rfl, rfl, SqT.of hb, atI_nat hy, u, _, rfl, r, _, rfl, iteF ⟨_, rfl, rfl⟩⟩
      · rintro σ H' ⟨x, rfl, rfl⟩
        exact kk
/-- whole values, to the depth n -/
theorem ok_Sm {f : Addr} {fd : FuncData} (F : FnS K "_law_same" s_law_same f fd) (B : Blt0 mg) (g : mg "_law_same" = some (.ref f)) (hb : L2.Binds K fd ["actual", "due"] []) : ∀ n, FnOk P w K mg base (L2.CX P w) (n + 1) f fd ["actual", "due"] (spSm n)
  | 0 => by
    have e : FnOk P w K mg base (L2.CX P w) 0 f fd ["actual", "due"] (spSmP fun _ _ _ => False) := ⟨fun vs H Q E ⟨_, _, _, z, _⟩ => z.elim, fun A outer s H args us vs Q E _ _ _ _ ⟨_, _, _, z, _⟩ => z.elim⟩
    exact (ok_Sm1 F B ⟨g, F.kp, hb, e⟩).imp fun vs H Q E ⟨u, v, e, h, q⟩ => ⟨u, v, e, .inl h, q⟩
  | n + 1 => ok_Sm1 F B ⟨g, F.kp, hb, ok_Sm F B g hb n⟩
end
end WU

set_option maxRecDepth 100000
set_option maxHeartbeats 4000000
namespace WU
open PySem PySem.Spec PyProof.Rows L2
theorem lk_eq {k g : Str} {v : V} {r : List (Str × V)} (h : (k == g) = true) : List.lookup k ((g, v) :: r) = some v := by rw [List.lookup, h]
theorem lk_ne {k g : Str} {v : V} {r : List (Str × V)} {o : Option V} (h : (k == g) = false) (q : List.lookup k r = o) : List.lookup k ((g, v) :: r) = o := by rw [List.lookup, h]; exact q
theorem pf_eq {f g : Str} {v x : V} {r : List (Str × V)} (h : g = f) : putF f v ((g, x) :: r) = (f, v) :: r := by
  show (if g = f then (g, v) :: r else (g, x) :: putF f v r) = _
  rw [if_pos h, h]
theorem pf_ne {f g : Str} {v x : V} {r q : List (Str × V)} (h : ¬ g = f) (e : putF f v r = q) : putF f v ((g, x) :: r) = (g, x) :: q := by
  show (if g = f then (g, v) :: r else (g, x) :: putF f v r) = _
  rw [if_neg h, e]
def lnF (mt : Addr) (u : Int) (ht : Addr) : List (Str × V) := [("_marks", .ref mt), ("_used", .int u), ("_held", .ref ht)]
section
variable {mt ht h2 : Addr} {u v : Int}
theorem lnF_m : (lnF mt u ht).lookup ("_marks" : Str) = some (.ref mt) := lk_eq (by decide +kernel)
theorem lnF_u : (lnF mt u ht).lookup ("_used" : Str) = some (.int u) := lk_ne (by decide +kernel) (lk_eq (by decide +kernel))
theorem lnF_h : (lnF mt u ht).lookup ("_held" : Str) = some (.ref ht) := lk_ne (by decide +kernel) (lk_ne (by decide +kernel) (lk_eq (by decide +kernel)))
theorem lnF_no {m : Str} (h1 : (m == ("_marks" : Str)) = false) (h2 : (m == ("_used" : Str)) = false) (h3 : (m == ("_held" : Str)) = false) : (lnF mt u ht).lookup m = none := lk_ne h1 (lk_ne h2 (lk_ne h3 rfl))
theorem put_u : putF "_used" (.int v) (lnF mt u ht) = lnF mt v ht := pf_ne (by decide +kernel) (pf_eq rfl)
theorem put_h : putF "_held" (.ref h2) (lnF mt u ht) = lnF mt u h2 := pf_ne (by decide +kernel) (pf_ne (by decide +kernel) (pf_eq rfl))
theorem put_3 : putF "_held" (.ref ht) (putF "_used" (.int u) (putF "_marks" (.ref mt) [])) = lnF mt u ht := by
  rw [show putF ("_used" : Str) (.int u) (putF ("_marks" : Str) (.ref mt) []) = [(("_marks" : Str), V.ref mt), (("_used" : Str), V.int u)] from pf_ne (by decide +kernel) rfl]
  exact pf_ne (by decide +kernel) (pf_ne (by decide +kernel) rfl)
end
/-- a Line with its marks, how many of them are used, and what it holds -/
structure LineAt (L : Addr) (H : Hp) (x : Addr) (ms : List Int) (u : Nat) (held : List V) : Prop where
  ex : ∃ dx mt ht, H x = some (.ins L dx (lnF mt u ht)) ∧ H mt = some (.tup (ms.map V.int)) ∧ H ht = some (.tup held)
  le : u ≤ ms.length
  lm : ms.length ≤ 40
theorem LineAt.fr {L : Addr} {M : List Addr} {H H' : Hp} {x : Addr} {ms : List Int} {u : Nat} {held : List V} (h : LineAt L H x ms u held) (f : Fr M H H') (n : x ∉ M) : LineAt L H' x ms u held := by
  obtain ⟨⟨dx, mt, ht, e1, e2, e3⟩, q, r⟩ := h
  exact ⟨⟨dx, mt, ht, f.k _ _ n e1, f.t _ _ e2, f.t _ _ e3⟩, q, r⟩
theorem LineAt.same {L : Addr} {H H' : Hp} {x : Addr} {ms : List Int} {u : Nat} {held : List V} (h : LineAt L H x ms u held) (f : Same H H') : LineAt L H' x ms u held := h.fr (M := []) (.of f) (fun z => nomatch z)
theorem Fr.putI {x C dx : Addr} {fs : List (Str × V)} {u : HO} {H : Hp} (e : H x = some (.ins C dx fs)) : Fr [x] H (upd H x u) := .put e (by intro xs z; cases z)
/-- the fate of the next mark -/
def fate (ms : List Int) (u : Nat) : Int := match ms[u]? with
  | some m => m.fmod 4
  | none => 0
/-- what comes out, what is held afterwards -/
def sentF (f : Int) (held : List V) (m : V) : List V × List V :=
  if f = 1 then ([], held) else if f = 3 then ([], held ++ [m]) else if f = 0 then (held ++ [m], []) else (held ++ [m, m], [])
section
variable {P : Program} {w : World} {K : PySem.W.Frag} {mg : Str → Option Value} {base : Heap} {L : Addr}
structure LnC (K : PySem.W.Frag) (mg : Str → Option Value) (L : Addr) : Prop where
  g : mg "Line" = some (.ref L)
  cl : Cls K L
  nM : NoAttr K L "_marks"
  nU : NoAttr K L "_used"
  nH : NoAttr K L "_held"
/-- a list or a tuple of the numbers ms stands at p -/
def SqI (H : Hp) (p : Addr) (ms : List Int) : Prop := H p = some (.lst (ms.map V.int)) ∨ H p = some (.tup (ms.map V.int))
def spLI (L : Addr) : Sp := fun vs H Q _ => ∃ (x dx p : Addr) (ms : List Int), vs = [.ref x, .ref p] ∧ H x = some (.ins L dx []) ∧ SqI H p ms ∧ ms.length ≤ 40 ∧ ∀ H', Fr [x] H H' → LineAt L H' x ms 0 [] → Q .non H'
theorem scLI : FnScope ["self", "marks"] ["self", "marks"] (defScope sLine_init) := ⟨rfl, rfl, rfl, by decide +kernel, rfl, by decide +kernel, by decide +kernel⟩
theorem ok_LI {f : Addr} {fd : FuncData} (F : FunD K "__init__" "Line.__init__" (defArgs sLine_init) (defBody sLine_init) (defScope sLine_init) [] [] f fd) (B : Blt0 mg) (C : LnC K mg L) : FnOk P w K mg base (L2.CX P w) 1 f fd ["self", "marks"] (spLI L) := by
  refine F.ok scLI (fun vs H Q E h => ?_) (fun cdv A outer s H vs Q E hr h => ?_)
  · obtain ⟨x, dx, p, ms, rfl, _⟩ := h
    rfl
  · obtain ⟨x, dx, p, ms, rfl, hx, hp, hl, kk⟩ := h
    refine ⟨_, (pss_cons (ps_fld (pv 0) (pe_callTy (tup_ofK (K := K)) (by rfl) B.tuple (by decide +kernel) (pa_cons (pv 1) pa_nil)) rfl)
      (pss_cons (ps_fld (pv 0) pe_int rfl)
      (pss_one (ps_fld (pv 0) (pe_tup pa_nil) rfl)))), ?_⟩
    have go : ∀ (T : Addr) (H1 : Hp), Same H H1 → H1 T = some (.tup (ms.map V.int)) → (tSeq (sFld K (tVar 0) (tC (.int 0)) "_used") (sFld K (tVar 0) (tTup tNil) "_held")) { nx := fun _ H' => Q .non H', rt := Q } [some (.ref x), some (.ref p)] (upd H1 x (.ins L dx (putF "_marks" (.ref T) []))) := by
      intro T H1 s1 eT
      have e1 := s1 _ _ hx
      have x1 : Fr [x] H1 (upd H1 x (.ins L dx (putF "_marks" (.ref T) []))) := .putI e1
      have eT1 := x1.t _ _ eT
      have e2 : upd H1 x (.ins L dx (putF "_marks" (.ref T) [])) x = some (.ins L dx (putF "_marks" (.ref T) [])) := upd_same
      generalize upd H1 x (.ins L dx (putF "_marks" (.ref T) [])) = H2 at x1 eT1 e2 ⊢
      refine ⟨_, rfl, x, L, dx, _, rfl, e2, C.cl, C.nU, (by show 1 < 1000; decide), ?_⟩
      have x2 : Fr [x] H2 (upd H2 x (.ins L dx (putF "_used" (.int 0) (putF "_marks" (.ref T) [])))) := .putI e2
      have e3 : upd H2 x (.ins L dx (putF "_used" (.int 0) (putF "_marks" (.ref T) []))) x = some (.ins L dx (putF "_used" (.int 0) (putF "_marks" (.ref T) []))) := upd_same
      generalize upd H2 x (.ins L dx (putF "_used" (.int 0) (putF "_marks" (.ref T) []))) = H3 at x2 e3 ⊢
      refine ⟨(by show 0 ≤ sizeLine; decide), fun t ht => ?_⟩
      have s4 := same_new (o := .tup []) ht
      have e4 : upd H3 t (.tup []) t = some (.tup []) := upd_same
      generalize upd H3 t (.tup []) = H4 at s4 e4 ⊢
      refine ⟨_, rfl, x, L, dx, _, rfl, s4 _ _ e3, C.cl, C.nH, Nat.lt_of_le_of_lt (length_putF _ _ _) (by show 1 + 1 < 1000; decide), ?_⟩
      have x5 := Fr.putI (u := .ins L dx (putF "_held" (.ref t) (putF "_used" (.int 0) (putF "_marks" (.ref T) [])))) (s4 _ _ e3)
      have f := (((Fr.of s1).trans x1).trans x2).trans ((Fr.of s4).trans x5)
      exact kk _ f ⟨⟨dx, T, t, by rw [upd_same, put_3]; rfl, (x2.trans ((Fr.of s4).trans x5)).t _ _ eT1, x5.t _ _ e4⟩, Nat.zero_le _, hl⟩
    rcases hp with hp | hp
    · refine ⟨_, rfl, p, _, rfl, .inl ⟨SqL.of hp, fun T hT => ?_⟩⟩
      have s1 := same_new (o := .tup (ms.map V.int)) hT
      exact ⟨_, rfl, x, L, dx, _, rfl, s1 _ _ hx, C.cl, C.nM, (by show 0 < 1000; decide), go T _ s1 upd_same⟩
    · exact ⟨_, rfl, p, _, rfl, .inr ⟨SqT.of hp, _, rfl, x, L, dx, _, rfl, hx, C.cl, C.nM, (by show 0 < 1000; decide), go p _ (Same.refl H) hp⟩⟩
/-- self._next_mark() -/
def spNM (L : Addr) : Sp := fun vs H Q _ => ∃ (x : Addr) (ms : List Int) (u : Nat) (held : List V), vs = [.ref x] ∧ LineAt L H x ms u held ∧
  ∀ (r : Int) H', Fr [x] H H' → LineAt L H' x ms (min (u + 1) ms.length) held → r.fmod 4 = fate ms u → Q (.int r) H'
theorem scNM : FnScope ["self"] ["self"] (defScope sLine_next_mark) := ⟨rfl, rfl, rfl, by decide +kernel, rfl, by decide +kernel, by decide +kernel⟩
theorem ok_NM {f : Addr} {fd : FuncData} (F : FunD K "_next_mark" "Line._next_mark" (defArgs sLine_next_mark) (defBody sLine_next_mark) (defScope sLine_next_mark) [] [] f fd) (B : Blt0 mg) (C : LnC K mg L) : FnOk P w K mg base (L2.CX P w) 1 f fd ["self"] (spNM L) := by
  refine F.ok scNM (fun vs H Q E h => ?_) (fun cdv A outer s H vs Q E hr h => ?_)
  · obtain ⟨x, ms, u, held, rfl, _⟩ := h
    rfl
  · obtain ⟨x, ms, u, held, rfl, hL, kk⟩ := h
    obtain ⟨⟨dx, mt, ht, h1, h2, h3⟩, hu, hm⟩ := id hL
    refine ⟨_, (pss_cons (ps_if (pt_cmpR op_eq (pe_fldK (K := K) (pv 0) rfl) (pe_callB (len_seqK (K := K)) (by rfl) B.len (by decide +kernel) (pa_cons (pe_fldK (K := K) (pv 0) rfl) pa_nil)) (nomark _)) (pss_one (ps_ret pe_int)) pss_nil)
      (pss_cons (ps_fldaug (pv 0) pe_int in_add)
      (pss_one (ps_ret (pe_ix (ix_tupK (K := K)) (pe_fldK (K := K) (pv 0) rfl) (pe_op op_sub (pe_fldK (K := K) (pv 0) rfl) pe_int) (fun _ _ => rfl)))))), ?_⟩
    refine ⟨_, rfl, x, L, dx, _, _, rfl, h1, C.cl, C.nU, lnF_u, _, rfl, x, L, dx, _, _, rfl, h1, C.cl, C.nM, lnF_m, mt, _, rfl, .inr (SqT.of h2), rfl, _, rfl, iteD (fun hc => ?_) fun hc => ?_⟩
    · have e : u = ms.length := by
        have := V.int.inj hc
        rw [List.length_map] at this
        omega
      refine kk 0 H .refl ?_ ?_
      · rw [show min (u + 1) ms.length = u by omega]
        exact hL
      · unfold fate
        rw [List.getElem?_eq_none (by omega)]
        rfl
    · have e : u < ms.length := by
        have : u ≠ ms.length := fun z => hc (congrArg V.int (by rw [List.length_map, z]))
        omega
      refine ⟨_, rfl, x, L, dx, _, _, rfl, h1, C.cl, C.nU, lnF_u, _, _, rfl, rfl, dx, _, h1, (by show 3 < 1000; decide), ?_⟩
      have x1 := Fr.putI (u := .ins L dx (putF "_used" (.int ((u : Int) + 1)) (lnF mt u ht))) h1
      have e1 : upd H x (.ins L dx (putF "_used" (.int ((u : Int) + 1)) (lnF mt u ht))) x = some (.ins L dx (lnF mt ((u : Int) + 1) ht)) := by rw [upd_same, put_u]
      generalize upd H x (.ins L dx (putF "_used" (.int ((u : Int) + 1)) (lnF mt u ht))) = H1 at x1 e1 ⊢
      refine ⟨_, rfl, x, L, dx, _, _, rfl, e1, C.cl, C.nM, lnF_m, _, rfl, x, L, dx, _, _, rfl, e1, C.cl, C.nU, lnF_u, _, _, rfl, rfl, mt, _, _, .int ms[u], rfl, rfl, SqT.of (x1.t _ _ h2), ?_, ?_⟩
      · rw [show ((u : Int) + 1 - 1) = (u : Int) by omega]
        exact atI_nat (by rw [List.getElem?_map, List.getElem?_eq_getElem e] <;> rfl)
      · refine kk _ H1 x1 ⟨⟨dx, mt, ht, ?_, x1.t _ _ h2, x1.t _ _ h3⟩, by omega, hm⟩ ?_
        · rw [e1, show min (u + 1) ms.length = u + 1 by omega]
          rfl
        · unfold fate
          rw [List.getElem?_eq_getElem e]
/-- rest() -/
def spRest (L : Addr) : Sp := fun vs H Q _ => ∃ (x : Addr) (ms : List Int) (u : Nat) (held : List V), vs = [.ref x] ∧ LineAt L H x ms u held ∧
  ∀ r H', Fr [x] H H' → LineAt L H' x ms u [] → H' r = some (.tup held) → Q (.ref r) H'
theorem scRest : FnScope ["self", "held"] ["self"] (defScope sLine_rest) := ⟨rfl, rfl, rfl, by decide +kernel, rfl, by decide +kernel, by decide +kernel⟩
theorem LineAt.hold {H : Hp} {x h2 : Addr} {dx mt ht : Addr} {ms : List Int} {u : Nat} {held : List V} (e1 : H x = some (.ins L dx (lnF mt u ht))) (e2 : H mt = some (.tup (ms.map V.int))) (hu : u ≤ ms.length) (hm : ms.length ≤ 40) (e3 : H h2 = some (.tup held)) :
    Fr [x] H (upd H x (.ins L dx (putF "_held" (.ref h2) (lnF mt u ht)))) ∧ LineAt L (upd H x (.ins L dx (putF "_held" (.ref h2) (lnF mt u ht)))) x ms u held := by
  have x1 := Fr.putI (u := .ins L dx (putF "_held" (.ref h2) (lnF mt u ht))) e1
  exact ⟨x1, ⟨dx, mt, h2, by rw [upd_same, put_h], x1.t _ _ e2, x1.t _ _ e3⟩, hu, hm⟩
theorem ok_Rest {f : Addr} {fd : FuncData} (F : FunD K "rest" "Line.rest" (defArgs sLine_rest) (defBody sLine_rest) (defScope sLine_rest) [] [] f fd) (C : LnC K mg L) : FnOk P w K mg base (L2.CX P w) 1 f fd ["self"] (spRest L) := by
  refine F.ok scRest (fun vs H Q E h => ?_) (fun cdv A outer s H vs Q E hr h => ?_)
  · obtain ⟨x, ms, u, held, rfl, _⟩ := h
    rfl
  · obtain ⟨x, ms, u, held, rfl, ⟨⟨dx, mt, ht, h1, h2, h3⟩, hu, hm⟩, kk⟩ := h
    have nd := scRest.nd
    refine ⟨_, (pss_cons (ps_set (i := 1) nd rfl (Or.inl rfl) (pe_fldK (K := K) (pv 0) rfl))
      (pss_cons (ps_fld (pv 0) (pe_tup pa_nil) rfl)
      (pss_one (ps_ret (pv 1))))), ?_⟩
    refine ⟨_, rfl, x, L, dx, _, _, rfl, h1, C.cl, C.nH, lnF_h, (by show 0 ≤ sizeLine; decide), fun t hn => ?_⟩
    have s1 := same_new (o := .tup []) hn
    have e0 : upd H t (.tup []) t = some (.tup []) := upd_same
    generalize upd H t (.tup []) = H1 at s1 e0 ⊢
    obtain ⟨x1, l1⟩ := LineAt.hold (s1 _ _ h1) (s1 _ _ h2) hu hm e0
    exact ⟨_, rfl, x, L, dx, _, rfl, s1 _ _ h1, C.cl, C.nH, (by show 3 < 1000; decide), _, rfl, kk ht _ ((Fr.of s1).trans x1) l1 (x1.t _ _ (s1 _ _ h3))⟩
end
end WU

set_option maxRecDepth 100000
set_option maxHeartbeats 4000000
namespace WU
open PySem PySem.Spec PyProof.Rows L2
section
variable {P : Program} {w : World} {K : PySem.W.Frag} {mg : Str → Option Value} {base : Heap} {L : Addr}
/-- send(message) -/
def spSend (L : Addr) : Sp := fun vs H Q _ => ∃ (x : Addr) (m : V) (ms : List Int) (u : Nat) (held : List V), vs = [.ref x, m] ∧ LineAt L H x ms u held ∧ held.length ≤ 1000 ∧
  ∀ r H', Fr [x] H H' → LineAt L H' x ms (min (u + 1) ms.length) (sentF (fate ms u) held m).2 → H' r = some (.tup (sentF (fate ms u) held m).1) → Q (.ref r) H'
theorem scSend : FnScope ["self", "message", "fate", "held"] ["self", "message"] (defScope sLine_send) := ⟨rfl, rfl, rfl, by decide +kernel, rfl, by decide +kernel, by decide +kernel⟩
theorem fate_bd (ms : List Int) (u : Nat) : 0 ≤ fate ms u ∧ fate ms u < 4 := by
  unfold fate
  split
  · exact fmod_bd _ (by decide)
  · exact ⟨by decide, by decide⟩
theorem ok_Send {f fN fR : Addr} {fd fdN fdR : FuncData} (F : FunD K "send" "Line.send" (defArgs sLine_send) (defBody sLine_send) (defScope sLine_send) [] [] f fd) (C : LnC K mg L)
    (mN : Meth K L "_next_mark" fN) (GN : FnOk P w K mg base (L2.CX P w) 1 fN fdN ["self"] (spNM L)) (bN : L2.Binds K fdN ["self"] [])
    (mR : Meth K L "rest" fR) (GR : FnOk P w K mg base (L2.CX P w) 1 fR fdR ["self"] (spRest L)) (bR : L2.Binds K fdR ["self"] []) : FnOk P w K mg base (L2.CX P w) 2 f fd ["self", "message"] (spSend L) := by
  refine F.ok scSend (fun vs H Q E h => ?_) (fun cdv A outer s H vs Q E hr h => ?_)
  · obtain ⟨x, m, ms, u, held, rfl, _⟩ := h
    rfl
  · obtain ⟨x, m, ms, u, held, rfl, hL, hh, kk⟩ := h
    have nd := scSend.nd
    refine ⟨_, (pss_cons (ps_set (i := 2) nd rfl (Or.inl rfl) (pe_op op_modN (pe_meth0 (E := E0) (pv 0) C.cl mN GN (hr.mono (by decide)) bN .nil passU) pe_int))
      (pss_cons (ps_if (pt_cmpR op_eq (pv 2) pe_int (nomark _)) (pss_one (ps_ret (pe_tup pa_nil))) pss_nil)
      (pss_cons (ps_if (pt_cmpR op_eq (pv 2) pe_int (nomark _)) (pss_cons (ps_fld (pv 0) (pe_tup (StX.pa_star (pe_fldK (K := K) (pv 0) rfl) (pa_cons (pv 1) pa_nil))) rfl) (pss_one (ps_ret (pe_tup pa_nil)))) pss_nil)
      (pss_cons (ps_set (i := 3) nd rfl (Or.inl rfl) (pe_meth0 (E := E0) (pv 0) C.cl mR GR (hr.mono (by decide)) bR .nil passU))
      (pss_one (ps_ret (pe_ifExp (pt_cmpR op_eq (pv 2) pe_int (nomark _)) (pe_tup (StX.pa_star (pv 3) (pa_cons (pv 1) pa_nil))) (pe_tup (StX.pa_star (pv 3) (pa_cons (pv 1) (pa_cons (pv 1) pa_nil))))))))))), ?_⟩
    obtain ⟨⟨dx, mt, ht, h1, h2, h3⟩, hu, hm⟩ := id hL
    refine ⟨_, rfl, x, dx, _, rfl, h1, lnF_no (by decide +kernel) (by decide +kernel) (by decide +kernel), x, ms, u, held, rfl, hL, fun r H1 x1 l1 er => ?_⟩
    refine ⟨_, _, rfl, rfl, (show (4 : Int) ≠ 0 by decide), ?_⟩
    dsimp only
    rw [er]
    have fb := fate_bd ms u
    generalize fate ms u = g at fb kk ⊢
    have e1 : ∀ {a b : Int}, (a ≠ b) → decide (V.int a = V.int b) = false := fun h => decide_eq_false fun z => h (V.int.inj z)
    have nil : ∀ {H2 : Hp}, Fr [x] H H2 → ∀ {hd : List V}, LineAt L H2 x ms (min (u + 1) ms.length) hd → sentF g held m = ([], hd) → (tTup tNil) [some (.ref x), some m, some (.int g), none] H2 Q := fun f hd l e => ⟨(by show 0 ≤ sizeLine; decide), fun t hn => by
      have s1 := same_new (o := .tup []) hn
      refine kk t _ (f.trans (.of s1)) ?_ ?_
      · rw [e]; exact l.same s1
      · rw [e]; exact upd_same⟩
    refine ⟨_, rfl, rfl, _, rfl, iteD (fun c1 => ?_) fun c1 => ?_⟩
    · have hg : g = 1 := V.int.inj c1
      subst hg
      exact nil x1 l1 rfl
    have n1 : ¬ g = 1 := fun z => c1 (congrArg V.int z)
    refine ⟨_, rfl, rfl, _, rfl, iteD (fun c3 => ?_) fun c3 => ?_⟩
    · have hg : g = 3 := V.int.inj c3
      subst hg
      obtain ⟨⟨dy, m2, t2, j1, j2, j3⟩, q1, q2⟩ := id l1
      refine ⟨_, rfl, x, L, dy, _, _, rfl, j1, C.cl, C.nH, lnF_h, t2, _, rfl, .inl (SqT.of j3), _, rfl, ?_, fun t hn => ?_⟩
      · rw [List.length_append]
        exact Nat.le_of_lt (small4k (by show held.length + 1 ≤ 4000; omega))
      · have s1 := same_new (o := .tup (held ++ [m])) hn
        have e0 : upd H1 t (.tup (held ++ [m])) t = some (.tup (held ++ [m])) := upd_same
        generalize upd H1 t (.tup (held ++ [m])) = H2 at s1 e0 ⊢
        obtain ⟨x3, l3⟩ := LineAt.hold (s1 _ _ j1) (s1 _ _ j2) q1 q2 e0
        refine ⟨_, rfl, x, L, dy, _, rfl, s1 _ _ j1, C.cl, C.nH, (by show 3 < 1000; decide), ?_⟩
        exact nil ((x1.trans (.of s1)).trans x3) l3 rfl
    have n3 : ¬ g = 3 := fun z => c3 (congrArg V.int z)
    obtain ⟨dy, m2, t2, j1, j2, j3⟩ := l1.ex
    refine ⟨_, rfl, x, dy, _, rfl, j1, lnF_no (by decide +kernel) (by decide +kernel) (by decide +kernel), x, ms, _, held, rfl, l1, fun r H2 x2 l2 e2 => ?_⟩
    refine ⟨_, rfl, rfl, _, rfl, iteD (fun c0 => ?_) fun c0 => ?_⟩
    · have hg : g = 0 := V.int.inj c0
      subst hg
      refine ⟨_, rfl, r, _, rfl, .inl (SqT.of e2), _, rfl, ?_, fun t hn => ?_⟩
      · rw [List.length_append]
        exact Nat.le_of_lt (small4k (by show held.length + 1 ≤ 4000; omega))
      · have s1 := same_new (o := .tup (held ++ [m])) hn
        exact kk t _ ((x1.trans x2).trans (.of s1)) (l2.same s1) upd_same
    · have n0 : ¬ g = 0 := fun z => c0 (congrArg V.int z)
      have e : sentF g held m = (held ++ [m, m], []) := by unfold sentF; rw [if_neg n1, if_neg n3, if_neg n0]
      rw [e] at kk
      refine ⟨_, rfl, r, _, rfl, .inl (SqT.of e2), _, rfl, _, rfl, ?_, fun t hn => ?_⟩
      · rw [List.length_append]
        exact Nat.le_of_lt (small4k (by show held.length + 2 ≤ 4000; omega))
      · have s1 := same_new (o := .tup (held ++ [m, m])) hn
        exact kk t _ ((x1.trans x2).trans (.of s1)) (l2.same s1) upd_same
end
end WU

set_option maxRecDepth 100000
set_option maxHeartbeats 4000000
namespace WU
open PySem PySem.Spec PyProof.Rows L2
/-- a statement whose next state is told more loosely -/
def tWk (t : TS) : TS := fun D σ H => ∃ P : L2.St → Hp → Prop, t { D with nx := P } σ H ∧ ∀ σ1 H1, P σ1 H1 → D.nx σ1 H1
theorem ps_wk {X : Cx} {st : Stmt} {t : TS} (h : PS X st t) : PS X st (tWk t) := by
  refine ⟨fun pins s σ H D I ⟨P, q, k⟩ => thn (h.run pins s σ H { D with nx := P } I q) fun f s1 z => ?_⟩
  cases f with
  | next =>
    obtain ⟨σ', H', I', z⟩ := z
    exact ⟨σ', H', I', k _ _ z⟩
  | ret v => exact z
  | brk => exact z
  | cont => exact z
theorem Fr.skip {M : List Addr} {H H1 : Hp} {p : Addr} {o : HO} (f : Fr M H H1) (n : H p = none) : Fr M H (upd H1 p o) :=
  ⟨fun b u nb e => by rw [upd_ne (ne_of_none e n)]; exact f.k b u nb e, fun b xs e => by rw [upd_ne (ne_of_none e n)]; exact f.t b xs e⟩
theorem ints_at {ns : List Int} {i : Nat} {y : V} (h : (ns.map V.int)[i]? = some y) : ∃ n ∈ ns, y = .int n := by
  obtain ⟨n, hn, e⟩ := List.mem_map.mp (List.mem_of_getElem? h)
  exact ⟨n, hn, e.symm⟩
section
variable {P : Program} {w : World} {K : PySem.W.Frag} {mg : Str → Option Value} {base : Heap}
/-- a new list of the marks -/
def spMarks (K : PySem.W.Frag) : Sp := fun vs H Q _ => ∃ (a s : Addr) (ns : List Int), vs = [.ref a, .ref s] ∧ Scr K H a ns ∧ Far K a ns s ∧ StA H s ∧
  ∀ (p : Addr) (ms : List Int) H', H p = none → Fr [s] H H' → StA H' s → H' p = some (.lst (ms.map V.int)) → ms.length ≤ 40 → Q (.ref p) H'
theorem scMarks : FnScope ["script", "state", "size", "held", "marks", "k", "mark"] ["script", "state"] (defScope s_law_marks) := ⟨rfl, rfl, rfl, by decide +kernel, rfl, by decide +kernel, by decide +kernel⟩
theorem ok_Marks {f f1 f2 : Addr} {fd fd1 fd2 : FuncData} (F : FnS K "_law_marks" s_law_marks f fd) (B : Blt0 mg) (CD : Cal P w K mg base 1 "_law_draw" f1 fd1 ["script", "state", "many"] (spDraw K)) (CP : Cal P w K mg base 2 "_law_pick" f2 fd2 ["script", "state", "things"] (spPick K)) :
    FnOk P w K mg base (L2.CX P w) 3 f fd ["script", "state"] (spMarks K) := by
  refine F.ok scMarks (fun vs H Q E h => ?_) (fun cdv A outer s H vs Q E hr h => ?_)
  · obtain ⟨a, t, ns, rfl, _⟩ := h
    rfl
  · obtain ⟨a, t, ns, rfl, hS, fa, hA, kk⟩ := h
    have nd := scMarks.nd
    refine ⟨_, (pss_cons (ps_set (i := 2) nd rfl (Or.inl rfl) (pe_cal CP (hr.mono (by decide)) (pa_cons (pv 0) (pa_cons (pv 1) (pa_cons (pe_lst (pa_cons pe_int (pa_cons pe_int (pa_cons pe_int (pa_cons pe_int (pa_cons pe_int (pa_cons pe_int (pa_cons pe_int (pa_cons pe_int (pa_cons pe_int pa_nil)))))))))) pa_nil))) passU))
      (pss_cons (ps_set (i := 3) nd rfl (Or.inl rfl) (pe_cmpR op_eq (pe_cal CD (hr.mono (by decide)) (pa_cons (pv 0) (pa_cons (pv 1) (pa_cons pe_int pa_nil))) passU) pe_int (nomark _)))
      (pss_cons (ps_set (i := 4) nd rfl (Or.inl rfl) (pe_lst pa_nil))
      (pss_cons (ps_for (passes_of rfl) rfl (pi_range1 rfl B.range (pa_cons (pv 2) pa_nil)) (pg_name (i := 5) nd rfl (Or.inl rfl)) (pss_cons (ps_set (i := 6) nd rfl (Or.inl rfl) (pe_cal CD (hr.mono (by decide)) (pa_cons (pv 0) (pa_cons (pv 1) (pa_cons pe_int pa_nil))) passU))
      (pss_cons (ps_wk (ps_if (PW.pt (pw_and (pt_val (pv 3)) (pw_and1 (pt_cmpR op_gt (pe_cal CD (hr.mono (by decide)) (pa_cons (pv 0) (pa_cons (pv 1) (pa_cons pe_int pa_nil))) passU) pe_int (nomark _))))) (pss_one (ps_set (i := 6) nd rfl (Or.inl rfl) pe_int)) pss_nil))
      (pss_cons (ps_wk (ps_if (pt_cmpR op_eq (pe_cal CD (hr.mono (by decide)) (pa_cons (pv 0) (pa_cons (pv 1) (pa_cons pe_int pa_nil))) passU) pe_int (nomark _)) (pss_one (ps_set (i := 6) nd rfl (Or.inl rfl) (pe_op op_add (pv 6) (pe_op op_mul pe_int (pe_cal CD (hr.mono (by decide)) (pa_cons (pv 0) (pa_cons (pv 1) (pa_cons (pe_op op_pow pe_int pe_int) pa_nil))) passU))))) pss_nil))
      (pss_one (ps_expr (pe_bm PySem.F.plainAttrs_list PySem.F.slot_list_append PySem.F.type_list_append mt_append (pv 4) (pa_cons (pv 6) pa_nil))))))))
      (pss_one (ps_ret (pv 4))))))), ?_⟩
    refine ⟨_, rfl, _, rfl, (by show 9 ≤ sizeLine; decide), fun l hl => ?_⟩
    have s1 := same_new (o := .lst [.int 0, .int 1, .int 2, .int 3, .int 5, .int 8, .int 13, .int 20, .int 40]) hl
    have el : upd H l (.lst [.int 0, .int 1, .int 2, .int 3, .int 5, .int 8, .int 13, .int 20, .int 40]) l = some (.lst [.int 0, .int 1, .int 2, .int 3, .int 5, .int 8, .int 13, .int 20, .int 40]) := upd_same
    generalize upd H l (.lst [.int 0, .int 1, .int 2, .int 3, .int 5, .int 8, .int 13, .int 20, .int 40]) = H1 at s1 el ⊢
    refine ⟨a, t, l, ns, _, rfl, hS.same s1, fa, hA.same s1, el, (hA.ne hl).symm, (by decide), (by decide), fun i y H2 hy hA2 x2 => ?_⟩
    obtain ⟨n, hn, rfl⟩ := ints_at (ns := [0, 1, 2, 3, 5, 8, 13, 20, 40]) hy
    have hn2 : 0 ≤ n ∧ n ≤ 40 := (show ∀ n ∈ ([0, 1, 2, 3, 5, 8, 13, 20, 40] : List Int), 0 ≤ n ∧ n ≤ 40 by decide) n hn
    have y2 : Fr [t] H H2 := (Fr.of s1).trans x2
    refine ⟨_, rfl, _, rfl, a, t, ns, 5, rfl, hS.fr1 y2 fa, fa, hA2, (by decide), (by decide), fun r H3 _ _ hA3 x3 => ?_⟩
    have y3 := y2.trans x3
    refine ⟨rfl, (by show 0 ≤ sizeLine; decide), fun p hp => ?_⟩
    have p0 : H p = none := by
      cases e : H p with
      | none => rfl
      | some o =>
        by_cases z : p = t
        · rw [z] at hp
          exact absurd rfl (hA3.ne hp)
        · rw [y3.one e z] at hp
          cases hp
    have s4 := same_new (o := .lst []) hp
    have ep : upd H3 p (.lst []) p = some (.lst []) := upd_same
    generalize upd H3 p (.lst []) = H4 at s4 ep ⊢
    have y4 := y3.trans (.of s4)
    refine ⟨_, rfl, n, rfl, by omega, by omega, for_range (lo := 0) (n := n.toNat) (fun i σ H' => ∃ y5 y6, ∃ ms : List Int, σ = [some (.ref a), some (.ref t), some (.int n), some (.bl (decide (V.int r = V.int 0))), some (.ref p), y5, y6] ∧ Fr [t] H H' ∧ StA H' t ∧ H' p = some (.lst (ms.map V.int)) ∧ ms.length = i)
      ⟨none, none, [], rfl, y4, hA3.same s4, ep, rfl⟩ ?_ ?_⟩
    · rintro i σ H' hi ⟨y5, y6, ms, rfl, f1, hA1, em, lm⟩
      have D := fun {H' : Hp} (f : Fr [t] H H') => hS.fr1 f fa
      refine ⟨_, rfl, _, rfl, a, t, ns, 4, rfl, D f1, fa, hA1, (by decide), (by decide), fun q H5 _ _ hA5 x5 => ?_⟩
      have pt : p ≠ t := fun z => by rw [z] at p0; obtain ⟨_, _, _, _, e, _⟩ := hA; rw [e] at p0; cases p0
      have f5 := f1.trans x5
      have em5 := x5.one em pt
      refine ⟨fun σ H' => ∃ y5 q, σ = [some (.ref a), some (.ref t), some (.int n), some (.bl (decide (V.int r = V.int 0))), some (.ref p), y5, some (.int q)] ∧ Fr [t] H H' ∧ StA H' t ∧ H' p = some (.lst (ms.map V.int)), ?_, ?_⟩
      · refine ⟨_, rfl, _, rfl, iteD (fun _ => ?_) fun _ => ⟨_, _, rfl, f5, hA5, em5⟩⟩
        refine ⟨_, rfl, _, rfl, a, t, ns, 3, rfl, D f5, fa, hA5, (by decide), (by decide), fun z H6 _ _ hA6 x6 => ?_⟩
        exact ⟨_, _, rfl, rfl, _, rfl, iteD (fun _ => ⟨_, _, rfl, f5.trans x6, hA6, x6.one em5 pt⟩) fun _ => ⟨_, _, rfl, f5.trans x6, hA6, x6.one em5 pt⟩⟩
      · rintro σ H6 ⟨y5, q, rfl, f6, hA6, em6⟩
        refine ⟨fun σ H' => ∃ y5 q, σ = [some (.ref a), some (.ref t), some (.int n), some (.bl (decide (V.int r = V.int 0))), some (.ref p), y5, some (.int q)] ∧ Fr [t] H H' ∧ StA H' t ∧ H' p = some (.lst (ms.map V.int)), ?_, ?_⟩
        · refine ⟨_, rfl, _, rfl, a, t, ns, 4, rfl, D f6, fa, hA6, (by decide), (by decide), fun z H7 _ _ hA7 x7 => ?_⟩
          have f7 := f6.trans x7
          have em7 := x7.one em6 pt
          refine ⟨rfl, _, rfl, iteD (fun _ => ?_) fun _ => ⟨_, _, rfl, f7, hA7, em7⟩⟩
          refine ⟨_, rfl, _, rfl, _, rfl, _, _, rfl, rfl, ⟨by decide, by decide, by decide⟩, a, t, ns, _, rfl, D f7, fa, hA7, (by decide), (by decide +kernel), fun z2 H8 _ _ hA8 x8 => ?_⟩
          exact ⟨_, _, rfl, rfl, .inl ⟨by decide, by decide⟩, _, _, rfl, rfl, _, _, rfl, f7.trans x8, hA8, x8.one em7 pt⟩
        · rintro σ H7 ⟨y5, q, rfl, f7, hA7, em7⟩
          refine ⟨_, rfl, .inl ⟨rfl, _, SqL.of em7⟩, _, rfl, p, _, _, rfl, rfl, em7, ?_, ?_⟩
          · rw [List.length_map]
            exact small4k (by omega)
          · exact ⟨_, _, ms ++ [q], rfl, f7.skip p0, (by obtain ⟨b0, b1, b2, b3, e, u⟩ := hA7; exact ⟨b0, b1, b2, b3, by rw [upd_ne pt.symm]; exact e, u⟩), by rw [upd_same, List.map_append]; rfl, by rw [List.length_append, lm]; rfl⟩
    · rintro σ H' ⟨y5, y6, ms, rfl, f1, hA1, em, lm⟩
      exact ⟨_, rfl, kk p ms H' p0 f1 hA1 em (by omega)⟩
end
end WU

set_option maxRecDepth 100000
set_option maxHeartbeats 4000000
namespace WU
open PySem PySem.Spec PyProof.Rows L2
section
variable {P : Program} {w : World} {K : PySem.W.Frag} {mg : Str → Option Value} {base : Heap}
theorem Fr.back {t p : Addr} {H H' : Hp} (f : Fr [t] H H') (h : StA H' t) (hp : H' p = none) : H p = none := by
  cases e : H p with
  | none => rfl
  | some o =>
    by_cases z : p = t
    · rw [z] at hp
      exact absurd rfl (h.ne hp)
    · rw [f.one e z] at hp
      cases hp
/-- a message: it is alike to itself -/
def Msg (H : Hp) (m : V) : Prop := EqV 2 H m m
theorem atom_i (i : Int) : Atom (.int i) (.int i) := .inl ⟨i, rfl, rfl⟩
theorem eqv_i {n : Nat} {H : Hp} (i : Int) : EqV n H (.int i) (.int i) := by
  cases n with
  | zero => exact .inl ⟨i, rfl, rfl⟩
  | succ n => exact .inl (.inl ⟨i, rfl, rfl⟩)
theorem eqv_s {n : Nat} {H : Hp} (z : Str) : EqV n H (.str z) (.str z) := by
  cases n with
  | zero => exact .inr ⟨z, rfl, rfl⟩
  | succ n => exact .inl (.inr ⟨z, rfl, rfl⟩)
def spMsg (K : PySem.W.Frag) : Sp := fun vs H Q _ => ∃ (a s : Addr) (ns : List Int), vs = [.ref a, .ref s] ∧ Scr K H a ns ∧ Far K a ns s ∧ StA H s ∧ ∀ (m : V) H', Fr [s] H H' → StA H' s → Msg H' m → Q m H'
theorem scMsg : FnScope ["script", "state", "talk", "house", "question", "letters", "k"] ["script", "state"] (defScope s_law_message) := ⟨rfl, rfl, rfl, by decide +kernel, rfl, by decide +kernel, by decide +kernel⟩
theorem ok_Msg {f f1 f2 : Addr} {fd fd1 fd2 : FuncData} (F : FnS K "_law_message" s_law_message f fd) (B : Blt0 mg) (CD : Cal P w K mg base 1 "_law_draw" f1 fd1 ["script", "state", "many"] (spDraw K)) (CP : Cal P w K mg base 2 "_law_pick" f2 fd2 ["script", "state", "things"] (spPick K)) :
    FnOk P w K mg base (L2.CX P w) 3 f fd ["script", "state"] (spMsg K) := by
  refine F.ok scMsg (fun vs H Q E h => ?_) (fun cdv A outer s H vs Q E hr h => ?_)
  · obtain ⟨a, t, ns, rfl, _⟩ := h
    rfl
  · obtain ⟨a, t, ns, rfl, hS, fa, hA, kk⟩ := h
    have nd := scMsg.nd
    refine ⟨_, (pss_cons (ps_set (i := 2) nd rfl (Or.inl rfl) (pe_cal CD (hr.mono (by decide)) (pa_cons (pv 0) (pa_cons (pv 1) (pa_cons pe_int pa_nil))) passU))
      (pss_cons (ps_wk (ps_if (pt_cmpR op_eq (pe_cal CD (hr.mono (by decide)) (pa_cons (pv 0) (pa_cons (pv 1) (pa_cons pe_int pa_nil))) passU) pe_int (nomark _)) (pss_one (ps_set (i := 2) nd rfl (Or.inl rfl) (pe_cal CD (hr.mono (by decide)) (pa_cons (pv 0) (pa_cons (pv 1) (pa_cons (pe_op op_pow pe_int pe_int) pa_nil))) passU))) pss_nil))
      (pss_cons (ps_set (i := 3) nd rfl (Or.inl rfl) (pe_cal CD (hr.mono (by decide)) (pa_cons (pv 0) (pa_cons (pv 1) (pa_cons pe_int pa_nil))) passU))
      (pss_cons (ps_set (i := 4) nd rfl (Or.inl rfl) (pe_cal CD (hr.mono (by decide)) (pa_cons (pv 0) (pa_cons (pv 1) (pa_cons pe_int pa_nil))) passU))
      (pss_cons (ps_if (pt_cmpR op_eq (pe_cal CD (hr.mono (by decide)) (pa_cons (pv 0) (pa_cons (pv 1) (pa_cons pe_int pa_nil))) passU) pe_int (nomark _)) (pss_one (ps_ret (pe_tup (pa_cons pe_str (pa_cons (pv 2) (pa_cons (pv 3) (pa_cons (pv 4) pa_nil))))))) pss_nil)
      (pss_cons (ps_setLc (i := 5) (own := [("k", 6)]) (g := gName 6) (by rfl) nd rfl rfl (sw_true rfl rfl rfl (by decide +kernel)) (pi_range1 rfl B.range (pa_cons (pe_cal CP (hr.mono (by decide)) (pa_cons (pv 0) (pa_cons (pv 1) (pa_cons (pe_lst (pa_cons pe_int (pa_cons pe_int (pa_cons pe_int (pa_cons pe_int (pa_cons pe_int pa_nil)))))) pa_nil))) passU) pa_nil)) (blkOk_by (own := [("k", 6)]) (N := ["script", "state", "talk", "house", "question", "letters", "k"]) (sc := defScope s_law_message) (by decide +kernel)) (fun _ _ _ _ _ => (pg_name (i := 6) nd rfl (Or.inl rfl))) (fun _ _ _ _ _ => pts_nil) (fun _ _ _ _ _ => (pe_cal CD (hr.mono (by decide)) (pa_cons (pv 0) (pa_cons (pv 1) (pa_cons pe_int pa_nil))) passU)))
      (pss_one (ps_ret (pe_tup (pa_cons pe_str (pa_cons (pv 2) (pa_cons (pv 3) (pa_cons (pv 4) (pa_cons (pe_cal CD (hr.mono (by decide)) (pa_cons (pv 0) (pa_cons (pv 1) (pa_cons pe_int pa_nil))) passU) (pa_cons (pe_callTy (tup_ofK (K := K)) (by rfl) B.tuple (by decide +kernel) (pa_cons (pv 5) pa_nil)) pa_nil))))))))))))))), ?_⟩
    have D := fun {H' : Hp} (f : Fr [t] H H') => hS.fr1 f fa
    refine ⟨_, rfl, _, rfl, a, t, ns, 4, rfl, hS, fa, hA, (by decide), (by decide), fun q H1 _ _ hA1 f1 => ?_⟩
    refine ⟨fun σ H' => ∃ q, σ = [some (.ref a), some (.ref t), some (.int q), none, none, none, none] ∧ Fr [t] H H' ∧ StA H' t, ?_, ?_⟩
    · refine ⟨_, rfl, _, rfl, a, t, ns, 6, rfl, D f1, fa, hA1, (by decide), (by decide), fun z H2 _ _ hA2 x2 => ?_⟩
      have f2 := f1.trans x2
      refine ⟨rfl, _, rfl, iteD (fun _ => ?_) fun _ => ⟨_, rfl, f2, hA2⟩⟩
      exact ⟨_, rfl, _, rfl, _, _, rfl, rfl, ⟨by decide, by decide, by decide⟩, a, t, ns, _, rfl, D f2, fa, hA2, (by decide), (by decide +kernel), fun z2 H3 _ _ hA3 x3 => ⟨_, rfl, f2.trans x3, hA3⟩⟩
    · rintro σ H2 ⟨q, rfl, f2, hA2⟩
      refine ⟨_, rfl, _, rfl, a, t, ns, 6, rfl, D f2, fa, hA2, (by decide), (by decide), fun hs H3 _ _ hA3 x3 => ?_⟩
      have f3 := f2.trans x3
      refine ⟨_, rfl, _, rfl, a, t, ns, 300, rfl, D f3, fa, hA3, (by decide), (by decide), fun qu H4 _ _ hA4 x4 => ?_⟩
      have f4 := f3.trans x4
      refine ⟨_, rfl, _, rfl, a, t, ns, 2, rfl, D f4, fa, hA4, (by decide), (by decide), fun z H5 _ _ hA5 x5 => ?_⟩
      have f5 := f4.trans x5
      refine ⟨rfl, _, rfl, iteD (fun _ => ?_) fun _ => ?_⟩
      · refine ⟨_, rfl, _, rfl, _, rfl, (by show 4 ≤ sizeLine; decide), fun p hp => ?_⟩
        have s6 := same_new (o := .tup [.str "ask", .int q, .int hs, .int qu]) hp
        have e6 : upd H5 p (.tup [.str "ask", .int q, .int hs, .int qu]) p = some (.tup [.str "ask", .int q, .int hs, .int qu]) := upd_same
        exact kk _ _ (f5.trans (.of s6)) (hA5.same s6) (.inr ⟨p, p, _, _, rfl, rfl, e6, e6, .cons (eqv_s _) (.cons (eqv_i _) (.cons (eqv_i _) (.cons (eqv_i _) .nil))), (by show 4 ≤ 10000; decide)⟩)
      · refine ⟨_, rfl, _, rfl, (by show 5 ≤ sizeLine; decide), fun l hl => ?_⟩
        have s6 := same_new (o := .lst [.int 0, .int 1, .int 2, .int 3, .int 24]) hl
        have el : upd H5 l (.lst [.int 0, .int 1, .int 2, .int 3, .int 24]) l = some (.lst [.int 0, .int 1, .int 2, .int 3, .int 24]) := upd_same
        generalize upd H5 l (.lst [.int 0, .int 1, .int 2, .int 3, .int 24]) = H6 at s6 el ⊢
        have f6 := f5.trans (.of s6)
        have hA6 := hA5.same s6
        refine ⟨a, t, l, ns, _, rfl, D f6, fa, hA6, el, (hA5.ne hl).symm, (by decide), (by decide), fun i y H7 hy hA7 x7 => ?_⟩
        obtain ⟨n, hn, rfl⟩ := ints_at (ns := [0, 1, 2, 3, 24]) hy
        have hn2 : 0 ≤ n ∧ n ≤ 24 := (show ∀ n ∈ ([0, 1, 2, 3, 24] : List Int), 0 ≤ n ∧ n ≤ 24 by decide) n hn
        have f7 := f6.trans x7
        refine ⟨n, rfl, by omega, by omega, fun p hp => ?_⟩
        have p0 := f7.back hA7 hp
        have pt : p ≠ t := (hA7.ne hp).symm
        refine lc_range (lo := 0) (n := n.toNat) (fun i H' => Fr [t] H H' ∧ StA H' t ∧ ∃ ls : List Int, H' p = some (.lst (ls.map V.int)) ∧ ls.length = i) ⟨f7.skip p0, hA7.same (same_new hp), [], upd_same, rfl⟩ ?_ ?_
        · rintro i H8 hi ⟨f8, hA8, ls, el8, ll⟩
          refine ⟨rfl, _, rfl, _, rfl, a, t, ns, 31, rfl, D f8, fa, hA8, (by decide), (by decide), fun z H9 _ _ hA9 x9 => ⟨_, x9.one el8 pt, ?_, (f8.trans x9).skip p0, ?_, ls ++ [z], ?_, ?_⟩⟩
          · rw [List.length_map]
            exact small4k (by omega)
          · exact hA9.fr (Fr.putL (x9.one el8 pt)) (fun z => pt (List.mem_singleton.mp z).symm)
          · rw [upd_same, List.map_append]
            rfl
          · rw [List.length_append, ll]
            rfl
        · rintro H8 ⟨f8, hA8, ls, el8, ll⟩
          refine ⟨_, rfl, _, rfl, _, rfl, _, rfl, _, rfl, a, t, ns, 12, rfl, D f8, fa, hA8, (by decide), (by decide), fun z H9 _ _ hA9 x9 => ?_⟩
          have f9 := f8.trans x9
          have el9 := x9.one el8 pt
          refine ⟨_, rfl, p, _, rfl, .inl ⟨SqL.of el9, fun u hu => ?_⟩⟩
          have s10 := same_new (o := .tup (ls.map V.int)) hu
          have eu : upd H9 u (.tup (ls.map V.int)) u = some (.tup (ls.map V.int)) := upd_same
          generalize upd H9 u (.tup (ls.map V.int)) = H10 at s10 eu ⊢
          refine ⟨(by show 6 ≤ sizeLine; decide), fun v hv => ?_⟩
          have s11 := same_new (o := .tup [.str "answer", .int q, .int hs, .int qu, .int z, .ref u]) hv
          have ev : upd H10 v (.tup [.str "answer", .int q, .int hs, .int qu, .int z, .ref u]) v = some (.tup [.str "answer", .int q, .int hs, .int qu, .int z, .ref u]) := upd_same
          refine kk _ _ (f9.trans ((Fr.of s10).trans (.of s11))) ((hA9.same s10).same s11) (.inr ⟨v, v, _, _, rfl, rfl, ev, ev, .cons (eqv_s _) (.cons (eqv_i _) (.cons (eqv_i _) (.cons (eqv_i _) (.cons (eqv_i _) (.cons (.inr ⟨u, u, _, _, rfl, rfl, s11 _ _ eu, s11 _ _ eu, paired_refl ?_, ?_⟩) .nil))))), (by show 6 ≤ 10000; decide)⟩)
          · intro x hx
            obtain ⟨k, _, rfl⟩ := List.mem_map.mp hx
            exact atom_i k
          · rw [List.length_map]
            omega
end
end WU

set_option maxRecDepth 100000
set_option maxHeartbeats 4000000
namespace WU
open PySem PySem.Spec PyProof.Rows L2
structure TrackAt (H : Hp) (t mp h : Addr) (ms : List Int) (u : Nat) (held : List V) : Prop where
  e : H t = some (.lst [.ref mp, .int u, .ref h])
  em : H mp = some (.lst (ms.map V.int))
  eh : H h = some (.lst held)
section
variable {P : Program} {w : World} {K : PySem.W.Frag} {mg : Str → Option Value} {base : Heap}
def spSent : Sp := fun vs H Q _ => ∃ (t mp h : Addr) (m : V) (ms : List Int) (u : Nat) (held : List V), vs = [.ref t, m] ∧ TrackAt H t mp h ms u held ∧ mp ≠ t ∧ h ≠ t ∧ mp ≠ h ∧ held.length ≤ 1000 ∧ ms.length ≤ 1000 ∧
  ∀ r h' H', Fr [t, h] H H' → (h' = h ∨ H h' = none) → TrackAt H' t mp h' ms (u + 1) (sentF (fate ms u) held m).2 → H' r = some (.tup (sentF (fate ms u) held m).1) → Q (.ref r) H'
theorem scSent : FnScope ["track", "message", "mark", "out"] ["track", "message"] (defScope s_law_sent) := ⟨rfl, rfl, rfl, by decide +kernel, rfl, by decide +kernel, by decide +kernel⟩
theorem ok_Sent {f : Addr} {fd : FuncData} (F : FnS K "_law_sent" s_law_sent f fd) (B : Blt0 mg) : FnOk P w K mg base (L2.CX P w) 1 f fd ["track", "message"] spSent := by
  refine F.ok scSent (fun vs H Q E h => ?_) (fun cdv A outer s H vs Q E hr h => ?_)
  · obtain ⟨t, mp, h, m, ms, u, held, rfl, _⟩ := h
    rfl
  · obtain ⟨t, mp, hh, m, ms, u, held, rfl, ⟨e, em, eh⟩, n1, n2, n3, lh, lm, kk⟩ := h
    have nd := scSent.nd
    refine ⟨_, (pss_cons (ps_set (i := 2) nd rfl (Or.inl rfl) pe_int)
      (pss_cons (ps_wk (ps_if (pt_cmpR op_lt (pe_ix (ix_listK (K := K)) (pv 0) pe_int (fun _ _ => rfl)) (pe_callB (len_seqK (K := K)) (by rfl) B.len (by decide +kernel) (pa_cons (pe_ix (ix_listK (K := K)) (pv 0) pe_int (fun _ _ => rfl)) pa_nil)) (nomark _)) (pss_one (ps_set (i := 2) nd rfl (Or.inl rfl) (pe_op op_modN (pe_callTy call_int1 (by rfl) B.int (by decide +kernel) (pa_cons (pe_ix (ix_listK (K := K)) (pe_ix (ix_listK (K := K)) (pv 0) pe_int (fun _ _ => rfl)) (pe_ix (ix_listK (K := K)) (pv 0) pe_int (fun _ _ => rfl)) (fun _ _ => rfl)) pa_nil)) pe_int))) pss_nil))
      (pss_cons (ps_asg (pe_op op_add (pe_ix (ix_listK (K := K)) (pv 0) pe_int (fun _ _ => rfl)) pe_int) (pg_sub (pv 0) pe_int set_list))
      (pss_cons (ps_if (pt_cmpR op_eq (pv 2) pe_int (nomark _)) (pss_one (ps_ret (pe_tup pa_nil))) pss_nil)
      (pss_cons (ps_if (pt_cmpR op_eq (pv 2) pe_int (nomark _)) (pss_cons (ps_expr (pe_bm PySem.F.plainAttrs_list PySem.F.slot_list_append PySem.F.type_list_append mt_append (pe_ix (ix_listK (K := K)) (pv 0) pe_int (fun _ _ => rfl)) (pa_cons (pv 1) pa_nil)))
      (pss_one (ps_ret (pe_tup pa_nil)))) pss_nil)
      (pss_cons (ps_set (i := 3) nd rfl (Or.inl rfl) (pe_op op_cat (pe_ix (ix_listK (K := K)) (pv 0) pe_int (fun _ _ => rfl)) (pe_lst (pa_cons (pv 1) pa_nil))))
      (pss_cons (ps_wk (ps_if (pt_cmpR op_eq (pv 2) pe_int (nomark _)) (pss_one (ps_expr (pe_bm PySem.F.plainAttrs_list PySem.F.slot_list_append PySem.F.type_list_append mt_append (pv 3) (pa_cons (pv 1) pa_nil)))) pss_nil))
      (pss_cons (ps_asg (pe_lst pa_nil) (pg_sub (pv 0) pe_int set_list))
      (pss_one (ps_ret (pe_callTy (tup_ofK (K := K)) (by rfl) B.tuple (by decide +kernel) (pa_cons (pv 3) pa_nil)))))))))))), ?_⟩
    have fb := fate_bd ms u
    refine ⟨fun σ H' => σ = [some (.ref t), some m, some (.int (fate ms u)), none] ∧ H' = H, ?_, ?_⟩
    · refine ⟨_, rfl, t, _, 1, _, rfl, rfl, SqL.of e, atI_nat (j := 1) rfl, _, rfl, t, _, 0, _, rfl, rfl, SqL.of e, atI_nat (j := 0) rfl, mp, _, rfl, .inl (SqL.of em), _, _, rfl, rfl, _, rfl, iteD (fun hc => ?_) fun hc => ?_⟩
      · rw [List.length_map] at hc
        have hu : u < ms.length := by omega
        refine ⟨_, rfl, t, _, 0, _, rfl, rfl, SqL.of e, atI_nat (j := 0) rfl, _, rfl, t, _, 1, _, rfl, rfl, SqL.of e, atI_nat (j := 1) rfl, mp, _, _, .int ms[u], rfl, rfl, SqL.of em, atI_nat (by rw [List.getElem?_map, List.getElem?_eq_getElem hu] <;> rfl), .inl ⟨_, rfl, _, _, rfl, rfl, (show (4 : Int) ≠ 0 by decide), ?_⟩⟩
        refine ⟨?_, rfl⟩
        unfold fate
        rw [List.getElem?_eq_getElem hu]
        rfl
      · rw [List.length_map] at hc
        refine ⟨?_, rfl⟩
        unfold fate
        rw [List.getElem?_eq_none (by omega)]
        rfl
    · rintro σ H' ⟨rfl, rfl⟩
      generalize fate ms u = g at fb kk ⊢
      refine ⟨_, rfl, t, _, 1, _, rfl, rfl, SqL.of e, atI_nat (j := 1) rfl, _, _, rfl, rfl, _, rfl, t, _, 1, 1, rfl, rfl, e, rfl, ?_⟩
      have f1 : Fr [t, hh] H' (upd H' t (.lst (List.set [.ref mp, .int (u : Int), .ref hh] 1 (.int ((u : Int) + 1))))) := (Fr.putL e).mono fun b hb => by rw [List.mem_singleton.mp hb]; exact List.mem_cons_self
      have e1 : upd H' t (.lst (List.set [.ref mp, .int (u : Int), .ref hh] 1 (.int ((u : Int) + 1)))) t = some (.lst [.ref mp, .int ((u : Int) + 1), .ref hh]) := upd_same
      have em1 : upd H' t (.lst (List.set [.ref mp, .int (u : Int), .ref hh] 1 (.int ((u : Int) + 1)))) mp = some (.lst (ms.map V.int)) := by rw [upd_ne n1]; exact em
      have eh1 : upd H' t (.lst (List.set [.ref mp, .int (u : Int), .ref hh] 1 (.int ((u : Int) + 1)))) hh = some (.lst held) := by rw [upd_ne n2]; exact eh
      generalize upd H' t (.lst (List.set [.ref mp, .int (u : Int), .ref hh] 1 (.int ((u : Int) + 1)))) = H1 at f1 e1 em1 eh1 ⊢
      have nil : ∀ {H2 : Hp}, Fr [t, hh] H' H2 → ∀ {hd : List V}, TrackAt H2 t mp hh ms (u + 1) hd → sentF g held m = ([], hd) → (tTup tNil) [some (.ref t), some m, some (.int g), none] H2 Q := fun f hd l e => ⟨(by show 0 ≤ sizeLine; decide), fun p hn => by
        have s1 := same_new (o := .tup []) hn
        refine kk p hh _ (f.trans (.of s1)) (.inl rfl) ?_ ?_
        · rw [e]; exact ⟨s1 _ _ l.e, s1 _ _ l.em, s1 _ _ l.eh⟩
        · rw [e]; exact upd_same⟩
      refine ⟨_, rfl, rfl, _, rfl, iteD (fun c1 => ?_) fun c1 => ?_⟩
      · have hg : g = 1 := V.int.inj c1
        subst hg
        exact nil f1 ⟨e1, em1, eh1⟩ rfl
      have m1 : ¬ g = 1 := fun z => c1 (congrArg V.int z)
      refine ⟨_, rfl, rfl, _, rfl, iteD (fun c3 => ?_) fun c3 => ?_⟩
      · have hg : g = 3 := V.int.inj c3
        subst hg
        refine ⟨_, rfl, t, _, 2, _, rfl, rfl, SqL.of e1, atI_nat (j := 2) rfl, .inl ⟨rfl, _, SqL.of eh1⟩, _, rfl, hh, _, _, rfl, rfl, eh1, small4k (by omega), ?_⟩
        refine nil (f1.trans ((Fr.putL eh1).mono fun b hb => by rw [List.mem_singleton.mp hb]; exact List.mem_cons_of_mem _ List.mem_cons_self)) ⟨?_, ?_, upd_same⟩ rfl
        · rw [upd_ne n2.symm]; exact e1
        · rw [upd_ne n3]; exact em1
      have m3 : ¬ g = 3 := fun z => c3 (congrArg V.int z)
      refine ⟨_, rfl, t, _, 2, _, rfl, rfl, SqL.of e1, atI_nat (j := 2) rfl, _, rfl, (by show 1 ≤ sizeLine; decide), fun b hb => ?_⟩
      have s2 := same_new (o := .lst [m]) hb
      have eb : upd H1 b (.lst [m]) b = some (.lst [m]) := upd_same
      generalize upd H1 b (.lst [m]) = H2 at s2 eb ⊢
      refine ⟨hh, b, held, [m], rfl, rfl, s2 _ _ eh1, eb, Nat.le_of_lt (small4k (by show held.length + 1 ≤ 4000; omega)), fun p hp => ?_⟩
      have s3 := same_new (o := .lst (held ++ [m])) hp
      have ep : upd H2 p (.lst (held ++ [m])) p = some (.lst (held ++ [m])) := upd_same
      generalize upd H2 p (.lst (held ++ [m])) = H3 at s3 ep ⊢
      have s13 := s2.trans s3
      have p1 : H1 p = none := by
        cases z : H1 p with
        | none => rfl
        | some o => rw [s2 _ _ z] at hp; cases hp
      have fin : ∀ (out : List V) (H4 : Hp), Fr [t, hh] H1 H4 → H4 hh = some (.lst held) → H4 t = some (.lst [.ref mp, .int ((u : Int) + 1), .ref hh]) → H4 mp = some (.lst (ms.map V.int)) → H4 p = some (.lst out) → sentF g held m = (out, []) →
          (tSeq (tAsg (tLst tNil) (gSub (tVar 0) (tC (.int 2)) rSetL)) (tRet (tCB (rTupK K) (tCons (tVar 3) tNil)))) { nx := fun _ H' => Q .non H', rt := Q } [some (.ref t), some m, some (.int g), some (.ref p)] H4 := by
        intro out H4 f4 eh4 e4 em4 ep4 es
        refine ⟨(by show 0 ≤ sizeLine; decide), fun q hq => ?_⟩
        have s5 := same_new (o := .lst []) hq
        have eq : upd H4 q (.lst []) q = some (.lst []) := upd_same
        have hq0 : H' q = none := by
          cases z : H' q with
          | none => rfl
          | some o =>
            by_cases z1 : q = t
            · rw [z1, e4] at hq; cases hq
            · by_cases z2 : q = hh
              · rw [z2, eh4] at hq; cases hq
              · have z4 : q ∉ [t, hh] := fun y => by
                  rcases List.mem_cons.mp y with y | y
                  · exact z1 y
                  · exact z2 (List.mem_singleton.mp y)
                rw [f4.k _ _ z4 (f1.k _ _ z4 z)] at hq
                cases hq
        generalize upd H4 q (.lst []) = H5 at s5 eq ⊢
        refine ⟨_, rfl, t, _, 2, 2, rfl, rfl, s5 _ _ e4, rfl, ?_⟩
        have f6 := Fr.putL (u := .lst (List.set [.ref mp, .int ((u : Int) + 1), .ref hh] 2 (.ref q))) (s5 _ _ e4)
        have e6 : upd H5 t (.lst (List.set [.ref mp, .int ((u : Int) + 1), .ref hh] 2 (.ref q))) t = some (.lst [.ref mp, .int ((u : Int) + 1), .ref q]) := upd_same
        have qt : q ≠ t := (ne_of_none e4 hq).symm
        have pt : p ≠ t := (ne_of_none e1 p1).symm
        have f16 : Fr [t, hh] H' (upd H5 t (.lst (List.set [.ref mp, .int ((u : Int) + 1), .ref hh] 2 (.ref q)))) := (f1.trans f4).trans ((Fr.of s5).trans (f6.mono fun b hb => by rw [List.mem_singleton.mp hb]; exact List.mem_cons_self))
        have eq6 := f6.one eq qt
        have em6 := f6.one (s5 _ _ em4) n1
        have ep6 := f6.one (s5 _ _ ep4) pt
        generalize upd H5 t (.lst (List.set [.ref mp, .int ((u : Int) + 1), .ref hh] 2 (.ref q))) = H6 at f6 e6 f16 eq6 em6 ep6 ⊢
        refine ⟨_, rfl, p, _, rfl, .inl ⟨SqL.of ep6, fun r hr => ?_⟩⟩
        have s7 := same_new (o := .tup out) hr
        refine kk r q _ (f16.trans (.of s7)) (.inr hq0) ?_ ?_
        · rw [es]; exact ⟨s7 _ _ e6, s7 _ _ em6, s7 _ _ eq6⟩
        · rw [es]; exact upd_same
      have pt : p ≠ t := (ne_of_none e1 p1).symm
      have pm : p ≠ mp := (ne_of_none em1 p1).symm
      have ph : p ≠ hh := (ne_of_none eh1 p1).symm
      refine ⟨fun σ H' => ∃ out, σ = [some (.ref t), some m, some (.int g), some (.ref p)] ∧ Fr [t, hh] H1 H' ∧ H' hh = some (.lst held) ∧ H' t = some (.lst [.ref mp, .int ((u : Int) + 1), .ref hh]) ∧ H' mp = some (.lst (ms.map V.int)) ∧ H' p = some (.lst out) ∧ sentF g held m = (out, []), ?_, ?_⟩
      · refine ⟨_, rfl, rfl, _, rfl, iteD (fun c2 => ?_) fun c2 => ?_⟩
        · have hg : g = 2 := V.int.inj c2
          subst hg
          refine ⟨_, rfl, .inl ⟨rfl, _, SqL.of ep⟩, _, rfl, p, _, _, rfl, rfl, ep, ?_, ?_⟩
          · rw [List.length_append]
            exact small4k (by show held.length + 1 ≤ 4000; omega)
          · refine ⟨held ++ [m] ++ [m], rfl, (Fr.of s13).skip p1, ?_, ?_, ?_, upd_same, ?_⟩
            · rw [upd_ne ph.symm]; exact s13 _ _ eh1
            · rw [upd_ne pt.symm]; exact s13 _ _ e1
            · rw [upd_ne pm.symm]; exact s13 _ _ em1
            · rw [List.append_assoc]; rfl
        · have hg : g = 0 := by
            have : ¬ g = 2 := fun z => c2 (congrArg V.int z)
            omega
          subst hg
          exact ⟨held ++ [m], rfl, .of s13, s13 _ _ eh1, s13 _ _ e1, s13 _ _ em1, ep, rfl⟩
      · rintro σ H4 ⟨out, rfl, f4, eh4, e4, em4, ep4, es⟩
        exact fin out H4 f4 eh4 e4 em4 ep4 es
end
end WU

set_option maxRecDepth 100000
set_option maxHeartbeats 4000000
namespace WU
open PySem PySem.Spec PyProof.Rows L2
structure En where
  x : Addr
  t : Addr
  m : Addr
  h : Addr
  ms : List Int
  u : Nat
  hd : List V
structure EnAt (L : Addr) (H : Hp) (e : En) (b : Nat) : Prop where
  ln : LineAt L H e.x e.ms (min e.u e.ms.length) e.hd
  tr : TrackAt H e.t e.m e.h e.ms e.u e.hd
  ms : ∀ v ∈ e.hd, Msg H v
  le : e.hd.length ≤ b
theorem TrackAt.fr {M : List Addr} {H H' : Hp} {t mp h : Addr} {ms : List Int} {u : Nat} {held : List V} (k : TrackAt H t mp h ms u held) (f : Fr M H H') (n1 : t ∉ M) (n2 : mp ∉ M) (n3 : h ∉ M) : TrackAt H' t mp h ms u held :=
  ⟨f.k _ _ n1 k.e, f.k _ _ n2 k.em, f.k _ _ n3 k.eh⟩
theorem EnAt.fr {L : Addr} {M : List Addr} {H H' : Hp} {e : En} {b : Nat} (k : EnAt L H e b) (f : Fr M H H') (n : e.x ∉ M ∧ e.t ∉ M ∧ e.m ∉ M ∧ e.h ∉ M) : EnAt L H' e b :=
  ⟨k.ln.fr f n.1, k.tr.fr f n.2.1 n.2.2.1 n.2.2.2, fun v hv => EnAt.ms k v hv |>.fr f, k.le⟩
/-- the tags of an entry -/
structure EnTg (tg : Addr → Nat) (e : En) (j : Nat) : Prop where
  x : tg e.x = 5 + 4 * j
  t : tg e.t = 6 + 4 * j
  m : tg e.m = 7 + 4 * j
  h : tg e.h = 8 + 4 * j
structure Mn (K : PySem.W.Frag) (a : Addr) (ns : List Int) (L : Addr) (H : Hp) (tg : Addr → Nat) (s ll tt kk : Addr) (es : List En) (ks : List V) (b : Nat) : Prop where
  scr : Scr K H a ns
  st : StA H s
  el : H ll = some (.lst (es.map fun e => .ref e.x))
  et : H tt = some (.lst (es.map fun e => .ref e.t))
  ek : H kk = some (.lst ks)
  km : ∀ v ∈ ks, Msg H v
  kl : ks.length ≤ b + 1
  k0 : 0 < ks.length
  ls : tg s = 1 ∧ tg ll = 2 ∧ tg tt = 3 ∧ tg kk = 4
  fs : Far K a ns s
  fk : Far K a ns kk
  at_ : ∀ j e, es[j]? = some e → EnAt L H e b ∧ EnTg tg e j ∧ Far K a ns e.x ∧ Far K a ns e.t ∧ Far K a ns e.h
theorem set_self {α : Type} {l : List α} {j : Nat} {v : α} (h : l[j]? = some v) : l.set j v = l := by
  obtain ⟨hj, e⟩ := List.getElem?_eq_some_iff.mp h
  rw [← e, List.set_getElem_self hj]
theorem ne_tg {t : Addr → Nat} {x y : Addr} {i j : Nat} (hx : t x = i) (hy : t y = j) (h : i ≠ j) : x ≠ y := fun e => h (by rw [← hx, ← hy, e])
theorem not_tg {t : Addr → Nat} {x : Addr} {M : List Addr} {i : Nat} (hx : t x = i) (h : ∀ b ∈ M, t b ≠ i) : x ∉ M := fun z => h x z hx
section
variable {K : PySem.W.Frag} {a : Addr} {ns : List Int} {L : Addr} {H H' : Hp} {tg : Addr → Nat} {s ll tt kk : Addr} {es : List En} {ks : List V} {b : Nat}
theorem Mn.draw (w : Mn K a ns L H tg s ll tt kk es ks b) (f : Fr [s] H H') (h : StA H' s) : Mn K a ns L H' tg s ll tt kk es ks b := by
  obtain ⟨l1, l2, l3, l4⟩ := w.ls
  have hM : ∀ {i}, i ≠ 1 → ∀ c ∈ [s], tg c ≠ i := fun hi c hc => by rw [List.mem_singleton.mp hc, l1]; exact fun z => hi z.symm
  refine ⟨w.scr.fr1 f w.fs, h, f.k _ _ (not_tg l2 (hM (by decide))) w.el, f.k _ _ (not_tg l3 (hM (by decide))) w.et, f.k _ _ (not_tg l4 (hM (by decide))) w.ek, fun v hv => (w.km v hv).fr f, w.kl, w.k0, w.ls, w.fs, w.fk, fun j e he => ?_⟩
  obtain ⟨q, t, r⟩ := w.at_ j e he
  exact ⟨q.fr f ⟨not_tg t.x (hM (by omega)), not_tg t.t (hM (by omega)), not_tg t.m (hM (by omega)), not_tg t.h (hM (by omega))⟩, t, r⟩
theorem Mn.same (w : Mn K a ns L H tg s ll tt kk es ks b) (f : Same H H') : Mn K a ns L H' tg s ll tt kk es ks b := w.draw (.of f) (w.st.same f)
theorem Mn.le {b' : Nat} (w : Mn K a ns L H tg s ll tt kk es ks b) (h : b ≤ b') : Mn K a ns L H tg s ll tt kk es ks b' :=
  ⟨w.scr, w.st, w.el, w.et, w.ek, w.km, Nat.le_trans w.kl (by omega), w.k0, w.ls, w.fs, w.fk, fun j e he => by
    obtain ⟨q, r⟩ := w.at_ j e he
    exact ⟨⟨q.ln, q.tr, q.ms, Nat.le_trans q.le h⟩, r⟩⟩
/-- a message more is known -/
theorem Mn.known (w : Mn K a ns L H tg s ll tt kk es ks b) {m : V} (hm : Msg H m) : Mn K a ns L (upd H kk (.lst (ks ++ [m]))) tg s ll tt kk es (ks ++ [m]) (b + 1) := by
  have f : Fr [kk] H (upd H kk (.lst (ks ++ [m]))) := .putL w.ek
  obtain ⟨l1, l2, l3, l4⟩ := w.ls
  have hM : ∀ {i}, i ≠ 4 → ∀ c ∈ [kk], tg c ≠ i := fun hi c hc => by rw [List.mem_singleton.mp hc, l4]; exact fun z => hi z.symm
  refine ⟨w.scr.fr1 f w.fk, w.st.fr f (not_tg l1 (hM (by decide))), f.k _ _ (not_tg l2 (hM (by decide))) w.el, f.k _ _ (not_tg l3 (hM (by decide))) w.et, upd_same, fun v hv => ?_, ?_, ?_, w.ls, w.fs, w.fk, fun j e he => ?_⟩
  · rcases List.mem_append.mp hv with hv | hv
    · exact (w.km v hv).fr f
    · rw [List.mem_singleton.mp hv]
      exact hm.fr f
  · rw [List.length_append]
    exact Nat.succ_le_succ w.kl
  · rw [List.length_append]
    exact Nat.succ_pos _
  · obtain ⟨q, t, r⟩ := w.at_ j e he
    have q' := q.fr f ⟨not_tg t.x (hM (by omega)), not_tg t.t (hM (by omega)), not_tg t.m (hM (by omega)), not_tg t.h (hM (by omega))⟩
    exact ⟨⟨q'.ln, q'.tr, q'.ms, Nat.le_succ_of_le q'.le⟩, t, r⟩
/-- entry j is another one -/
theorem Mn.set (w : Mn K a ns L H tg s ll tt kk es ks b) {j : Nat} {e e' : En} (he : es[j]? = some e) (f : Fr [e.x, e.t, e.h] H H') (q : EnAt L H' e' b) (ex : e'.x = e.x) (et : e'.t = e.t) (em : e'.m = e.m) (eh : e'.h = e.h ∨ H e'.h = none) :
    ∃ tg', Mn K a ns L H' tg' s ll tt kk (es.set j e') ks b := by
  obtain ⟨l1, l2, l3, l4⟩ := w.ls
  obtain ⟨q0, t0, r1, r2, r3⟩ := w.at_ j e he
  have hM : ∀ {i}, i ≠ 5 + 4 * j → i ≠ 6 + 4 * j → i ≠ 8 + 4 * j → ∀ c ∈ [e.x, e.t, e.h], tg c ≠ i := fun h1 h2 h3 c hc => by
    rcases List.mem_cons.mp hc with rfl | hc
    · rw [t0.x]; exact fun z => h1 z.symm
    rcases List.mem_cons.mp hc with rfl | hc
    · rw [t0.t]; exact fun z => h2 z.symm
    · rw [List.mem_singleton.mp hc, t0.h]; exact fun z => h3 z.symm
  have fM : ∀ c ∈ [e.x, e.t, e.h], Far K a ns c := fun c hc => by
    rcases List.mem_cons.mp hc with rfl | hc
    · exact r1
    rcases List.mem_cons.mp hc with rfl | hc
    · exact r2
    · rw [List.mem_singleton.mp hc]; exact r3
  have keep : ∀ {c : Addr} {o : HO} {i : Nat}, H c = some o → tg c = i → i ≠ 8 + 4 * j → (if c = e'.h then 8 + 4 * j else tg c) = i := fun {c o i} hc hi hn => by
    rw [if_neg, hi]
    intro z
    rcases eh with eh | eh
    · rw [z, eh, t0.h] at hi
      exact hn hi.symm
    · rw [z, eh] at hc
      cases hc
  refine ⟨fun c => if c = e'.h then 8 + 4 * j else tg c, w.scr.fr f fM, w.st.fr f (not_tg l1 (hM (by omega) (by omega) (by omega))), ?_, ?_, f.k _ _ (not_tg l4 (hM (by omega) (by omega) (by omega))) w.ek, fun v hv => (w.km v hv).fr f, w.kl, w.k0,
    ⟨?_, keep w.el l2 (by omega), keep w.et l3 (by omega), keep w.ek l4 (by omega)⟩, w.fs, w.fk, fun i c hc => ?_⟩
  · rw [f.k _ _ (not_tg l2 (hM (by omega) (by omega) (by omega))) w.el, List.map_set, ex]
    rw [set_self (by rw [List.getElem?_map, he]; rfl)]
  · rw [f.k _ _ (not_tg l3 (hM (by omega) (by omega) (by omega))) w.et, List.map_set, et]
    rw [set_self (by rw [List.getElem?_map, he]; rfl)]
  · obtain ⟨_, _, _, _, e, _⟩ := w.st
    exact keep e l1 (by omega)
  · by_cases z : i = j
    · subst z
      have : (es.set i e')[i]? = some e' := by
        rw [List.getElem?_set_self (List.getElem?_eq_some_iff.mp he).1]
      rw [this] at hc
      cases hc
      refine ⟨q, ⟨?_, ?_, ?_, if_pos rfl⟩, ex ▸ r1, et ▸ r2, ?_⟩
      · rw [ex]
        obtain ⟨dx, mt, ht, k1, _⟩ := q0.ln.ex
        exact keep k1 t0.x (by omega)
      · rw [et]; exact keep q0.tr.e t0.t (by omega)
      · rw [em]; exact keep q0.tr.em t0.m (by omega)
      · rcases eh with eh | eh
        · rw [eh]; exact r3
        · exact far_new w.scr eh
    · rw [List.getElem?_set_ne (fun y => z y.symm)] at hc
      obtain ⟨q1, t1, r⟩ := w.at_ i c hc
      refine ⟨q1.fr f ⟨not_tg t1.x (hM (by omega) (by omega) (by omega)), not_tg t1.t (hM (by omega) (by omega) (by omega)), not_tg t1.m (hM (by omega) (by omega) (by omega)), not_tg t1.h (hM (by omega) (by omega) (by omega))⟩, ?_, r⟩
      obtain ⟨dx, mt, ht, k1, _⟩ := q1.ln.ex
      exact ⟨keep k1 t1.x (by omega), keep q1.tr.e t1.t (by omega), keep q1.tr.em t1.m (by omega), keep q1.tr.eh t1.h (by omega)⟩
end
end WU

set_option maxRecDepth 100000
set_option maxHeartbeats 4000000
namespace WU
open PySem PySem.Spec PyProof.Rows L2
def CalE (P : Program) (w : World) (K : PySem.W.Frag) (mg : Str → Option Value) (base : Heap) (k : Nat) (x : Str) (ps : List Str) (sp : Sp) : Prop := ∃ f fd, Cal P w K mg base k x f fd ps sp
/-- what the law calls -/
structure LBs (P : Program) (w : World) (K : PySem.W.Frag) (mg : Str → Option Value) (base : Heap) (L : Addr) : Prop where
  B : Blt0 mg
  C : LnC K mg L
  draw : CalE P w K mg base 1 "_law_draw" ["script", "state", "many"] (spDraw K)
  pick : CalE P w K mg base 2 "_law_pick" ["script", "state", "things"] (spPick K)
  state : CalE P w K mg base 1 "_law_state" ["script"] (spState K)
  marks : CalE P w K mg base 3 "_law_marks" ["script", "state"] (spMarks K)
  msg : CalE P w K mg base 3 "_law_message" ["script", "state"] (spMsg K)
  sent : CalE P w K mg base 1 "_law_sent" ["track", "message"] spSent
  same : CalE P w K mg base 4 "_law_same" ["actual", "due"] (spSm 3)
  make : ∃ f fd, Mk K L f ∧ FnOk P w K mg base (L2.CX P w) 1 f fd ["self", "marks"] (spLI L) ∧ L2.Binds K fd ["self", "marks"] [] ∧ KBn K fd ["self", "marks"] 1 ["marks"] (fun us ws => us ++ ws) (fun vs zs => vs ++ zs)
  rest : ∃ f fd, Meth K L "rest" f ∧ FnOk P w K mg base (L2.CX P w) 1 f fd ["self"] (spRest L) ∧ L2.Binds K fd ["self"] []
  send : ∃ f fd, Meth K L "send" f ∧ FnOk P w K mg base (L2.CX P w) 2 f fd ["self", "message"] (spSend L) ∧ L2.Binds K fd ["self", "message"] []
def NL : List Str := ["script", "state", "lines", "tracks", "k", "marks", "passed", "known", "step", "which", "track", "due", "message"]
abbrev LB : List Stmt := defBody sLaw
theorem scLaw : FnScope NL ["script"] (defScope sLaw) := ⟨rfl, rfl, rfl, by decide +kernel, rfl, by decide +kernel, by decide +kernel⟩
/-- tuples of the same messages are alike -/
theorem eq_msgs {H : Hp} {r q : Addr} {xs : List V} (hr : H r = some (.tup xs)) (hq : H q = some (.tup xs)) (hm : ∀ v ∈ xs, Msg H v) (hl : xs.length ≤ 10000) : EqV 3 H (.ref r) (.ref q) :=
  .inr ⟨r, q, xs, xs, rfl, rfl, hr, hq, paired_refl hm, hl⟩
section
variable {P : Program} {w : World} {K : PySem.W.Frag} {mg : Str → Option Value} {base : Heap} {L : Addr} {f : Addr} {cdv : Value} {A : Around} {outer : List Env} {s : Shared} {H : Hp} {E : XK}
/-- the lines are emptied -/
theorem g3 (W : LBs P w K mg base L) (hr : Room 4 (A.deeper (envOfC "law" (defScope sLaw) s.heap.objs.size f cdv))) :
    ∃ t, PSs (cxOf CX0 P w K mg base NL "law" (defScope sLaw) f cdv A outer s H E) (LB.drop 6) t ∧ ∀ (D : Ends) (H' : Hp) (a : Addr) (ns : List Int) (tg : Addr → Nat) (st ll tt kk : Addr) (es : List En) (ks : List V) (b : Nat) (v0 v1 v4 v5 v6 v7 v8 v9 v10 v11 v12 : Option V),
      Mn K a ns L H' tg st ll tt kk es ks b → es.length = 2 → b ≤ 1000 → (∀ H'', D.rt (.bl true) H'') → t D [v0, v1, some (.ref ll), some (.ref tt), v4, v5, v6, v7, v8, v9, v10, v11, v12] H' := by
  obtain ⟨fS, fdS, CS⟩ := W.same
  obtain ⟨fR, fdR, mR, gR, bR⟩ := W.rest
  have B := W.B
  have C := W.C
  have nd := scLaw.nd
  refine ⟨_, (pss_cons (ps_for (passes_of rfl) rfl (pi_range1 rfl B.range (pa_cons pe_int pa_nil)) (pg_name (i := 4) nd rfl (Or.inl rfl)) (pss_one (ps_if (PW.pt (pw_or (pt_not (pt_val (pe_cal CS (hr.mono (by decide)) (pa_cons (pe_meth0 (E := E0) (pe_ix (ix_listK (K := K)) (pv 2) (pv 4) (fun _ _ => rfl)) C.cl mR gR (hr.mono (by decide)) bR .nil passU) (pa_cons (pe_callTy (tup_ofK (K := K)) (by rfl) B.tuple (by decide +kernel) (pa_cons (pe_ix (ix_listK (K := K)) (pe_ix (ix_listK (K := K)) (pv 3) (pv 4) (fun _ _ => rfl)) pe_int (fun _ _ => rfl)) pa_nil)) pa_nil)) passU))) (pw_or1 (pt_not (pt_val (pe_cal CS (hr.mono (by decide)) (pa_cons (pe_meth0 (E := E0) (pe_ix (ix_listK (K := K)) (pv 2) (pv 4) (fun _ _ => rfl)) C.cl mR gR (hr.mono (by decide)) bR .nil passU) (pa_cons (pe_tup pa_nil) pa_nil)) passU)))))) (pss_one (ps_ret pe_bl)) pss_nil)))
      (pss_one (ps_ret pe_bl))), ?_⟩
  intro D H0 a ns tg st ll tt kk es ks b v0 v1 v4 v5 v6 v7 v8 v9 v10 v11 v12 M hlen hb fin
  obtain ⟨l1, l2, l3, l4⟩ := M.ls
  refine ⟨2, rfl, by decide, by decide, for_range (lo := 0) (n := 2) (fun i σ H1 => ∃ y4, σ = [v0, v1, some (.ref ll), some (.ref tt), y4, v5, v6, v7, v8, v9, v10, v11, v12] ∧ H1 ll = some (.lst (es.map fun e => .ref e.x)) ∧ H1 tt = some (.lst (es.map fun e => .ref e.t)) ∧ ∀ j e, i ≤ j → es[j]? = some e → EnAt L H1 e b) ⟨_, rfl, M.el, M.et, fun j e _ he => (M.at_ j e he).1⟩ ?_ ?_⟩
  · rintro i σ H1 hi ⟨y4, rfl, el, et, en⟩
    have hie : i < es.length := by omega
    obtain ⟨e, he⟩ : ∃ e, es[i]? = some e := ⟨_, List.getElem?_eq_getElem hie⟩
    have q := en i e (Nat.le_refl _) he
    obtain ⟨_, t0, _⟩ := M.at_ i e he
    obtain ⟨dx, mt, ht, j1, j2, j3⟩ := q.ln.ex
    have hM : ∀ {k}, k ≠ 5 + 4 * i → ∀ c ∈ [e.x], tg c ≠ k := fun hi c hc => by rw [List.mem_singleton.mp hc, t0.x]; exact fun z => hi z.symm
    rw [show ((0 : Int) + (i : Int)) = ((i : Nat) : Int) from Int.zero_add _]
    refine ⟨_, rfl, _, rfl, ll, _, _, _, rfl, rfl, SqL.of el, atI_nat (by rw [List.getElem?_map, he] <;> rfl), e.x, dx, _, rfl, j1, lnF_no (by decide +kernel) (by decide +kernel) (by decide +kernel), e.x, _, _, _, rfl, q.ln, fun r H2 f2 ln2 e2 => ?_⟩
    have ll2 := f2.k _ _ (not_tg l2 (hM (by omega))) el
    have tt2 := f2.k _ _ (not_tg l3 (hM (by omega))) et
    have et2 := f2.k _ _ (not_tg t0.t (hM (by omega))) q.tr.e
    have eh2 := f2.k _ _ (not_tg t0.h (hM (by omega))) q.tr.eh
    refine ⟨_, rfl, _, rfl, tt, _, _, _, rfl, rfl, SqL.of tt2, atI_nat (by rw [List.getElem?_map, he] <;> rfl), e.t, _, 2, _, rfl, rfl, SqL.of et2, atI_nat (j := 2) rfl, e.h, _, rfl, .inl ⟨SqL.of eh2, fun T hT => ?_⟩⟩
    have s3 := same_new (o := .tup e.hd) hT
    have eT : upd H2 T (.tup e.hd) T = some (.tup e.hd) := upd_same
    generalize upd H2 T (.tup e.hd) = H3 at s3 eT ⊢
    have f3 := f2.trans (.of s3)
    refine ⟨_, _, rfl, eq_msgs (s3 _ _ e2) eT (fun v hv => (q.ms v hv).fr f3) (by have := q.le; omega), _, rfl, iteF ?_⟩
    have ln3 := ln2.same s3
    obtain ⟨dx, mt, ht, j1, j2, j3⟩ := ln3.ex
    refine ⟨_, rfl, _, rfl, ll, _, _, _, rfl, rfl, SqL.of (s3 _ _ ll2), atI_nat (by rw [List.getElem?_map, he] <;> rfl), e.x, dx, _, rfl, j1, lnF_no (by decide +kernel) (by decide +kernel) (by decide +kernel), e.x, _, _, _, rfl, ln3, fun r' H4 f4 ln4 e4 => ?_⟩
    refine ⟨(by show 0 ≤ sizeLine; decide), fun T' hT' => ?_⟩
    have s5 := same_new (o := .tup []) hT'
    have f5 := (f3.trans f4).trans (.of s5)
    refine ⟨_, _, rfl, eq_msgs (xs := []) (s5 _ _ e4) upd_same (fun v hv => nomatch hv) (by decide), _, rfl, iteF ?_⟩
    refine ⟨_, rfl, f5.k _ _ (not_tg l2 (hM (by omega))) el, f5.k _ _ (not_tg l3 (hM (by omega))) et, fun j c hj hc => ?_⟩
    obtain ⟨_, t1, _⟩ := M.at_ j c hc
    exact (en j c (by omega) hc).fr f5 ⟨not_tg t1.x (hM (by omega)), not_tg t1.t (hM (by omega)), not_tg t1.m (hM (by omega)), not_tg t1.h (hM (by omega))⟩
  · rintro σ H1 ⟨y4, rfl, _⟩
    exact fin _
end
end WU

set_option maxRecDepth 100000
set_option maxHeartbeats 4000000
namespace WU
open PySem PySem.Spec PyProof.Rows L2
theorem fate_min (ms : List Int) (u : Nat) : fate ms (min u ms.length) = fate ms u := by
  by_cases h : u ≤ ms.length
  · rw [Nat.min_eq_left h]
  · rw [Nat.min_eq_right (by omega)]
    unfold fate
    rw [List.getElem?_eq_none (Nat.le_refl _), List.getElem?_eq_none (by omega)]
theorem sent_all {H : Hp} {g : Int} {hd : List V} {m : V} (h : ∀ v ∈ hd, Msg H v) (hm : Msg H m) : (∀ v ∈ (sentF g hd m).1, Msg H v) ∧ (∀ v ∈ (sentF g hd m).2, Msg H v) := by
  unfold sentF
  have e : ∀ v ∈ hd ++ [m], Msg H v := fun v hv => by
    rcases List.mem_append.mp hv with hv | hv
    · exact h v hv
    · rw [List.mem_singleton.mp hv]; exact hm
  split
  · exact ⟨(fun v hv => nomatch hv), h⟩
  split
  · exact ⟨(fun v hv => nomatch hv), e⟩
  split
  · exact ⟨e, fun v hv => nomatch hv⟩
  · refine ⟨fun v hv => ?_, fun v hv => nomatch hv⟩
    rcases List.mem_append.mp hv with hv | hv
    · exact h v hv
    · rcases List.mem_cons.mp hv with rfl | hv
      · exact hm
      · rw [List.mem_singleton.mp hv]; exact hm
theorem sent_len (g : Int) (hd : List V) (m : V) : (sentF g hd m).1.length ≤ hd.length + 2 ∧ (sentF g hd m).2.length ≤ hd.length + 1 := by
  unfold sentF
  split
  · exact ⟨Nat.zero_le _, Nat.le_succ _⟩
  split
  · exact ⟨Nat.zero_le _, by rw [List.length_append]; exact Nat.le_refl _⟩
  split
  · exact ⟨by rw [List.length_append]; exact Nat.le_succ _, Nat.zero_le _⟩
  · exact ⟨by rw [List.length_append]; exact Nat.le_refl _, Nat.zero_le _⟩
section
variable {P : Program} {w : World} {K : PySem.W.Frag} {mg : Str → Option Value} {base : Heap} {L : Addr} {f : Addr} {cdv : Value} {A : Around} {outer : List Env} {s : Shared} {H : Hp} {E : XK}
/-- the deeds -/
theorem g2 (W : LBs P w K mg base L) (hr : Room 4 (A.deeper (envOfC "law" (defScope sLaw) s.heap.objs.size f cdv))) :
    ∃ t, PSs (cxOf CX0 P w K mg base NL "law" (defScope sLaw) f cdv A outer s H E) (LB.drop 5) t ∧ ∀ (D : Ends) (H' : Hp) (a : Addr) (ns : List Int) (tg : Addr → Nat) (st ll tt kk : Addr) (es : List En) (ks : List V) (v4 v5 v6 v8 v9 v10 v11 v12 : Option V),
      Mn K a ns L H' tg st ll tt kk es ks 0 → es.length = 2 → (∀ H'', D.rt (.bl true) H'') → t D [some (.ref a), some (.ref st), some (.ref ll), some (.ref tt), v4, v5, v6, some (.ref kk), v8, v9, v10, v11, v12] H' := by
  obtain ⟨fS, fdS, CS⟩ := W.same
  obtain ⟨fD, fdD, CD⟩ := W.draw
  obtain ⟨fP, fdP, CP⟩ := W.pick
  obtain ⟨fM, fdM, CM⟩ := W.msg
  obtain ⟨fT, fdT, CT⟩ := W.sent
  obtain ⟨fR, fdR, mR, gR, bR⟩ := W.rest
  obtain ⟨fZ, fdZ, mS, gS, bS⟩ := W.send
  obtain ⟨t3, q3, k3⟩ := g3 (outer := outer) (H := H) (E := E) W hr
  have B := W.B
  have C := W.C
  have nd := scLaw.nd
  refine ⟨_, (pss_cons (ps_for (passes_of rfl) rfl (pi_range1 rfl B.range (pa_cons pe_int pa_nil)) (pg_name (i := 8) nd rfl (Or.inl rfl)) (pss_cons (ps_set (i := 9) nd rfl (Or.inl rfl) (pe_cal CD (hr.mono (by decide)) (pa_cons (pv 0) (pa_cons (pv 1) (pa_cons pe_int pa_nil))) passU))
      (pss_cons (ps_set (i := 10) nd rfl (Or.inl rfl) (pe_ix (ix_listK (K := K)) (pv 3) (pv 9) (fun _ _ => rfl)))
      (pss_one (ps_if (pt_cmpR op_eq (pe_cal CD (hr.mono (by decide)) (pa_cons (pv 0) (pa_cons (pv 1) (pa_cons pe_int pa_nil))) passU) pe_int (nomark _)) (pss_cons (ps_set (i := 11) nd rfl (Or.inl rfl) (pe_callTy (tup_ofK (K := K)) (by rfl) B.tuple (by decide +kernel) (pa_cons (pe_ix (ix_listK (K := K)) (pv 10) pe_int (fun _ _ => rfl)) pa_nil)))
      (pss_cons (ps_asg (pe_lst pa_nil) (pg_sub (pv 10) pe_int set_list))
      (pss_one (ps_if (pt_not (pt_val (pe_cal CS (hr.mono (by decide)) (pa_cons (pe_meth0 (E := E0) (pe_ix (ix_listK (K := K)) (pv 2) (pv 9) (fun _ _ => rfl)) C.cl mR gR (hr.mono (by decide)) bR .nil passU) (pa_cons (pv 11) pa_nil)) passU))) (pss_one (ps_ret pe_bl)) pss_nil)))) (pss_cons (ps_set (i := 12) nd rfl (Or.inl rfl) (pe_cal CP (hr.mono (by decide)) (pa_cons (pv 0) (pa_cons (pv 1) (pa_cons (pv 7) pa_nil))) passU))
      (pss_cons (ps_wk (ps_if (pt_cmpR op_gt (pe_cal CD (hr.mono (by decide)) (pa_cons (pv 0) (pa_cons (pv 1) (pa_cons pe_int pa_nil))) passU) pe_int (nomark _)) (pss_cons (ps_set (i := 12) nd rfl (Or.inl rfl) (pe_cal CM (hr.mono (by decide)) (pa_cons (pv 0) (pa_cons (pv 1) pa_nil)) passU))
      (pss_one (ps_expr (pe_bm PySem.F.plainAttrs_list PySem.F.slot_list_append PySem.F.type_list_append mt_append (pv 7) (pa_cons (pv 12) pa_nil))))) pss_nil))
      (pss_one (ps_if (pt_not (pt_val (pe_cal CS (hr.mono (by decide)) (pa_cons (pe_meth (E := E0) (pe_ix (ix_listK (K := K)) (pv 2) (pv 9) (fun _ _ => rfl)) C.cl mS gS (hr.mono (by decide)) bS .nil passU (pa_cons (pv 12) pa_nil)) (pa_cons (pe_cal CT (hr.mono (by decide)) (pa_cons (pv 10) (pa_cons (pv 12) pa_nil)) passU) pa_nil)) passU))) (pss_one (ps_ret pe_bl)) pss_nil)))))))))
      q3), ?_⟩
  intro D H0 a ns tg st ll tt kk es ks v4 v5 v6 v8 v9 v10 v11 v12 M hlen fin
  refine ⟨48, rfl, by decide, by decide, for_range (lo := 0) (n := 48) (fun i σ H1 => ∃ y8 y9 y10 y11 y12, σ = [some (.ref a), some (.ref st), some (.ref ll), some (.ref tt), v4, v5, v6, some (.ref kk), y8, y9, y10, y11, y12] ∧ ∃ tg es ks, Mn K a ns L H1 tg st ll tt kk es ks i ∧ es.length = 2) ⟨_, _, _, _, _, rfl, tg, es, ks, M, hlen⟩ ?_ ?_⟩
  · rintro i σ H1 hi ⟨y8, y9, y10, y11, y12, rfl, tg, es, ks, M, hlen⟩
    refine ⟨_, rfl, _, rfl, a, st, ns, 2, rfl, M.scr, M.fs, M.st, by decide, by decide, fun r H2 r0 r1 hA2 f2 => ?_⟩
    have M2 := M.draw f2 hA2
    obtain ⟨j, rfl⟩ : ∃ j : Nat, r = (j : Int) := ⟨r.toNat, by omega⟩
    have hj : j < es.length := by omega
    obtain ⟨e, he⟩ : ∃ e, es[j]? = some e := ⟨_, List.getElem?_eq_getElem hj⟩
    refine ⟨_, rfl, _, rfl, tt, _, _, _, rfl, rfl, SqL.of M2.et, atI_nat (by rw [List.getElem?_map, he] <;> rfl), ?_⟩
    refine ⟨_, rfl, _, rfl, a, st, ns, 7, rfl, M2.scr, M2.fs, M2.st, by decide, by decide, fun z H3 _ _ hA3 f3 => ?_⟩
    have M3 := M2.draw f3 hA3
    obtain ⟨q, t0, _⟩ := M3.at_ j e he
    obtain ⟨l1, l2, l3, l4⟩ := M3.ls
    have xt : e.x ≠ e.t := ne_tg t0.x t0.t (by omega)
    have xm : e.x ≠ e.m := ne_tg t0.x t0.m (by omega)
    have xh : e.x ≠ e.h := ne_tg t0.x t0.h (by omega)
    have mt_ : e.m ≠ e.t := ne_tg t0.m t0.t (by omega)
    have ht_ : e.h ≠ e.t := ne_tg t0.h t0.t (by omega)
    have mh : e.m ≠ e.h := ne_tg t0.m t0.h (by omega)
    have qle := q.le
    have hM : ∀ {k}, k ≠ 5 + 4 * j → k ≠ 6 + 4 * j → k ≠ 8 + 4 * j → ∀ c ∈ [e.x, e.t, e.h], tg c ≠ k := fun h1 h2 h3 c hc => by
      rcases List.mem_cons.mp hc with rfl | hc
      · rw [t0.x]; exact fun z => h1 z.symm
      rcases List.mem_cons.mp hc with rfl | hc
      · rw [t0.t]; exact fun z => h2 z.symm
      · rw [List.mem_singleton.mp hc, t0.h]; exact fun z => h3 z.symm
    refine ⟨rfl, _, rfl, iteD (fun _ => ?_) fun _ => ?_⟩
    · refine ⟨_, rfl, e.t, _, 2, _, rfl, rfl, SqL.of q.tr.e, atI_nat (j := 2) rfl, e.h, _, rfl, .inl ⟨SqL.of q.tr.eh, fun T hT => ?_⟩⟩
      have s4 := same_new (o := .tup e.hd) hT
      have eT : upd H3 T (.tup e.hd) T = some (.tup e.hd) := upd_same
      generalize upd H3 T (.tup e.hd) = H4 at s4 eT ⊢
      refine ⟨(by show 0 ≤ sizeLine; decide), fun p hp => ?_⟩
      have s5 := same_new (o := .lst []) hp
      have ep : upd H4 p (.lst []) p = some (.lst []) := upd_same
      generalize upd H4 p (.lst []) = H5 at s5 ep ⊢
      have s35 := s4.trans s5
      have p3 : H3 p = none := by
        cases y : H3 p with
        | none => rfl
        | some o => rw [s4 _ _ y] at hp; cases hp
      have pt : p ≠ e.t := (ne_of_none q.tr.e p3).symm
      have px : p ≠ e.x := by
        obtain ⟨dx, mt, ht, j1, _⟩ := q.ln.ex
        exact (ne_of_none j1 p3).symm
      refine ⟨_, rfl, e.t, _, 2, 2, rfl, rfl, s35 _ _ q.tr.e, rfl, ?_⟩
      have f6 := Fr.putL (u := .lst (List.set [.ref e.m, .int (e.u : Int), .ref e.h] 2 (.ref p))) (s35 _ _ q.tr.e)
      have e6 : upd H5 e.t (.lst (List.set [.ref e.m, .int (e.u : Int), .ref e.h] 2 (.ref p))) e.t = some (.lst [.ref e.m, .int (e.u : Int), .ref p]) := upd_same
      generalize upd H5 e.t (.lst (List.set [.ref e.m, .int (e.u : Int), .ref e.h] 2 (.ref p))) = H6 at f6 e6 ⊢
      have f36 : Fr [e.x, e.t, e.h] H3 H6 := (Fr.of s35).trans (f6.mono fun b hb => by rw [List.mem_singleton.mp hb]; simp)
      have ln6 := (q.ln.same s35).fr f6 (fun z => xt (List.mem_singleton.mp z))
      obtain ⟨dx, mt, ht, j1, j2, j3⟩ := ln6.ex
      refine ⟨_, rfl, _, rfl, ll, _, _, _, rfl, rfl, SqL.of (f36.k _ _ (not_tg l2 (hM (by omega) (by omega) (by omega))) M3.el), atI_nat (by rw [List.getElem?_map, he] <;> rfl), e.x, dx, _, rfl, j1, lnF_no (by decide +kernel) (by decide +kernel) (by decide +kernel), e.x, _, _, _, rfl, ln6, fun r' H7 f7 ln7 e7 => ?_⟩
      have f37 := f36.trans (f7.mono fun b hb => by rw [List.mem_singleton.mp hb]; exact List.mem_cons_self)
      refine ⟨_, rfl, _, _, rfl, eq_msgs e7 (f7.t _ _ (f6.t _ _ (s5 _ _ eT))) (fun v hv => (q.ms v hv).fr f37) (by omega), _, rfl, iteF ?_⟩
      obtain ⟨tg', M7⟩ := M3.set (e' := { e with h := p, hd := [] }) he f37 ⟨ln7, ⟨f7.one e6 xt.symm, f7.one (f6.one (s35 _ _ q.tr.em) mt_) xm.symm, f7.one (f6.one ep pt) px⟩, (fun v hv => nomatch hv), Nat.zero_le _⟩ rfl rfl rfl (.inr p3)
      exact ⟨_, _, _, _, _, rfl, tg', _, _, M7.le (Nat.le_succ _), by rw [List.length_set]; exact hlen⟩
    · refine ⟨_, rfl, _, rfl, _, rfl, a, st, kk, ns, ks, rfl, M3.scr, M3.fs, M3.st, M3.ek, ne_tg l4 l1 (by decide), M3.k0, by have := M3.kl; omega, fun i0 y H4 hy hA4 f4 => ?_⟩
      have M4 := M3.draw f4 hA4
      have my : Msg H4 y := M4.km y (List.mem_of_getElem? hy)
      refine ⟨fun σ H' => ∃ m ks, σ = [some (.ref a), some (.ref st), some (.ref ll), some (.ref tt), v4, v5, v6, some (.ref kk), some (.int (0 + (i : Int))), some (.int (j : Int)), some (.ref e.t), y11, some m] ∧ Mn K a ns L H' tg st ll tt kk es ks (i + 1) ∧ Msg H' m, ?_, ?_⟩
      · refine ⟨_, rfl, _, rfl, a, st, ns, 3, rfl, M4.scr, M4.fs, M4.st, by decide, by decide, fun z H5 _ _ hA5 f5 => ?_⟩
        have M5 := M4.draw f5 hA5
        refine ⟨_, _, rfl, rfl, _, rfl, iteD (fun _ => ?_) fun _ => ⟨_, _, rfl, M5.le (Nat.le_succ _), my.fr f5⟩⟩
        refine ⟨_, rfl, _, rfl, a, st, ns, rfl, M5.scr, M5.fs, M5.st, fun m H6 f6 hA6 hm => ?_⟩
        have M6 := M5.draw f6 hA6
        refine ⟨_, rfl, .inl ⟨rfl, _, SqL.of M6.ek⟩, _, rfl, kk, _, _, rfl, rfl, M6.ek, small4k (by have := M6.kl; omega), ?_⟩
        exact ⟨m, _, rfl, M6.known hm, hm.fr (Fr.putL M6.ek)⟩
      · rintro σ H5 ⟨m, ks, rfl, M5, hm⟩
        obtain ⟨q, t0, _⟩ := M5.at_ j e he
        obtain ⟨dx, mt, ht, j1, j2, j3⟩ := q.ln.ex
        refine ⟨_, rfl, _, rfl, ll, _, _, _, rfl, rfl, SqL.of M5.el, atI_nat (by rw [List.getElem?_map, he] <;> rfl), e.x, dx, _, rfl, j1, lnF_no (by decide +kernel) (by decide +kernel) (by decide +kernel), _, rfl, e.x, m, _, _, _, rfl, q.ln, by omega, fun r' H6 f6 ln6 e6 => ?_⟩
        have tr6 := q.tr.fr f6 (fun z => xt (List.mem_singleton.mp z).symm) (fun z => xm (List.mem_singleton.mp z).symm) (fun z => xh (List.mem_singleton.mp z).symm)
        have lm := q.ln.lm
        refine ⟨_, rfl, _, rfl, e.t, e.m, e.h, m, _, _, _, rfl, tr6, mt_, ht_, mh, by omega, by omega, fun r2 h2 H7 f7 eh7 tr7 e7 => ?_⟩
        have f57 : Fr [e.x, e.t, e.h] H5 H7 := (f6.mono fun b hb => by rw [List.mem_singleton.mp hb]; exact List.mem_cons_self).trans (f7.mono fun b hb => List.mem_cons_of_mem _ hb)
        have e6' := f7.t _ _ e6
        rw [fate_min] at ln6 e6'
        obtain ⟨a1, a2⟩ := sent_all (g := fate e.ms e.u) (fun v hv => (q.ms v hv).fr f57) (hm.fr f57)
        obtain ⟨b1, b2⟩ := sent_len (fate e.ms e.u) e.hd m
        refine ⟨_, _, rfl, eq_msgs e6' e7 a1 (by omega), _, rfl, iteF ?_⟩
        have x7 : e.x ∉ [e.t, e.h] := fun z => by
          rcases List.mem_cons.mp z with z | z
          · exact xt z
          · exact xh (List.mem_singleton.mp z)
        have ln7 := ln6.fr f7 x7
        rw [show min (min e.u e.ms.length + 1) e.ms.length = min (e.u + 1) e.ms.length by omega] at ln7
        have hn : h2 = e.h ∨ H5 h2 = none := by
          rcases eh7 with z | z
          · exact .inl z
          · refine .inr ?_
            cases y : H5 h2 with
            | none => rfl
            | some o =>
              by_cases k : h2 = e.x
              · obtain ⟨dx', _, _, j1', _⟩ := ln6.ex
                rw [k, j1'] at z; cases z
              · rw [f6.one y k] at z; cases z
        obtain ⟨tg', M7⟩ := (M5.set (e' := { e with h := h2, hd := (sentF (fate e.ms e.u) e.hd m).2, u := e.u + 1 }) he f57 ⟨ln7, tr7, a2, by show (sentF (fate e.ms e.u) e.hd m).2.length ≤ i + 1; omega⟩ rfl rfl rfl hn)
        exact ⟨_, _, _, _, _, rfl, tg', _, _, M7, by rw [List.length_set]; exact hlen⟩
  · rintro σ H1 ⟨y8, y9, y10, y11, y12, rfl, tg, es, ks, M, hlen⟩
    exact k3 D H1 a ns tg st ll tt kk es ks 48 _ _ _ _ _ _ _ _ _ _ _ M hlen (by decide) fin
end
end WU

set_option maxRecDepth 100000
set_option maxHeartbeats 4000000
namespace WU
open PySem PySem.Spec PyProof.Rows L2
theorem dps_ints {K : PySem.W.Frag} {H : Hp} : ∀ b : List Int, DpAll K H (b.map V.int) (b.map PyData.int)
  | [] => .nil
  | i :: b => .cons (.int i) (dps_ints b)
theorem ints_flat : ∀ b : List Int, PyData.canLayAll0 (b.map PyData.int) = true ∧ PyData.depthAll (b.map PyData.int) = 0 ∧ PyData.eqvAll (b.map PyData.int) (b.map PyData.int) = true
  | [] => ⟨rfl, rfl, rfl⟩
  | i :: b => by
    obtain ⟨h1, h2, h3⟩ := ints_flat b
    refine ⟨?_, ?_, ?_⟩
    · simp only [List.map_cons, PyData.canLayAll0, PyData.canLay0, h1, Bool.and_self]
    · simp only [List.map_cons, PyData.depthAll, PyData.depth, h2, Nat.max_self]
    · simp only [List.map_cons, PyData.eqvAll, PyData.eqv, h3, Bool.and_true]
      exact beq_self_eq_true i
theorem ints_list (b : List Int) : SeqAt.shaped (.list (b.map PyData.int)) = true ∧ PyData.eqv (.list (b.map PyData.int)) (.list (b.map PyData.int)) = true := by
  obtain ⟨h1, h2, h3⟩ := ints_flat b
  constructor
  · unfold SeqAt.shaped
    simp only [PyData.canLay0, h1, PyData.depth, h2, Bool.true_and]
    exact decide_eq_true (by decide)
  · simp only [PyData.eqv, h3]
/-- ahead of the known messages -/
structure Pn (K : PySem.W.Frag) (a : Addr) (ns : List Int) (L : Addr) (H : Hp) (tg : Addr → Nat) (s ll tt : Addr) (es : List En) : Prop where
  scr : Scr K H a ns
  st : StA H s
  el : H ll = some (.lst (es.map fun e => .ref e.x))
  et : H tt = some (.lst (es.map fun e => .ref e.t))
  ls : tg s = 1 ∧ tg ll = 2 ∧ tg tt = 3
  fs : Far K a ns s
  fl : Far K a ns ll
  ft : Far K a ns tt
  at_ : ∀ j e, es[j]? = some e → EnAt L H e 0 ∧ EnTg tg e j ∧ Far K a ns e.x ∧ Far K a ns e.t ∧ Far K a ns e.h
theorem Same.back {H H' : Hp} (s : Same H H') {p : Addr} (h : H' p = none) : H p = none := by
  cases e : H p with
  | none => rfl
  | some o => rw [s _ _ e] at h; cases h
theorem Fr.bk {M : List Addr} {H H' : Hp} {z : Addr} (f : Fr M H H') (h : ∀ b ∈ M, ∃ o, H' b = some o) (hz : H' z = none) : H z = none := by
  cases e : H z with
  | none => rfl
  | some o =>
    by_cases m : z ∈ M
    · obtain ⟨u, eu⟩ := h z m
      rw [eu] at hz; cases hz
    · rw [f.k _ _ m e] at hz; cases hz
/-- what was made, and then put in order by its own hand -/
theorem made {H H' : Hp} {x dx L : Addr} (hx : H x = none) (hd : H dx = none) (ne : dx ≠ x) (f : Fr [x] (upd (upd H dx (.own x)) x (.ins L dx [])) H') : Same H H' := fun b o e => by
  have bx : b ≠ x := ne_of_none e hx
  have bd : b ≠ dx := ne_of_none e hd
  exact f.one (by rw [upd_ne bx, upd_ne bd]; exact e) bx
section
variable {P : Program} {w : World} {K : PySem.W.Frag} {mg : Str → Option Value} {base : Heap} {L : Addr}
def spLaw (K : PySem.W.Frag) : Sp := fun vs H Q _ => ∃ (a : Addr) (ns : List Int), vs = [.ref a] ∧ SqL K H a (ns.map V.int) ∧ ns.length ≤ 63 ∧ ∀ H', Q (.bl true) H'
/-- one entry more -/
theorem Pn.grow {a : Addr} {ns : List Int} {H H' : Hp} {tg : Addr → Nat} {s ll tt : Addr} {es : List En} {e : En} (w : Pn K a ns L H tg s ll tt es) (f : Fr [s, ll, tt] H H') (hA : StA H' s)
    (el : H' ll = some (.lst (es.map (fun e => .ref e.x) ++ [.ref e.x]))) (et : H' tt = some (.lst (es.map (fun e => .ref e.t) ++ [.ref e.t]))) (q : EnAt L H' e 0) (nx : H e.x = none) (nt : H e.t = none) (nm : H e.m = none) (nh : H e.h = none)
    (d1 : e.x ≠ e.t) (d2 : e.x ≠ e.m) (d3 : e.x ≠ e.h) (d4 : e.t ≠ e.m) (d5 : e.t ≠ e.h) (d6 : e.m ≠ e.h) : ∃ tg', Pn K a ns L H' tg' s ll tt (es ++ [e]) := by
  obtain ⟨l1, l2, l3⟩ := w.ls
  have hM : ∀ {i}, i ≠ 1 → i ≠ 2 → i ≠ 3 → ∀ c ∈ [s, ll, tt], tg c ≠ i := fun h1 h2 h3 c hc => by
    rcases List.mem_cons.mp hc with rfl | hc
    · rw [l1]; exact fun z => h1 z.symm
    rcases List.mem_cons.mp hc with rfl | hc
    · rw [l2]; exact fun z => h2 z.symm
    · rw [List.mem_singleton.mp hc, l3]; exact fun z => h3 z.symm
  have fM : ∀ c ∈ [s, ll, tt], Far K a ns c := fun c hc => by
    rcases List.mem_cons.mp hc with rfl | hc
    · exact w.fs
    rcases List.mem_cons.mp hc with rfl | hc
    · exact w.fl
    · rw [List.mem_singleton.mp hc]; exact w.ft
  let tg' : Addr → Nat := fun c => if c = e.x then 5 + 4 * es.length else if c = e.t then 6 + 4 * es.length else if c = e.m then 7 + 4 * es.length else if c = e.h then 8 + 4 * es.length else tg c
  have keep : ∀ {c : Addr} {o : HO} {i : Nat}, H c = some o → tg c = i → tg' c = i := fun {c o i} hc hi => by
    show (if c = e.x then _ else _) = i
    rw [if_neg (ne_of_none hc nx), if_neg (ne_of_none hc nt), if_neg (ne_of_none hc nm), if_neg (ne_of_none hc nh), hi]
  refine ⟨tg', w.scr.fr f fM, hA, by rw [el, List.map_append]; rfl, by rw [et, List.map_append]; rfl, ⟨?_, keep w.el l2, keep w.et l3⟩, w.fs, w.fl, w.ft, fun j c hc => ?_⟩
  · obtain ⟨_, _, _, _, e, _⟩ := w.st
    exact keep e l1
  · by_cases hj : j < es.length
    · rw [List.getElem?_append_left hj] at hc
      obtain ⟨q1, t1, r⟩ := w.at_ j c hc
      obtain ⟨dx, mt, ht, k1, _⟩ := q1.ln.ex
      exact ⟨q1.fr f ⟨not_tg t1.x (hM (by omega) (by omega) (by omega)), not_tg t1.t (hM (by omega) (by omega) (by omega)), not_tg t1.m (hM (by omega) (by omega) (by omega)), not_tg t1.h (hM (by omega) (by omega) (by omega))⟩,
        ⟨keep k1 t1.x, keep q1.tr.e t1.t, keep q1.tr.em t1.m, keep q1.tr.eh t1.h⟩, r⟩
    · rw [List.getElem?_append_right (by omega)] at hc
      cases hz : j - es.length with
      | succ n => rw [hz] at hc; cases hc
      | zero =>
        rw [hz] at hc
        cases hc
        have ej : j = es.length := by omega
        subst ej
        refine ⟨q, ⟨if_pos rfl, ?_, ?_, ?_⟩, far_new w.scr nx, far_new w.scr nt, far_new w.scr nh⟩
        · show (if e.t = e.x then _ else _) = _
          rw [if_neg d1.symm, if_pos rfl]
        · show (if e.m = e.x then _ else _) = _
          rw [if_neg d2.symm, if_neg d4.symm, if_pos rfl]
        · show (if e.h = e.x then _ else _) = _
          rw [if_neg d3.symm, if_neg d5.symm, if_neg d6.symm, if_pos rfl]
end
end WU

set_option maxRecDepth 100000
set_option maxHeartbeats 4000000
namespace WU
open PySem PySem.Spec PyProof.Rows L2
section
variable {P : Program} {w : World} {K : PySem.W.Frag} {mg : Str → Option Value} {base : Heap} {L : Addr}
theorem ok_Law {f : Addr} {fd : FuncData} (F : FnS K "law" sLaw f fd) (W : LBs P w K mg base L) : FnOk P w K mg base CX0 5 f fd ["script"] (spLaw K) := by
  refine F.ok scLaw (fun vs H Q E h => ?_) (fun cdv A outer s H vs Q E hr h => ?_)
  · obtain ⟨a, ns, rfl, _⟩ := h
    rfl
  · obtain ⟨a, ns, rfl, hS, hl, kk⟩ := h
    have nd := scLaw.nd
    have B := W.B
    have C := W.C
    have hu := hr.units
    obtain ⟨_, _, CD⟩ := W.draw
    obtain ⟨_, _, CSt⟩ := W.state
    obtain ⟨_, _, CM⟩ := W.marks
    obtain ⟨fI, fdI, MK, gI, bI, bK⟩ := W.make
    obtain ⟨t2, q2, k2⟩ := g2 (outer := outer) (H := H) (E := E) W hr
    refine ⟨_, (pss_cons (ps_set (i := 1) nd rfl (Or.inl rfl) (pe_cal CSt (hr.mono (by decide)) (pa_cons (pv 0) pa_nil) passU))
      (pss_cons (ps_set (i := 2) nd rfl (Or.inl rfl) (pe_lst pa_nil))
      (pss_cons (ps_set (i := 3) nd rfl (Or.inl rfl) (pe_lst pa_nil))
      (pss_cons (ps_for (passes_of rfl) rfl (pi_range1 rfl B.range (pa_cons pe_int pa_nil)) (pg_name (i := 4) nd rfl (Or.inl rfl)) (pss_cons (ps_set (i := 5) nd rfl (Or.inl rfl) (pe_cal CM (hr.mono (by decide)) (pa_cons (pv 0) (pa_cons (pv 1) pa_nil)) passU))
      (pss_cons (ps_wk (ps_if (pt_cmpR op_eq (pe_cal CD (hr.mono (by decide)) (pa_cons (pv 0) (pa_cons (pv 1) (pa_cons pe_int pa_nil))) passU) pe_int (nomark _)) (pss_one (ps_expr (pe_bm PySem.F.plainAttrs_list PySem.F.slot_list_append PySem.F.type_list_append mt_append (pv 2) (pa_cons (pe_make (E := E0) MK gI (hr.mono (by decide)) rfl C.g bI .nil passU (pa_cons (pe_callTy (tup_ofK (K := K)) (by rfl) B.tuple (by decide +kernel) (pa_cons (pv 5) pa_nil)) pa_nil)) pa_nil)))) (pss_cons (ps_set (i := 6) nd rfl (Or.inl rfl) (pe_callTy (list_ofK (K := K)) (by rfl) B.lst (by decide +kernel) (pa_cons (pv 5) pa_nil)))
      (pss_cons (ps_expr (pe_bm PySem.F.plainAttrs_list PySem.F.slot_list_append PySem.F.type_list_append mt_append (pv 2) (pa_cons (pe_makeK0 (E := E0) MK gI (hr.mono (by decide)) rfl C.g bK passU (pk_cons (pv 6) pk_nil)) pa_nil)))
      (pss_cons (ps_if (pt_cmpR (op_neDK (K := K) hu) (pv 6) (pv 5) (nomark _)) (pss_one (ps_ret pe_bl)) pss_nil)
      (pss_cons (ps_expr (pe_bm0 PySem.F.plainAttrs_list PySem.F.slot_list_reverse PySem.F.type_list_reverse mt_reverse (pv 6)))
      (pss_cons (ps_expr (pe_bm PySem.F.plainAttrs_list PySem.F.slot_list_append PySem.F.type_list_append mt_append (pv 6) (pa_cons pe_int pa_nil)))
      (pss_one (ps_expr (pe_bm PySem.F.plainAttrs_list PySem.F.slot_list_append PySem.F.type_list_append mt_append (pv 6) (pa_cons pe_int pa_nil)))))))))))
      (pss_one (ps_expr (pe_bm PySem.F.plainAttrs_list PySem.F.slot_list_append PySem.F.type_list_append mt_append (pv 3) (pa_cons (pe_lst (pa_cons (pv 5) (pa_cons pe_int (pa_cons (pe_lst pa_nil) pa_nil)))) pa_nil)))))))
      (pss_cons (ps_set (i := 7) nd rfl (Or.inl rfl) (pe_lst (pa_cons (pe_tup (pa_cons pe_str (pa_cons pe_int (pa_cons pe_int (pa_cons pe_int pa_nil))))) pa_nil)))
      q2))))), ?_⟩
    have S0 : Scr K H a ns := ⟨hS, hl⟩
    refine ⟨_, rfl, a, ns, rfl, S0, fun st H1 hst s1 hA1 => ?_⟩
    refine ⟨(by show 0 ≤ sizeLine; decide), fun ll hll => ?_⟩
    have s2 := same_new (o := .lst []) hll
    have el : upd H1 ll (.lst []) ll = some (.lst []) := upd_same
    generalize upd H1 ll (.lst []) = H2 at s2 el ⊢
    refine ⟨(by show 0 ≤ sizeLine; decide), fun tt htt => ?_⟩
    have s3 := same_new (o := .lst []) htt
    have et : upd H2 tt (.lst []) tt = some (.lst []) := upd_same
    generalize upd H2 tt (.lst []) = H3 at s3 et ⊢
    have hA3 := (hA1.same s2).same s3
    have S3 := S0.same ((s1.trans s2).trans s3)
    have dsl : st ≠ ll := hA1.ne hll
    have dst : st ≠ tt := (hA1.same s2).ne htt
    have dlt : ll ≠ tt := ne_of_none el htt
    have P0 : Pn K a ns L H3 (fun c => if c = st then 1 else if c = ll then 2 else if c = tt then 3 else 0) st ll tt [] :=
      ⟨S3, hA3, s3 _ _ el, et, ⟨if_pos rfl, by rw [if_neg dsl.symm, if_pos rfl], by rw [if_neg dst.symm, if_neg dlt.symm, if_pos rfl]⟩, far_new S0 hst, far_new (S0.same s1) hll, far_new (S0.same (s1.trans s2)) htt, fun j e he => nomatch he⟩
    refine ⟨2, rfl, by decide, by decide, for_range (lo := 0) (n := 2) (fun i σ H' => ∃ y4 y5 y6 tg es, σ = [some (.ref a), some (.ref st), some (.ref ll), some (.ref tt), y4, y5, y6, none, none, none, none, none, none] ∧ Pn K a ns L H' tg st ll tt es ∧ es.length = i) ⟨_, _, _, _, [], rfl, P0, rfl⟩ ?_ ?_⟩
    · rintro i σ H4 hi ⟨y4, y5, y6, tg, es, rfl, M, hlen⟩
      obtain ⟨l1, l2, l3⟩ := M.ls
      have nls : ll ≠ st := ne_tg l2 l1 (by decide)
      have nts : tt ≠ st := ne_tg l3 l1 (by decide)
      have ntl : tt ≠ ll := ne_tg l3 l2 (by decide)
      refine ⟨_, rfl, _, rfl, a, st, ns, rfl, M.scr, M.fs, M.st, fun p ms H5 hp f5 hA5 ep lm => ?_⟩
      refine ⟨fun σ H' => ∃ y6 x, σ = [some (.ref a), some (.ref st), some (.ref ll), some (.ref tt), some (.int (0 + (i : Int))), some (.ref p), y6, none, none, none, none, none, none] ∧ Fr [st, ll] H4 H' ∧ H4 x = none ∧ StA H' st ∧ LineAt L H' x ms 0 [] ∧ H' p = some (.lst (ms.map V.int)) ∧ H' ll = some (.lst (es.map (fun e => .ref e.x) ++ [.ref x])), ?_, ?_⟩
      · refine ⟨_, rfl, _, rfl, a, st, ns, 3, rfl, M.scr.fr1 f5 M.fs, M.fs, hA5, by decide, by decide, fun z H6 _ _ hA6 f6 => ?_⟩
        have f46 := f5.trans f6
        have pst : p ≠ st := fun y => by obtain ⟨_, _, _, _, e, _⟩ := M.st; rw [← y, hp] at e; cases e
        have pll : p ≠ ll := (ne_of_none M.el hp).symm
        have ep6 := f6.one ep pst
        have el6 := f46.one M.el nls
        refine ⟨rfl, _, rfl, iteD (fun _ => ?_) fun _ => ?_⟩
        · refine ⟨_, rfl, .inl ⟨rfl, _, SqL.of el6⟩, _, rfl, p, _, rfl, .inl ⟨SqL.of ep6, fun T hT x dx hx hdx hne => ?_⟩⟩
          have s7 := same_new (o := .tup (ms.map V.int)) hT
          have eT : upd H6 T (.tup (ms.map V.int)) T = some (.tup (ms.map V.int)) := upd_same
          generalize upd H6 T (.tup (ms.map V.int)) = H7 at s7 eT hx hdx ⊢
          refine ⟨x, dx, T, ms, rfl, upd_same, .inr ?_, lm, fun H8 f8 ln8 => ⟨rfl, ?_⟩⟩
          · rw [upd_ne (ne_of_none eT hx), upd_ne (ne_of_none eT hdx)]
            exact eT
          · have s8 := s7.trans (made hx hdx hne f8)
            have x4 : H4 x = none := f46.back hA6 (Same.back s7 hx)
            refine ⟨ll, _, _, rfl, rfl, s8 _ _ el6, ?_, ?_⟩
            · rw [List.length_map]
              exact small4k (by omega)
            · have f9 := Fr.putL (u := .lst (es.map (fun e => V.ref e.x) ++ [.ref x])) (s8 _ _ el6)
              refine ⟨_, x, rfl, ((f46.trans (.of s8)).mono (N := [st, ll]) fun b hb => by rw [List.mem_singleton.mp hb]; exact List.mem_cons_self).trans (f9.mono fun b hb => by rw [List.mem_singleton.mp hb]; simp), x4, ?_, ?_, ?_, upd_same⟩
              · exact (hA6.same s8).fr f9 (fun z => nls (List.mem_singleton.mp z).symm)
              · exact ln8.fr f9 (fun z => ne_of_none M.el x4 (List.mem_singleton.mp z).symm)
              · exact f9.one (s8 _ _ ep6) pll
        · refine ⟨_, rfl, p, _, rfl, .inl (SqL.of ep6), fun q hq => ?_⟩
          have s7 := same_new (o := .lst (ms.map V.int)) hq
          have eq : upd H6 q (.lst (ms.map V.int)) q = some (.lst (ms.map V.int)) := upd_same
          generalize upd H6 q (.lst (ms.map V.int)) = H7 at s7 eq ⊢
          refine ⟨_, rfl, .inl ⟨rfl, _, SqL.of (s7 _ _ el6)⟩, _, rfl, rfl, rfl, fun x dx hx hdx hne => ?_⟩
          refine ⟨x, dx, q, ms, rfl, upd_same, .inl ?_, lm, fun H8 f8 ln8 => ⟨rfl, ?_⟩⟩
          · rw [upd_ne (ne_of_none eq hx), upd_ne (ne_of_none eq hdx)]
            exact eq
          · have s78 := made hx hdx hne f8
            have s8 := s7.trans s78
            have x4 : H4 x = none := f46.back hA6 (Same.back s7 hx)
            have q4 : H4 q = none := f46.back hA6 hq
            have qll : q ≠ ll := (ne_of_none M.el q4).symm
            have qst : q ≠ st := fun y => by obtain ⟨_, _, _, _, e, _⟩ := M.st; rw [← y, q4] at e; cases e
            have qp : q ≠ p := (ne_of_none ep6 hq).symm
            have eq8 := s78 _ _ eq
            have qx : q ≠ x := ne_of_none eq hx
            refine ⟨ll, _, _, rfl, rfl, s8 _ _ el6, ?_, ?_⟩
            · rw [List.length_map]
              exact small4k (by omega)
            · have f9 := Fr.putL (u := .lst (es.map (fun e => V.ref e.x) ++ [.ref x])) (s8 _ _ el6)
              have f49 := ((f46.trans (.of s8)).mono (N := [st, ll]) fun b hb => by rw [List.mem_singleton.mp hb]; exact List.mem_cons_self).trans (f9.mono fun b hb => by rw [List.mem_singleton.mp hb]; simp)
              have hA9 := (hA6.same s8).fr f9 (fun z => nls (List.mem_singleton.mp z).symm)
              have ln9 := ln8.fr f9 (fun z => ne_of_none M.el x4 (List.mem_singleton.mp z).symm)
              have ep9 := f9.one (s8 _ _ ep6) pll
              have eq9 := f9.one eq8 qll
              have el9 : upd H8 ll (.lst (es.map (fun e => V.ref e.x) ++ [.ref x])) ll = some (.lst (es.map (fun e => V.ref e.x) ++ [.ref x])) := upd_same
              generalize upd H8 ll (.lst (es.map (fun e => V.ref e.x) ++ [.ref x])) = H9 at f49 hA9 ln9 ep9 eq9 el9 ⊢
              obtain ⟨sh, eqv⟩ := ints_list ms
              refine ⟨_, rfl, _, rfl, _, _, .lst (SqL.of eq9) (dps_ints ms), .lst (SqL.of ep9) (dps_ints ms), sh, sh, _, rfl, ?_⟩
              rw [eqv]
              have put : ∀ {Hk : Hp} {o : HO}, (∃ zs, Hk q = some (.lst zs)) → (Fr [st, ll] H4 Hk ∧ StA Hk st ∧ LineAt L Hk x ms 0 [] ∧ Hk p = some (.lst (ms.map V.int)) ∧ Hk ll = some (.lst (es.map (fun e => V.ref e.x) ++ [.ref x]))) →
                  (Fr [st, ll] H4 (upd Hk q o) ∧ StA (upd Hk q o) st ∧ LineAt L (upd Hk q o) x ms 0 [] ∧ upd Hk q o p = some (.lst (ms.map V.int)) ∧ upd Hk q o ll = some (.lst (es.map (fun e => V.ref e.x) ++ [.ref x]))) := by
                rintro Hk o ⟨zs, ez⟩ ⟨a1, a2, a3, a4, a5⟩
                have fq := Fr.putL (u := o) ez
                exact ⟨a1.skip q4, a2.fr fq (fun z => qst (List.mem_singleton.mp z).symm), a3.fr fq (fun z => qx (List.mem_singleton.mp z).symm), fq.one a4 qp.symm, fq.one a5 qll.symm⟩
              refine iteF ⟨_, rfl, .inl ⟨rfl, _, SqL.of eq9⟩, q, _, rfl, rfl, eq9, ?_⟩
              have g1 := put (o := .lst (ms.map V.int).reverse) ⟨_, eq9⟩ ⟨f49, hA9, ln9, ep9, el9⟩
              have h1 : upd H9 q (.lst (ms.map V.int).reverse) q = some (.lst (ms.map V.int).reverse) := upd_same
              generalize upd H9 q (.lst (ms.map V.int).reverse) = G1 at g1 h1 ⊢
              have lr : (ms.map V.int).reverse.length ≤ 40 := by rw [List.length_reverse, List.length_map]; exact lm
              refine ⟨_, rfl, .inl ⟨rfl, _, SqL.of h1⟩, q, _, _, rfl, rfl, h1, small4k (by omega), ?_⟩
              have g2 := put (o := .lst ((ms.map V.int).reverse ++ [.int 1])) ⟨_, h1⟩ g1
              have h2 : upd G1 q (.lst ((ms.map V.int).reverse ++ [.int 1])) q = some (.lst ((ms.map V.int).reverse ++ [.int 1])) := upd_same
              generalize upd G1 q (.lst ((ms.map V.int).reverse ++ [.int 1])) = G2 at g2 h2 ⊢
              refine ⟨_, rfl, .inl ⟨rfl, _, SqL.of h2⟩, q, _, _, rfl, rfl, h2, small4k (by rw [List.length_append]; show _ + 1 ≤ 4000; omega), ?_⟩
              obtain ⟨a1, a2, a3, a4, a5⟩ := put (o := .lst ((ms.map V.int).reverse ++ [.int 1] ++ [.int 3])) ⟨_, h2⟩ g2
              exact ⟨_, x, rfl, a1, x4, a2, a3, a4, a5⟩
      · rintro σ H6 ⟨y6, x, rfl, f6, hx, hA6, ln6, ep6, el6⟩
        have et6 := f6.k _ _ (fun z => by rcases List.mem_cons.mp z with z | z; exact nts z; exact ntl (List.mem_singleton.mp z)) M.et
        refine ⟨_, rfl, .inl ⟨rfl, _, SqL.of et6⟩, _, rfl, (by show 0 ≤ sizeLine; decide), fun h hh => ?_⟩
        have s7 := same_new (o := .lst []) hh
        have eh : upd H6 h (.lst []) h = some (.lst []) := upd_same
        generalize upd H6 h (.lst []) = H7 at s7 eh ⊢
        refine ⟨(by show 3 ≤ sizeLine; decide), fun t ht => ?_⟩
        have s8 := same_new (o := .lst [.ref p, .int 0, .ref h]) ht
        have et8 : upd H7 t (.lst [.ref p, .int 0, .ref h]) t = some (.lst [.ref p, .int 0, .ref h]) := upd_same
        generalize upd H7 t (.lst [.ref p, .int 0, .ref h]) = H8 at s8 et8 ⊢
        have s68 := s7.trans s8
        refine ⟨tt, _, _, rfl, rfl, s68 _ _ et6, ?_, ?_⟩
        · rw [List.length_map]
          exact small4k (by omega)
        · have f9 := Fr.putL (u := .lst (es.map (fun e => V.ref e.t) ++ [.ref t])) (s68 _ _ et6)
          have fall : Fr [st, ll, tt] H4 (upd H8 tt (.lst (es.map (fun e => V.ref e.t) ++ [.ref t]))) := ((f6.trans (.of s68)).mono (N := [st, ll, tt]) fun b hb => by
            rcases List.mem_cons.mp hb with rfl | hb
            · exact List.mem_cons_self
            · rw [List.mem_singleton.mp hb]; simp).trans (f9.mono fun b hb => by rw [List.mem_singleton.mp hb]; simp)
          have back6 : ∀ {z : Addr}, H6 z = none → H4 z = none := fun hz => f6.bk (fun b hb => by
            rcases List.mem_cons.mp hb with rfl | hb
            · obtain ⟨_, _, _, _, e, _⟩ := hA6
              exact ⟨_, e⟩
            · rw [List.mem_singleton.mp hb]; exact ⟨_, el6⟩) hz
          have h4 := back6 hh
          have t4 := back6 (Same.back s7 ht)
          have htt : h ≠ tt := (ne_of_none M.et h4).symm
          have ttt : t ≠ tt := (ne_of_none M.et t4).symm
          have ptt : p ≠ tt := (ne_of_none M.et hp).symm
          have xtt : x ≠ tt := (ne_of_none M.et hx).symm
          obtain ⟨dx, mt, hx2, j1, j2, j3⟩ := id ln6.ex
          have ln9 := (ln6.same s68).fr f9 (fun z => xtt (List.mem_singleton.mp z))
          obtain ⟨tg', M9⟩ := M.grow (e := ⟨x, t, p, h, ms, 0, []⟩) fall ((hA6.same s68).fr f9 (fun z => nts (List.mem_singleton.mp z).symm)) (f9.one (s68 _ _ el6) ntl.symm) upd_same
            ⟨by rw [show min (0 : Nat) ms.length = 0 by omega]; exact ln9, ⟨f9.one et8 ttt, f9.one (s68 _ _ ep6) ptt, f9.one (s8 _ _ eh) htt⟩, (fun v hv => nomatch hv), Nat.zero_le _⟩ hx t4 hp h4
            (ne_of_none (s7 _ _ j1) ht) (ne_of j1 ep6 (by intro z; cases z)) (ne_of_none j1 hh) (ne_of_none (s7 _ _ ep6) ht).symm (ne_of_none eh ht).symm (ne_of_none ep6 hh)
          exact ⟨_, _, _, _, _, rfl, M9, by rw [List.length_append, hlen]; rfl⟩
    · rintro σ H4 ⟨y4, y5, y6, tg, es, rfl, M, hlen⟩
      obtain ⟨l1, l2, l3⟩ := M.ls
      refine ⟨(by show 4 ≤ sizeLine; decide), fun m hm => ?_⟩
      have s5 := same_new (o := .tup [.str "ask", .int 0, .int 0, .int 0]) hm
      have em : upd H4 m (.tup [.str "ask", .int 0, .int 0, .int 0]) m = some (.tup [.str "ask", .int 0, .int 0, .int 0]) := upd_same
      generalize upd H4 m (.tup [.str "ask", .int 0, .int 0, .int 0]) = H5 at s5 em ⊢
      refine ⟨(by show 1 ≤ sizeLine; decide), fun k hk => ?_⟩
      have s6 := same_new (o := .lst [.ref m]) hk
      have ek : upd H5 k (.lst [.ref m]) k = some (.lst [.ref m]) := upd_same
      generalize upd H5 k (.lst [.ref m]) = H6 at s6 ek ⊢
      have s46 := s5.trans s6
      have k4 := Same.back s5 hk
      have keep : ∀ {c : Addr} {o : HO} {i : Nat}, H4 c = some o → tg c = i → (if c = k then 4 else tg c) = i := fun {c o i} hc hi => by rw [if_neg (ne_of_none hc k4), hi]
      refine k2 _ H6 a ns (fun c => if c = k then 4 else tg c) st ll tt k es [.ref m] _ _ _ _ _ _ _ _ ⟨M.scr.same s46, M.st.same s46, s46 _ _ M.el, s46 _ _ M.et, ek, fun v hv => ?_, (by show 1 ≤ 1; decide), (by show 0 < 1; decide), ⟨?_, keep M.el l2, keep M.et l3, if_pos rfl⟩, M.fs, far_new M.scr k4, fun j e he => ?_⟩ hlen fun H'' => kk _
      · rw [List.mem_singleton.mp hv]
        exact .inr ⟨m, m, _, _, rfl, rfl, s6 _ _ em, s6 _ _ em, .cons (eqv_s _) (.cons (eqv_i _) (.cons (eqv_i _) (.cons (eqv_i _) .nil))), (by show 4 ≤ 10000; decide)⟩
      · obtain ⟨_, _, _, _, e, _⟩ := M.st
        exact keep e l1
      · obtain ⟨q1, t1, r⟩ := M.at_ j e he
        obtain ⟨dx, mt, ht, j1, _⟩ := q1.ln.ex
        exact ⟨q1.fr (M := []) (.of s46) ⟨(fun z => nomatch z), (fun z => nomatch z), (fun z => nomatch z), (fun z => nomatch z)⟩, ⟨keep j1 t1.x, keep q1.tr.e t1.t, keep q1.tr.em t1.m, keep q1.tr.eh t1.h⟩, r⟩
end
end WU

set_option maxRecDepth 100000
set_option maxHeartbeats 0
namespace WU
open PySem PySem.Spec PyProof.Rows L2
def dG (x : Str) (i : Nat) : He.DefD := ⟨(x, none), x, x, defArgs (top i), defBody (top i), defScope (top i), [], []⟩
def dM (c m : Str) (i j : Nat) (q : Str) (ds : List He.Dv) : He.DefD := ⟨(c, some m), m, q, defArgs (inClass (top i) j), defBody (inClass (top i) j), defScope (inClass (top i) j), ds, []⟩
def fn : List He.DefD := ([dG "_law_draw" 3, dG "_law_state" 4, dG "_law_pick" 5, dG "_law_same" 6, dG "_law_marks" 7, dG "_law_message" 8, dG "_law_sent" 9, dG "law" 10, dM "Line" "__init__" 1 0 "Line.__init__" [], dM "Line" "send" 1 1 "Line.send" [], dM "Line" "rest" 1 2 "Line.rest" [], dM "Line" "_next_mark" 1 3 "Line._next_mark" []] : List He.DefD)
def frees : List Str := ["isinstance", "int", "bool", "str", "len", "abs", "range", "tuple", "list"]
def globs : List Str := (["_law_draw", "_law_state", "_law_pick", "_law_same", "_law_marks", "_law_message", "_law_sent", "law", "Line"] : List Str)
def isB0 (o : Option Bool) (b : Bool) : Bool := decide (o = some b)
def exmB (K : PySem.W.Frag) (x y : Str) (b : Bool) : Bool := isB0 (PySem.W.exmOne K (.ref (He.ga K x)) (.ref (He.ga K y))) b
theorem binds_kw {K : PySem.W.Frag} {x qual : Str} {params : Arguments} {body : List Stmt} {scope : Scope} {f : Addr} {fd : FuncData} {ps : List Str} (F : FunD K x qual params body scope [] [] f fd) (n : Nat) (ks : List Str) (g : {α : Type} → List α → List α → List α)
    (hrel : ∀ {vs zs : List V} {us ws : List Value}, Vals vs us → Vals zs ws → Vals (g vs zs) (g us ws))
    (h : ∀ (kV doc pm : Value) (an : Option Addr) (cdv ct : Value) (us ws : List Value), us.length = n → ws.length = ks.length → bindArgs (PySem.W.fnOf x qual params body scope .none kV doc pm an cdv ct) ⟨us, ks.zip ws⟩ = pure (ps.zip (g us ws))) :
    KBn K fd ps n ks (fun us ws => g us ws) (fun vs zs => g vs zs) := by
  obtain ⟨oc, od, dV, kV, doc, pm, an, cdv, ct, osl, rfl, lk, hcd, hD, hK⟩ := F.ex
  rcases hD with ⟨_, rfl⟩ | ⟨e, _⟩
  · exact ⟨fun s us ws X l1 l2 => .of_eq (h kV doc pm an cdv ct us ws l1 l2), hrel⟩
  · exact absurd rfl e
def lnB (K : PySem.W.Frag) : Bool :=
  (He.Fa.cls "Line").ok K && ((He.Fa.noat "Line" "_marks").ok K && ((He.Fa.noat "Line" "_used").ok K && ((He.Fa.noat "Line" "_held").ok K && ((He.Fa.mkr "Line").ok K &&
    ((He.Fa.meth "Line" "send").ok K && ((He.Fa.meth "Line" "rest").ok K && (He.Fa.meth "Line" "_next_mark").ok K))))))
def ex (K : PySem.W.Frag) : Bool := freeB K frees && (globB K globs && (lnB K))
theorem getG {K : PySem.W.Frag} (c : He.SaysD [] fn K) (i : Nat) {x : Str} {j : Nat} (h : fn[i]? = some (dG x j)) : ∃ fd, FnS K x (top j) (He.ga K x) fd := c.def_ i h
theorem getM {K : PySem.W.Frag} (c : He.SaysD [] fn K) (i : Nat) {cl m q : Str} {ds : List He.Dv} {j k : Nat} (h : fn[i]? = some (dM cl m j k q ds)) :
    ∃ fd, FunD K m q (defArgs (inClass (top j) k)) (defBody (inClass (top j) k)) (defScope (inClass (top j) k)) (ds.map (He.Dv.v K)) [] (He.ma K (He.ga K cl) m) fd := c.def_ i h
theorem facts {P : Program} {w : World} {K : PySem.W.Frag} {h : Heap} {mg : Str → Option Value} {fa : Addr} (X : K.In h) (G : h.Ns mainGlobals mg) (hfa : mg "law" = some (.ref fa)) (c : He.SaysD [] fn K) (e : ex K = true) :
    ∃ fd : FuncData, (∀ (s : Shared) (v : Value), BindsTo s fd ⟨[v], []⟩ [("script", v)]) ∧ ∀ base : Heap, K.In base → base.Ns mainGlobals mg → FnOk P w K mg base CX0 5 fa fd ["script"] (spLaw K) := by
  obtain ⟨e0, e⟩ := and2 e
  obtain ⟨e1, e2⟩ := and2 e
  have fr : ∀ {x : Str}, x ∈ frees → mg x = none := fun hx => freeB_ok X G e0 hx
  have gl : ∀ {x : Str}, x ∈ globs → mg x = some (.ref (He.ga K x)) := fun hx => globB_ok X G e1 hx
  have b0 : ∀ {o : Option Bool} {b : Bool}, isB0 o b = true → o = some b := fun h => of_decide_eq_true h
  obtain ⟨l1, l⟩ := and2 e2
  obtain ⟨l2, l⟩ := and2 l
  obtain ⟨l3, l⟩ := and2 l
  obtain ⟨l4, l⟩ := and2 l
  obtain ⟨l5, l⟩ := and2 l
  obtain ⟨l6, l⟩ := and2 l
  obtain ⟨l7, l8⟩ := and2 l
  obtain ⟨fd__law_draw, F__law_draw⟩ := getG c 0 (x := "_law_draw") (j := 3) rfl
  obtain ⟨fd__law_state, F__law_state⟩ := getG c 1 (x := "_law_state") (j := 4) rfl
  obtain ⟨fd__law_pick, F__law_pick⟩ := getG c 2 (x := "_law_pick") (j := 5) rfl
  obtain ⟨fd__law_same, F__law_same⟩ := getG c 3 (x := "_law_same") (j := 6) rfl
  obtain ⟨fd__law_marks, F__law_marks⟩ := getG c 4 (x := "_law_marks") (j := 7) rfl
  obtain ⟨fd__law_message, F__law_message⟩ := getG c 5 (x := "_law_message") (j := 8) rfl
  obtain ⟨fd__law_sent, F__law_sent⟩ := getG c 6 (x := "_law_sent") (j := 9) rfl
  obtain ⟨fd_law, F_law⟩ := getG c 7 (x := "law") (j := 10) rfl
  obtain ⟨fd_Line___init__, F_Line___init__⟩ := getM c 8 (cl := "Line") (m := "__init__") (q := "Line.__init__") (ds := []) (j := 1) (k := 0) rfl
  obtain ⟨fd_Line_send, F_Line_send⟩ := getM c 9 (cl := "Line") (m := "send") (q := "Line.send") (ds := []) (j := 1) (k := 1) rfl
  obtain ⟨fd_Line_rest, F_Line_rest⟩ := getM c 10 (cl := "Line") (m := "rest") (q := "Line.rest") (ds := []) (j := 1) (k := 2) rfl
  obtain ⟨fd_Line__next_mark, F_Line__next_mark⟩ := getM c 11 (cl := "Line") (m := "_next_mark") (q := "Line._next_mark") (ds := []) (j := 1) (k := 3) rfl
  have efa := hfa.symm.trans (gl (x := "law") (by decide +kernel))
  cases efa
  have bl := FunD.bindsA (ps := ["script"]) F_law fun _ _ _ _ _ _ us hl => match us, hl with | [_], _ => rfl
  refine ⟨fd_law, fun s v => bl s [v] rfl, fun base _ _ => ?_⟩
  have B : Blt0 mg := { isi := fr (by decide +kernel), int := fr (by decide +kernel), bool := fr (by decide +kernel), str := fr (by decide +kernel), len := fr (by decide +kernel), abs := fr (by decide +kernel), range := fr (by decide +kernel), tuple := fr (by decide +kernel), lst := fr (by decide +kernel) }
  have C : LnC K mg (He.ga K "Line") := { g := gl (by decide +kernel), cl := He.cls_ok l1, nM := He.noat_ok l2, nU := He.noat_ok l3, nH := He.noat_ok l4 }
  have MK := He.mkr_ok l5
  have mS := He.meth_ok l6
  have mR := He.meth_ok l7
  have mN := He.meth_ok l8
  have CD : Cal P w K mg base 1 "_law_draw" _ fd__law_draw ["script", "state", "many"] (spDraw K) := cal_mk F__law_draw (gl (by decide +kernel)) ((ok_draw F__law_draw B)) fun _ _ _ _ _ _ us hl => match us, hl with | [_, _, _], _ => rfl
  have CSt : Cal P w K mg base 1 "_law_state" _ fd__law_state ["script"] (spState K) := cal_mk F__law_state (gl (by decide +kernel)) ((ok_state F__law_state B)) fun _ _ _ _ _ _ us hl => match us, hl with | [_], _ => rfl
  have CP : Cal P w K mg base 2 "_law_pick" _ fd__law_pick ["script", "state", "things"] (spPick K) := cal_mk F__law_pick (gl (by decide +kernel)) ((ok_pick F__law_pick B CD)) fun _ _ _ _ _ _ us hl => match us, hl with | [_, _, _], _ => rfl
  have bSm : L2.Binds K fd__law_same ["actual", "due"] [] := FunD.bindsN F__law_same fun _ _ _ _ _ _ us hl => match us, hl with | [_, _], _ => rfl
  have CSm : Cal P w K mg base 4 "_law_same" _ fd__law_same ["actual", "due"] (spSm 3) := ⟨gl (by decide +kernel), F__law_same.kp, bSm, ok_Sm F__law_same B (gl (by decide +kernel)) bSm 3⟩
  have CM : Cal P w K mg base 3 "_law_marks" _ fd__law_marks ["script", "state"] (spMarks K) := cal_mk F__law_marks (gl (by decide +kernel)) ((ok_Marks F__law_marks B CD CP)) fun _ _ _ _ _ _ us hl => match us, hl with | [_, _], _ => rfl
  have CMs : Cal P w K mg base 3 "_law_message" _ fd__law_message ["script", "state"] (spMsg K) := cal_mk F__law_message (gl (by decide +kernel)) ((ok_Msg F__law_message B CD CP)) fun _ _ _ _ _ _ us hl => match us, hl with | [_, _], _ => rfl
  have CT : Cal P w K mg base 1 "_law_sent" _ fd__law_sent ["track", "message"] (spSent) := cal_mk F__law_sent (gl (by decide +kernel)) ((ok_Sent F__law_sent B)) fun _ _ _ _ _ _ us hl => match us, hl with | [_, _], _ => rfl
  have gI := ok_LI (P := P) (w := w) (base := base) F_Line___init__ B C
  have bI : L2.Binds K fd_Line___init__ ["self", "marks"] [] := FunD.bindsN F_Line___init__ fun _ _ _ _ _ _ us hl => match us, hl with | [_, _], _ => rfl
  have bK : KBn K fd_Line___init__ ["self", "marks"] 1 ["marks"] (fun us ws => us ++ ws) (fun vs zs => vs ++ zs) := binds_kw (ps := ["self", "marks"]) F_Line___init__ 1 ["marks"] (fun us ws => us ++ ws) (fun r z => r.append z) fun _ _ _ _ _ _ us ws h1 h2 => match us, ws, h1, h2 with | [_], [_], _, _ => rfl
  have gN := ok_NM (P := P) (w := w) (base := base) F_Line__next_mark B C
  have bN : L2.Binds K fd_Line__next_mark ["self"] [] := FunD.bindsN F_Line__next_mark fun _ _ _ _ _ _ us hl => match us, hl with | [_], _ => rfl
  have gR := ok_Rest (P := P) (w := w) (mg := mg) (base := base) F_Line_rest C
  have bR : L2.Binds K fd_Line_rest ["self"] [] := FunD.bindsN F_Line_rest fun _ _ _ _ _ _ us hl => match us, hl with | [_], _ => rfl
  have gS := ok_Send (P := P) (w := w) (mg := mg) (base := base) F_Line_send C mN gN bN mR gR bR
  have bS : L2.Binds K fd_Line_send ["self", "message"] [] := FunD.bindsN F_Line_send fun _ _ _ _ _ _ us hl => match us, hl with | [_, _], _ => rfl
  exact ok_Law F_law { B := B, C := C, draw := ⟨_, _, CD⟩, pick := ⟨_, _, CP⟩, state := ⟨_, _, CSt⟩, marks := ⟨_, _, CM⟩, msg := ⟨_, _, CMs⟩, sent := ⟨_, _, CT⟩, same := ⟨_, _, CSm⟩, make := ⟨_, _, MK, gI, bI, bK⟩, rest := ⟨_, _, mR, gR, bR⟩, send := ⟨_, _, mS, gS, bS⟩ }
end WU

namespace WU
open PySem PySem.Spec PyProof.Rows L2
theorem walk {l : PySem.W.OpenLaw} {q : Program} {loose : List Str} {XP : (Str → Option Value) → Heap → Prop} {YP : World → Heap → Prop} {d : DefRec} {K : Params → PySem.W.Frag} (hn : l.most = some 63) (hdf : d.params.defaults = []) (hname : d.name = ("law" : Str))
    (hY : ∀ (w : World) (h : Heap), YP w h → (K w.params).In h) (hD : ∀ w : World, He.SaysD [] fn (K w.params)) (hE : ∀ w : World, ex (K w.params) = true) :
    PySem.W.WalkO q loose XP YP l.row.toRowW d [] (fun f vs => PySem.call f vs) :=
  L2.walk_of (n := 63) (k := 5) (x := "script") (CX := fun _ => CX0) (sp := fun w => spLaw (K w.params)) hn (by decide) hdf ⟨rfl, by decide, by decide⟩ hY
    (fun w mg fa h KX G hmg => facts KX G (by rw [← hname]; exact hmg) (hD w) (hE w)) (fun _ _ a ns hl _ hS => ⟨a, ns, rfl, hS, hl, fun _ => rfl⟩) fun _ _ _ _ _ z => z
end WU
open PySem PySem.W PyProof.Rows
set_option maxRecDepth 100000 in
set_option maxHeartbeats 0 in
theorem PySem.Challenge.cw_wishunseen_k69_lines_holds : PySem.Challenge.rw_wishunseen_k69_lines.Holds := by
  w_on; o_law; k_head; (case hw => w_witness2)
  k_fill
  refine WU.walk (l := PySem.Challenge.rw_wishunseen_k69_lines) rfl rfl (by rfl) (fun w h Y => PySem.W.kIn_of Y) ?D ?E
  case D =>
    intro w
    show He.obsD [] WU.fn _ = He.valD WU.fn
    kernel_rfl
  case E =>
    intro w
    kernel_rfl

