import PyProof.Rows.All
import Wide.All
import OpenK.AllK
import Wide.FinOn
import HandS.Base
import HandS.Call
import HandS.Exc
import HandS.List
import HandS.Comp
import HandS.Ends
import HandS.ExcOwn
import HandS.ExcInit
import HandS.OwnEq
import HandS.Words
import HandS.Defaults
import HandS.Head0
import HandS.Head1
import HandS.Head2
import HandS.HeadHook1
import HandS.HeadHook2
import HandS.IsInst
import HandS.ExcField
import HandS.Conv
import HandS.WordsExc
import HandS.Star
import HandS.TupAny
import HandS.CallSlots
import HandS.MakeKw
import HandS.HeadEnd
import PySem.Challenge.RW_wishunseen_k08_editions_of_a_shelf
set_option Elab.async false
set_option linter.all false
set_option maxRecDepth 100000
set_option maxHeartbeats 4000000
/-! try with several clauses «except C as n», and with clauses without a name among them -/
namespace WU
open PySem PySem.Spec PyProof.Rows L2
/-- a clause: the class, its name's slot (if it has one), what the suite does -/
abbrev Cl := Value × Option Nat × (Addr → Value → Option Addr → TS)
/-- behind a named suite the slot is empty -/
def wiped (i : Nat) (D : Ends) : Ends := { nx := fun z h => D.nx (z.set i none) h, rt := D.rt, bk := fun z h => D.bk (z.set i none) h, ct := fun z h => D.ct (z.set i none) h }
def suiteOf (i : Option Nat) (ts : TS) (D : Ends) (σ : L2.St) (H : Hp) (a : Addr) : Prop :=
  match i with
  | some j => ts (wiped j D) (σ.set j (some (V.ref a))) H
  | none => ts D σ H
/-- what the clauses wish of an exception that leaves the body -/
def wCls (K : PySem.W.Frag) (Wout : WX) (D : Ends) : List Cl → WX
  | [] => Wout
  | q :: r => fun cls d σ H => ∃ b, PySem.W.exmOne K cls q.1 = some b ∧ (b = true → ∀ a, H a = none → suiteOf q.2.1 (q.2.2 a cls d) D σ H a) ∧ (b = false → wCls K Wout D r cls d σ H)
inductive Clauses (X : Cx) : List ExceptHandler → List Cl → Prop
  | nil : Clauses X [] []
  | named {x n : Str} {i : Nat} {c : Value} {ts : Addr → Value → Option Addr → TS} {b : Stmt} {su : List Stmt} {p q : Pos} {hs : List ExceptHandler} {l : List Cl}
      (hi : X.N[i]? = some n) (hl : X.env.kindOf n = some .local) (hc : Names X x c)
      (hsu : ∀ (a : Addr) (oe : Obj) (cls : Value) (d : Option Addr) (pn : List (Addr × Obj)), Zc cls d oe → (∃ vs, oe.data = .fields vs) → PSs (X.suite a ((a, oe) :: pn)) (b :: su) (ts a cls d))
      (r : Clauses X hs l) : Clauses X (.ExceptHandler (some (.Name x p)) (some n) (b :: su) q :: hs) ((c, some i, ts) :: l)
section
variable {X : Cx} {body : List Stmt} {h₀ : ExceptHandler} {hds : List ExceptHandler} {l : List Cl} {pos : Pos} {tb : WX → TS} {Wout : WX}
theorem ps_try_cls (hst : X.stack = X.env :: X.outer) (hfr : X.env.frame = some X.env.locals) (hN : X.N.Nodup) (tk : Takes X Wout)
    (hb : ∀ (W : WX) (pn : List (Addr × Obj)) (xe : Value → Shared → Prop), Takes (X.tr pn xe) W →
      PassesOwn (model X.prog X.w) X.A X.env xe → PSs (X.tr pn xe) body (tb W))
    (hh : Clauses X (h₀ :: hds) l) : PS X (.Try body (h₀ :: hds) [] [] pos) (fun D σ H => tb (wCls X.K Wout D l) D σ H) := by
  constructor
  intro pins s σ H D I h
  have okX := I.ok
  have frA : X.A.frames = some (X.env :: X.outer) := okX.frames.trans (congrArg some hst)
  apply wpAny_Try_except
  let xe1 : Value → Shared → Prop := fun e s₁ => wpAny (model X.prog X.w) X.A (noteFrame e X.env) (fun _ s₂ =>
    wpAny (model X.prog X.w) X.A (setFlight e none) (fun _ s₃ => wpAny (model X.prog X.w) X.A (handleBy e X.env (h₀ :: hds))
      (SP X pins D) X.xe s₃) X.xe s₂) X.xe s₁
  have taken : Takes (X.tr (X.pn ++ pins) xe1) (wCls X.K Wout D l) := by
    rintro u st ⟨a, B, sI, pins', σ', H', cls, d, rfl, J', nb, up, sky, na, os, ag, wish⟩
    have J : Inv X pins σ' H' sI := J'.ofTry okX
    rw [show (X.tr (X.pn ++ pins) xe1).stack = X.env :: X.outer from hst] at sky
    show wpAny (model X.prog X.w) X.A (noteFrame (Value.ref a) X.env) _ _ _
    refine Sky.land Zc.steady frA hfr sky fun hA flA upA => ?_
    have JA : Inv X pins σ' H' { st with heap := hA } := J.landed nb flA.1 (up.trans upA) os ag
    obtain ⟨oA, vA, eA, zA, dA⟩ := flA.there
    have offF : a ∉ frs (X.env :: X.outer) := fun hm => by
      obtain ⟨_, o', e', hn⟩ := flA.2.2.1.mem hm
      cases eA.symm.trans e'
      exact hn _ dA
    have offL : a ≠ X.env.locals := by
      rintro rfl
      exact offF (List.mem_filterMap.mpr ⟨X.env, .head _, hfr⟩)
    have offO : a ∉ X.fs := fun hm => by
      obtain ⟨en, hen, q⟩ := List.mem_filterMap.mp hm
      exact offF (List.mem_filterMap.mpr ⟨en, .tail _ hen, q⟩)
    have SA := JA.suite eA dA na offL offO
    have isT : PySem.W.Looks (model X.prog X.w) hA (typeOf (.ref a)) cls := by
      intro A Q E s2 kk q
      refine wpAny_typeOf_ref (kk _ _ eA) ?_
      rw [zA.1]
      exact q
    have onward : ∀ {hs : List ExceptHandler} {l' : List Cl}, Clauses X hs l' → wCls X.K Wout D l' cls d σ' H' →
        wpAny (model X.prog X.w) X.A (handleBy (.ref a) X.env hs) (SP X pins D) X.xe { st with heap := hA } := by
      intro hs l' hk
      induction hk with
      | nil =>
        intro wout
        apply wpAny_handleBy_nil
        obtain ⟨_, _, _, oe, vs, T, oT, tt, he, hz, hd, h1, hr⟩ := id flA
        unfold PySem.passOn
        apply wpAny_bind
        refine wpAny_field he hd h1 ?_
        have nn : ¬ ((Value.ref T == Value.none) = true) := by simp
        rw [if_neg nn]
        have fin : wpAny (model X.prog X.w) X.A (setFlight (.ref a) X.env.frame) (fun _ s4 =>
            wpAny (model X.prog X.w) X.A (throw (.ref a) : Sem Flow) (SP X pins D) X.xe s4) X.xe { st with heap := hA } := by
          rw [hfr]
          refine HandSPX.setFlight_upZ flA fun hB hhB upB => ?_
          apply wpAny_throw
          apply tk
          refine ⟨a, B, sI, pins, σ', H', cls, d, rfl, J, nb, (up.trans upA).trans upB, ?_, na, os, ag, wout⟩
          right; right
          rw [hst]
          exact hhB
        first
          | exact wpAny_bind (wpAny_pure (wpAny_bind fin))
          | exact wpAny_bind fin
      | @named x n i c ts b su p q hs2 l2 hi hl hc hsu r ih =>
        rintro ⟨yes, hyn, onYes, onNo⟩
        refine wpAny_handleBy_cons (codeAny_handlers_test ?_) (by intro z; cases z)
        have hits := PySem.W.exm_one (M := model X.prog X.w) JA.kIn isT hyn
        have asked : ∀ {Q E : Value → Shared → Prop}, Q c { st with heap := hA } →
            wpAny (model X.prog X.w) (X.A.mark (some (.ref a))) (eval (.Name x p) X.env) Q E { st with heap := hA } := by
          intro Q E q
          obtain ⟨g1, g2, g3⟩ := hc
          rcases g3 with g3 | ⟨g3, g4, g5⟩
          · exact ld_glob (X := X.suite a ((a, oA) :: (X.pn ++ pins))) SA g1 g3 q g2
          · exact ld_blt (X := X.suite a ((a, oA) :: (X.pn ++ pins))) SA g1 g3 g4 q g5 g2
        apply asked
        refine hits.here ?_
        cases yes with
        | false => exact ih (onNo rfl)
        | true =>
          apply codeAny_handlers_suite_as
          refine HandSPX.lands_againZ flA fun hB flB upB => ?_
          have JB : Inv X pins σ' H' { st with heap := hB } := J.landed nb flB.1 ((up.trans upA).trans upB) os ag
          obtain ⟨oB, vB, eB, zB, dB⟩ := flB.there
          have SB := JB.suite eB dB na offL offO
          refine store_ok (X := X.suite a ((a, oB) :: (X.pn ++ pins))) (v := .ref a) SB hN hi (Or.inl hl) rfl (fun s5 S5 => ?_) (Or.inr hl)
          have runs := (hsu a oB cls d (X.pn ++ pins) zB ⟨_, dB⟩).run [] s5 _ H' _ S5 (onYes rfl a na)
          refine wpAny_mono runs (fun f s6 hsp => ?_) fun _ _ z => z.elim
          have left_ : ∀ {σ6 : L2.St} {H6 : Hp} {Q : Shared → Prop}, Inv (X.suite a ((a, oB) :: (X.pn ++ pins))) [] σ6 H6 s6 →
              (∀ s7, Inv X pins (σ6.set i none) H6 s7 → Q s7) →
              wpAny (model X.prog X.w) X.A (do bindName X.env n .none; unbindBehindTheSuite X.env n q) (fun _ s7 => Q s7) X.xe s6 :=
            fun S6 k => gone_ok (S6.unsuite okX) hN hi hl k
          match f, hsp with
          | .next, ⟨σ6, H6, S6, q6⟩ => exact left_ S6 fun s7 J7 => ⟨_, _, J7, q6⟩
          | .brk, ⟨σ6, H6, S6, q6⟩ => exact left_ S6 fun s7 J7 => ⟨_, _, J7, q6⟩
          | .cont, ⟨σ6, H6, S6, q6⟩ => exact left_ S6 fun s7 J7 => ⟨_, _, J7, q6⟩
          | .ret u, ⟨v6, σ6, H6, S6, r6, q6⟩ => exact left_ S6 fun s7 J7 => ⟨_, _, _, J7, r6, q6⟩
    exact onward hh wish
  have body_ := (hb _ (X.pn ++ pins) xe1 taken PassesOwn.looking).run [] s σ H D (I.toTry _) h
  refine wpAny_mono body_ (fun f s1 hsp => ?_) fun _ _ z => z
  match f, hsp with
  | .next, ⟨σ', H', J', q⟩ => exact wpAny_execs_nil ⟨σ', H', J'.ofTry okX, q⟩
  | .brk, ⟨σ', H', J', q⟩ => exact ⟨σ', H', J'.ofTry okX, q⟩
  | .cont, ⟨σ', H', J', q⟩ => exact ⟨σ', H', J'.ofTry okX, q⟩
  | .ret u, ⟨v, σ', H', J', r, q⟩ => exact ⟨v, σ', H', J'.ofTry okX, r, q⟩
end
end WU

set_option maxRecDepth 100000
set_option maxHeartbeats 4000000
namespace WU
open PySem PySem.Spec PyProof.Rows L2
/-! ### the head's facts -/
/-- the facts of the defs, and one more Bool -/
def hookB (n : Nat) (fn : List He.DefD) (ex : PySem.W.Frag → Bool) : PySem.W.Hook where
  α := He.AlD × Bool
  obs := fun s => (He.obsDG n [] fn s.heap.get?, ex (He.frG s.heap.get? (He.asD s.heap.get? n)))
  val := fun _ => (He.valD fn, true)
  says := fun _ h => ∃ K : PySem.W.Frag, K.In h ∧ He.SaysD [] fn K ∧ ex K = true
  of := fun _ _ e => ⟨_, He.frG_in, congrArg Prod.fst e, congrArg Prod.snd e⟩
  keeps := fun _ _ _ ⟨K, hK, c⟩ k => ⟨K, PySem.W.Frag.In.keeps hK k, c⟩
def obB (n : Nat) (fn : List He.DefD) (ex : PySem.W.Frag → Bool) (s : PySem.W.SharedT) : He.AlD × Bool :=
  (He.obsDG n [] fn (HandSHeadRun.getT s), ex (He.frG (HandSHeadRun.getT s) (He.asD (HandSHeadRun.getT s) n)))
theorem obB_eq {n : Nat} {fn : List He.DefD} {ex : PySem.W.Frag → Bool} (s : PySem.W.SharedT) : obB n fn ex s = (hookB n fn ex).obs s.abs := by
  have e : HandSHeadRun.getT s = s.abs.heap.get? := funext (HandSHeadRun.getT_eq s)
  unfold obB
  rw [e]
  rfl
theorem and2 {a b : Bool} (h : (a && b) = true) : a = true ∧ b = true := Bool.and_eq_true_iff.mp h
/-- names that the module leaves to the built-ins; names that stand for objects -/
def freeB (K : PySem.W.Frag) (xs : List Str) : Bool := xs.all fun x => decide (PySem.W.nsIn K mainGlobals x = some none)
def globB (K : PySem.W.Frag) (xs : List Str) : Bool := xs.all fun x => decide (PySem.W.nsIn K mainGlobals x = some (some (.ref (He.ga K x))))
section
variable {K : PySem.W.Frag} {h : Heap} {mg : Str → Option Value}
theorem freeB_ok (X : K.In h) (G : h.Ns mainGlobals mg) {xs : List Str} (c : freeB K xs = true) {x : Str} (hx : x ∈ xs) : mg x = none :=
  PySem.W.mg_none_of X G (of_decide_eq_true (List.all_eq_true.mp c x hx))
theorem globB_ok (X : K.In h) (G : h.Ns mainGlobals mg) {xs : List Str} (c : globB K xs = true) {x : Str} (hx : x ∈ xs) : mg x = some (.ref (He.ga K x)) :=
  PySem.W.mg_of X G (of_decide_eq_true (List.all_eq_true.mp c x hx))
end
/-! ### an own exception class over ValueError (or over own ones that are) -/
def oexShape (C : Addr) : Option Obj → Bool
  | some ⟨.type t, _, .cls ⟨_, _, .ref C' :: bm, _, _, true, _, _, _, _, false⟩, ⟨[_, _, _, _, some (.builtin id), _]⟩⟩ =>
    decide (t = "type") && (decide (C' = C) && (decide (id = "ValueError.__new__") && PySem.HandSPX.refsVE bm))
  | _ => false
def oexB (K : PySem.W.Frag) (C : Addr) : Bool :=
  oexShape C (K.lookup C) && (decide (PySem.W.findIn K (.ref C) "__setattr__" = some (some (.builtin "object.__setattr__"))) &&
    (decide (PySem.W.subIn K (.ref C) (.type "BaseException") = some true) && (decide (PySem.W.typeIn K (.ref C) = some (.type "type")) && PySem.W.keepIn K (.ref C))))
theorem oexB_ok {K : PySem.W.Frag} {C : Addr} (h : oexB K C = true) : OexC K C := by
  obtain ⟨h1, h⟩ := and2 h
  obtain ⟨h2, h⟩ := and2 h
  obtain ⟨h3, h⟩ := and2 h
  obtain ⟨h4, h5⟩ := and2 h
  refine ⟨?_, of_decide_eq_true h2, of_decide_eq_true h3, of_decide_eq_true h4, h5⟩
  unfold oexShape at h1
  split at h1
  · rename_i t dd nm bs C' bm N q sn sub ab col k0 k1 k2 k3 id k5 heq
    obtain ⟨e1, h1⟩ := and2 h1
    obtain ⟨e2, h1⟩ := and2 h1
    obtain ⟨e3, e4⟩ := and2 h1
    have q1 := of_decide_eq_true e1
    have q2 := of_decide_eq_true e2
    have q3 := of_decide_eq_true e3
    subst q1 q2 q3
    exact ⟨_, _, _, _, _, _, _, _, _, _, _, _, _, _, _, heq, e4⟩
  · cases h1
/-- what every body asks of an exception class X whose __init__ stands at fI and keeps one field f -/
structure Exc1 (K : PySem.W.Frag) (mg : Str → Option Value) (x : Str) (f : Str) : Prop where
  glob : mg x = some (.ref (He.ga K x))
  oex : OexC K (He.ga K x)
  no : PySem.W.findIn K (.ref (He.ga K x)) f = some none
  init : PySem.W.findIn K (.ref (He.ga K x)) "__init__" = some (some (.ref (He.ma K (He.ga K x) "__init__")))
  tI : PySem.W.typeIn K (.ref (He.ma K (He.ga K x) "__init__")) = some (.type "function")
def exc1B (K : PySem.W.Frag) (x f : Str) : Bool :=
  decide (PySem.W.nsIn K mainGlobals x = some (some (.ref (He.ga K x)))) && (oexB K (He.ga K x) && (decide (PySem.W.findIn K (.ref (He.ga K x)) f = some none) &&
    (decide (PySem.W.findIn K (.ref (He.ga K x)) "__init__" = some (some (.ref (He.ma K (He.ga K x) "__init__")))) && decide (PySem.W.typeIn K (.ref (He.ma K (He.ga K x) "__init__")) = some (.type "function")))))
theorem exc1B_ok {K : PySem.W.Frag} {h : Heap} {mg : Str → Option Value} (X : K.In h) (G : h.Ns mainGlobals mg) {x f : Str} (c : exc1B K x f = true) : Exc1 K mg x f := by
  obtain ⟨h1, c⟩ := and2 c
  obtain ⟨h2, c⟩ := and2 c
  obtain ⟨h3, c⟩ := and2 c
  obtain ⟨h4, h5⟩ := and2 c
  exact ⟨PySem.W.mg_of X G (of_decide_eq_true h1), oexB_ok h2, of_decide_eq_true h3, of_decide_eq_true h4, of_decide_eq_true h5⟩
/-- an if whose test is known by an equation -/
theorem iteTb {c : Bool} {A B : Prop} (hc : c = true) (h : A) : if c = true then A else B := by
  rw [if_pos hc]
  exact h
theorem iteFb {c : Bool} {A B : Prop} (hc : c = false) (h : B) : if c = true then A else B := by
  rw [if_neg (by rw [hc]; decide)]
  exact h
theorem iteD {c : Prop} [Decidable c] {A B : Prop} (h1 : c → A) (h2 : ¬ c → B) : if decide c = true then A else B := by
  by_cases h : c
  · rw [decide_eq_true h]
    exact iteT (h1 h)
  · rw [decide_eq_false h]
    exact iteF (h2 h)
theorem ixN_at {n q : Nat} (h : q < n) : ixN n (q : Int) = some q := by
  unfold ixN
  rw [if_pos (by omega), if_pos (by omega)]
  simp
/-! ### calls -/
/-- the name x stands for a def that keeps sp -/
structure Cal (P : Program) (w : World) (K : PySem.W.Frag) (mg : Str → Option Value) (base : Heap) (k : Nat) (x : Str) (f : Addr) (fd : FuncData) (ps : List Str) (sp : Sp) : Prop where
  glob : mg x = some (.ref f)
  kp : PySem.W.keepIn K (.ref f) = true
  binds : Binds K fd ps []
  ok : FnOk P w K mg base (L2.CX P w) k f fd ps sp
theorem passU {X : Cx} : Passes (L2.CX X.prog X.w) X E0 := fun _ _ _ _ _ _ _ ⟨_, _, _, _, _, _, _, _, _, _, _, _, z⟩ => z.elim
section
variable {X : Cx} {k : Nat} {x : Str} {f : Addr} {fd : FuncData} {ps : List Str} {sp : Sp} {E : XK} {e : Expr} {es : List Expr} {t : TA} {p pos : Pos}
theorem pe_cal (C : Cal X.prog X.w X.K X.mg X.base k x f fd ps sp) (hr : Room k X.A) (ha : PA X (e :: es) t) (hx : Passes (L2.CX X.prog X.w) X E) (hg : Gl X x := by rfl) (hdb : (x == ("__debug__" : Str)) = false := by decide)
    (he : starEach (e :: es) X.env = (false, eval e X.env) :: starEach es X.env := by rfl) (hpl : (backTo pos (starEach es X.env)).any (·.1) = false := by rfl) :
    PE X (.Call (.Name x p) (e :: es) [] pos) (tCall sp [] E t) := pe_call C.ok hr hg C.glob C.kp C.binds .nil hx ha hdb he hpl
theorem pe_calS {W : WX} (C : Cal X.prog X.w X.K X.mg X.base k x f fd ps sp) (hr : Room k X.A) (ha : PA X (e :: es) t) (tk : Takes X W) (hg : Gl X x := by rfl) (hdb : (x == ("__debug__" : Str)) = false := by decide)
    (he : starEach (e :: es) X.env = (false, eval e X.env) :: starEach es X.env := by rfl) (hpl : (backTo pos (starEach es X.env)).any (·.1) = false := by rfl) :
    PE X (.Call (.Name x p) (e :: es) [] pos) (tCallS sp (WE W) t) := pe_callS C.ok hr hg C.glob C.kp C.binds (fun σ => passAt tk σ) ha hdb he hpl
end
/-! ### raise X(e), X's __init__ keeping one field -/
/-- self.f = value -/
def spInit1 (K : PySem.W.Frag) (C : Addr) (f : Str) : Sp := fun vs H Q _ => ∃ (a : Addr) (y : V), vs = [.ref a, y] ∧ OexC K C ∧ PySem.W.findIn K (.ref C) f = some none ∧ H a = some (exo a C none) ∧
  ∀ dx, H dx = none → dx ≠ a → Q .non (upd (upd H dx (exd dx [(f, y)])) a (exo a C (some dx)))
/-- the reading: the error's class, its own dict, the heap behind -/
def tMk1 (C : Addr) (f : Str) (ta : TA) : L2.St → Hp → XK → Prop := fun σ H Q => ta σ H fun vs H1 => ∃ v, vs = [v] ∧ ∀ d H', Same H1 H' → H1 d = none → H' d = some (.xd [(f, v)]) → Q (.ref C) (some d) H'
/-- a reading that may be weakened -/
def lax (ta : TA) : TA := fun σ H Q => ∃ Q0 : List V → Hp → Prop, ta σ H Q0 ∧ ∀ vs H1, Q0 vs H1 → Q vs H1
theorem pa_lax {X : Cx} {es : List Expr} {ta : TA} (ha : PA X es ta) : PA X es (lax ta) :=
  ⟨fun pos pins s σ H Q I h => by
    obtain ⟨Q0, h0, hq⟩ := h
    refine wpAny_mono (ha.run pos pins s σ H Q0 I h0) (fun us s1 hu => ?_) fun _ _ z => z
    obtain ⟨vs, H1, I1, r, q⟩ := hu
    exact ⟨vs, H1, I1, r, hq vs H1 q⟩⟩
section
variable {X : Cx} {k : Nat} {x f : Str} {fd : FuncData} {q : Str} {e : Expr} {ta : TA} {p pos pos2 : Pos}
theorem pmk_1 (T : Exc1 X.K X.mg x f) (F : FnOk X.prog X.w X.K X.mg X.base (L2.CX X.prog X.w) k (He.ma X.K (He.ga X.K x) "__init__") fd ["self", q] (spInit1 X.K (He.ga X.K x) f)) (b : Binds X.K fd ["self", q] [])
    (hr : Room (k + 1) X.A) (ha : PA X [e] ta) (hg : Gl X x := by rfl) (hdb : (x == ("__debug__" : Str)) = false := by decide)
    (he : starEach (e :: []) X.env = (false, eval e X.env) :: starEach [] X.env := by rfl) (hpl : (backTo pos (starEach [] X.env)).any (·.1) = false := by rfl) :
    PMk X (.Call (.Name x p) [e] [] pos) (tMk1 (He.ga X.K x) f ta) := by
  intro pins s σ H Q I h
  refine pmk_oex (CX := L2.CX X.prog X.w) (dvs := []) T.oex T.init T.tI F hr b .nil passU hg T.glob (pa_lax ha) hdb he hpl pins s σ H Q I ⟨_, h, fun vs H1 hv => ?_⟩
  obtain ⟨v, rfl, kk⟩ := hv
  refine ⟨(show 1 ≤ 1000 by decide), fun a na => ⟨a, v, rfl, T.oex, T.no, upd_same, fun dx ndx hdx => ⟨rfl, dx, [(f, v)], upd_same, by rw [upd_ne hdx, upd_same], ?_, ?_⟩⟩⟩
  · rw [upd_ne hdx] at ndx
    exact ndx
  · rw [upd_ne hdx] at ndx
    refine kk dx _ (fun c o hc => ?_) ndx upd_same
    have c1 : c ≠ dx := ne_of_none hc ndx
    have c2 : c ≠ a := ne_of_none hc na
    rw [upd_ne c1, del_ne c2, upd_ne c2, upd_ne c1, upd_ne c2]
    exact hc
theorem ps_raise1 {W : WX} (hc : X.calm = true) (tk : Takes X W) (T : Exc1 X.K X.mg x f) (F : FnOk X.prog X.w X.K X.mg X.base (L2.CX X.prog X.w) k (He.ma X.K (He.ga X.K x) "__init__") fd ["self", q] (spInit1 X.K (He.ga X.K x) f)) (b : Binds X.K fd ["self", q] [])
    (hr : Room (k + 1) X.A) (ha : PA X [e] ta) (hg : Gl X x := by rfl) (hdb : (x == ("__debug__" : Str)) = false := by decide)
    (he : starEach (e :: []) X.env = (false, eval e X.env) :: starEach [] X.env := by rfl) (hpl : (backTo pos (starEach [] X.env)).any (·.1) = false := by rfl) :
    PS X (.Raise (some (.Call (.Name x p) [e] [] pos)) none pos2) (fun _ σ H => tMk1 (He.ga X.K x) f ta σ H fun cls d H' => W cls d σ H') :=
  ps_raise hc tk (pmk_1 T F b hr ha hg hdb he hpl)
end
end WU

set_option maxRecDepth 100000
set_option maxHeartbeats 4000000
namespace WU
open PySem PySem.Spec PyProof.Rows L2
def top (i : Nat) : Stmt := PySem.Challenge.pw_wishunseen_k08_editions_of_a_shelf.main.body.getD i (.Pass ⟨0, 0, 0, 0⟩)
abbrev FnS (K : PySem.W.Frag) (x : Str) (st : Stmt) (f : Addr) (fd : FuncData) : Prop := FunD K x x (defArgs st) (defBody st) (defScope st) [] [] f fd
/-! ### any values -/
def isIB : V → Bool
  | .int _ => true
  | .bl _ => true
  | _ => false
def isB : V → Bool
  | .bl _ => true
  | _ => false
def isI : V → Bool
  | .int _ => true
  | _ => false
/-- the value has a type, of which int and bool are known -/
def Ty3 (K : PySem.W.Frag) (H : Hp) (v : V) : Prop := ∃ t, TyX K H v t ∧ PySem.W.kitOne K t (.type "int") = some (isIB v) ∧ PySem.W.kitOne K t (.type "bool") = some (isB v)
section
variable {K : PySem.W.Frag} {H : Hp}
theorem ty3_int (i : Int) : Ty3 K H (.int i) := ⟨_, .base (.int i), kit_ty (show kitB "int" "int" = some true by decide +kernel), kit_ty (show kitB "int" "bool" = some false by decide +kernel)⟩
theorem ty3_bl (b : Bool) : Ty3 K H (.bl b) := ⟨_, .base (.bl b), kit_ty (show kitB "bool" "int" = some true by decide +kernel), kit_ty (show kitB "bool" "bool" = some true by decide +kernel)⟩
theorem ty3_non : Ty3 K H .non := ⟨_, .base .non, kit_ty (show kitB "NoneType" "int" = some false by decide +kernel), kit_ty (show kitB "NoneType" "bool" = some false by decide +kernel)⟩
theorem ty3_str (z : Str) : Ty3 K H (.str z) := ⟨_, .base (.str z), kit_ty (show kitB "str" "int" = some false by decide +kernel), kit_ty (show kitB "str" "bool" = some false by decide +kernel)⟩
theorem ty3_lst {a : Addr} {xs : List V} (e : H a = some (.lst xs)) : Ty3 K H (.ref a) := ⟨_, .base (.lst e), kit_ty (show kitB "list" "int" = some false by decide +kernel), kit_ty (show kitB "list" "bool" = some false by decide +kernel)⟩
theorem ty3_tup {a : Addr} {xs : List V} (e : H a = some (.tup xs)) : Ty3 K H (.ref a) := ⟨_, .base (.tup e), kit_ty (show kitB "tuple" "int" = some false by decide +kernel), kit_ty (show kitB "tuple" "bool" = some false by decide +kernel)⟩
end
section
variable {P : Program} {w : World} {K : PySem.W.Frag} {mg : Str → Option Value} {base : Heap}
structure Blt (mg : Str → Option Value) : Prop where
  isi : mg "isinstance" = none
  int : mg "int" = none
  bool : mg "bool" = none
def spIsInt (K : PySem.W.Frag) : Sp := fun vs H Q _ => ∃ v, vs = [v] ∧ Ty3 K H v ∧ Q (.bl (isI v)) H
abbrev sIsInt : Stmt := top 6
theorem scIsInt : FnScope ["value"] ["value"] (defScope sIsInt) := ⟨rfl, rfl, rfl, by decide +kernel, rfl, by decide +kernel, by decide +kernel⟩
theorem ok_isInt {f : Addr} {fd : FuncData} (F : FnS K "is_integer" sIsInt f fd) (B : Blt mg) : FnOk P w K mg base (L2.CX P w) 1 f fd ["value"] (spIsInt K) := by
  refine F.ok scIsInt (fun vs H Q E h => ?_) (fun cdv A outer s H vs Q E hr h => ?_)
  · obtain ⟨v, rfl, _⟩ := h
    rfl
  · obtain ⟨v, rfl, ⟨t, ht, h1, h2⟩, k⟩ := h
    refine ⟨_, pss_one (ps_ret (pe_and (pe_callB call_isi (by rfl) B.isi (by decide +kernel) (pa_cons (pv 0) (pa_cons (pe_bltn (v := .ty "int") (by rfl) B.int (by decide +kernel) rfl) pa_nil)))
      (pe_one (pe_not (pe_callB call_isi (by rfl) B.isi (by decide +kernel) (pa_cons (pv 0) (pa_cons (pe_bltn (v := .ty "bool") (by rfl) B.bool (by decide +kernel) rfl) pa_nil))))))), ?_⟩
    refine ⟨_, rfl, _, _, _, _, _, rfl, .ty "int", ht, h1, _, rfl, ?_⟩
    cases v with
    | int n =>
      refine iteT ⟨_, rfl, _, _, _, _, _, rfl, .ty "bool", ht, h2, _, rfl, k⟩
    | bl b => exact iteT ⟨_, rfl, _, _, _, _, _, rfl, .ty "bool", ht, h2, _, rfl, k⟩
    | _ => exact iteF k
theorem bN {x : Str} {st : Stmt} {f : Addr} {fd : FuncData} {ps : List Str} (F : FnS K x st f fd)
    (h : ∀ (kV doc pm : Value) (an : Option Addr) (cdv ct : Value) (us : List Value), us.length = ps.length → bindArgs (PySem.W.fnOf x x (defArgs st) (defBody st) (defScope st) .none kV doc pm an cdv ct) ⟨us, []⟩ = pure (ps.zip us)) : Binds K fd ps [] := F.bindsN h
theorem cal_mk {x : Str} {st : Stmt} {f : Addr} {fd : FuncData} {ps : List Str} {k : Nat} {sp : Sp} (F : FnS K x st f fd) (g : mg x = some (.ref f)) (ok : FnOk P w K mg base (L2.CX P w) k f fd ps sp)
    (h : ∀ (kV doc pm : Value) (an : Option Addr) (cdv ct : Value) (us : List Value), us.length = ps.length → bindArgs (PySem.W.fnOf x x (defArgs st) (defBody st) (defScope st) .none kV doc pm an cdv ct) ⟨us, []⟩ = pure (ps.zip us)) : Cal P w K mg base k x f fd ps sp :=
  ⟨g, F.kp, F.bindsN h, ok⟩
/-- whether it is a number; .. below n -/
def isN : V → Bool
  | .int i => decide (0 ≤ i)
  | _ => false
def isBel (n : Int) : V → Bool
  | .int i => decide (0 ≤ i) && decide (i < n)
  | _ => false
def spIsNum (K : PySem.W.Frag) : Sp := fun vs H Q _ => ∃ v, vs = [v] ∧ Ty3 K H v ∧ Q (.bl (isN v)) H
def spIsBel (K : PySem.W.Frag) : Sp := fun vs H Q _ => ∃ v n, vs = [v, .int n] ∧ Ty3 K H v ∧ Q (.bl (isBel n v)) H
abbrev sIsNum : Stmt := top 7
abbrev sIsBel : Stmt := top 8
theorem scIsNum : FnScope ["value"] ["value"] (defScope sIsNum) := ⟨rfl, rfl, rfl, by decide +kernel, rfl, by decide +kernel, by decide +kernel⟩
theorem ok_isNum {f f1 : Addr} {fd fd1 : FuncData} (F : FnS K "is_number" sIsNum f fd) (C1 : Cal P w K mg base 1 "is_integer" f1 fd1 ["value"] (spIsInt K)) : FnOk P w K mg base (L2.CX P w) 2 f fd ["value"] (spIsNum K) := by
  refine F.ok scIsNum (fun vs H Q E h => ?_) (fun cdv A outer s H vs Q E hr h => ?_)
  · obtain ⟨v, rfl, _⟩ := h
    rfl
  · obtain ⟨v, rfl, ht, k⟩ := h
    refine ⟨_, pss_one (ps_ret (pe_and (pe_cal C1 hr (pa_cons (pv 0) pa_nil) passU) (pe_one (pe_cmp (pc_ge (pv 0) pe_int))))), ?_⟩
    refine ⟨_, rfl, v, rfl, ht, _, rfl, ?_⟩
    cases v with
    | int n => exact iteT ⟨_, rfl, _, _, rfl, rfl, k⟩
    | _ => exact iteF k
theorem scIsBel : FnScope ["value", "limit"] ["value", "limit"] (defScope sIsBel) := ⟨rfl, rfl, rfl, by decide +kernel, rfl, by decide +kernel, by decide +kernel⟩
theorem ok_isBel {f f1 : Addr} {fd fd1 : FuncData} (F : FnS K "is_below" sIsBel f fd) (C1 : Cal P w K mg base 2 "is_number" f1 fd1 ["value"] (spIsNum K)) : FnOk P w K mg base (L2.CX P w) 3 f fd ["value", "limit"] (spIsBel K) := by
  refine F.ok scIsBel (fun vs H Q E h => ?_) (fun cdv A outer s H vs Q E hr h => ?_)
  · obtain ⟨v, n, rfl, _⟩ := h
    rfl
  · obtain ⟨v, n, rfl, ht, k⟩ := h
    refine ⟨_, pss_one (ps_ret (pe_and (pe_cal C1 hr (pa_cons (pv 0) pa_nil) passU) (pe_one (pe_cmp (pc_lt (pv 0) (pv 1)))))), ?_⟩
    refine ⟨_, rfl, v, rfl, ht, _, rfl, ?_⟩
    cases v with
    | int i =>
      have k' : Q (.bl (decide (0 ≤ i) && decide (i < n))) H := k
      show if decide (0 ≤ i) = true then _ else _
      by_cases h0 : 0 ≤ i
      · rw [decide_eq_true h0] at k' ⊢
        exact iteT ⟨_, rfl, _, rfl, _, _, rfl, rfl, k'⟩
      · rw [decide_eq_false h0] at k' ⊢
        exact iteF k'
    | _ => exact iteF k
/-- the primes to 31 -/
def primes : List Int := [2, 3, 5, 7, 11, 13, 17, 19, 23, 29, 31]
def isFld : V → Bool
  | .int i => inV (.int i) (primes.map V.int)
  | _ => false
def spIsFld (K : PySem.W.Frag) : Sp := fun vs H Q _ => ∃ v, vs = [v] ∧ Ty3 K H v ∧ Q (.bl (isFld v)) H
abbrev sIsFld : Stmt := top 15
abbrev sCheck : Stmt := top 16
theorem scIsFld : FnScope ["p"] ["p"] (defScope sIsFld) := ⟨rfl, rfl, rfl, by decide +kernel, rfl, by decide +kernel, by decide +kernel⟩
theorem ok_isFld {f f1 fP : Addr} {fd fd1 : FuncData} (F : FnS K "is_field" sIsFld f fd) (C1 : Cal P w K mg base 1 "is_integer" f1 fd1 ["value"] (spIsInt K)) (gP : mg "PRIMES" = some (.ref fP)) (tP : ∀ H, SqT K H fP (primes.map V.int)) :
    FnOk P w K mg base (L2.CX P w) 2 f fd ["p"] (spIsFld K) := by
  refine F.ok scIsFld (fun vs H Q E h => ?_) (fun cdv A outer s H vs Q E hr h => ?_)
  · obtain ⟨v, rfl, _⟩ := h
    rfl
  · obtain ⟨v, rfl, ht, k⟩ := h
    refine ⟨_, pss_one (ps_ret (pe_and (pe_cal C1 hr (pa_cons (pv 0) pa_nil) passU) (pe_one (pe_cmpR op_in_seq (pv 0) (pe_glob (v := .ref fP) rfl gP rfl) rfl)))), ?_⟩
    refine ⟨_, rfl, v, rfl, ht, _, rfl, ?_⟩
    cases v with
    | int n => exact iteT ⟨_, rfl, _, _, rfl, .inr (tP H), rfl, by decide, k⟩
    | _ => exact iteF k
/-- an error of class C with its own dict at d, in a heap that has grown -/
def Errs (C : Addr) (f : Str) (v : V) (H : Hp) (E : XK) : Prop := ∀ d H', Same H H' → H d = none → H' d = some (.xd [(f, v)]) → E (.ref C) (some d) H'
def spCheck (K : PySem.W.Frag) : Sp := fun vs H Q E => ∃ v, vs = [v] ∧ Ty3 K H v ∧ (isFld v = true → Q .non H) ∧ (isFld v = false → Errs (He.ga K "InvalidNumber") "value" v H E)
theorem scCheck : FnScope ["p"] ["p"] (defScope sCheck) := ⟨rfl, rfl, rfl, by decide +kernel, rfl, by decide +kernel, by decide +kernel⟩
theorem ok_check {f f1 : Addr} {fd fd1 fdI : FuncData} (F : FnS K "check_field" sCheck f fd) (C1 : Cal P w K mg base 2 "is_field" f1 fd1 ["p"] (spIsFld K)) (T : Exc1 K mg "InvalidNumber" "value")
    (FI : FnOk P w K mg base (L2.CX P w) 1 (He.ma K (He.ga K "InvalidNumber") "__init__") fdI ["self", "value"] (spInit1 K (He.ga K "InvalidNumber") "value")) (bI : Binds K fdI ["self", "value"] []) :
    FnOk P w K mg base (L2.CX P w) 3 f fd ["p"] (spCheck K) := by
  refine F.ok scCheck (fun vs H Q E h => ?_) (fun cdv A outer s H vs Q E hr h => ?_)
  · obtain ⟨v, rfl, _⟩ := h
    rfl
  · obtain ⟨v, rfl, ht, kY, kN⟩ := h
    refine ⟨_, pss_one (ps_if (pt_not (pt_val (pe_cal C1 hr (pa_cons (pv 0) pa_nil) passU))) (pss_one (ps_raise1 rfl (takes_of rfl rfl rfl rfl) T FI bI hr (pa_cons (pv 0) pa_nil))) pss_nil), ?_⟩
    refine ⟨_, rfl, v, rfl, ht, _, rfl, ?_⟩
    cases e : isFld v with
    | true => exact iteF (kY e)
    | false => exact iteT ⟨_, rfl, v, rfl, kN e⟩
end
section
variable {P : Program} {w : World} {K : PySem.W.Frag} {mg : Str → Option Value} {base : Heap}
/-! ### the errors' __init__ -/
theorem ok_init1 {st : Stmt} {qual fld par : Str} {f C : Addr} {fd : FuncData} (F : FunD K "__init__" qual (defArgs st) (defBody st) (defScope st) [] [] f fd) (S : FnScope (("self" : Str) :: [par]) (("self" : Str) :: [par]) (defScope st))
    (body : ∀ X : Cx, X.N = (("self" : Str) :: [par]) → X.env.scope = defScope st → PSs X (defBody st) (tOst X.K fld (tVar 0) (tVar 1))) :
    FnOk P w K mg base (L2.CX P w) 1 f fd (("self" : Str) :: [par]) (spInit1 K C fld) := by
  refine F.ok S (fun vs H Q E h => ?_) (fun cdv A outer s H vs Q E hr h => ?_)
  · obtain ⟨a, y, rfl, _⟩ := h
    rfl
  · obtain ⟨a, y, rfl, hC, hno, ha, k⟩ := h
    refine ⟨_, body _ rfl rfl, ?_⟩
    exact ⟨_, rfl, _, rfl, a, C, rfl, hC, hno, .inl ⟨ha, fun dx n ne => k dx n ne⟩⟩
abbrev sIN : Stmt := inClass (top 3) 0
abbrev sIL : Stmt := inClass (top 4) 0
theorem scIN : FnScope ["self", "value"] ["self", "value"] (defScope sIN) := ⟨rfl, rfl, rfl, by decide +kernel, rfl, by decide +kernel, by decide +kernel⟩
theorem scIL : FnScope ["self", "value"] ["self", "value"] (defScope sIL) := ⟨rfl, rfl, rfl, by decide +kernel, rfl, by decide +kernel, by decide +kernel⟩
theorem bodyIN (X : Cx) (hN : X.N = (["self", "value"] : List Str)) (hs : X.env.scope = defScope sIN) : PSs X (defBody sIN) (tOst X.K "value" (tVar 0) (tVar 1)) :=
  pss_one (ps_ost (pv 0 (by rw [hN] <;> rfl) (by rw [hs]; exact .inl rfl)) (pv 1 (by rw [hN] <;> rfl) (by rw [hs]; exact .inl rfl)))
theorem bodyIL (X : Cx) (hN : X.N = (["self", "value"] : List Str)) (hs : X.env.scope = defScope sIL) : PSs X (defBody sIL) (tOst X.K "value" (tVar 0) (tVar 1)) :=
  pss_one (ps_ost (pv 0 (by rw [hN] <;> rfl) (by rw [hs]; exact .inl rfl)) (pv 1 (by rw [hN] <;> rfl) (by rw [hs]; exact .inl rfl)))
theorem fld_mem {p : Int} (h : isFld (.int p) = true) : p ∈ primes := by
  have h' : ((primes.map V.int).any fun y => eqV y (.int p)) = true := h
  obtain ⟨y, hy, e⟩ := List.any_eq_true.mp h'
  obtain ⟨q, hq, rfl⟩ := List.mem_map.mp hy
  have e' : (q == p) = true := e
  rw [← beq_iff_eq.mp e']
  exact hq
theorem mem_fld {p : Int} (h : p ∈ primes) : isFld (.int p) = true := by
  show ((primes.map V.int).any fun y => eqV y (.int p)) = true
  exact List.any_eq_true.mpr ⟨.int p, List.mem_map.mpr ⟨p, h, rfl⟩, by show (p == p) = true; simp⟩
theorem fld_le {p : Int} (h : p ∈ primes) : 2 ≤ p ∧ p ≤ 31 := by
  have all : ∀ q ∈ primes, 2 ≤ q ∧ q ≤ 31 := by decide
  exact all p h
/-- the built-ins that the law's helpers call -/
structure Blt2 (mg : Str → Option Value) : Prop extends Blt mg where
  len : mg "len" = none
  abs : mg "abs" = none
  range : mg "range" = none
  tuple : mg "tuple" = none
abbrev sDraws : Stmt := top 22
abbrev sTake : Stmt := top 23
/-- numbers from 0 on -/
def Nn (ns : List Int) : Prop := ∀ n ∈ ns, 0 ≤ n
/-- _law_draws(script, many) -/
def spDraws (K : PySem.W.Frag) (many : Int) : Sp := fun vs H Q _ => ∃ (a : Addr) (ns : List Int), vs = [.ref a, .int many] ∧ SqL K H a (ns.map V.int) ∧ ns.length ≤ 63 ∧
  ∀ p ds H', Same H H' → H p = none → H' p = some (.lst (ds.map V.int)) → Nn ds → ds.length ≤ many.toNat → Q (.ref p) H'
theorem scDraws : FnScope ["script", "many", "cell", "rests", "draws", "k", "at", "mixed"] ["script", "many"] (defScope sDraws) := ⟨rfl, rfl, rfl, by decide +kernel, rfl, by decide +kernel, by decide +kernel⟩
def rMd : R2 := rI (fun _ j => j ≠ 0) fun i j => .int (i.fmod j)
def rDv : R2 := rI CDivN fun i j => .int (i.fdiv j)
def rMl : R2 := rI CMul fun i j => .int (i * j)
def rAd : R2 := rI0 fun i j => .int (i + j)
def tI1 (t : TE) : TE := tCB (fun xs H Q => (∃ i, xs = [V.int i] ∧ Q (.int i) H) ∨ ∃ k, xs = [V.bl k] ∧ Q (.int (if k then 1 else 0)) H) (tCons t tNil)
/-- the end of a turn: two mixings, one number put behind the others -/
def tTail (K : PySem.W.Frag) : TS := tSeq (tAsg (tOp rMd (tI1 (tOp rAd (tOp rAd (tOp rMl (tVar 2) (tC (.int 48271))) (tOp rMl (tVar 5) (tC (.int 69621)))) (tC (.int 11)))) (tC (.int 2147483647))) (gName 7))
  (tSeq (tAsg (tOp rMd (tI1 (tOp rAd (tOp rDv (tOp rMl (tVar 7) (tVar 7)) (tC (.int 4096))) (tVar 7))) (tC (.int 2147483629))) (gName 7))
    (tDrop (tBM K "list" rAppend (tVar 4) (tCons (tOp rMd (tI1 (tOp rAd (tOp rDv (tOp rMl (tVar 7) (tVar 7)) (tC (.int 4096))) (tOp rMl (tVar 5) (tC (.int 7919))))) (tC (.int 2147483629))) tNil))))
theorem fmod_bd (x : Int) {m : Int} (h : 0 < m) : 0 ≤ x.fmod m ∧ x.fmod m < m := ⟨Int.fmod_nonneg_of_pos x h, Int.fmod_lt_of_pos x h⟩
theorem tail_ok {D : Ends} {s0 s1 s3 s6 s7 : Option V} {c k : Int} {L : Addr} {ds : List Int} {H : Hp} (hL : H L = some (.lst (ds.map V.int))) (hl : ds.length ≤ 1000)
    (kk : ∀ (x : Int) (y : Option V), 0 ≤ x → D.nx [s0, s1, some (.int c), s3, some (.ref L), some (.int k), s6, y] (upd H L (.lst ((ds ++ [x]).map V.int)))) :
    tTail K D [s0, s1, some (.int c), s3, some (.ref L), some (.int k), s6, s7] H := by
  have b1 := fmod_bd (c * 48271 + k * 69621 + 11) (m := 2147483647) (by decide)
  refine ⟨_, rfl, _, _, rfl, rfl, .inr ⟨by decide, by decide⟩, _, rfl, _, _, rfl, rfl, .inr ⟨by decide, by decide⟩, _, _, rfl, rfl, _, _, rfl, rfl, .inl ⟨_, rfl, _, _, rfl, rfl, (show (2147483647 : Int) ≠ 0 by decide), ?_⟩⟩
  dsimp only
  generalize (c * 48271 + k * 69621 + 11).fmod 2147483647 = m at b1 ⊢
  have b2 := fmod_bd ((m * m).fdiv 4096 + m) (m := 2147483629) (by decide)
  refine ⟨_, rfl, _, rfl, _, _, rfl, rfl, .inl ⟨by omega, by omega⟩, _, _, rfl, rfl, ⟨by decide, by decide⟩, _, rfl, _, _, rfl, rfl, .inl ⟨_, rfl, _, _, rfl, rfl, (show (2147483629 : Int) ≠ 0 by decide), ?_⟩⟩
  dsimp only
  generalize ((m * m).fdiv 4096 + m).fmod 2147483629 = n at b2 ⊢
  refine ⟨_, rfl, .inl ⟨rfl, _, SqL.of hL⟩, ?_⟩
  refine ⟨_, rfl, _, rfl, _, _, rfl, rfl, .inl ⟨by omega, by omega⟩, _, _, rfl, rfl, ⟨by decide, by decide⟩, _, rfl, _, _, rfl, rfl, .inr ⟨by decide, by decide⟩, _, _, rfl, rfl, .inl ⟨_, rfl, _, _, rfl, rfl, (show (2147483629 : Int) ≠ 0 by decide), ?_⟩⟩
  refine ⟨L, _, _, rfl, rfl, hL, ?_, ?_⟩
  · rw [List.length_map]
    exact small1000 hl
  · have b3 := fmod_bd ((n * n).fdiv 4096 + k * 7919) (m := 2147483629) (by decide)
    have q := kk _ (some (.int n)) b3.1
    rw [List.map_append] at q
    exact q
theorem ok_draws {f : Addr} {fd : FuncData} (F : FnS K "_law_draws" sDraws f fd) (B : Blt2 mg) {many : Int} (hm0 : 0 ≤ many) (hm : many ≤ 1000) : FnOk P w K mg base (L2.CX P w) 1 f fd ["script", "many"] (spDraws K many) := by
  refine F.ok scDraws (fun vs H Q E h => ?_) (fun cdv A outer s H vs Q E hr h => ?_)
  · obtain ⟨a, ns, rfl, _⟩ := h
    rfl
  · obtain ⟨a, ns, rfl, hS, hl, k⟩ := h
    have nd := scDraws.nd
    refine ⟨_, (pss_cons (ps_setLc (i := 3) (own := [("cell", 2)]) (g := gName 2) (by rfl) nd rfl rfl (sw_true rfl rfl rfl (by decide +kernel)) (pi_list (pv 0)) (blkOk_by (own := [("cell", 2)]) (N := ["script", "many", "cell", "rests", "draws", "k", "at", "mixed"]) (sc := defScope sDraws) (by decide +kernel)) (fun _ _ _ _ _ => pg_name (i := 2) nd rfl (Or.inl rfl)) (fun _ _ _ _ _ => pts_nil) (fun _ _ _ _ _ => (pe_callB call_abs (by rfl) B.abs (by decide +kernel) (pa_cons (pe_callTy call_int1 (by rfl) B.int (by decide +kernel) (pa_cons (pv 2) pa_nil)) pa_nil))))
      (pss_cons (ps_set (i := 4) nd rfl (Or.inl rfl) (pe_lst pa_nil))
      (pss_cons (ps_for (passes_of rfl) rfl (pi_range1 rfl B.range (pa_cons (pv 1) pa_nil)) (pg_name (i := 5) nd rfl (Or.inl rfl)) (pss_cons (ps_set (i := 2) nd rfl (Or.inl rfl) (pv 5))
      (pss_cons (ps_if (pt_cmpR op_gt (pe_callB call_len_seq (by rfl) B.len (by decide +kernel) (pa_cons (pv 0) pa_nil)) pe_int (nomark _)) (pss_cons (ps_set (i := 6) nd rfl (Or.inl rfl) (pe_op op_modN (pv 5) (pe_callB call_len_seq (by rfl) B.len (by decide +kernel) (pa_cons (pv 0) pa_nil))))
      (pss_cons (ps_set (i := 2) nd rfl (Or.inl rfl) (pe_callTy call_int1 (by rfl) B.int (by decide +kernel) (pa_cons (pe_ix ix_list (pv 0) (pv 6) (fun _ _ => rfl)) pa_nil)))
      (pss_one (ps_if (PW.pt (pw_and (pt_cmpR op_ge (pv 2) (pe_op op_pow pe_int pe_int) (nomark _)) (pw_and1 (pt_cmpR op_gt (pe_ix ix_list (pv 3) (pv 6) (fun _ _ => rfl)) pe_int (nomark _))))) (pss_cons (ps_expr (pe_bm PySem.F.plainAttrs_list PySem.F.slot_list_append PySem.F.type_list_append mt_append (pv 4) (pa_cons (pe_op op_modN (pe_callTy call_int1 (by rfl) B.int (by decide +kernel) (pa_cons (pe_ix ix_list (pv 3) (pv 6) (fun _ _ => rfl)) pa_nil)) pe_int) pa_nil)))
      (pss_cons (ps_asg (pe_op op_fdivN (pe_callTy call_int1 (by rfl) B.int (by decide +kernel) (pa_cons (pe_ix ix_list (pv 3) (pv 6) (fun _ _ => rfl)) pa_nil)) pe_int) (pg_sub (pv 3) (pv 6) set_list))
      (pss_one ps_continue))) pss_nil)))) pss_nil)
      (pss_cons (ps_set (i := 7) nd rfl (Or.inl rfl) (pe_op op_modN (pe_callTy call_int1 (by rfl) B.int (by decide +kernel) (pa_cons (pe_op op_add (pe_op op_add (pe_op op_mul (pv 2) pe_int) (pe_op op_mul (pv 5) pe_int)) pe_int) pa_nil)) pe_int))
      (pss_cons (ps_set (i := 7) nd rfl (Or.inl rfl) (pe_op op_modN (pe_callTy call_int1 (by rfl) B.int (by decide +kernel) (pa_cons (pe_op op_add (pe_op op_fdivN (pe_op op_mul (pv 7) (pv 7)) pe_int) (pv 7)) pa_nil)) pe_int))
      (pss_one (ps_expr (pe_bm PySem.F.plainAttrs_list PySem.F.slot_list_append PySem.F.type_list_append mt_append (pv 4) (pa_cons (pe_op op_modN (pe_callTy call_int1 (by rfl) B.int (by decide +kernel) (pa_cons (pe_op op_add (pe_op op_fdivN (pe_op op_mul (pv 7) (pv 7)) pe_int) (pe_op op_mul (pv 5) pe_int)) pa_nil)) pe_int) pa_nil)))))))))
      (pss_one (ps_ret (pv 4)))))), ?_⟩
    refine ⟨_, rfl, a, rfl, ⟨_, hS⟩, fun D hD => lc_list (K := K) (a := a) (xs := ns.map V.int) (fun i H' => Same H H' ∧ ∃ rs : List Int, H' D = some (.lst (rs.map V.int)) ∧ rs.length = i ∧ Nn rs)
      ⟨fun c o hc => by rw [upd_ne (ne_of_none hc hD)]; exact hc, [], upd_same, rfl, fun n hn => by cases hn⟩ (fun i H' _ z => z.1.seq hS) ?_ ?_⟩
    · rintro i x H' hi ⟨s1, rs, e, l, n⟩
      obtain ⟨z, hz, rfl⟩ : ∃ z, ns[i]? = some z ∧ x = V.int z := by
        rw [List.getElem?_map] at hi
        cases q : ns[i]? with
        | none => rw [q] at hi; cases hi
        | some z => rw [q] at hi; exact ⟨z, rfl, (Option.some.inj hi).symm⟩
      have hi2 : i < ns.length := (List.getElem?_eq_some_iff.mp hz).1
      refine ⟨rfl, _, rfl, .inl ⟨z, rfl, z, rfl, _, e, ?_, fun c o hc => ?_, rs ++ [if z < 0 then -z else z], ?_, ?_, ?_⟩⟩
      · rw [List.length_map]
        exact small1000 (by omega)
      · rw [upd_ne (ne_of_none hc hD)]
        exact s1 c o hc
      · rw [upd_same, List.map_append]
        rfl
      · rw [List.length_append, l]
        rfl
      · intro m hm
        rcases List.mem_append.mp hm with hm | hm
        · exact n m hm
        · rw [List.mem_singleton.mp hm]
          split <;> omega
    · rintro H1 ⟨s1, rs, e, l, n⟩
      rw [List.length_map] at l
      refine ⟨(by show 0 ≤ sizeLine; omega), fun L hL => ?_⟩
      have hDL : D ≠ L := ne_of_none e hL
      have hL0 : H L = none := s1.free hL
      refine ⟨_, rfl, many, rfl, (by omega), (by omega), for_range (lo := 0) (n := many.toNat) (fun i σ H' => ∃ (v2 v5 v6 v7 : Option V) (rs ds : List Int), σ = [some (.ref a), some (.int many), v2, some (.ref D), some (.ref L), v5, v6, v7] ∧ Same H H' ∧
        H' D = some (.lst (rs.map V.int)) ∧ rs.length = ns.length ∧ Nn rs ∧ H' L = some (.lst (ds.map V.int)) ∧ Nn ds ∧ ds.length ≤ i)
        ⟨none, none, none, none, rs, [], rfl, fun c o hc => by rw [upd_ne (ne_of_none hc hL0)]; exact s1 c o hc, by rw [upd_ne hDL]; exact e, l, n, upd_same, (fun m hm => nomatch hm), Nat.le_refl _⟩ ?_ ?_⟩
      · rintro i σ H2 hi ⟨v2, v5, v6, v7, rs, ds, rfl, s2, eD, lD, nD, eL, nL, lL⟩
        have s2S := s2.seq hS
        have put : ∀ (x : Int) (v2 v5 v6 v7 : Option V), 0 ≤ x → ∃ (v2' v5' v6' v7' : Option V) (rs' ds' : List Int), [some (V.ref a), some (V.int many), v2, some (V.ref D), some (V.ref L), v5, v6, v7] = [some (V.ref a), some (V.int many), v2', some (V.ref D), some (V.ref L), v5', v6', v7'] ∧
            Same H (upd H2 L (.lst ((ds ++ [x]).map V.int))) ∧ upd H2 L (.lst ((ds ++ [x]).map V.int)) D = some (.lst (rs'.map V.int)) ∧ rs'.length = ns.length ∧ Nn rs' ∧ upd H2 L (.lst ((ds ++ [x]).map V.int)) L = some (.lst (ds'.map V.int)) ∧ Nn ds' ∧ ds'.length ≤ i + 1 := by
          intro x v2 v5 v6 v7 hx
          refine ⟨v2, v5, v6, v7, rs, ds ++ [x], rfl, fun c o hc => by rw [upd_ne (ne_of_none hc hL0)]; exact s2 c o hc, by rw [upd_ne hDL]; exact eD, lD, nD, upd_same, ?_, by rw [List.length_append]; show ds.length + 1 ≤ i + 1; omega⟩
          intro m hm
          rcases List.mem_append.mp hm with hm | hm
          · exact nL m hm
          · rw [List.mem_singleton.mp hm]
            exact hx
        refine ⟨_, rfl, _, rfl, _, _, rfl, .inl s2S, _, _, rfl, rfl, _, rfl, ?_⟩
        rw [List.length_map]
        by_cases h0 : ns.length = 0
        · rw [decide_eq_false (by omega)]
          refine iteF ?_
          show tTail K _ [some (.ref a), some (.int many), some (.int _), some (.ref D), some (.ref L), some (.int _), _, _] H2
          exact tail_ok eL (by omega) fun x y hx => put x _ _ _ y hx
        · rw [decide_eq_true (by omega)]
          refine iteT ?_
          refine ⟨_, rfl, _, rfl, _, _, rfl, .inl s2S, _, _, rfl, rfl, (by rw [List.length_map]; omega), ?_⟩
          have bq := fmod_bd (0 + (i : Int)) (m := ((ns.map V.int).length : Int)) (by rw [List.length_map]; omega)
          obtain ⟨q, hq⟩ : ∃ q : Nat, (0 + (i : Int)).fmod ((ns.map V.int).length : Int) = (q : Int) := ⟨((0 + (i : Int)).fmod ((ns.map V.int).length : Int)).toNat, by omega⟩
          rw [hq] at bq
          have hql : q < ns.length := by
            have := bq.2
            rw [List.length_map] at this
            omega
          have e1 : (ns.map V.int)[q]? = some (V.int ns[q]) := by rw [List.getElem?_map, List.getElem?_eq_getElem hql] <;> rfl
          have e2 : (rs.map V.int)[q]? = some (V.int (rs[q]'(by omega))) := by rw [List.getElem?_map, List.getElem?_eq_getElem (by omega)] <;> rfl
          refine ⟨_, rfl, _, rfl, a, _, _, _, rfl, rfl, s2S, (by rw [hq]; exact atI_nat e1), .inl ⟨_, rfl, ?_⟩⟩
          have ea2 : atI (rs.map V.int) ((0 + (i : Int)).fmod ((ns.map V.int).length : Int)) = some (.int (rs[q]'(by omega))) := by rw [hq]; exact atI_nat e2
          have nq : 0 ≤ rs[q]'(by omega) := nD _ (List.getElem_mem _)
          refine ⟨_, rfl, _, _, rfl, rfl, ⟨by decide, by decide, by decide⟩, _, _, rfl, rfl, _, rfl, ?_⟩
          refine iteD (fun hc => ?_) (fun hc => ?_)
          · refine ⟨_, rfl, _, rfl, D, _, _, _, rfl, rfl, SqL.of eD, ea2, _, _, rfl, rfl, _, rfl, ?_⟩
            refine iteD (fun hd => ?_) (fun hd => ?_)
            · refine ⟨_, rfl, .inl ⟨rfl, _, SqL.of eL⟩, _, rfl, _, rfl, D, _, _, _, rfl, rfl, SqL.of eD, ea2, .inl ⟨_, rfl, _, _, rfl, rfl, (show (1000003 : Int) ≠ 0 by decide), L, _, _, rfl, rfl, eL, (by rw [List.length_map]; exact small1000 (by omega)), ?_⟩⟩
              have eD2 : ∀ o, upd H2 L o D = some (.lst (rs.map V.int)) := fun o => by rw [upd_ne hDL]; exact eD
              refine ⟨_, rfl, _, rfl, D, _, _, _, rfl, rfl, SqL.of (eD2 _), ea2, .inl ⟨_, rfl, _, _, rfl, rfl, ⟨by decide, by decide⟩, _, rfl, _, rfl, D, _, _, q, rfl, rfl, eD2 _, (by rw [hq, List.length_map]; exact ixN_at (by omega)), ?_⟩⟩
              have b4 := fmod_bd (rs[q]'(by omega)) (m := 1000003) (by decide)
              have b5 : 0 ≤ (rs[q]'(by omega)).fdiv 1000003 := Int.fdiv_nonneg nq (by decide)
              have hDc : ∀ {c : Addr} {o : HO}, H c = some o → c ≠ D := fun hc => ne_of_none hc hD
              refine ⟨_, _, _, _, rs.set q ((rs[q]'(by omega)).fdiv 1000003), ds ++ [(rs[q]'(by omega)).fmod 1000003], rfl, fun c o hc => ?_, ?_, ?_, ?_, ?_, ?_, ?_⟩
              · rw [upd_ne (hDc hc), upd_ne (ne_of_none hc hL0)]
                exact s2 c o hc
              · rw [upd_same, List.map_set]
              · rw [List.length_set]
                exact lD
              · intro m hm
                rcases List.mem_or_eq_of_mem_set hm with h | h
                · exact nD m h
                · rw [h]; exact b5
              · rw [upd_ne hDL.symm, upd_same, List.map_append]
                rfl
              · intro m hm
                rcases List.mem_append.mp hm with hm | hm
                · exact nL m hm
                · rw [List.mem_singleton.mp hm]
                  exact b4.1
              · rw [List.length_append]
                show ds.length + 1 ≤ i + 1
                omega
            · show tTail K _ [some (.ref a), some (.int many), some (.int _), some (.ref D), some (.ref L), some (.int _), _, _] H2
              exact tail_ok eL (by omega) fun x y hx => put x _ _ _ y hx
          · show tTail K _ [some (.ref a), some (.int many), some (.int _), some (.ref D), some (.ref L), some (.int _), _, _] H2
            exact tail_ok eL (by omega) fun x y hx => put x _ _ _ y hx
      · rintro σ H2 ⟨v2, v5, v6, v7, rs, ds, rfl, s2, eD, lD, nD, eL, nL, lL⟩
        exact ⟨_, rfl, k L ds H2 s2 hL0 eL nL lL⟩
/-- the hand: the draws and the place in them -/
def HandAt (H : Hp) (a d : Addr) : Prop := ∃ (ds : List Int) (i : Int), H a = some (.lst [.ref d, .int i]) ∧ H d = some (.lst (ds.map V.int)) ∧ Nn ds ∧ 0 ≤ i
theorem hand_ne {H : Hp} {a d : Addr} {ds : List Int} {i : Int} (h1 : H a = some (.lst [.ref d, .int i])) (h2 : H d = some (.lst (ds.map V.int))) : a ≠ d := by
  refine ne_of h1 h2 fun z => ?_
  have z' : [V.ref d, V.int i] = ds.map V.int := HO.lst.inj z
  cases ds with
  | nil => cases z'
  | cons x r =>
    have z2 : V.ref d = V.int x := (List.cons.inj z').1
    cases z2
/-- all but what stands at a is as it was -/
def Keep (a : Addr) (H H' : Hp) : Prop := ∀ b o, b ≠ a → H b = some o → H' b = some o
theorem Keep.refl {a : Addr} {H : Hp} : Keep a H H := fun _ _ _ h => h
theorem Keep.trans {a : Addr} {H H1 H2 : Hp} (x : Keep a H H1) (y : Keep a H1 H2) : Keep a H H2 := fun b o n h => y b o n (x b o n h)
theorem Keep.of {a : Addr} {H H' : Hp} (h : Same H H') : Keep a H H' := fun b o _ e => h b o e
theorem Keep.new {a p : Addr} {o : HO} {H : Hp} (h : H p = none) : Keep a H (upd H p o) := fun b u _ e => by rw [upd_ne (ne_of_none e h)]; exact e
theorem same_new {p : Addr} {o : HO} {H : Hp} (h : H p = none) : Same H (upd H p o) := fun b u e => by rw [upd_ne (ne_of_none e h)]; exact e
theorem HandAt.same {H H' : Hp} {a d : Addr} (h : HandAt H a d) (s : Same H H') : HandAt H' a d := by
  obtain ⟨ds, i, h1, h2, h3, h4⟩ := h
  exact ⟨ds, i, s _ _ h1, s _ _ h2, h3, h4⟩
theorem HandAt.one {H : Hp} {a d : Addr} (h : HandAt H a d) : ∃ o, H a = some o := by
  obtain ⟨ds, i, h1, _⟩ := h
  exact ⟨_, h1⟩
theorem HandAt.two {H : Hp} {a d : Addr} (h : HandAt H a d) : ∃ o, H d = some o := by
  obtain ⟨ds, i, _, h2, _⟩ := h
  exact ⟨_, h2⟩
theorem HandAt.ne {H : Hp} {a d p : Addr} (h : HandAt H a d) (n : H p = none) : a ≠ p ∧ d ≠ p := by
  obtain ⟨o, e⟩ := h.one
  obtain ⟨u, e2⟩ := h.two
  exact ⟨ne_of_none e n, ne_of_none e2 n⟩
theorem HandAt.put {H : Hp} {a d p : Addr} {o : HO} (h : HandAt H a d) (n1 : a ≠ p) (n2 : d ≠ p) : HandAt (upd H p o) a d := by
  obtain ⟨ds, i, h1, h2, h3, h4⟩ := h
  exact ⟨ds, i, by rw [upd_ne n1]; exact h1, by rw [upd_ne n2]; exact h2, h3, h4⟩
theorem HandAt.new {H : Hp} {a d p : Addr} {o : HO} (h : HandAt H a d) (n : H p = none) : HandAt (upd H p o) a d := h.put (h.ne n).1 (h.ne n).2
def spTake : Sp := fun vs H Q _ => ∃ (a d : Addr) (many : Int), vs = [.ref a, .int many] ∧ 0 < many ∧ HandAt H a d ∧ ∀ r H', 0 ≤ r → r < many → HandAt H' a d → Keep a H H' → Q (.int r) H'
theorem scTake : FnScope ["hand", "many", "at", "draws"] ["hand", "many"] (defScope sTake) := ⟨rfl, rfl, rfl, by decide +kernel, rfl, by decide +kernel, by decide +kernel⟩
theorem ok_take {f : Addr} {fd : FuncData} (F : FnS K "_law_take" sTake f fd) (B : Blt2 mg) : FnOk P w K mg base (L2.CX P w) 1 f fd ["hand", "many"] spTake := by
  refine F.ok scTake (fun vs H Q E h => ?_) (fun cdv A outer s H vs Q E hr h => ?_)
  · obtain ⟨a, d, m, rfl, _⟩ := h
    rfl
  · obtain ⟨a, d, m, rfl, hm, ⟨ds, i, h1, h2, h3, h4⟩, k⟩ := h
    have nd := scTake.nd
    have nad := hand_ne h1 h2
    refine ⟨_, (pss_cons (ps_set (i := 2) nd rfl (Or.inl rfl) (pe_ix ix_list (pv 0) pe_int (fun _ _ => rfl)))
      (pss_cons (ps_asg (pe_op op_add (pv 2) pe_int) (pg_sub (pv 0) pe_int set_list))
      (pss_cons (ps_set (i := 3) nd rfl (Or.inl rfl) (pe_ix ix_list (pv 0) pe_int (fun _ _ => rfl)))
      (pss_cons (ps_if (pt_cmpR op_ge (pv 2) (pe_callB call_len_seq (by rfl) B.len (by decide +kernel) (pa_cons (pv 3) pa_nil)) (nomark _)) (pss_one (ps_ret pe_int)) pss_nil)
      (pss_one (ps_ret (pe_op op_modN (pe_op op_fdivN (pe_callTy call_int1 (by rfl) B.int (by decide +kernel) (pa_cons (pe_ix ix_list (pv 3) (pv 2) (fun _ _ => rfl)) pa_nil)) pe_int) (pv 1)))))))), ?_⟩
    refine ⟨_, rfl, a, _, _, _, rfl, rfl, SqL.of h1, atI_nat (j := 1) rfl, ?_⟩
    refine ⟨_, rfl, _, _, rfl, rfl, _, rfl, a, _, _, 1, rfl, rfl, h1, rfl, ?_⟩
    have h2' : ∀ o, upd H a o d = some (.lst (ds.map V.int)) := fun o => by rw [upd_ne nad.symm]; exact h2
    have done : ∀ r, 0 ≤ r → r < m → Q (.int r) (upd H a (.lst [.ref d, .int (i + 1)])) := fun r r0 r1 =>
      k r _ r0 r1 ⟨ds, i + 1, upd_same, h2' _, h3, by omega⟩ fun b o hb e => by rw [upd_ne hb]; exact e
    refine ⟨_, rfl, a, _, _, _, rfl, rfl, SqL.of upd_same, atI_nat (j := 0) rfl, ?_⟩
    refine ⟨_, rfl, _, rfl, d, _, rfl, .inl (SqL.of (h2' _)), _, _, rfl, rfl, _, rfl, ?_⟩
    rw [List.length_map]
    refine iteD (fun hc => ?_) (fun hc => ?_)
    · exact done 0 (by omega) (by omega)
    · obtain ⟨q, hq⟩ : ∃ q : Nat, i = (q : Int) := ⟨i.toNat, by omega⟩
      subst hq
      have hql : q < ds.length := by omega
      have e1 : (ds.map V.int)[q]? = some (V.int ds[q]) := by rw [List.getElem?_map, List.getElem?_eq_getElem hql] <;> rfl
      have b := fmod_bd (ds[q].fdiv 7) hm
      refine ⟨_, rfl, _, rfl, d, _, _, _, rfl, rfl, SqL.of (h2' _), atI_nat e1, .inl ⟨_, rfl, _, _, rfl, rfl, ⟨by decide, by decide⟩, _, rfl, _, _, rfl, rfl, (by omega), done _ b.1 b.2⟩⟩
abbrev sLF : Stmt := top 24
abbrev sLFd : Stmt := top 25
theorem fld_all {p : Int} (h2 : 2 ≤ p) (h31 : p ≤ 31) : (isFld (.int p) = true → ∀ j : Nat, (j : Int) < p - 2 → ¬ p.fmod (2 + (j : Int)) = 0) ∧ (isFld (.int p) = false → ∃ j : Nat, (j : Int) < p - 2 ∧ p.fmod (2 + (j : Int)) = 0) := by
  have t1 : ∀ n ∈ List.range 32, isFld (.int (n : Int)) = true → ∀ j ∈ List.range 32, (j : Int) < (n : Int) - 2 → ¬ (n : Int).fmod (2 + (j : Int)) = 0 := by decide +kernel
  have t2 : ∀ n ∈ List.range 32, 2 ≤ n → isFld (.int (n : Int)) = false → ∃ j ∈ List.range 32, (j : Int) < (n : Int) - 2 ∧ (n : Int).fmod (2 + (j : Int)) = 0 := by decide +kernel
  obtain ⟨n, rfl⟩ : ∃ n : Nat, p = (n : Int) := ⟨p.toNat, by omega⟩
  have hn : n ∈ List.range 32 := List.mem_range.mpr (by omega)
  refine ⟨fun h j hj => t1 n hn h j (List.mem_range.mpr (by omega)) hj, fun h => ?_⟩
  obtain ⟨j, _, h1, h2⟩ := t2 n hn (by omega) h
  exact ⟨j, h1, h2⟩
theorem fld_out {p : Int} (h : p < 2 ∨ 31 < p) : isFld (.int p) = false := by
  cases e : isFld (.int p) with
  | false => rfl
  | true =>
    have := fld_le (fld_mem e)
    omega
theorem scLF : FnScope ["p", "d"] ["p"] (defScope sLF) := ⟨rfl, rfl, rfl, by decide +kernel, rfl, by decide +kernel, by decide +kernel⟩
theorem ok_LF {f : Addr} {fd : FuncData} (F : FnS K "_law_is_field" sLF f fd) (B : Blt2 mg) : FnOk P w K mg base (L2.CX P w) 1 f fd ["p"] (spIsFld K) := by
  refine F.ok scLF (fun vs H Q E h => ?_) (fun cdv A outer s H vs Q E hr h => ?_)
  · obtain ⟨v, rfl, _⟩ := h
    rfl
  · obtain ⟨v, rfl, ⟨t, ht, h1, h2⟩, k⟩ := h
    have nd := scLF.nd
    refine ⟨_, (pss_cons (ps_if (PW.pt (pw_or (pt_not (pt_val (pe_callB call_isi (by rfl) B.isi (by decide +kernel) (pa_cons (pv 0) (pa_cons (pe_bltn (v := .ty "int") (by rfl) B.int (by decide +kernel) rfl) pa_nil))))) (pw_or (pt_val (pe_callB call_isi (by rfl) B.isi (by decide +kernel) (pa_cons (pv 0) (pa_cons (pe_bltn (v := .ty "bool") (by rfl) B.bool (by decide +kernel) rfl) pa_nil)))) (pw_or (pt_cmpR op_lt (pv 0) pe_int (nomark _)) (pw_or1 (pt_cmpR op_gt (pv 0) pe_int (nomark _))))))) (pss_one (ps_ret pe_bl)) pss_nil)
      (pss_cons (ps_for (passes_of rfl) rfl (pi_range2 rfl B.range (pa_cons pe_int (pa_cons (pe_callTy call_int1 (by rfl) B.int (by decide +kernel) (pa_cons (pv 0) pa_nil)) pa_nil))) (pg_name (i := 1) nd rfl (Or.inl rfl)) (pss_one (ps_if (pt_cmpR op_eq (pe_op op_modN (pe_callTy call_int1 (by rfl) B.int (by decide +kernel) (pa_cons (pv 0) pa_nil)) (pv 1)) pe_int (nomark _)) (pss_one (ps_ret pe_bl)) pss_nil)))
      (pss_one (ps_ret pe_bl)))), ?_⟩
    refine ⟨_, rfl, _, _, _, _, _, rfl, .ty "int", ht, h1, _, rfl, ?_⟩
    cases v with
    | int p =>
      refine iteF ⟨_, rfl, _, _, _, _, _, rfl, .ty "bool", ht, h2, _, rfl, iteF ⟨_, rfl, _, _, rfl, rfl, _, rfl, iteD (fun hc => ?_) (fun hc => ⟨_, rfl, _, _, rfl, rfl, _, rfl, iteD (fun hd => ?_) (fun hd => ?_)⟩)⟩⟩
      · rw [fld_out (.inl hc)] at k
        exact k
      · rw [fld_out (.inr hd)] at k
        exact k
      · have fa := fld_all (p := p) (by omega) (by omega)
        refine ⟨_, rfl, .inl ⟨p, rfl, 2, p, rfl, (by omega), for_range (lo := 2) (n := (p - 2).toNat) (fun i σ H' => ∃ x, σ = [some (.int p), x] ∧ H' = H ∧ ∀ j : Nat, j < i → ¬ p.fmod (2 + (j : Int)) = 0) ⟨none, rfl, rfl, fun j hj => by omega⟩ ?_ ?_⟩⟩
        · rintro i σ H' hi ⟨x, rfl, rfl, hj⟩
          refine ⟨_, rfl, .inl ⟨p, rfl, _, rfl, _, _, rfl, rfl, (by omega), rfl, _, rfl, ?_⟩⟩
          refine iteD (fun he => ?_) (fun he => ?_)
          · have he' : p.fmod (2 + (i : Int)) = 0 := V.int.inj he
            have e : isFld (.int p) = false := by
              cases q : isFld (.int p) with
              | false => rfl
              | true => exact absurd he' (fa.1 q i (by omega))
            rw [e] at k
            exact k
          · refine ⟨_, rfl, rfl, fun j hjj => ?_⟩
            by_cases z : j = i
            · subst z
              exact fun q => he (congrArg V.int q)
            · exact hj j (by omega)
        · rintro σ H' ⟨x, rfl, rfl, hj⟩
          have e : isFld (.int p) = true := by
            cases q : isFld (.int p) with
            | true => rfl
            | false =>
              obtain ⟨j, h3, h4⟩ := fa.2 q
              exact absurd h4 (hj j (by omega))
          rw [e] at k
          exact k
    | bl b => exact iteF ⟨_, rfl, _, _, _, _, _, rfl, .ty "bool", ht, h2, _, rfl, iteT k⟩
    | _ => exact iteT k
def ups (n : Nat) : List Int := ((List.range n).filter fun (j : Nat) => isFld (.int (2 + (j : Int)))).map fun (j : Nat) => 2 + (j : Int)
theorem ups_succ (n : Nat) : ups (n + 1) = if isFld (.int (2 + (n : Int))) = true then ups n ++ [2 + (n : Int)] else ups n := by
  unfold ups
  rw [List.range_succ, List.filter_append, List.map_append]
  cases h : isFld (.int (2 + (n : Int))) <;> simp [h]
theorem ups_len (n : Nat) : (ups n).length ≤ n := by
  unfold ups
  rw [List.length_map]
  exact Nat.le_trans (List.length_filter_le _ _) (by simp)
theorem ups_all : ups 30 = primes := by decide +kernel
def spLFd : Sp := fun vs H Q _ => ∃ (a d : Addr), vs = [.ref a] ∧ HandAt H a d ∧ ∀ p H', p ∈ primes → HandAt H' a d → Keep a H H' → Q (.int p) H'
theorem scLFd : FnScope ["hand", "primes", "p"] ["hand"] (defScope sLFd) := ⟨rfl, rfl, rfl, by decide +kernel, rfl, by decide +kernel, by decide +kernel⟩
theorem ok_LFd {f fF fT : Addr} {fd fdF fdT : FuncData} (F : FnS K "_law_field" sLFd f fd) (B : Blt2 mg) (CF : Cal P w K mg base 1 "_law_is_field" fF fdF ["p"] (spIsFld K)) (CT : Cal P w K mg base 1 "_law_take" fT fdT ["hand", "many"] spTake) :
    FnOk P w K mg base (L2.CX P w) 2 f fd ["hand"] spLFd := by
  refine F.ok scLFd (fun vs H Q E h => ?_) (fun cdv A outer s H vs Q E hr h => ?_)
  · obtain ⟨a, d, rfl, _⟩ := h
    rfl
  · obtain ⟨a, d, rfl, hH, k⟩ := h
    have nd := scLFd.nd
    have hr1 := hr
    refine ⟨_, (pss_cons (ps_setLc (i := 1) (own := [("p", 2)]) (g := gName 2) (by rfl) nd rfl rfl (sw_true rfl rfl rfl (by decide +kernel)) (pi_range2 rfl B.range (pa_cons pe_int (pa_cons pe_int pa_nil))) (blkOk_by (own := [("p", 2)]) (N := ["hand", "primes", "p"]) (sc := defScope sLFd) (by decide +kernel)) (fun _ _ _ _ _ => pg_name (i := 2) nd rfl (Or.inl rfl)) (fun _ _ _ _ _ => pts_one (pt_val (pe_cal CF hr (pa_cons (pv 2) pa_nil) passU))) (fun _ _ _ _ _ => (pv 2)))
      (pss_one (ps_ret (pe_ix ix_list (pv 1) (pe_ix ix_list (pe_lst (pa_cons (pe_cal CT hr1 (pa_cons (pv 0) (pa_cons pe_int pa_nil)) passU) (pa_cons (pe_cal CT hr1 (pa_cons (pv 0) (pa_cons pe_int pa_nil)) passU) pa_nil))) (pe_cal CT hr1 (pa_cons (pv 0) (pa_cons pe_int pa_nil)) passU) (fun _ _ => rfl)) (fun _ _ => rfl))))), ?_⟩
    refine ⟨2, 32, rfl, (by omega), fun D hD => lc_range (lo := 2) (n := 30) (fun i H' => Same H H' ∧ H' D = some (.lst ((ups i).map V.int))) ⟨same_new hD, upd_same⟩ ?_ ?_⟩
    · rintro i H' hi ⟨s1, e⟩
      have eu := ups_succ i
      refine ⟨rfl, _, rfl, _, rfl, ty3_int _, _, rfl, ?_⟩
      cases q : isFld (.int (2 + (i : Int))) with
      | true =>
        rw [if_pos q] at eu
        refine iteT ⟨_, rfl, _, e, (by rw [List.length_map]; exact small1000 (Nat.le_trans (ups_len i) (by omega))), fun c o hc => by rw [upd_ne (ne_of_none hc hD)]; exact s1 c o hc, ?_⟩
        rw [upd_same, eu, List.map_append]
        rfl
      | false =>
        rw [if_neg (by rw [q]; decide)] at eu
        refine iteF ⟨s1, ?_⟩
        rw [eu]
        exact e
    · rintro H1 ⟨s1, e⟩
      rw [ups_all] at e
      have h1 := hH.same s1
      refine ⟨_, rfl, _, rfl, a, d, 11, rfl, by decide, h1, fun r1 H2 a0 a1 h2 k2 => ⟨_, rfl, a, d, 3, rfl, by decide, h2, fun r2 H3 b0 b1 h3 k3 => ⟨(by show 2 ≤ sizeLine; decide), fun q hq => ⟨_, rfl, a, d, 2, rfl, by decide, h3.new hq, fun r3 H4 c0 c1 h4 k4 => ?_⟩⟩⟩⟩
      have nq := h3.ne hq
      have nD := hH.ne hD
      have eq : H4 q = some (.lst [.int r1, .int r2]) := k4 _ _ nq.1.symm upd_same
      have eD : H4 D = some (.lst (primes.map V.int)) := k4 _ _ nD.1.symm (by
        have e3 := k3 _ _ nD.1.symm (k2 _ _ nD.1.symm e)
        rw [upd_ne (ne_of_none e3 hq)]
        exact e3)
      have kk : Keep a H H4 := (Keep.of s1).trans (k2.trans (k3.trans ((Keep.new hq).trans k4)))
      have out : ∀ r : Int, 0 ≤ r → r < 11 → rIxL K (.ref D) (.int r) H4 Q := fun r z0 z1 => by
        obtain ⟨m, rfl⟩ : ∃ m : Nat, r = (m : Int) := ⟨r.toNat, by omega⟩
        have hm : m < primes.length := by show m < 11; omega
        have em : (primes.map V.int)[m]? = some (V.int primes[m]) := by rw [List.getElem?_map, List.getElem?_eq_getElem hm] <;> rfl
        exact ⟨D, _, _, _, rfl, rfl, SqL.of eD, atI_nat em, k _ _ (List.getElem_mem hm) h4 kk⟩
      have hc : r3 = 0 ∨ r3 = 1 := by omega
      rcases hc with rfl | rfl
      · exact ⟨q, _, _, .int r1, rfl, rfl, SqL.of eq, rfl, out r1 a0 a1⟩
      · exact ⟨q, _, _, .int r2, rfl, rfl, SqL.of eq, rfl, out r2 b0 (by omega)⟩
end
end WU

set_option maxRecDepth 100000
set_option maxHeartbeats 8000000
namespace WU
open PySem PySem.Spec PyProof.Rows L2
/-! ### walking what may be a list or a tuple -/
def iSeq (K : PySem.W.Frag) (tl : TE) : TI := fun σ H R => tl σ H fun x H1 => ∃ a, x = .ref a ∧ (((∃ xs, SqL K H1 a xs) ∧ R (Itl K a) H1) ∨ ((∃ xs, SqT K H1 a xs) ∧ R (Itt K a) H1))
theorem pi_seq {X : Cx} {tg l : Expr} {tl : TE} (hl : PE X l tl) : PI X tg l (iSeq X.K tl) := by
  constructor
  intro pins st σ H R I h
  refine thn (hl.run pins st σ H _ I h) fun v t1 ⟨x, H2, J, rx, a, ea, q⟩ => ?_
  subst ea
  cases rx
  have fresh : ∀ b ∈ [t1.heap.objs.size], FpOk X pins H2 b := fun b hb => by
    cases List.mem_singleton.mp hb
    exact J.fpOk (Nat.le_refl _) (J.hok.fresh (Nat.le_refl _))
  rcases q with ⟨⟨xs, hq⟩, q⟩ | ⟨⟨xs, hq⟩, q⟩
  · obtain ⟨its, rv, pl, _⟩ := J.list hq
    apply wpAny_pyIter_list pl.isList
    exact ⟨_, [t1.heap.objs.size], _, _, H2, rfl, J.kept (t' := t1.toks) fun b o e => Heap.get?_push_of_some _ e, turn_list a _, ⟨_, Heap.get?_push_size _ rfl, rfl, rfl⟩, fresh, q⟩
  · obtain ⟨its, rv, pl, _⟩ := J.tuple hq
    apply wpAny_pyIter_tuple (show t1.heap.IsTuple a its.toArray from pl)
    exact ⟨_, [t1.heap.objs.size], _, _, H2, rfl, J.kept (t' := t1.toks) fun b o e => Heap.get?_push_of_some _ e, turn_tuple a _, ⟨_, Heap.get?_push_size _ rfl, rfl, rfl⟩, fresh, q⟩
/-! ### data -/
def tyName : PyData → String
  | .none => "NoneType"
  | .bool _ => "bool"
  | .int _ => "int"
  | .str _ => "str"
  | .list _ => "list"
  | .tuple _ => "tuple"
  | .dict _ => "dict"
def isSeq : PyData → Bool
  | .list _ => true
  | .tuple _ => true
  | _ => false
def belD (p : Int) : PyData → Bool
  | .int i => decide (0 ≤ i) && decide (i < p)
  | _ => false
/-- whether it is a sequence of n letters -/
def letsD (p n : Int) : PyData → Bool
  | .list ds => decide ((ds.length : Int) = n) && ds.all (belD p)
  | .tuple ds => decide ((ds.length : Int) = n) && ds.all (belD p)
  | _ => false
def smallD : PyData → Prop
  | .list ds => ds.length ≤ 200
  | .tuple ds => ds.length ≤ 200
  | _ => True
section
variable {K : PySem.W.Frag} {H H' : Hp}
theorem sqL_ty {a : Addr} {xs : List V} (h : SqL K H a xs) : TyX K H (.ref a) (.type "list") := by
  rcases h with (h | ⟨o, h⟩) | ⟨o, its, n, h1, h2, _⟩
  · exact .base (.lst h)
  · exact .base (.frz h)
  · exact .kList h1 h2
theorem sqT_ty {a : Addr} {xs : List V} (h : SqT K H a xs) : TyX K H (.ref a) (.type "tuple") := by
  rcases h with (h | ⟨o, h⟩) | ⟨o, its, n, h1, h2, _⟩
  · exact .base (.tup h)
  · exact .fTuple h
  · exact .kTuple h1 h2
theorem dp_ty {v : V} {d : PyData} (h : Dp K H v d) : TyX K H v (.type (tyName d)) := by
  cases h with
  | non => exact .base .non
  | bl b => exact .base (.bl b)
  | int i => exact .base (.int i)
  | str x => exact .base (.str x)
  | lst h _ => exact sqL_ty h
  | tup h _ => exact sqT_ty h
theorem dp_ty3 {v : V} {d : PyData} (h : Dp K H v d) : Ty3 K H v := by
  have t := dp_ty h
  cases h with
  | non => exact ty3_non
  | bl b => exact ty3_bl b
  | int i => exact ty3_int i
  | str x => exact ty3_str x
  | lst h _ => exact ⟨_, t, kit_ty (show kitB "list" "int" = some false by decide +kernel), kit_ty (show kitB "list" "bool" = some false by decide +kernel)⟩
  | tup h _ => exact ⟨_, t, kit_ty (show kitB "tuple" "int" = some false by decide +kernel), kit_ty (show kitB "tuple" "bool" = some false by decide +kernel)⟩
theorem dp_bel {v : V} {d : PyData} (h : Dp K H v d) (p : Int) : isBel p v = belD p d := by
  cases h <;> rfl
theorem kit_seq {d : PyData} : (∀ kvs, d ≠ .dict kvs) → PySem.W.kitAny K (.type (tyName d)) [.type "list", .type "tuple"] = some (isSeq d) := by
  intro nd
  cases d with
  | none => exact kitAny_cons (b := false) (kit_ty (show kitB "NoneType" "list" = some false by decide +kernel)) (fun _ => kitAny_cons (b := false) (kit_ty (show kitB "NoneType" "tuple" = some false by decide +kernel)) (fun _ => kitAny_nil) (fun h => nomatch h)) (fun h => nomatch h)
  | bool b => exact kitAny_cons (b := false) (kit_ty (show kitB "bool" "list" = some false by decide +kernel)) (fun _ => kitAny_cons (b := false) (kit_ty (show kitB "bool" "tuple" = some false by decide +kernel)) (fun _ => kitAny_nil) (fun h => nomatch h)) (fun h => nomatch h)
  | int i => exact kitAny_cons (b := false) (kit_ty (show kitB "int" "list" = some false by decide +kernel)) (fun _ => kitAny_cons (b := false) (kit_ty (show kitB "int" "tuple" = some false by decide +kernel)) (fun _ => kitAny_nil) (fun h => nomatch h)) (fun h => nomatch h)
  | str x => exact kitAny_cons (b := false) (kit_ty (show kitB "str" "list" = some false by decide +kernel)) (fun _ => kitAny_cons (b := false) (kit_ty (show kitB "str" "tuple" = some false by decide +kernel)) (fun _ => kitAny_nil) (fun h => nomatch h)) (fun h => nomatch h)
  | list xs => exact kitAny_cons (b := true) (kit_ty (show kitB "list" "list" = some true by decide +kernel)) (fun h => nomatch h) (fun _ => rfl)
  | tuple xs => exact kitAny_cons (b := false) (kit_ty (show kitB "tuple" "list" = some false by decide +kernel)) (fun _ => kitAny_cons (b := true) (kit_ty (show kitB "tuple" "tuple" = some true by decide +kernel)) (fun h => nomatch h) (fun _ => rfl)) (fun h => nomatch h)
  | dict kvs => exact absurd rfl (nd kvs)
theorem dp_nodict {v : V} {d : PyData} (h : Dp K H v d) : ∀ kvs, d ≠ .dict kvs := fun kvs z => by
  subst z
  cases h
theorem sqL_same {a : Addr} {xs : List V} (h : SqL K H a xs) (s : Same H H') : SqL K H' a xs := SqL.ext h s
theorem sqT_same {a : Addr} {xs : List V} (h : SqT K H a xs) (s : Same H H') : SqT K H' a xs := SqT.ext h s
mutual
theorem dp_same (s : Same H H') : ∀ {v : V} {d : PyData}, Dp K H v d → Dp K H' v d
  | _, _, .non => .non
  | _, _, .bl b => .bl b
  | _, _, .int i => .int i
  | _, _, .str x => .str x
  | _, _, .lst h k => .lst (sqL_same h s) (dps_same s k)
  | _, _, .tup h k => .tup (sqT_same h s) (dps_same s k)
theorem dps_same (s : Same H H') : ∀ {vs : List V} {ds : List PyData}, DpAll K H vs ds → DpAll K H' vs ds
  | _, _, .nil => .nil
  | _, _, .cons h k => .cons (dp_same s h) (dps_same s k)
end
theorem dps_len : ∀ {vs : List V} {ds : List PyData}, DpAll K H vs ds → vs.length = ds.length
  | _, _, .nil => rfl
  | _, _, .cons _ k => congrArg Nat.succ (dps_len k)
theorem dps_at : ∀ {vs : List V} {ds : List PyData} {i : Nat} {v : V}, DpAll K H vs ds → vs[i]? = some v → ∃ d, ds[i]? = some d ∧ Dp K H v d
  | _, _, _, _, .nil, e => by cases e
  | _, _, 0, _, .cons h _, e => by
    cases e
    exact ⟨_, rfl, h⟩
  | _, _, i + 1, _, .cons _ k, e => dps_at (i := i) k e
end
structure Blt3 (mg : Str → Option Value) : Prop extends Blt2 mg where
  lst : mg "list" = none
  all : mg "all" = none
section
variable {P : Program} {w : World} {K : PySem.W.Frag} {mg : Str → Option Value} {base : Heap}
abbrev sSeq : Stmt := top 9
abbrev sLets : Stmt := top 10
def spSeq (K : PySem.W.Frag) : Sp := fun vs H Q _ => ∃ v d, vs = [v] ∧ Dp K H v d ∧ ∀ H', Same H H' → Q (.bl (isSeq d)) H'
theorem scSeq : FnScope ["value"] ["value"] (defScope sSeq) := ⟨rfl, rfl, rfl, by decide +kernel, rfl, by decide +kernel, by decide +kernel⟩
theorem ok_seq {f : Addr} {fd : FuncData} (F : FnS K "is_sequence" sSeq f fd) (B : Blt3 mg) : FnOk P w K mg base (L2.CX P w) 1 f fd ["value"] (spSeq K) := by
  refine F.ok scSeq (fun vs H Q E h => ?_) (fun cdv A outer s H vs Q E hr h => ?_)
  · obtain ⟨v, d, rfl, _⟩ := h
    rfl
  · obtain ⟨v, d, rfl, hd, k⟩ := h
    refine ⟨_, (pss_one (ps_ret (pe_callB call_isiT (by rfl) B.isi (by decide +kernel) (pa_cons (pv 0) (pa_cons (pe_tup (pa_cons (pe_bltn (v := .ty "list") (by rfl) B.lst (by decide +kernel) rfl) (pa_cons (pe_bltn (v := .ty "tuple") (by rfl) B.tuple (by decide +kernel) rfl) pa_nil))) pa_nil))))), ?_⟩
    refine ⟨_, rfl, (by show 2 ≤ sizeLine; decide), fun t ht => ⟨v, t, _, _, _, _, rfl, upd_same, .cons (.ty "list") (.cons (.ty "tuple") .nil), dp_ty (dp_same (same_new ht) hd), kit_seq (dp_nodict hd), k _ (same_new ht)⟩⟩
def spLets (K : PySem.W.Frag) : Sp := fun vs H Q _ => ∃ (p n : Int) (v : V) (d : PyData), vs = [.int p, .int n, v] ∧ Dp K H v d ∧ smallD d ∧ ∀ H', Same H H' → Q (.bl (letsD p n d)) H'
theorem scLets : FnScope ["p", "count", "value", "letter"] ["p", "count", "value"] (defScope sLets) := ⟨rfl, rfl, rfl, by decide +kernel, rfl, by decide +kernel, by decide +kernel⟩
theorem ok_lets {f f1 f2 : Addr} {fd fd1 fd2 : FuncData} (F : FnS K "are_letters" sLets f fd) (B : Blt3 mg) (CS : Cal P w K mg base 1 "is_sequence" f1 fd1 ["value"] (spSeq K)) (CB : Cal P w K mg base 3 "is_below" f2 fd2 ["value", "limit"] (spIsBel K)) :
    FnOk P w K mg base (L2.CX P w) 4 f fd ["p", "count", "value"] (spLets K) := by
  refine F.ok scLets (fun vs H Q E h => ?_) (fun cdv A outer s H vs Q E hr h => ?_)
  · obtain ⟨p, n, v, d, rfl, _⟩ := h
    rfl
  · obtain ⟨p, n, v, d, rfl, hd, hz, k⟩ := h
    have nd := scLets.nd
    have hr1 := hr.mono (show 1 ≤ 3 by decide)
    refine ⟨_, (pss_one (ps_ret (pe_and (pe_cal CS hr1 (pa_cons (pv 2) pa_nil) passU) (pe_and (pe_cmpR op_eq (pe_callB call_len_seq (by rfl) B.len (by decide +kernel) (pa_cons (pv 2) pa_nil)) (pv 1) (nomark _)) (pe_one (pe_callB (cr_all rfl) (by rfl) B.all (by decide +kernel) (pa_cons (pe_lc (own := [("letter", 3)]) (g := gName 3) (by rfl) nd (pi_seq (pv 2)) (blkOk_by (own := [("letter", 3)]) (N := ["p", "count", "value", "letter"]) (sc := defScope sLets) (by decide +kernel)) (fun _ _ _ _ _ => pg_name (i := 3) nd rfl (Or.inl rfl)) (fun _ _ _ _ _ => pts_nil) (fun _ _ _ _ _ => (pe_cal CB hr (pa_cons (pv 3) (pa_cons (pv 0) pa_nil)) passU))) pa_nil))))))), ?_⟩
    refine ⟨_, rfl, v, d, rfl, hd, fun H1 s1 => ⟨_, rfl, ?_⟩⟩
    have cs : (isSeq d = false ∧ letsD p n d = false) ∨ ∃ a xs ds, v = .ref a ∧ (SqL K H a xs ∨ SqT K H a xs) ∧ DpAll K H xs ds ∧ ds.length ≤ 200 ∧ isSeq d = true ∧ letsD p n d = (decide ((ds.length : Int) = n) && ds.all (belD p)) := by
      cases hd with
      | non => exact .inl ⟨rfl, rfl⟩
      | bl b => exact .inl ⟨rfl, rfl⟩
      | int i => exact .inl ⟨rfl, rfl⟩
      | str x => exact .inl ⟨rfl, rfl⟩
      | lst h q => exact .inr ⟨_, _, _, rfl, .inl h, q, hz, rfl, rfl⟩
      | tup h q => exact .inr ⟨_, _, _, rfl, .inr h, q, hz, rfl, rfl⟩
    rcases cs with ⟨e1, e2⟩ | ⟨a, xs, ds, rfl, hx, hds, hl, e1, e2⟩
    · rw [e1]
      rw [e2] at k
      exact iteF (k H1 s1)
    · refine iteTb e1 ?_
      rw [e2] at k
      have el := dps_len hds
      have hx1 : SqL K H1 a xs ∨ SqT K H1 a xs := hx.imp (fun h => sqL_same h s1) fun h => sqT_same h s1
      refine ⟨_, rfl, a, xs, rfl, hx1, _, rfl, rfl, _, rfl, ?_⟩
      refine iteD (fun hc => ?_) (fun hc => ?_)
      · have hc' : ((ds.length : Nat) : Int) = n := by
          rw [← el]
          exact V.int.inj hc
        rw [decide_eq_true hc', Bool.true_and] at k
        have st0 : ∀ D, H1 D = none → Same H1 (upd H1 D (.lst [])) ∧ upd H1 D (.lst []) D = some (.lst ((ds.take 0).map fun d => V.bl (belD p d))) := fun D hD => ⟨same_new hD, upd_same⟩
        have turn : ∀ (D : Addr), H1 D = none → ∀ (i : Nat) (y : V) (H2 : Hp), xs[i]? = some y → Same H1 H2 ∧ H2 D = some (.lst ((ds.take i).map fun d => V.bl (belD p d))) →
            isBel p y = belD p (ds.getD i .none) ∧ Ty3 K H2 y ∧ ((ds.take i).map fun d => V.bl (belD p d)).length < sizeLine ∧ Same H1 (upd H2 D (.lst (((ds.take i).map fun d => V.bl (belD p d)) ++ [.bl (isBel p y)]))) ∧
              upd H2 D (.lst (((ds.take i).map fun d => V.bl (belD p d)) ++ [.bl (isBel p y)])) D = some (.lst ((ds.take (i + 1)).map fun d => V.bl (belD p d))) := by
          rintro D hD i y H2 hi ⟨s2, eD⟩
          obtain ⟨di, hdi, hy⟩ := dps_at hds hi
          have eb := dp_bel hy p
          have eg : ds.getD i .none = di := by rw [List.getD_eq_getElem?_getD, hdi] <;> rfl
          refine ⟨by rw [eg]; exact eb, dp_ty3 (dp_same (s1.trans s2) hy), ?_, ?_, ?_⟩
          · rw [List.length_map, List.length_take]
            exact small1000 (by omega)
          · exact fun c o hc => by rw [upd_ne (ne_of_none hc hD)]; exact s2 c o hc
          · rw [upd_same, List.take_succ, hdi, List.map_append, eb]
            rfl
        have fin : ∀ (D : Addr) (H2 : Hp), Same H1 H2 → H2 D = some (.lst ((ds.take xs.length).map fun d => V.bl (belD p d))) → rAll K [.ref D] H2 Q := by
          intro D H2 s2 eD
          rw [el, List.take_length] at eD
          refine ⟨D, ds.map (belD p), rfl, SqL.of (by rw [eD, List.map_map]; rfl), ?_⟩
          have ea : (ds.map (belD p)).all id = ds.all (belD p) := by rw [List.all_map]; rfl
          rw [ea]
          exact k H2 (s1.trans s2)
        refine ⟨_, rfl, a, rfl, ?_⟩
        rcases hx1 with h | h
        · refine .inl ⟨⟨_, h⟩, fun D hD => lc_list (K := K) (a := a) (xs := xs) (fun i H2 => Same H1 H2 ∧ H2 D = some (.lst ((ds.take i).map fun d => V.bl (belD p d)))) (st0 D hD) (fun i H2 _ z => sqL_same h z.1) ?_ (fun H2 z => fin D H2 z.1 z.2)⟩
          rintro i y H2 hi z
          obtain ⟨t1, t2, t3, t4, t5⟩ := turn D hD i y H2 hi z
          exact ⟨rfl, _, rfl, _, rfl, y, p, rfl, t2, _, z.2, t3, t4, t5⟩
        · refine .inr ⟨⟨_, h⟩, fun D hD => lc_tup (K := K) (a := a) (xs := xs) (fun i H2 => Same H1 H2 ∧ H2 D = some (.lst ((ds.take i).map fun d => V.bl (belD p d)))) (st0 D hD) (fun i H2 _ z => sqT_same h z.1) ?_ (fun H2 z => fin D H2 z.1 z.2)⟩
          rintro i y H2 hi z
          obtain ⟨t1, t2, t3, t4, t5⟩ := turn D hD i y H2 hi z
          exact ⟨rfl, _, rfl, _, rfl, y, p, rfl, t2, _, z.2, t3, t4, t5⟩
      · have hc' : ¬ ((ds.length : Nat) : Int) = n := fun z => hc (congrArg V.int (by rw [el]; exact z))
        rw [decide_eq_false hc', Bool.false_and] at k
        exact k H1 s1
end
end WU

set_option maxRecDepth 100000
set_option maxHeartbeats 8000000
namespace WU
open PySem PySem.Spec PyProof.Rows L2
/-! ### books -/
def TB (H : Hp) (r : V) (b : List Int) : Prop := ∃ c, r = .ref c ∧ H c = some (.tup (b.map V.int))
def SB (H : Hp) (r : V) (b : List Int) : Prop := ∃ c, r = .ref c ∧ (H c = some (.lst (b.map V.int)) ∨ H c = some (.tup (b.map V.int)))
theorem TB.sb {H : Hp} {r : V} {b : List Int} (h : TB H r b) : SB H r b := by
  obtain ⟨c, e, h⟩ := h
  exact ⟨c, e, .inr h⟩
theorem TB.same {H H' : Hp} {r : V} {b : List Int} (h : TB H r b) (s : Same H H') : TB H' r b := by
  obtain ⟨c, e, h⟩ := h
  exact ⟨c, e, s _ _ h⟩
theorem SB.same {H H' : Hp} {r : V} {b : List Int} (h : SB H r b) (s : Same H H') : SB H' r b := by
  obtain ⟨c, e, h⟩ := h
  exact ⟨c, e, h.imp (s _ _) (s _ _)⟩
theorem paired_mono {α β : Type} {F G : α → β → Prop} (f : ∀ a b, F a b → G a b) : ∀ {l : List α} {m : List β}, Paired F l m → Paired G l m
  | _, _, .nil => .nil
  | _, _, .cons h t => .cons (f _ _ h) (paired_mono f t)
theorem paired_len {α β : Type} {F : α → β → Prop} : ∀ {l : List α} {m : List β}, Paired F l m → l.length = m.length
  | _, _, .nil => rfl
  | _, _, .cons _ t => congrArg Nat.succ (paired_len t)
theorem paired_at {α β : Type} {F : α → β → Prop} : ∀ {l : List α} {m : List β} {i : Nat} {x : α}, Paired F l m → l[i]? = some x → ∃ y, m[i]? = some y ∧ F x y
  | _, _, _, _, .nil, e => by cases e
  | _, _, 0, _, .cons h _, e => by
    cases e
    exact ⟨_, rfl, h⟩
  | _, _, i + 1, _, .cons _ t, e => paired_at (i := i) t e
theorem paired_of {α β : Type} {F : α → β → Prop} : ∀ {l : List α} {m : List β} {i : Nat} {y : β}, Paired F l m → m[i]? = some y → ∃ x, l[i]? = some x ∧ F x y
  | _, _, _, _, .nil, e => by cases e
  | _, _, 0, _, .cons h _, e => by
    cases e
    exact ⟨_, rfl, h⟩
  | _, _, i + 1, _, .cons _ t, e => paired_of (i := i) t e
theorem paired_app {α β : Type} {F : α → β → Prop} : ∀ {l l' : List α} {m m' : List β}, Paired F l m → Paired F l' m' → Paired F (l ++ l') (m ++ m')
  | _, _, _, _, .nil, t => t
  | _, _, _, _, .cons h s, t => .cons h (paired_app s t)
theorem paired_take {α β : Type} {F : α → β → Prop} : ∀ (n : Nat) {l : List α} {m : List β}, Paired F l m → Paired F (l.take n) (m.take n)
  | 0, _, _, _ => .nil
  | _ + 1, _, _, .nil => .nil
  | n + 1, _, _, .cons h t => .cons h (paired_take n t)
theorem paired_drop {α β : Type} {F : α → β → Prop} : ∀ (n : Nat) {l : List α} {m : List β}, Paired F l m → Paired F (l.drop n) (m.drop n)
  | 0, _, _, h => h
  | _ + 1, _, _, .nil => .nil
  | n + 1, _, _, .cons _ t => paired_drop n t
theorem dps_ints {K : PySem.W.Frag} {H : Hp} : ∀ b : List Int, DpAll K H (b.map V.int) (b.map PyData.int)
  | [] => .nil
  | i :: b => .cons (.int i) (dps_ints b)
/-- a row of letters -/
def Ltr (p : Int) (n : Nat) (b : List Int) : Prop := b.length = n ∧ ∀ i ∈ b, 0 ≤ i ∧ i < p
structure Good (p : Int) (n : Nat) (bs : List (List Int)) : Prop where
  ne : bs ≠ []
  pos : 0 < n
  le : n ≤ 100
  cnt : bs.length ≤ 100
  all : ∀ b ∈ bs, Ltr p n b
theorem lets_of {p : Int} {n : Nat} {b : List Int} (h : Ltr p n b) : letsD p n (.tuple (b.map PyData.int)) = true ∧ letsD p n (.list (b.map PyData.int)) = true := by
  have e : (decide (((b.map PyData.int).length : Int) = n) && (b.map PyData.int).all (belD p)) = true := by
    rw [List.length_map, h.1, decide_eq_true rfl, Bool.true_and, List.all_map]
    refine List.all_eq_true.mpr fun i hi => ?_
    obtain ⟨h1, h2⟩ := h.2 i hi
    show (decide (0 ≤ i) && decide (i < p)) = true
    rw [decide_eq_true h1, decide_eq_true h2]
    rfl
  exact ⟨e, e⟩
theorem sb_dp {K : PySem.W.Frag} {H : Hp} {r : V} {b : List Int} {p : Int} {n : Nat} (h : SB H r b) (g : Ltr p n b) (hn : n ≤ 100) : ∃ d, Dp K H r d ∧ smallD d ∧ letsD p n d = true ∧ isSeq d = true ∧ ∃ c, r = .ref c ∧ (SqL K H c (b.map V.int) ∨ SqT K H c (b.map V.int)) := by
  obtain ⟨c, rfl, h | h⟩ := h
  · refine ⟨.list (b.map PyData.int), .lst (SqL.of h) (dps_ints b), ?_, (lets_of g).2, rfl, c, rfl, .inl (SqL.of h)⟩
    show (b.map PyData.int).length ≤ 200
    rw [List.length_map, g.1]
    omega
  · refine ⟨.tuple (b.map PyData.int), .tup (SqT.of h) (dps_ints b), ?_, (lets_of g).1, rfl, c, rfl, .inr (SqT.of h)⟩
    show (b.map PyData.int).length ≤ 200
    rw [List.length_map, g.1]
    omega
/-- a walk over a tuple that stands -/
theorem wTup {K : PySem.W.Frag} {a : Addr} {xs : List V} {H0 : Hp} {Qd : Hp → Prop} {B : V → Hp → (Hp → Prop) → Prop} (Pv : Nat → Hp → Prop) (h0 : Pv 0 H0) (hl : ∀ i H, Pv i H → SqT K H a xs)
    (hs : ∀ i x H, xs[i]? = some x → Pv i H → B x H (Pv (i + 1))) (hd : ∀ H, Pv xs.length H → Qd H) :
    ∃ W : Nat → Nat → Hp → Prop, (∃ m, W 0 m H0) ∧ ∀ i m H, W i m H → ((Itt K a).stop i H ∧ Qd H) ∨
      ((Itt K a).go i H ∧ ∃ Nx : Hp → Prop, (∀ H', Nx H' → ∃ m', m' < m ∧ W (i + 1) m' H') ∧ ∀ x H', (Itt K a).yld i H x H' → B x H' Nx) := by
  refine ⟨fun i m H => m + i = xs.length ∧ Pv i H, ⟨xs.length, rfl, h0⟩, fun i m H h => ?_⟩
  obtain ⟨hm, pv⟩ := h
  have q := hl i H pv
  cases m with
  | zero =>
    have e : i = xs.length := by omega
    subst e
    exact .inl ⟨⟨xs, q, Nat.le_refl _⟩, hd H pv⟩
  | succ m =>
    have hi : i < xs.length := by omega
    refine .inr ⟨⟨xs, xs[i], q, List.getElem?_eq_getElem hi⟩, Pv (i + 1), fun H' p' => ⟨m, Nat.lt_succ_self m, by omega, p'⟩, fun x H' y => ?_⟩
    obtain ⟨e, y⟩ := y
    subst e
    exact hs i x _ (y xs q) pv
section
variable {P : Program} {w : World} {K : PySem.W.Frag} {mg : Str → Option Value} {base : Heap} {L : Addr}
abbrev sLO : Stmt := top 20
abbrev sAB : Stmt := top 19
abbrev sLI : Stmt := inClass (top 18) 0
/-- letters_of(books): all books are tuples -/
def spLO (K : PySem.W.Frag) : Sp := fun vs H Q _ => ∃ (a : Addr) (rs : List V) (bs : List (List Int)) (n : Nat), vs = [.ref a] ∧ SqT K H a rs ∧ Paired (TB H) rs bs ∧ bs.length ≤ 100 ∧ (∀ b ∈ bs, b.length = n) ∧ n ≤ 100 ∧
  ∀ r H', Same H H' → H' r = some (.tup (bs.flatten.map V.int)) → Q (.ref r) H'
theorem scLO : FnScope ["books", "book", "letter"] ["books"] (defScope sLO) := ⟨rfl, rfl, rfl, by decide +kernel, rfl, by decide +kernel, by decide +kernel⟩
theorem flat_len : ∀ {bs : List (List Int)} {n : Nat}, (∀ b ∈ bs, b.length = n) → bs.flatten.length = bs.length * n
  | [], n, _ => by simp
  | b :: bs, n, h => by
    rw [List.flatten_cons, List.length_append, h b (List.mem_cons_self ..), flat_len fun c hc => h c (List.mem_cons_of_mem _ hc), List.length_cons, Nat.succ_mul]
    omega
theorem ok_LO {f : Addr} {fd : FuncData} (F : FnS K "letters_of" sLO f fd) (B : Blt3 mg) : FnOk P w K mg base (L2.CX P w) 1 f fd ["books"] (spLO K) := by
  refine F.ok scLO (fun vs H Q E h => ?_) (fun cdv A outer s H vs Q E hr h => ?_)
  · obtain ⟨a, rs, bs, n, rfl, _⟩ := h
    rfl
  · obtain ⟨a, rs, bs, n, rfl, hT, hP, hc, hb, hn, k⟩ := h
    have nd := scLO.nd
    refine ⟨_, (pss_one (ps_ret (pe_callTy call_tuple_of (by rfl) B.tuple (by decide +kernel) (pa_cons (pe_lc2 (wi1 := iTup K (tVar 1)) (own := [("book", 1), ("letter", 2)]) (vs1 := [2]) (g := gName 1) (g1 := gName 2) (by rfl) nd (pi_tup (pv 0)) (blkOk_by (own := [("book", 1), ("letter", 2)]) (N := ["books", "book", "letter"]) (sc := defScope sLO) (by decide +kernel)) (by decide) (fun _ _ _ _ _ => pg_name (i := 1) nd rfl (Or.inl rfl)) (fun _ _ _ _ _ => pts_nil) (fun _ _ _ _ _ => pi_tup (pv 1)) (fun _ _ _ _ _ => pg_name (i := 2) nd rfl (Or.inl rfl)) (fun _ _ _ _ _ => pts_nil) (fun _ _ _ _ _ => pv 2)) pa_nil)))), ?_⟩
    refine ⟨_, rfl, a, rfl, ⟨_, hT⟩, fun D hD => wTup (K := K) (a := a) (xs := rs) (fun i H' => Same H H' ∧ H' D = some (.lst ((bs.take i).flatten.map V.int))) ⟨same_new hD, upd_same⟩ (fun i H' z => sqT_same hT z.1) ?_ ?_⟩
    · rintro i x H1 hi ⟨s1, e⟩
      obtain ⟨b, hbi, c, rfl, ec⟩ := paired_at hP hi
      have hb1 : b.length = n := hb b (List.mem_of_getElem? hbi)
      have hi2 : i < bs.length := (List.getElem?_eq_some_iff.mp hbi).1
      have ect := s1 _ _ ec
      have hcD : c ≠ D := ne_of_none ec hD
      have fl : ∀ j, ((bs.take i).flatten ++ b.take j).length ≤ 100 * 100 := fun j => by
        rw [List.length_append, flat_len (n := n) fun d hd => hb d (List.mem_of_mem_take hd), List.length_take, List.length_take]
        have h1 : min i bs.length * n ≤ 99 * 100 := Nat.mul_le_mul (by omega) hn
        omega
      refine ⟨rfl, _, rfl, c, rfl, ⟨_, SqT.of ect⟩, wTup (K := K) (a := c) (xs := b.map V.int) (fun j H' => Same H H' ∧ H' D = some (.lst (((bs.take i).flatten ++ b.take j).map V.int))) ⟨s1, by rw [e, List.take_zero, List.append_nil]⟩ (fun j H' z => SqT.of (z.1 _ _ ec)) ?_ ?_⟩
      · rintro j x H2 hj ⟨s2, e2⟩
        obtain ⟨z, hz, rfl⟩ : ∃ z, b[j]? = some z ∧ x = V.int z := by
          rw [List.getElem?_map] at hj
          cases q : b[j]? with
          | none => rw [q] at hj; cases hj
          | some z => rw [q] at hj; exact ⟨z, rfl, (Option.some.inj hj).symm⟩
        refine ⟨rfl, _, rfl, _, e2, ?_, fun d o hd => by rw [upd_ne (ne_of_none hd hD)]; exact s2 d o hd, ?_⟩
        · rw [List.length_map]
          have := fl j
          exact Nat.lt_of_le_of_lt this (by decide)
        · rw [upd_same, List.take_succ, hz, ← List.append_assoc, List.map_append (l₂ := (some z).toList)]
          rfl
      · rintro H2 ⟨s2, e2⟩
        refine ⟨s2, ?_⟩
        rw [e2, List.length_map, List.take_length, List.take_succ, hbi]
        simp
    · rintro H1 ⟨s1, e⟩
      rw [paired_len hP, List.take_length] at e
      refine ⟨D, _, rfl, .inl ⟨SqL.of e, fun l hl => k l _ (s1.trans (same_new hl)) upd_same⟩⟩
def rLenS (K : PySem.W.Frag) : List V → Hp → VK → Prop := fun xs H Q => ∃ p ys, xs = [V.ref p] ∧ (SqL K H p ys ∨ SqT K H p ys) ∧ Q (.int ys.length) H
/-- are_books of what are books -/
def spAB (K : PySem.W.Frag) : Sp := fun vs H Q _ => ∃ (p : Int) (a : Addr) (rs : List V) (bs : List (List Int)) (n : Nat), vs = [.int p, .ref a] ∧ (SqL K H a rs ∨ SqT K H a rs) ∧ Paired (SB H) rs bs ∧ Good p n bs ∧ ∀ H', Same H H' → Q (.bl true) H'
theorem scAB : FnScope ["p", "value", "book"] ["p", "value"] (defScope sAB) := ⟨rfl, rfl, rfl, by decide +kernel, rfl, by decide +kernel, by decide +kernel⟩
theorem ok_AB {f f1 f2 : Addr} {fd fd1 fd2 : FuncData} (F : FnS K "are_books" sAB f fd) (B : Blt3 mg) (CS : Cal P w K mg base 1 "is_sequence" f1 fd1 ["value"] (spSeq K)) (CL : Cal P w K mg base 4 "are_letters" f2 fd2 ["p", "count", "value"] (spLets K)) :
    FnOk P w K mg base (L2.CX P w) 5 f fd ["p", "value"] (spAB K) := by
  refine F.ok scAB (fun vs H Q E h => ?_) (fun cdv A outer s H vs Q E hr h => ?_)
  · obtain ⟨p, a, rs, bs, n, rfl, _⟩ := h
    rfl
  · obtain ⟨p, a, rs, bs, n, rfl, hx, hP, g, k⟩ := h
    have nd := scAB.nd
    have hr1 := hr.mono (show 1 ≤ 4 by decide)
    refine ⟨_, (pss_cons (ps_if (PW.pt (pw_or (pt_not (pt_val (pe_cal CS hr1 (pa_cons (pv 1) pa_nil) passU))) (pw_or1 (pt_cmpR op_eq (pe_callB call_len_seq (by rfl) B.len (by decide +kernel) (pa_cons (pv 1) pa_nil)) pe_int (nomark _))))) (pss_one (ps_ret pe_bl)) pss_nil)
      (pss_cons (ps_if (PW.pt (pw_or (pt_not (pt_val (pe_cal CS hr1 (pa_cons (pe_ix ix_seq (pv 1) pe_int (fun _ _ => rfl)) pa_nil) passU))) (pw_or1 (pt_cmpR op_eq (pe_callB call_len_seq (by rfl) B.len (by decide +kernel) (pa_cons (pe_ix ix_seq (pv 1) pe_int (fun _ _ => rfl)) pa_nil)) pe_int (nomark _))))) (pss_one (ps_ret pe_bl)) pss_nil)
      (pss_one (ps_ret (pe_callB (cr_all rfl) (by rfl) B.all (by decide +kernel) (pa_cons (pe_lc (te := tCall (spLets K) [] E0 (tCons (tVar 0) (tCons (tCB (rLenS K) (tCons (tOp (rIx K) (tVar 1) (tC (.int 0))) tNil)) (tCons (tVar 2) tNil)))) (own := [("book", 2)]) (g := gName 2) (by rfl) nd (pi_seq (pv 1)) (blkOk_by (own := [("book", 2)]) (N := ["p", "value", "book"]) (sc := defScope sAB) (by decide +kernel)) (fun _ _ _ _ _ => pg_name (i := 2) nd rfl (Or.inl rfl)) (fun _ _ _ _ _ => pts_nil) (fun _ _ _ _ _ => (pe_cal CL hr (pa_cons (pv 0) (pa_cons (pe_callB call_len_seq (by rfl) B.len (by decide +kernel) (pa_cons (pe_ix ix_seq (pv 1) pe_int (fun _ _ => rfl)) pa_nil)) (pa_cons (pv 2) pa_nil))) passU))) pa_nil)))))), ?_⟩
    obtain ⟨r0, rs', er⟩ : ∃ r0 rs', rs = r0 :: rs' := by
      cases rs with
      | nil =>
        cases hP
        exact absurd rfl g.ne
      | cons r0 rs' => exact ⟨r0, rs', rfl⟩
    have e0 : rs[0]? = some r0 := by rw [er]; rfl
    obtain ⟨b0, hb0, sb0⟩ := paired_at hP e0
    have g0 := g.all b0 (List.mem_of_getElem? hb0)
    have eln := paired_len hP
    have hlen : 0 < rs.length := by rw [er, List.length_cons]; omega
    -- the value is a sequence
    obtain ⟨dv, hdv, sv⟩ : ∃ d, Dp K H (.ref a) d ∧ isSeq d = true := by
      have all : ∀ {rs : List V} {bs : List (List Int)}, Paired (SB H) rs bs → ∃ ds, DpAll K H rs ds := by
        intro rs bs h
        induction h with
        | nil => exact ⟨[], .nil⟩
        | cons h _ ih =>
          obtain ⟨ds, ih⟩ := ih
          obtain ⟨c, rfl, h | h⟩ := h
          · exact ⟨_, .cons (.lst (SqL.of h) (dps_ints _)) ih⟩
          · exact ⟨_, .cons (.tup (SqT.of h) (dps_ints _)) ih⟩
      obtain ⟨ds, hds⟩ := all hP
      rcases hx with h | h
      · exact ⟨.list ds, .lst h hds, rfl⟩
      · exact ⟨.tuple ds, .tup h hds, rfl⟩
    have ixs : ∀ {H' : Hp} {Q' : VK}, Same H H' → Q' r0 H' → rIx K (.ref a) (.int 0) H' Q' := fun {H' Q'} s' q => by
      have ea : atI rs (0 : Int) = some r0 := atI_nat (j := 0) e0
      rcases hx with h | h
      · exact .inl ⟨a, rs, 0, r0, rfl, rfl, sqL_same h s', ea, q⟩
      · exact .inr (.inl ⟨a, rs, 0, r0, rfl, rfl, sqT_same h s', ea, q⟩)
    have hxs : ∀ {H' : Hp}, Same H H' → SqL K H' a rs ∨ SqT K H' a rs := fun s' => hx.imp (fun h => sqL_same h s') fun h => sqT_same h s'
    refine ⟨_, rfl, .ref a, dv, rfl, hdv, fun H1 s1 => ⟨_, rfl, ?_⟩⟩
    rw [sv]
    refine iteF ⟨_, rfl, a, rs, rfl, hxs s1, rfl, _, rfl, iteFb (decide_eq_false fun z => absurd (V.int.inj z) (by omega)) ?_⟩
    obtain ⟨d0, hd0, sm0, l0, q0, c0, ec0, hc0⟩ := sb_dp (K := K) (sb0.same s1) g0 g.le
    refine ⟨_, rfl, ixs s1 ⟨r0, d0, rfl, hd0, fun H2 s2 => ⟨_, rfl, ?_⟩⟩⟩
    rw [q0]
    have s12 := s1.trans s2
    have hc2 : SqL K H2 c0 (b0.map V.int) ∨ SqT K H2 c0 (b0.map V.int) := hc0.imp (fun h => sqL_same h s2) fun h => sqT_same h s2
    have hl0 : (b0.map V.int).length = n := by rw [List.length_map]; exact g0.1
    have hpos := g.pos
    refine iteF ⟨_, rfl, ixs s12 ⟨c0, _, by rw [ec0], hc2, rfl, _, rfl, iteFb (decide_eq_false fun z => absurd (V.int.inj z) (by omega)) ?_⟩⟩
    have turn : ∀ (D : Addr), H2 D = none → ∀ (i : Nat) (y : V) (H3 : Hp), rs[i]? = some y → Same H2 H3 ∧ H3 D = some (.lst ((List.replicate i true).map V.bl)) →
        (tCall (spLets K) [] E0 (tCons (tVar 0) (tCons (tCB (rLenS K) (tCons (tOp (rIx K) (tVar 1) (tC (.int 0))) tNil)) (tCons (tVar 2) tNil)))) [some (.int p), some (.ref a), some y] H3
          fun z H4 => ∃ acc, H4 D = some (.lst acc) ∧ acc.length < sizeLine ∧ Same H2 (upd H4 D (.lst (acc ++ [z]))) ∧ upd H4 D (.lst (acc ++ [z])) D = some (.lst ((List.replicate (i + 1) true).map V.bl)) := by
      rintro D hD i y H3 hi ⟨s3, eD⟩
      obtain ⟨b, hb, sb⟩ := paired_at hP hi
      have gb := g.all b (List.mem_of_getElem? hb)
      have hi2 : i < bs.length := (List.getElem?_eq_some_iff.mp hb).1
      have s13 := s12.trans s3
      obtain ⟨d, hd, sm, ld, _, _, _, _⟩ := sb_dp (K := K) (sb.same s13) gb g.le
      have hc3 : SqL K H3 c0 (b0.map V.int) ∨ SqT K H3 c0 (b0.map V.int) := hc2.imp (fun h => sqL_same h s3) fun h => sqT_same h s3
      refine ⟨_, rfl, _, rfl, ixs s13 ⟨c0, _, by rw [ec0], hc3, ?_⟩⟩
      rw [hl0]
      refine ⟨_, rfl, p, n, y, d, rfl, hd, sm, fun H4 s4 => ?_⟩
      rw [ld]
      refine ⟨_, s4 _ _ eD, ?_, fun c o hc => ?_, ?_⟩
      · rw [List.length_map, List.length_replicate]
        have := g.cnt
        exact small1000 (by omega)
      · rw [upd_ne (ne_of_none hc hD)]
        exact s4 _ _ (s3 _ _ hc)
      · rw [upd_same, List.replicate_succ', List.map_append]
        rfl
    have fin : ∀ (D : Addr) (H3 : Hp), Same H2 H3 → H3 D = some (.lst ((List.replicate rs.length true).map V.bl)) → rAll K [.ref D] H3 Q := fun D H3 s3 eD => by
      refine ⟨D, _, rfl, SqL.of eD, ?_⟩
      have e : (List.replicate rs.length true).all id = true := by
        refine List.all_eq_true.mpr fun x hx => ?_
        rw [List.eq_of_mem_replicate hx]
        rfl
      rw [e]
      exact k H3 (s12.trans s3)
    have st0 : ∀ D, H2 D = none → Same H2 (upd H2 D (.lst [])) ∧ upd H2 D (.lst []) D = some (.lst ((List.replicate 0 true).map V.bl)) := fun D hD => ⟨same_new hD, upd_same⟩
    refine ⟨_, rfl, a, rfl, ?_⟩
    rcases hxs s12 with h | h
    · exact .inl ⟨⟨_, h⟩, fun D hD => lc_list (K := K) (a := a) (xs := rs) (fun i H3 => Same H2 H3 ∧ H3 D = some (.lst ((List.replicate i true).map V.bl))) (st0 D hD) (fun i H3 _ z => sqL_same h z.1)
        (fun i y H3 hi z => ⟨rfl, turn D hD i y H3 hi z⟩) (fun H3 z => fin D H3 z.1 z.2)⟩
    · exact .inr ⟨⟨_, h⟩, fun D hD => lc_tup (K := K) (a := a) (xs := rs) (fun i H3 => Same H2 H3 ∧ H3 D = some (.lst ((List.replicate i true).map V.bl))) (st0 D hD) (fun i H3 _ z => sqT_same h z.1)
        (fun i y H3 hi z => ⟨rfl, turn D hD i y H3 hi z⟩) (fun H3 z => fin D H3 z.1 z.2)⟩
end
end WU

set_option maxRecDepth 100000
set_option maxHeartbeats 8000000
namespace WU
open PySem PySem.Spec PyProof.Rows L2
/-- the attributes of a Library -/
def lf (p : Int) (a : Addr) (nb nl : Int) (tl : Addr) : List (Str × V) :=
  putF "letters" (.ref tl) (putF "book_length" (.int nl) (putF "book_count" (.int nb) (putF "books" (.ref a) (putF "p" (.int p) []))))
theorem lf_p {p : Int} {a : Addr} {nb nl : Int} {tl : Addr} : (lf p a nb nl tl).lookup ("p" : Str) = some (.int p) := by
  unfold lf
  rw [lookup_putF, if_neg (by decide +kernel), lookup_putF, if_neg (by decide +kernel), lookup_putF, if_neg (by decide +kernel), lookup_putF, if_neg (by decide +kernel), lookup_putF, if_pos rfl]
theorem lf_books {p : Int} {a : Addr} {nb nl : Int} {tl : Addr} : (lf p a nb nl tl).lookup ("books" : Str) = some (.ref a) := by
  unfold lf
  rw [lookup_putF, if_neg (by decide +kernel), lookup_putF, if_neg (by decide +kernel), lookup_putF, if_neg (by decide +kernel), lookup_putF, if_pos rfl]
theorem lf_count {p : Int} {a : Addr} {nb nl : Int} {tl : Addr} : (lf p a nb nl tl).lookup ("book_count" : Str) = some (.int nb) := by
  unfold lf
  rw [lookup_putF, if_neg (by decide +kernel), lookup_putF, if_neg (by decide +kernel), lookup_putF, if_pos rfl]
theorem lf_length {p : Int} {a : Addr} {nb nl : Int} {tl : Addr} : (lf p a nb nl tl).lookup ("book_length" : Str) = some (.int nl) := by
  unfold lf
  rw [lookup_putF, if_neg (by decide +kernel), lookup_putF, if_pos rfl]
theorem lf_letters {p : Int} {a : Addr} {nb nl : Int} {tl : Addr} : (lf p a nb nl tl).lookup ("letters" : Str) = some (.ref tl) := by
  unfold lf
  rw [lookup_putF, if_pos rfl]
theorem lf_no {p : Int} {a : Addr} {nb nl : Int} {tl : Addr} {m : Str} (h1 : ¬ m = "letters") (h2 : ¬ m = "book_length") (h3 : ¬ m = "book_count") (h4 : ¬ m = "books") (h5 : ¬ m = "p") : (lf p a nb nl tl).lookup m = none := by
  unfold lf
  rw [lookup_putF, if_neg h1, lookup_putF, if_neg h2, lookup_putF, if_neg h3, lookup_putF, if_neg h4, lookup_putF, if_neg h5]
  rfl
/-- a Library stands at x -/
def LibAt (L : Addr) (H : Hp) (x : Addr) (p : Int) (n : Nat) (bs : List (List Int)) : Prop := ∃ (dx a tl : Addr) (rs : List V), H x = some (.ins L dx (lf p a bs.length n tl)) ∧ H a = some (.tup rs) ∧ Paired (TB H) rs bs ∧ H tl = some (.tup (bs.flatten.map V.int))
theorem LibAt.same {L : Addr} {H H' : Hp} {x : Addr} {p : Int} {n : Nat} {bs : List (List Int)} (h : LibAt L H x p n bs) (s : Same H H') : LibAt L H' x p n bs := by
  obtain ⟨dx, a, tl, rs, h1, h2, h3, h4⟩ := h
  exact ⟨dx, a, tl, rs, s _ _ h1, s _ _ h2, paired_mono (fun _ _ h => h.same s) h3, s _ _ h4⟩
theorem SB.keep {H H' : Hp} {x : Addr} {L dx : Addr} {fs : List (Str × V)} {r : V} {b : List Int} (hx : H x = some (.ins L dx fs)) (h : SB H r b) (k : Keep x H H') : SB H' r b := by
  obtain ⟨c, e, h | h⟩ := h
  · exact ⟨c, e, .inl (k _ _ (ne_of h hx (by intro z; cases z)) h)⟩
  · exact ⟨c, e, .inr (k _ _ (ne_of h hx (by intro z; cases z)) h)⟩
theorem TB.keep {H H' : Hp} {x : Addr} {L dx : Addr} {fs : List (Str × V)} {r : V} {b : List Int} (hx : H x = some (.ins L dx fs)) (h : TB H r b) (k : Keep x H H') : TB H' r b := by
  obtain ⟨c, e, h⟩ := h
  exact ⟨c, e, k _ _ (ne_of h hx (by intro z; cases z)) h⟩
theorem keep_upd {x : Addr} {o : HO} {H : Hp} : Keep x H (upd H x o) := fun b u hb e => by rw [upd_ne hb]; exact e
section
variable {P : Program} {w : World} {K : PySem.W.Frag} {mg : Str → Option Value} {base : Heap} {L : Addr}
/-- what is asked of the class Library, at L -/
structure LibC (K : PySem.W.Frag) (mg : Str → Option Value) (L : Addr) : Prop where
  g : mg "Library" = some (.ref L)
  cl : Cls K L
  nP : NoAttr K L "p"
  nB : NoAttr K L "books"
  nC : NoAttr K L "book_count"
  nL : NoAttr K L "book_length"
  nT : NoAttr K L "letters"
  ha : PySem.W.findIn K (.ref L) "__class__" = some (some (.builtin "object.__class__"))
  hn : PySem.W.specialIn K (.builtin "object.__class__") "__get__" = some (some (.builtin "getset_descriptor.__get__"))
  htk : PySem.W.takesIn K (.builtin "object.__class__") = some true
  hm : PySem.W.mroIn K L (.type "object") = some true
  kS : PySem.W.kitOne K (.ref L) (.ref L) = some true
def rTupOf (K : PySem.W.Frag) : List V → Hp → VK → Prop := fun xs H Q => ∃ p ys, xs = [V.ref p] ∧ ((SqL K H p ys ∧ ∀ l, H l = none → Q (.ref l) (upd H l (.tup ys))) ∨ (SqT K H p ys ∧ Q (.ref p) H))
def spLI (K : PySem.W.Frag) (L : Addr) : Sp := fun vs H Q _ => ∃ (x dx a : Addr) (p : Int) (rs : List V) (bs : List (List Int)) (n : Nat), vs = [.ref x, .int p, .ref a] ∧ H x = some (.ins L dx []) ∧ p ∈ primes ∧ (H a = some (.lst rs) ∨ H a = some (.tup rs)) ∧ Paired (SB H) rs bs ∧ Good p n bs ∧
  ∀ H', LibAt L H' x p n bs → Keep x H H' → Q .non H'
theorem scLI : FnScope ["self", "p", "books", "book"] ["self", "p", "books"] (defScope sLI) := ⟨rfl, rfl, rfl, by decide +kernel, rfl, by decide +kernel, by decide +kernel⟩
theorem ok_LI {f f1 f2 f3 : Addr} {fd fd1 fd2 fd3 : FuncData} (F : FunD K "__init__" "Library.__init__" (defArgs sLI) (defBody sLI) (defScope sLI) [] [] f fd) (B : Blt3 mg) (C : LibC K mg L) (CF : Cal P w K mg base 3 "check_field" f1 fd1 ["p"] (spCheck K))
    (CB : Cal P w K mg base 5 "are_books" f2 fd2 ["p", "value"] (spAB K)) (CO : Cal P w K mg base 1 "letters_of" f3 fd3 ["books"] (spLO K)) : FnOk P w K mg base (L2.CX P w) 6 f fd ["self", "p", "books"] (spLI K L) := by
  refine F.ok scLI (fun vs H Q E h => ?_) (fun cdv A outer s H vs Q E hr h => ?_)
  · obtain ⟨x, dx, a, p, rs, bs, n, rfl, _⟩ := h
    rfl
  · obtain ⟨x, dx, a, p, rs, bs, n, rfl, hx0, hp, hx, hP, g, k⟩ := h
    have nd := scLI.nd
    have hr1 := hr.mono (show 1 ≤ 5 by decide)
    have hr3 := hr.mono (show 3 ≤ 5 by decide)
    refine ⟨_, (pss_cons (ps_expr (pe_cal CF hr3 (pa_cons (pv 1) pa_nil) passU))
      (pss_cons (ps_if (pt_not (pt_val (pe_cal CB hr (pa_cons (pv 1) (pa_cons (pv 2) pa_nil)) passU))) (pss_one ps_never) pss_nil)
      (pss_cons (ps_fld (pv 0) (pv 1) rfl)
      (pss_cons (ps_fld (pv 0) (pe_callTy call_tuple_of (by rfl) B.tuple (by decide +kernel) (pa_cons (pe_lc (te := tCB (rTupOf K) (tCons (tVar 3) tNil)) (own := [("book", 3)]) (g := gName 3) (by rfl) nd (pi_seq (pv 2)) (blkOk_by (own := [("book", 3)]) (N := ["self", "p", "books", "book"]) (sc := defScope sLI) (by decide +kernel)) (fun _ _ _ _ _ => pg_name (i := 3) nd rfl (Or.inl rfl)) (fun _ _ _ _ _ => pts_nil) (fun _ _ _ _ _ => (pe_callTy call_tuple_of (by rfl) B.tuple (by decide +kernel) (pa_cons (pv 3) pa_nil)))) pa_nil)) rfl)
      (pss_cons (ps_fld (pv 0) (pe_callB call_len_seq (by rfl) B.len (by decide +kernel) (pa_cons (pe_fld (pv 0) rfl) pa_nil)) rfl)
      (pss_cons (ps_fld (pv 0) (pe_callB call_len_seq (by rfl) B.len (by decide +kernel) (pa_cons (pe_ix ix_tup (pe_fld (pv 0) rfl) pe_int (fun _ _ => rfl)) pa_nil)) rfl)
      (pss_one (ps_fld (pv 0) (pe_cal CO hr1 (pa_cons (pe_fld (pv 0) rfl) pa_nil) passU) rfl)))))))), ?_⟩
    refine ⟨_, rfl, .int p, rfl, ty3_int p, fun _ => ⟨_, rfl, _, rfl, p, a, rs, bs, n, rfl, hx.imp SqL.of SqT.of, hP, g, fun H1 s1 => ⟨_, rfl, iteF ?_⟩⟩, fun e => by rw [mem_fld hp] at e; cases e⟩
    have hx1 := s1 _ _ hx0
    refine ⟨_, rfl, _, rfl, x, L, dx, [], rfl, hx1, C.cl, C.nP, (by show 0 < 1000; decide), ?_⟩
    generalize h2 : upd H1 x (.ins L dx (putF "p" (.int p) [])) = H2
    have k2 : Keep x H1 H2 := by rw [← h2]; exact keep_upd
    have e2 : H2 x = some (.ins L dx (putF "p" (.int p) [])) := by rw [← h2]; exact upd_same
    have nax : a ≠ x := by
      rcases hx with h | h
      · exact ne_of h hx0 (by intro z; cases z)
      · exact ne_of h hx0 (by intro z; cases z)
    have ha2 : H2 a = some (.lst rs) ∨ H2 a = some (.tup rs) := hx.imp (fun h => k2 _ _ nax (s1 _ _ h)) fun h => k2 _ _ nax (s1 _ _ h)
    have hP2 : Paired (SB H2) rs bs := paired_mono (fun _ _ h => (h.same s1).keep hx1 k2) hP
    have cnt := g.cnt
    have turn : ∀ (D : Addr), H2 D = none → ∀ (i : Nat) (y : V) (H3 : Hp), rs[i]? = some y → (Same H2 H3 ∧ ∃ ts, H3 D = some (.lst ts) ∧ Paired (TB H3) ts (bs.take i)) →
        (tCB (rTupOf K) (tCons (tVar 3) tNil)) [some (.ref x), some (.int p), some (.ref a), some y] H3
          fun z H4 => ∃ acc, H4 D = some (.lst acc) ∧ acc.length < sizeLine ∧ Same H2 (upd H4 D (.lst (acc ++ [z]))) ∧ ∃ ts, upd H4 D (.lst (acc ++ [z])) D = some (.lst ts) ∧ Paired (TB (upd H4 D (.lst (acc ++ [z])))) ts (bs.take (i + 1)) := by
      rintro D hD i y H3 hi ⟨s3, ts, eD, hts⟩
      obtain ⟨b, hb, sb⟩ := paired_at hP2 hi
      have hi2 : i < bs.length := (List.getElem?_eq_some_iff.mp hb).1
      have tl : ts.length < sizeLine := by
        rw [paired_len hts, List.length_take]
        exact small1000 (by omega)
      have et : bs.take (i + 1) = bs.take i ++ [b] := by rw [List.take_succ, hb]; rfl
      have tbD : ∀ {H' : Hp} {o : HO} {r : V} {b : List Int} {ts0 : List V}, H' D = some (.lst ts0) → TB H' r b → TB (upd H' D o) r b := fun hl h => by
        obtain ⟨c, e, h⟩ := h
        exact ⟨c, e, by rw [upd_ne (ne_of h hl (by intro z; cases z))]; exact h⟩
      obtain ⟨c, rfl, h | h⟩ := sb.same s3
      · refine ⟨_, rfl, c, _, rfl, .inl ⟨SqL.of h, fun l hl => ?_⟩⟩
        have eD4 : upd H3 l (.tup (b.map V.int)) D = some (.lst ts) := by rw [upd_ne (ne_of_none eD hl)]; exact eD
        refine ⟨_, eD4, tl, fun d o hd => ?_, ts ++ [.ref l], upd_same, ?_⟩
        · rw [upd_ne (ne_of_none hd hD), upd_ne (ne_of_none (s3 _ _ hd) hl)]
          exact s3 _ _ hd
        · rw [et]
          exact paired_app (paired_mono (fun _ _ q => tbD eD4 (q.same (same_new hl))) hts) (.cons (tbD eD4 ⟨l, rfl, upd_same⟩) .nil)
      · refine ⟨_, rfl, c, _, rfl, .inr ⟨SqT.of h, ?_⟩⟩
        refine ⟨_, eD, tl, fun d o hd => ?_, ts ++ [.ref c], upd_same, ?_⟩
        · rw [upd_ne (ne_of_none hd hD)]
          exact s3 _ _ hd
        · rw [et]
          exact paired_app (paired_mono (fun _ _ q => tbD eD q) hts) (.cons (tbD eD ⟨c, rfl, h⟩) .nil)
    have st0 : ∀ D, H2 D = none → Same H2 (upd H2 D (.lst [])) ∧ ∃ ts, upd H2 D (.lst []) D = some (.lst ts) ∧ Paired (TB (upd H2 D (.lst []))) ts (bs.take 0) := fun D hD => ⟨same_new hD, [], upd_same, .nil⟩
    have eln := paired_len hP
    refine ⟨_, rfl, a, rfl, ?_⟩
    rcases ha2 with h | h
    refine .inl ⟨⟨_, SqL.of h⟩, fun D hD => lc_list (K := K) (a := a) (xs := rs) (fun i H3 => Same H2 H3 ∧ ∃ ts, H3 D = some (.lst ts) ∧ Paired (TB H3) ts (bs.take i)) (st0 D hD) (fun i H3 _ z => SqL.of (z.1 _ _ h))
        (fun i y H3 hi z => ⟨rfl, turn D hD i y H3 hi z⟩) ?_⟩
    rotate_left
    refine .inr ⟨⟨_, SqT.of h⟩, fun D hD => lc_tup (K := K) (a := a) (xs := rs) (fun i H3 => Same H2 H3 ∧ ∃ ts, H3 D = some (.lst ts) ∧ Paired (TB H3) ts (bs.take i)) (st0 D hD) (fun i H3 _ z => SqT.of (z.1 _ _ h))
        (fun i y H3 hi z => ⟨rfl, turn D hD i y H3 hi z⟩) ?_⟩
    all_goals
      rintro H3 ⟨s3, ts, eD, hts⟩
      rw [eln, List.take_length] at hts
      refine ⟨D, ts, rfl, .inl ⟨SqL.of eD, fun T hT => ?_⟩⟩
      have e3 := s3 _ _ e2
      have eT4 : upd H3 T (.tup ts) T = some (.tup ts) := upd_same
      have e4 : upd H3 T (.tup ts) x = some (.ins L dx (putF "p" (.int p) [])) := same_new hT _ _ e3
      have hts4 : Paired (TB (upd H3 T (.tup ts))) ts bs := paired_mono (fun _ _ q => q.same (same_new hT)) hts
      have k4 : Keep x H2 (upd H3 T (.tup ts)) := Keep.of (s3.trans (same_new hT))
      generalize h4 : upd H3 T (.tup ts) = H4 at eT4 e4 hts4 k4 ⊢
      have nTx : T ≠ x := ne_of eT4 e4 (by intro z; cases z)
      refine ⟨_, rfl, x, L, dx, _, rfl, e4, C.cl, C.nB, (by show 1 < 1000; decide), ?_⟩
      have k5 : Keep x H4 (upd H4 x (.ins L dx (putF "books" (.ref T) (putF "p" (.int p) [])))) := keep_upd
      have e5 : upd H4 x (.ins L dx (putF "books" (.ref T) (putF "p" (.int p) []))) x = some (.ins L dx (putF "books" (.ref T) (putF "p" (.int p) []))) := upd_same
      generalize upd H4 x (.ins L dx (putF "books" (.ref T) (putF "p" (.int p) []))) = H5 at k5 e5 ⊢
      have eT5 := k5 _ _ nTx eT4
      have lb5 : (putF "books" (.ref T) (putF "p" (.int p) []) : List (Str × V)).lookup ("books" : Str) = some (.ref T) := by rw [lookup_putF, if_pos rfl]
      refine ⟨_, rfl, x, L, dx, _, _, rfl, e5, C.cl, C.nB, lb5, T, ts, rfl, .inr (SqT.of eT5), _, rfl, x, L, dx, _, rfl, e5, C.cl, C.nC, (by show 2 < 1000; decide), ?_⟩
      rw [paired_len hts4]
      have k6 : Keep x H5 (upd H5 x (.ins L dx (putF "book_count" (.int (bs.length : Int)) (putF "books" (.ref T) (putF "p" (.int p) []))))) := keep_upd
      have e6 : upd H5 x (.ins L dx (putF "book_count" (.int (bs.length : Int)) (putF "books" (.ref T) (putF "p" (.int p) [])))) x = some (.ins L dx (putF "book_count" (.int (bs.length : Int)) (putF "books" (.ref T) (putF "p" (.int p) [])))) := upd_same
      generalize upd H5 x (.ins L dx (putF "book_count" (.int (bs.length : Int)) (putF "books" (.ref T) (putF "p" (.int p) [])))) = H6 at k6 e6 ⊢
      have eT6 := k6 _ _ nTx eT5
      have lb6 : (putF "book_count" (.int (bs.length : Int)) (putF "books" (.ref T) (putF "p" (.int p) [])) : List (Str × V)).lookup ("books" : Str) = some (.ref T) := by rw [lookup_putF, if_neg (by decide +kernel), lb5]
      have k46 : Keep x H4 H6 := k5.trans k6
      have hts6 : Paired (TB H6) ts bs := paired_mono (fun _ _ q => q.keep e4 k46) hts4
      obtain ⟨b0, hb0⟩ : ∃ b0, bs[0]? = some b0 := by
        cases e : bs with
        | nil => exact absurd e g.ne
        | cons b0 _ => exact ⟨b0, rfl⟩
      obtain ⟨r0, hr0, c0, er0, ec0⟩ := paired_of hts6 hb0
      have g0 := g.all b0 (List.mem_of_getElem? hb0)
      refine ⟨_, rfl, x, L, dx, _, _, rfl, e6, C.cl, C.nB, lb6, T, ts, 0, r0, rfl, rfl, SqT.of eT6, atI_nat (j := 0) hr0, c0, _, by rw [er0], .inr (SqT.of ec0), _, rfl, x, L, dx, _, rfl, e6, C.cl, C.nL, (by show 3 < 1000; decide), ?_⟩
      rw [List.length_map, g0.1]
      have k7 : Keep x H6 (upd H6 x (.ins L dx (putF "book_length" (.int (n : Int)) (putF "book_count" (.int (bs.length : Int)) (putF "books" (.ref T) (putF "p" (.int p) [])))))) := keep_upd
      have e7 : upd H6 x (.ins L dx (putF "book_length" (.int (n : Int)) (putF "book_count" (.int (bs.length : Int)) (putF "books" (.ref T) (putF "p" (.int p) []))))) x = some (.ins L dx (putF "book_length" (.int (n : Int)) (putF "book_count" (.int (bs.length : Int)) (putF "books" (.ref T) (putF "p" (.int p) []))))) := upd_same
      generalize upd H6 x (.ins L dx (putF "book_length" (.int (n : Int)) (putF "book_count" (.int (bs.length : Int)) (putF "books" (.ref T) (putF "p" (.int p) []))))) = H7 at k7 e7 ⊢
      have eT7 := k7 _ _ nTx eT6
      have hts7 : Paired (TB H7) ts bs := paired_mono (fun _ _ q => q.keep e6 k7) hts6
      have lb7 : (putF "book_length" (.int (n : Int)) (putF "book_count" (.int (bs.length : Int)) (putF "books" (.ref T) (putF "p" (.int p) []))) : List (Str × V)).lookup ("books" : Str) = some (.ref T) := by rw [lookup_putF, if_neg (by decide +kernel), lb6]
      refine ⟨_, rfl, x, L, dx, _, _, rfl, e7, C.cl, C.nB, lb7, T, ts, bs, n, rfl, SqT.of eT7, hts7, cnt, fun b hb => (g.all b hb).1, g.le, fun tl H8 s8 etl => ?_⟩
      have e8 := s8 _ _ e7
      have ntx : tl ≠ x := ne_of etl e8 (by intro z; cases z)
      refine ⟨_, rfl, x, L, dx, _, rfl, e8, C.cl, C.nT, (by show 4 < 1000; decide), ?_⟩
      have k9 : Keep x H8 (upd H8 x (.ins L dx (lf p T bs.length n tl))) := keep_upd
      refine k _ ⟨dx, T, tl, ts, upd_same, ?_, ?_, ?_⟩ ?_
      · exact k9 _ _ nTx (s8 _ _ eT7)
      · exact paired_mono (fun _ _ q => (q.same s8).keep e8 k9) hts7
      · exact k9 _ _ ntx etl
      · exact (Keep.of s1).trans (k2.trans (k4.trans (k46.trans (k7.trans ((Keep.of s8).trans k9)))))
end
end WU

set_option maxRecDepth 100000
set_option maxHeartbeats 8000000
namespace WU
open PySem PySem.Spec PyProof.Rows L2
section
variable {P : Program} {w : World} {K : PySem.W.Frag} {mg : Str → Option Value} {base : Heap} {L : Addr}
abbrev sCh : Stmt := inClass (top 18) 3
abbrev sCB : Stmt := inClass (top 18) 5
theorem scCB : FnScope ["self", "k"] ["self", "k"] (defScope sCB) := ⟨rfl, rfl, rfl, by decide +kernel, rfl, by decide +kernel, by decide +kernel⟩
theorem scCh : FnScope ["self", "k", "book"] ["self", "k", "book"] (defScope sCh) := ⟨rfl, rfl, rfl, by decide +kernel, rfl, by decide +kernel, by decide +kernel⟩
def spCB (K : PySem.W.Frag) (L : Addr) : Sp := fun vs H Q E => ∃ (x : Addr) (v : V) (p : Int) (n : Nat) (bs : List (List Int)), vs = [.ref x, v] ∧ LibAt L H x p n bs ∧ Ty3 K H v ∧ (isBel bs.length v = true → Q .non H) ∧ (isBel bs.length v = false → Errs (He.ga K "InvalidNumber") "value" v H E)
theorem ok_CB {f f1 : Addr} {fd fd1 fdI : FuncData} (F : FunD K "_check_book" "Library._check_book" (defArgs sCB) (defBody sCB) (defScope sCB) [] [] f fd) (C : LibC K mg L) (CB : Cal P w K mg base 3 "is_below" f1 fd1 ["value", "limit"] (spIsBel K)) (T : Exc1 K mg "InvalidNumber" "value")
    (FI : FnOk P w K mg base (L2.CX P w) 1 (He.ma K (He.ga K "InvalidNumber") "__init__") fdI ["self", "value"] (spInit1 K (He.ga K "InvalidNumber") "value")) (bI : Binds K fdI ["self", "value"] []) :
    FnOk P w K mg base (L2.CX P w) 4 f fd ["self", "k"] (spCB K L) := by
  refine F.ok scCB (fun vs H Q E h => ?_) (fun cdv A outer s H vs Q E hr h => ?_)
  · obtain ⟨x, v, p, n, bs, rfl, _⟩ := h
    rfl
  · obtain ⟨x, v, p, n, bs, rfl, ⟨dx, a, tl, rs, h1, h2, h3, h4⟩, hv, kY, kN⟩ := h
    have hr2 := hr.mono (show 2 ≤ 3 by decide)
    refine ⟨_, (pss_one (ps_if (pt_not (pt_val (pe_cal CB hr (pa_cons (pv 1) (pa_cons (pe_fld (pv 0) rfl) pa_nil)) passU))) (pss_one (ps_raise1 rfl (takes_of rfl rfl rfl rfl) T FI bI hr2 (pa_cons (pv 1) pa_nil))) pss_nil)), ?_⟩
    refine ⟨_, rfl, _, rfl, x, L, dx, _, _, rfl, h1, C.cl, C.nC, lf_count, v, _, rfl, hv, _, rfl, ?_⟩
    cases e : isBel bs.length v with
    | true => exact iteF (kY e)
    | false => exact iteT ⟨_, rfl, v, rfl, kN e⟩
/-- where a new book is put in the place of book k -/
theorem set_cut (bs : List (List Int)) {k : Nat} (hk : k < bs.length) (b : List Int) : bs.take k ++ ([b] ++ bs.drop (k + 1)) = bs.set k b := by
  rw [List.set_eq_take_append_cons_drop, if_pos hk]
  rfl
theorem good_set {p : Int} {n : Nat} {bs : List (List Int)} (g : Good p n bs) {k : Nat} {b : List Int} (hb : Ltr p n b) : Good p n (bs.set k b) := by
  refine ⟨fun z => g.ne (by rw [List.set_eq_nil_iff] at z; exact z), g.pos, g.le, by rw [List.length_set]; exact g.cnt, fun c hc => ?_⟩
  rcases List.mem_or_eq_of_mem_set hc with h | h
  · exact g.all c h
  · rw [h]
    exact hb
theorem slA_is {H : Hp} {a : Addr} {xs : List V} {lo hi : Option Int} {Q : VK} (h : H a = some (.tup xs)) (k : ∀ r H', Same H H' → H' r = some (.tup (cutV xs lo hi)) → Q (.ref r) H') : rSlA K (.ref a) lo hi H Q := by
  refine ⟨a, xs, rfl, SqT.of h, fun hw => ?_, fun _ r hr => k r _ (same_new hr) upd_same⟩
  have e : cutV xs lo hi = xs := by
    unfold cutV
    rw [hw.1, hw.2, List.drop_zero, Nat.sub_zero, List.take_length]
  exact k a H (Same.refl H) (by rw [e]; exact h)
theorem cut_to {xs : List V} {k : Nat} (hk : k ≤ xs.length) : cutV xs none (some (k : Int)) = xs.take k := by
  unfold cutV
  rw [HT.sIx_none, HT.sIx_nat, List.drop_zero, Nat.sub_zero, Nat.min_eq_left hk]
theorem cut_from {xs : List V} {k : Nat} (hk : k ≤ xs.length) : cutV xs (some (k : Int)) none = xs.drop k := by
  unfold cutV
  rw [HT.sIx_none, HT.sIx_nat, Nat.min_eq_left hk]
  exact List.take_of_length_le (by rw [List.length_drop]; omega)
/-- library.changed(k, book) -/
def spCh (K : PySem.W.Frag) (L : Addr) : Sp := fun vs H Q E => ∃ (x : Addr) (kv bv : V) (bd : PyData) (p : Int) (n : Nat) (bs : List (List Int)), vs = [.ref x, kv, bv] ∧ LibAt L H x p n bs ∧ Ty3 K H kv ∧ Dp K H bv bd ∧ smallD bd ∧ (letsD p n bd = true → ∃ b, SB H bv b ∧ Ltr p n b) ∧ p ∈ primes ∧ Good p n bs ∧
  (isBel bs.length kv = false → Errs (He.ga K "InvalidNumber") "value" kv H E) ∧ (isBel bs.length kv = true → letsD p n bd = false → Errs (He.ga K "InvalidLibrary") "value" bv H E) ∧
  ∀ (k : Nat) (b : List Int), kv = .int k → k < bs.length → SB H bv b → Ltr p n b → ∀ y H', Same H H' → LibAt L H' y p n (bs.set k b) → Q (.ref y) H'
theorem errs_same {C : Addr} {f : Str} {v : V} {H H' : Hp} {E : XK} (h : Errs C f v H E) (s : Same H H') : Errs C f v H' E := fun d H2 s2 n hd => h d H2 (s.trans s2) (s.free n) hd
theorem ok_Ch {f f1 fC fL : Addr} {fd fd1 fdC fdL fdE : FuncData} (F : FunD K "changed" "Library.changed" (defArgs sCh) (defBody sCh) (defScope sCh) [] [] f fd) (C : LibC K mg L) (CL : Cal P w K mg base 4 "are_letters" f1 fd1 ["p", "count", "value"] (spLets K))
    (mC : Meth K L "_check_book" fC) (GC : FnOk P w K mg base (L2.CX P w) 4 fC fdC ["self", "k"] (spCB K L)) (bC : Binds K fdC ["self", "k"] []) (TL : Exc1 K mg "InvalidLibrary" "value")
    (FL : FnOk P w K mg base (L2.CX P w) 1 (He.ma K (He.ga K "InvalidLibrary") "__init__") fdE ["self", "value"] (spInit1 K (He.ga K "InvalidLibrary") "value")) (bL : Binds K fdE ["self", "value"] [])
    (MK : Mk K L fL) (GI : FnOk P w K mg base (L2.CX P w) 6 fL fdL ["self", "p", "books"] (spLI K L)) (bI2 : Binds K fdL ["self", "p", "books"] []) :
    FnOk P w K mg base (L2.CX P w) 8 f fd ["self", "k", "book"] (spCh K L) := by
  refine F.ok scCh (fun vs H Q E h => ?_) (fun cdv A outer s H vs Q E hr h => ?_)
  · obtain ⟨x, kv, bv, bd, p, n, bs, rfl, _⟩ := h
    rfl
  · obtain ⟨x, kv, bv, bd, p, n, bs, rfl, hL, hk, hb, hz, hsb, hp, g, kN, kL, kk⟩ := h
    have hr4 := hr.mono (show 4 ≤ 7 by decide)
    have hr2 := hr.mono (show 2 ≤ 7 by decide)
    refine ⟨_, (pss_cons (ps_expr (pe_meth (E := E) (pv 0) C.cl mC GC hr4 bC .nil (passes_call (takes_of rfl rfl rfl rfl) (fun _ _ _ _ h => h)) (pa_cons (pv 1) pa_nil)))
      (pss_cons (ps_if (pt_not (pt_val (pe_cal CL hr4 (pa_cons (pe_fld (pv 0) rfl) (pa_cons (pe_fld (pv 0) rfl) (pa_cons (pv 2) pa_nil))) passU))) (pss_one (ps_raise1 rfl (takes_of rfl rfl rfl rfl) TL FL bL hr2 (pa_cons (pv 2) pa_nil))) pss_nil)
      (pss_one (ps_ret (pe_make MK GI hr (by rfl) C.g bI2 .nil passU (pa_cons (pe_fld (pv 0) rfl) (pa_cons (pe_lst (StX.pa_star (pe_slice sl_tupA (pe_fld (pv 0) rfl) po_none (po_some (pv 1))) (pa_cons (pv 2) (StX.pa_star (pe_slice sl_tupA (pe_fld (pv 0) rfl) (po_some (pe_op op_add (pv 1) pe_int)) po_none) pa_nil)))) pa_nil))))))), ?_⟩
    obtain ⟨dx, a, tl, rs, h1, h2, h3, h4⟩ := id hL
    refine ⟨_, rfl, x, dx, _, rfl, h1, lf_no (by decide +kernel) (by decide +kernel) (by decide +kernel) (by decide +kernel) (by decide +kernel), _, rfl, x, kv, p, n, bs, rfl, hL, hk, fun eb => ?_, kN⟩
    refine ⟨_, rfl, x, L, dx, _, _, rfl, h1, C.cl, C.nP, lf_p, _, rfl, x, L, dx, _, _, rfl, h1, C.cl, C.nL, lf_length, _, rfl, p, n, bv, bd, rfl, hb, hz, fun H1 s1 => ⟨_, rfl, ?_⟩⟩
    cases el : letsD p n bd with
    | false => exact iteT ⟨_, rfl, bv, rfl, errs_same (kL eb el) s1⟩
    | true =>
      refine iteF ?_
      obtain ⟨k, b, rfl, hk0, hsb, hlt⟩ : ∃ (k : Nat) (b : List Int), kv = .int k ∧ k < bs.length ∧ SB H bv b ∧ Ltr p n b := by
        cases kv with
        | int i =>
          have eb' : (decide (0 ≤ i) && decide (i < (bs.length : Int))) = true := eb
          obtain ⟨e0, e1⟩ := and2 eb'
          have i0 := of_decide_eq_true e0
          have i1 := of_decide_eq_true e1
          obtain ⟨b, hb1, hb2⟩ := hsb el
          exact ⟨i.toNat, b, by rw [show ((i.toNat : Nat) : Int) = i by omega], by omega, hb1, hb2⟩
        | _ => cases eb
      have h11 := s1 _ _ h1
      refine ⟨_, rfl, x, L, dx, _, _, rfl, h11, C.cl, C.nP, lf_p, _, rfl, x, L, dx, _, _, rfl, h11, C.cl, C.nB, lf_books, ?_⟩
      have h21 := s1 _ _ h2
      have hP1 : Paired (SB H1) rs bs := paired_mono (fun _ _ q => (q.same s1).sb) h3
      have el2 := paired_len h3
      refine ⟨_, rfl, (k : Int), rfl, ?_⟩
      refine slA_is h21 fun r1 H2 s2 e1 => ?_
      rw [cut_to (by omega)] at e1
      have h22 := s2 _ _ h21
      refine ⟨r1, rs.take k, rfl, .inl (SqT.of e1), ?_⟩
      refine ⟨_, rfl, _, rfl, x, L, dx, _, _, rfl, s2 _ _ h11, C.cl, C.nB, lf_books, ?_⟩
      refine ⟨_, rfl, (k : Int), 1, rfl, rfl, _, rfl, ?_⟩
      dsimp only [tNoPart]
      refine slA_is h22 fun r2 H3 s3 e2 => ?_
      rw [show ((k : Int) + 1) = ((k + 1 : Nat) : Int) from rfl, cut_from (by omega)] at e2
      refine ⟨r2, rs.drop (k + 1), rfl, .inl (SqT.of e2), ?_⟩
      have s23 := s2.trans s3
      have hP3 : Paired (SB H3) rs bs := paired_mono (fun _ _ q => q.same s23) hP1
      have hI : Paired (SB H3) (rs.take k ++ ([bv] ++ rs.drop (k + 1))) (bs.set k b) := by
        rw [← set_cut bs hk0 b]
        exact paired_app (paired_take k hP3) (paired_app (.cons ((hsb.same s1).same s23) .nil) (paired_drop (k + 1) hP3))
      have g2 := good_set g (k := k) hlt
      have el3 := paired_len hI
      rw [List.length_set] at el3
      have eI : rs.take k ++ bv :: (rs.drop (k + 1) ++ []) = rs.take k ++ ([bv] ++ rs.drop (k + 1)) := by rw [List.append_nil]; rfl
      refine ⟨?_, fun Z hZ y dy hy hdy hne => ?_⟩
      · rw [eI]
        exact Nat.le_of_lt (small1000 (by have := g.cnt; omega))
      · rw [eI] at hy hdy ⊢
        have eZ : upd H3 Z (.lst (rs.take k ++ ([bv] ++ rs.drop (k + 1)))) Z = some (.lst (rs.take k ++ ([bv] ++ rs.drop (k + 1)))) := upd_same
        have s4 := same_new (o := .lst (rs.take k ++ ([bv] ++ rs.drop (k + 1)))) hZ
        generalize upd H3 Z (.lst (rs.take k ++ ([bv] ++ rs.drop (k + 1)))) = H4 at hy hdy eZ s4 ⊢
        have s5 : Same H4 (upd H4 dy (.own y)) := same_new hdy
        have ey5 : upd H4 dy (.own y) y = none := by rw [upd_ne (Ne.symm hne)]; exact hy
        generalize upd H4 dy (.own y) = H5 at s5 ey5 ⊢
        have s6 := same_new (o := .ins L dy []) ey5
        have e6 : upd H5 y (.ins L dy []) y = some (.ins L dy []) := upd_same
        generalize upd H5 y (.ins L dy []) = H6 at s6 e6 ⊢
        have s46 := s5.trans s6
        refine ⟨y, dy, Z, p, _, bs.set k b, n, rfl, e6, hp, .inl (s46 _ _ eZ), paired_mono (fun _ _ q => (q.same s4).same s46) hI, g2, fun H7 hL7 k7 => ⟨rfl, ?_⟩⟩
        have s0 : Same H H4 := ((s1.trans s23).trans s4)
        refine kk k b rfl hk0 hsb hlt y H7 (fun d o hd => ?_) hL7
        exact k7 _ _ (ne_of_none (s0 _ _ hd) hy) (s46 _ _ (s0 _ _ hd))
end
end WU

set_option maxRecDepth 100000
set_option maxHeartbeats 8000000
/-! method calls: with defaults where the wish depends on the slots; with keywords alone -/
namespace WU
open PySem PySem.Spec PyProof.Rows L2
def tMethSD (C : Addr) (m : Str) (sp : Sp) (dvs : List V) (E : L2.St → XK) (ta : TE) (t : TA) : TE := fun σ H Q => ta σ H fun x H1 => ∃ a dx fs, x = .ref a ∧ H1 a = some (.ins C dx fs) ∧ fs.lookup m = none ∧ t σ H1 fun vs H2 => sp (x :: (vs ++ dvs)) H2 Q (E σ)
def tMethK (C : Addr) (m : Str) (n : Nat) (sp : Sp) (gV : List V → List V → List V) (E : XK) (ta : TE) (tk : TA) : TE := fun σ H Q => ta σ H fun x H1 => ∃ a dx fs, x = .ref a ∧ H1 a = some (.ins C dx fs) ∧ fs.lookup m = none ∧ tk σ H1 fun zs H2 => zs.length = n ∧ sp (gV [x] zs) H2 Q E
section
variable {X : Cx} {CX : CXT} {k : Nat} {f C : Addr} {fd : FuncData} {ps ks : List Str} {sp : Sp} {dvs : List V} {ds : List Value} {x m : Str} {p pos apos : Pos} {e o : Expr} {es : List Expr} {ta : TE} {t tk : TA} {kws : List Keyword} {g : List Value → List Value → List Value} {gV : List V → List V → List V}
theorem pe_methSD {pl : Sem Bool} {E : L2.St → XK} (he : PE X o ta) (c : Cls X.K C) (hm : Meth X.K C m f) (F : FnOk X.prog X.w X.K X.mg X.base CX k f fd ps sp) (hr : Room k X.A) (hb : L2.Binds X.K fd ps ds) (hd : Vals dvs ds) (hx : ∀ σ, PassesAt CX X σ (E σ)) (ha : PA X (e :: es) t)
    (hst : starEach (e :: es) X.env = (false, eval e X.env) :: starEach es X.env := by rfl) (hpl : (backTo pos (starEach es X.env)).any (·.1) = false := by rfl)
    (ht : eval (.Call (.Attribute o m apos) (e :: es) [] pos) X.env = (do
      let ov ← eval o X.env
      standAt apos.atName
      let (f, first) ← holding [ov] (getMethod ov m pl)
      callWith pos f first (backTo pos (starEach (e :: es) X.env)) (backToKw pos (keywordEach [] X.env))) := by rfl) :
    PE X (.Call (.Attribute o m apos) (e :: es) [] pos) (tMethSD C m sp dvs E ta t) := by
  refine ⟨fun pins s σ H Q I h => ?_⟩
  refine PySem.W.methodCall_KW (pl := pl) (thn (he.run pins s σ H _ I h) fun u s1 ⟨x, H1, I1, rx, a, dx, fs, ex, ea, l, q⟩ => ?_) ht
  subst ex
  obtain rfl : u = Value.ref a := rx
  refine getmeth_ok I1 ea c hm l ?_
  refine PySem.W.callWith_K (first := [.ref a]) (h₀ := X.base) I.ok.mod.kin hm.kp (thn (ha.run pos pins s1 σ H1 _ I1 q) fun us s2 ⟨vs, H2, I2, r, q2⟩ => ⟨I2.kIn, ?_⟩) hst hpl
  exact run_fnSD (us := .ref a :: us) (vs := .ref a :: vs) F hr hb hd (hx σ) I2 (.cons rfl r) q2
theorem pe_methK {pl : Sem Bool} {E : XK} (he : PE X o ta) (c : Cls X.K C) (hm : Meth X.K C m f) (F : FnOk X.prog X.w X.K X.mg X.base CX k f fd ps sp) (hr : Room k X.A) (hb : KBn X.K fd ps 1 ks g gV) (hx : Passes CX X E) (hkw : PK X kws tk)
    (hall : (backToKw pos (keywordEach kws X.env)).all (·.1.isSome) = true := by rfl) (hks : (backToKw pos (keywordEach kws X.env)).filterMap (·.1) = ks := by rfl)
    (hpl : ((backTo pos (starEach [] X.env)).any (·.1) || (backToKw pos (keywordEach kws X.env)).any (·.1.isNone)) = false := by rfl)
    (ht : eval (.Call (.Attribute o m apos) [] kws pos) X.env = (do
      let ov ← eval o X.env
      standAt apos.atName
      let (f, first) ← holding [ov] (getMethod ov m pl)
      callWith pos f first (backTo pos (starEach [] X.env)) (backToKw pos (keywordEach kws X.env))) := by rfl) :
    PE X (.Call (.Attribute o m apos) [] kws pos) (tMethK C m ks.length sp gV E ta tk) := by
  refine ⟨fun pins s σ H Q I h => ?_⟩
  refine PySem.W.methodCall_KW (pl := pl) (thn (he.run pins s σ H _ I h) fun u s1 ⟨x, H1, I1, rx, a, dx, fs, ex, ea, l, q⟩ => ?_) ht
  subst ex
  obtain rfl : u = Value.ref a := rx
  refine getmeth_ok I1 ea c hm l ?_
  refine PySem.W.callWith_KW0 (first := [.ref a]) (h₀ := X.base) I.ok.mod.kin hm.kp hall ?_ hpl
  refine thn (hkw.run pos pins s1 σ H1 _ I1 q) fun ws s2 ⟨zs, H2, I2, rz, l2, q2⟩ => ⟨I2.kIn, ?_⟩
  rw [hks]
  exact run_fnN (us := [.ref a]) (vs := [.ref a]) F hr hb hx I2 (.cons rfl .nil) rz rfl l2 q2
end
end WU

set_option maxRecDepth 100000
set_option maxHeartbeats 8000000
namespace WU
open PySem PySem.Spec PyProof.Rows L2
abbrev sSI : Stmt := inClass (top 12) 0
abbrev sSP : Stmt := inClass (top 12) 1
abbrev sSA : Stmt := inClass (top 12) 2
/-- r stands for a Library of the books bs -/
def LB (L : Addr) (p : Int) (n c : Nat) (H : Hp) (r : V) (bs : List (List Int)) : Prop := ∃ y, r = .ref y ∧ LibAt L H y p n bs ∧ Good p n bs ∧ bs.length = c
theorem LB.same {L : Addr} {p : Int} {n c : Nat} {H H' : Hp} {r : V} {bs : List (List Int)} (h : LB L p n c H r bs) (s : Same H H') : LB L p n c H' r bs := by
  obtain ⟨y, e, h, g⟩ := h
  exact ⟨y, e, h.same s, g⟩
/-- a Shelf at x with its list at a: the editions hist -/
structure ShelfAt (S L : Addr) (H : Hp) (x a : Addr) (p : Int) (n c : Nat) (hist : List (List (List Int))) : Prop where
  ex : ∃ (dx : Addr) (fs : List (Str × V)) (rs : List V), H x = some (.ins S dx fs) ∧ fs.lookup ("edition" : Str) = some (.int ((hist.length : Int) - 1)) ∧ fs.lookup ("_libraries" : Str) = some (.ref a) ∧
    (∀ m : Str, ¬ m = "edition" → ¬ m = "_libraries" → fs.lookup m = none) ∧ fs.length ≤ hist.length + 1 ∧ H a = some (.lst rs) ∧ Paired (LB L p n c H) rs hist
  le : hist.length ≤ 100
  ne : 0 < hist.length
theorem ShelfAt.same {S L : Addr} {H H' : Hp} {x a : Addr} {p : Int} {n c : Nat} {hist : List (List (List Int))} (h : ShelfAt S L H x a p n c hist) (s : Same H H') : ShelfAt S L H' x a p n c hist := by
  obtain ⟨⟨dx, fs, rs, h1, h2, h3, h4, h5, h6, h7⟩, h8, h9⟩ := h
  exact ⟨⟨dx, fs, rs, s _ _ h1, h2, h3, h4, h5, s _ _ h6, paired_mono (fun _ _ q => q.same s) h7⟩, h8, h9⟩
/-- what Library instances need: tuples and other instances are kept -/
def KeepI (x a : Addr) (H H' : Hp) : Prop := ∀ b o, b ≠ x → b ≠ a → H b = some o → H' b = some o
theorem LibAt.keepI {L S : Addr} {H H' : Hp} {y x a : Addr} {p : Int} {n : Nat} {bs : List (List Int)} {dx : Addr} {fs : List (Str × V)} {xs : List V} (h : LibAt L H y p n bs) (hx : H x = some (.ins S dx fs)) (hS : S ≠ L) (ha : H a = some (.lst xs)) (k : KeepI x a H H') : LibAt L H' y p n bs := by
  obtain ⟨dy, b, tl, rs, h1, h2, h3, h4⟩ := h
  refine ⟨dy, b, tl, rs, k _ _ (ne_of h1 hx (by intro z; injection z with z1 _ _; exact hS z1.symm)) (ne_of h1 ha (by intro z; cases z)) h1, k _ _ (ne_of h2 hx (by intro z; cases z)) (ne_of h2 ha (by intro z; cases z)) h2, paired_mono (fun _ _ q => ?_) h3, k _ _ (ne_of h4 hx (by intro z; cases z)) (ne_of h4 ha (by intro z; cases z)) h4⟩
  obtain ⟨c, e, q⟩ := q
  exact ⟨c, e, k _ _ (ne_of q hx (by intro z; cases z)) (ne_of q ha (by intro z; cases z)) q⟩
theorem LB.keepI {L S : Addr} {H H' : Hp} {x a : Addr} {p : Int} {n c : Nat} {r : V} {bs : List (List Int)} {dx : Addr} {fs : List (Str × V)} {xs : List V} (h : LB L p n c H r bs) (hx : H x = some (.ins S dx fs)) (hS : S ≠ L) (ha : H a = some (.lst xs)) (k : KeepI x a H H') : LB L p n c H' r bs := by
  obtain ⟨y, e, h, g⟩ := h
  exact ⟨y, e, h.keepI hx hS ha k, g⟩
section
variable {P : Program} {w : World} {K : PySem.W.Frag} {mg : Str → Option Value} {base : Heap} {L S : Addr}
structure ShC (K : PySem.W.Frag) (mg : Str → Option Value) (S L : Addr) : Prop where
  g : mg "Shelf" = some (.ref S)
  cl : Cls K S
  nE : NoAttr K S "edition"
  nL : NoAttr K S "_libraries"
  ne : S ≠ L
def spSI (S L : Addr) : Sp := fun vs H Q _ => ∃ (x dx : Addr) (r : V) (p : Int) (n c : Nat) (bs : List (List Int)), vs = [.ref x, r] ∧ H x = some (.ins S dx []) ∧ LB L p n c H r bs ∧
  ∀ a H', H a = none → H' a ≠ none → Keep x H H' → ShelfAt S L H' x a p n c [bs] → Q .non H'
theorem scSI : FnScope ["self", "library"] ["self", "library"] (defScope sSI) := ⟨rfl, rfl, rfl, by decide +kernel, rfl, by decide +kernel, by decide +kernel⟩
theorem scSP : FnScope ["self", "k", "book"] ["self", "k", "book"] (defScope sSP) := ⟨rfl, rfl, rfl, by decide +kernel, rfl, by decide +kernel, by decide +kernel⟩
theorem scSA : FnScope ["self", "edition"] ["self", "edition"] (defScope sSA) := ⟨rfl, rfl, rfl, by decide +kernel, rfl, by decide +kernel, by decide +kernel⟩
theorem ok_SI {f : Addr} {fd : FuncData} (F : FunD K "__init__" "Shelf.__init__" (defArgs sSI) (defBody sSI) (defScope sSI) [] [] f fd) (C : ShC K mg S L) : FnOk P w K mg base (L2.CX P w) 1 f fd ["self", "library"] (spSI S L) := by
  refine F.ok scSI (fun vs H Q E h => ?_) (fun cdv A outer s H vs Q E hr h => ?_)
  · obtain ⟨x, dx, r, p, n, c, bs, rfl, _⟩ := h
    rfl
  · obtain ⟨x, dx, r, p, n, c, bs, rfl, hx, hl, kk⟩ := h
    refine ⟨_, (pss_cons (ps_fld (pv 0) pe_int rfl)
      (pss_one (ps_fld (pv 0) (pe_lst (pa_cons (pv 1) pa_nil)) rfl))), ?_⟩
    refine ⟨_, rfl, x, S, dx, _, rfl, hx, C.cl, C.nE, (by show 0 < 1000; decide), ?_⟩
    have k1 : Keep x H (upd H x (.ins S dx (putF "edition" (.int 0) []))) := keep_upd
    have e1 : upd H x (.ins S dx (putF "edition" (.int 0) [])) x = some (.ins S dx (putF "edition" (.int 0) [])) := upd_same
    have f1 : ∀ d, H d = none → upd H x (.ins S dx (putF "edition" (.int 0) [])) d = none → True := fun _ _ _ => trivial
    have fr : ∀ d, upd H x (.ins S dx (putF "edition" (.int 0) [])) d = none → H d = none := fun d hd => by
      by_cases e : d = x
      · rw [e, upd_same] at hd; cases hd
      · rw [upd_ne e] at hd; exact hd
    refine ⟨_, rfl, (by show 1 ≤ sizeLine; decide), fun a ha => ?_⟩
    have ha0 := fr a ha
    have nax : a ≠ x := (ne_of_none e1 ha).symm
    have e2 := same_new (o := .lst [r]) ha _ _ e1
    refine ⟨_, rfl, x, S, dx, _, rfl, e2, C.cl, C.nL, (by show 1 < 1000; decide), ?_⟩
    have k2 : Keep x (upd H x (.ins S dx (putF "edition" (.int 0) []))) (upd (upd (upd H x (.ins S dx (putF "edition" (.int 0) []))) a (.lst [r])) x (.ins S dx (putF "_libraries" (.ref a) (putF "edition" (.int 0) [])))) := (Keep.new ha).trans keep_upd
    refine kk a _ ha0 (by rw [upd_ne nax, upd_same]; intro z; cases z) (k1.trans k2) ⟨⟨dx, _, [r], upd_same, ?_, ?_, fun m h1 h2 => ?_, ?_, ?_, .cons ?_ .nil⟩, (by show 1 ≤ 100; decide), (by show 0 < 1; decide)⟩
    · rw [lookup_putF, if_neg (by decide +kernel), lookup_putF, if_pos rfl]; rfl
    · rw [lookup_putF, if_pos rfl]
    · rw [lookup_putF, if_neg h2, lookup_putF, if_neg h1]; rfl
    · exact Nat.le_trans (length_putF _ _ _) (Nat.succ_le_succ (length_putF _ _ _))
    · rw [upd_ne nax, upd_same]
    · have kx := k1.trans k2
      obtain ⟨y, e, ⟨dy, b, tl, rs, h1, h2, h3, h4⟩, g⟩ := hl
      refine ⟨y, e, ⟨dy, b, tl, rs, kx _ _ (ne_of h1 hx (by intro z; injection z with z1 _ _; exact C.ne z1.symm)) h1, kx _ _ (ne_of h2 hx (by intro z; cases z)) h2, paired_mono (fun _ _ q => TB.keep hx q kx) h3, kx _ _ (ne_of h4 hx (by intro z; cases z)) h4⟩, g⟩
theorem paired_snoc {α β : Type} {F : α → β → Prop} : ∀ {l : List α} {m : List β} {b : β}, Paired F l (m ++ [b]) → ∃ l0 r, l = l0 ++ [r] ∧ Paired F l0 m ∧ F r b
  | _, [], _, .cons h .nil => ⟨[], _, rfl, .nil, h⟩
  | _, _ :: m, _, .cons h t => by
    obtain ⟨l0, r, e, p, f⟩ := paired_snoc (m := m) t
    exact ⟨_ :: l0, r, by rw [e]; rfl, .cons h p, f⟩
/-- shelf.put(k, book) -/
def spSP (K : PySem.W.Frag) (S L : Addr) : Sp := fun vs H Q E => ∃ (x a : Addr) (kv bv : V) (bd : PyData) (p : Int) (n c : Nat) (pre : List (List (List Int))) (last : List (List Int)), vs = [.ref x, kv, bv] ∧ ShelfAt S L H x a p n c (pre ++ [last]) ∧ (pre ++ [last]).length < 100 ∧ Ty3 K H kv ∧ Dp K H bv bd ∧ smallD bd ∧
  (letsD p n bd = true → ∃ b, SB H bv b ∧ Ltr p n b) ∧ p ∈ primes ∧
  (isBel c kv = false → Errs (He.ga K "InvalidNumber") "value" kv H E) ∧ (isBel c kv = true → letsD p n bd = false → Errs (He.ga K "InvalidLibrary") "value" bv H E) ∧
  ∀ (k : Nat) (b : List Int), kv = .int k → k < c → SB H bv b → Ltr p n b → ∀ H', KeepI x a H H' → ShelfAt S L H' x a p n c (pre ++ [last] ++ [last.set k b]) → Q (.int (pre ++ [last]).length) H'
theorem ok_SP {f fC : Addr} {fd fdC : FuncData} (F : FunD K "put" "Shelf.put" (defArgs sSP) (defBody sSP) (defScope sSP) [] [] f fd) (B : Blt3 mg) (C : ShC K mg S L) (CL : LibC K mg L) (mC : Meth K L "changed" fC) (GC : FnOk P w K mg base (L2.CX P w) 8 fC fdC ["self", "k", "book"] (spCh K L)) (bC : L2.Binds K fdC ["self", "k", "book"] []) :
    FnOk P w K mg base (L2.CX P w) 9 f fd ["self", "k", "book"] (spSP K S L) := by
  refine F.ok scSP (fun vs H Q E h => ?_) (fun cdv A outer s H vs Q E hr h => ?_)
  · obtain ⟨x, a, kv, bv, bd, p, n, c, pre, last, rfl, _⟩ := h
    rfl
  · obtain ⟨x, a, kv, bv, bd, p, n, c, pre, last, rfl, hS, hle, hk, hb, hz, hsb, hp, kN, kL, kk⟩ := h
    refine ⟨_, (pss_cons (ps_expr (pe_bm PySem.F.plainAttrs_list PySem.F.slot_list_append PySem.F.type_list_append mt_append (pe_fld (pv 0) rfl) (pa_cons (pe_meth (E := E) (pe_ix ix_list (pe_fld (pv 0) rfl) (pe_un un_neg pe_int) (fun _ _ => rfl)) CL.cl mC GC hr bC .nil (passes_call (takes_of rfl rfl rfl rfl) (fun _ _ _ _ h => h)) (pa_cons (pv 1) (pa_cons (pv 2) pa_nil))) pa_nil)))
      (pss_cons (ps_fld (pv 0) (pe_op op_sub (pe_callB call_len_seq (by rfl) B.len (by decide +kernel) (pa_cons (pe_fld (pv 0) rfl) pa_nil)) pe_int) rfl)
      (pss_one (ps_ret (pe_fld (pv 0) rfl))))), ?_⟩
    obtain ⟨⟨dx, fs, rs, h1, h2, h3, h4, h5, h6, h7⟩, _, _⟩ := hS
    refine ⟨_, rfl, x, S, dx, fs, _, rfl, h1, C.cl, C.nL, h3, ?_⟩
    obtain ⟨rs, r, rfl, h70, y, rfl, hLy, gd, hc⟩ := paired_snoc h7
    obtain ⟨dy, t1, t2, t3, y1, y2⟩ := id hLy
    refine ⟨.inl ⟨rfl, _, SqL.of h6⟩, ?_⟩
    refine ⟨_, rfl, x, S, dx, fs, _, rfl, h1, C.cl, C.nL, h3, 1, rfl, a, _, -1, _, rfl, rfl, SqL.of h6, atI_last _ _, ?_⟩
    refine ⟨y, dy, _, rfl, y1, lf_no (by decide +kernel) (by decide +kernel) (by decide +kernel) (by decide +kernel) (by decide +kernel), _, rfl, _, rfl, ?_⟩
    refine ⟨y, kv, bv, bd, p, n, last, rfl, hLy, hk, hb, hz, hsb, hp, gd, fun e => kN (by rw [hc] at e; exact e), fun e1 e2 => kL (by rw [hc] at e1; exact e1) e2, fun k b ek hkc hsk hlt y2 H1 s1 hL2 => ?_⟩
    have g2 := good_set gd (k := k) hlt
    have hax : x ≠ a := ne_of h1 h6 (by intro z; cases z)
    have a1 := s1 _ _ h6
    have x1 := s1 _ _ h1
    refine ⟨a, _, _, rfl, rfl, a1, ?_, ?_⟩
    · have e := paired_len h70
      rw [List.length_append] at hle ⊢
      exact small1000 (by simp at hle ⊢; omega)
    · have kA : KeepI x a H1 (upd H1 a (.lst (rs ++ [.ref y] ++ [.ref y2]))) := fun b u _ n2 e => by rw [upd_ne n2]; exact e
      have aA : upd H1 a (.lst (rs ++ [.ref y] ++ [.ref y2])) a = some (.lst (rs ++ [.ref y] ++ [.ref y2])) := upd_same
      have xA : upd H1 a (.lst (rs ++ [.ref y] ++ [.ref y2])) x = some (.ins S dx fs) := by rw [upd_ne hax]; exact x1
      generalize upd H1 a (.lst (rs ++ [.ref y] ++ [.ref y2])) = H2 at kA aA xA ⊢
      refine ⟨_, rfl, x, S, dx, fs, _, rfl, xA, C.cl, C.nL, h3, a, _, rfl, .inl (SqL.of aA), _, 1, rfl, rfl, _, rfl, x, S, dx, fs, rfl, xA, C.cl, C.nE, (by omega), ?_⟩
      have el : ((rs ++ [V.ref y] ++ [V.ref y2]).length : Int) - 1 = ((pre ++ [last]).length : Int) := by
        have e := paired_len h70
        simp [e]
        omega
      dsimp only
      rw [el]
      have kB : KeepI x a H2 (upd H2 x (.ins S dx (putF "edition" (.int ((pre ++ [last]).length : Int)) fs))) := fun b u n1 _ e => by rw [upd_ne n1]; exact e
      have aB : upd H2 x (.ins S dx (putF "edition" (.int ((pre ++ [last]).length : Int)) fs)) a = some (.lst (rs ++ [.ref y] ++ [.ref y2])) := by rw [upd_ne (Ne.symm hax)]; exact aA
      have xB : upd H2 x (.ins S dx (putF "edition" (.int ((pre ++ [last]).length : Int)) fs)) x = some (.ins S dx (putF "edition" (.int ((pre ++ [last]).length : Int)) fs)) := upd_same
      generalize upd H2 x (.ins S dx (putF "edition" (.int ((pre ++ [last]).length : Int)) fs)) = H3 at kB aB xB ⊢
      have lE : (putF "edition" (.int ((pre ++ [last]).length : Int)) fs).lookup ("edition" : Str) = some (.int ((pre ++ [last]).length : Int)) := by rw [lookup_putF, if_pos rfl]
      have lL : (putF "edition" (.int ((pre ++ [last]).length : Int)) fs).lookup ("_libraries" : Str) = some (.ref a) := by rw [lookup_putF, if_neg (by decide +kernel)]; exact h3
      refine ⟨_, rfl, x, S, dx, _, _, rfl, xB, C.cl, C.nE, lE, ?_⟩
      have kAll : KeepI x a H H3 := fun b u n1 n2 e => kB _ _ n1 n2 (kA _ _ n1 n2 (s1 _ _ e))
      have k13 : KeepI x a H1 H3 := fun b u n1 n2 e => kB _ _ n1 n2 (kA _ _ n1 n2 e)
      refine kk k b ek (by rw [← hc]; exact hkc) hsk hlt H3 kAll ⟨⟨dx, _, _, xB, ?_, lL, fun m z1 z2 => ?_, ?_, aB, ?_⟩, ?_, ?_⟩
      · rw [lE, List.length_append (bs := [last.set k b])]
        congr 2
        simp
      · rw [lookup_putF, if_neg z1]
        exact h4 m z1 z2
      · have e := length_putF ("edition" : Str) (.int ((pre ++ [last]).length : Int)) fs
        rw [List.length_append (bs := [last.set k b])]
        exact Nat.le_trans e (by simp; simp at h5; omega)
      · refine paired_app (paired_app (paired_mono (fun _ _ q => q.keepI h1 C.ne h6 kAll) h70) (.cons ⟨y, rfl, hLy.keepI h1 C.ne h6 kAll, gd, hc⟩ .nil)) (.cons ⟨y2, rfl, hL2.keepI x1 C.ne a1 k13, g2, by rw [List.length_set]; exact hc⟩ .nil)
      · rw [List.length_append (bs := [last.set k b])]
        exact hle
      · rw [List.length_append (bs := [last.set k b])]
        exact Nat.succ_pos _
/-- shelf.at(edition) -/
def spSA (K : PySem.W.Frag) (S L : Addr) : Sp := fun vs H Q E => ∃ (x a : Addr) (ev : V) (p : Int) (n c : Nat) (hist : List (List (List Int))), vs = [.ref x, ev] ∧ ShelfAt S L H x a p n c hist ∧ Ty3 K H ev ∧
  (ev ≠ .non → isBel hist.length ev = false → Errs (He.ga K "InvalidNumber") "value" ev H E) ∧
  (ev = .non → ∀ r pre last, hist = pre ++ [last] → LB L p n c H r last → Q r H) ∧
  ∀ (k : Nat) (bs : List (List Int)), ev = .int k → hist[k]? = some bs → ∀ r, LB L p n c H r bs → Q r H
theorem ok_SA {f fB : Addr} {fd fdB fdI : FuncData} {dvs : List V} (F : FunD K "at" "Shelf.at" (defArgs sSA) (defBody sSA) (defScope sSA) dvs [] f fd) (B : Blt3 mg) (C : ShC K mg S L) (CB : Cal P w K mg base 3 "is_below" fB fdB ["value", "limit"] (spIsBel K)) (TN : Exc1 K mg "InvalidNumber" "value")
    (FN : FnOk P w K mg base (L2.CX P w) 1 (He.ma K (He.ga K "InvalidNumber") "__init__") fdI ["self", "value"] (spInit1 K (He.ga K "InvalidNumber") "value")) (bN : L2.Binds K fdI ["self", "value"] []) :
    FnOk P w K mg base (L2.CX P w) 4 f fd ["self", "edition"] (spSA K S L) := by
  refine F.ok scSA (fun vs H Q E h => ?_) (fun cdv A outer s H vs Q E hr h => ?_)
  · obtain ⟨x, a, ev, p, n, c, hist, rfl, _⟩ := h
    rfl
  · obtain ⟨x, a, ev, p, n, c, hist, rfl, hS, hk, kN, kD, kk⟩ := h
    have hr2 := hr.mono (show 2 ≤ 3 by decide)
    refine ⟨_, (pss_cons (ps_if (pt_cmpR op_isN (pv 1) pe_non (nomark _)) (pss_one (ps_ret (pe_ix ix_list (pe_fld (pv 0) rfl) (pe_un un_neg pe_int) (fun _ _ => rfl)))) pss_nil)
      (pss_cons (ps_if (pt_not (pt_val (pe_cal CB hr (pa_cons (pv 1) (pa_cons (pe_callB call_len_seq (by rfl) B.len (by decide +kernel) (pa_cons (pe_fld (pv 0) rfl) pa_nil)) pa_nil)) passU))) (pss_one (ps_raise1 rfl (takes_of rfl rfl rfl rfl) TN FN bN hr2 (pa_cons (pv 1) pa_nil))) pss_nil)
      (pss_one (ps_ret (pe_ix ix_list (pe_fld (pv 0) rfl) (pv 1) (fun _ _ => rfl)))))), ?_⟩
    obtain ⟨⟨dx, fs, rs, h1, h2, h3, h4, h5, h6, h7⟩, _, h9⟩ := hS
    by_cases en : ev = .non
    · subst en
      refine ⟨_, rfl, rfl, _, rfl, iteTb (decide_eq_true rfl) ?_⟩
      obtain ⟨pre, last, rfl⟩ : ∃ pre last, hist = pre ++ [last] := ⟨hist.dropLast, hist.getLast (by intro z; rw [z] at h9; cases h9), (List.dropLast_concat_getLast _).symm⟩
      obtain ⟨rs, r, rfl, _, hr⟩ := paired_snoc h7
      refine ⟨_, rfl, x, S, dx, fs, _, rfl, h1, C.cl, C.nL, h3, 1, rfl, a, _, -1, _, rfl, rfl, SqL.of h6, atI_last _ _, ?_⟩
      exact kD rfl r pre last rfl hr
    · refine ⟨_, rfl, rfl, _, rfl, iteFb (decide_eq_false en) ?_⟩
      refine ⟨_, rfl, _, rfl, x, S, dx, fs, _, rfl, h1, C.cl, C.nL, h3, a, rs, rfl, .inl (SqL.of h6), ev, _, rfl, hk, _, rfl, ?_⟩
      rw [paired_len h7]
      cases e : isBel hist.length ev with
      | false => exact iteT ⟨_, rfl, ev, rfl, kN en e⟩
      | true =>
        refine iteF ?_
        obtain ⟨k, rfl, hk0⟩ : ∃ (k : Nat), ev = .int k ∧ k < hist.length := by
          cases ev with
          | int i =>
            have eb' : (decide (0 ≤ i) && decide (i < (hist.length : Int))) = true := e
            obtain ⟨e0, e1⟩ := and2 eb'
            have i0 := of_decide_eq_true e0
            have i1 := of_decide_eq_true e1
            exact ⟨i.toNat, by rw [show ((i.toNat : Nat) : Int) = i by omega], by omega⟩
          | _ => cases e
        obtain ⟨bs, hbs⟩ : ∃ bs, hist[k]? = some bs := ⟨_, List.getElem?_eq_getElem hk0⟩
        obtain ⟨r, hr1, hr3⟩ := paired_of h7 hbs
        refine ⟨_, rfl, x, S, dx, fs, _, rfl, h1, C.cl, C.nL, h3, _, rfl, a, rs, (k : Int), r, rfl, rfl, SqL.of h6, atI_nat hr1, ?_⟩
        exact kk k bs rfl hbs r hr3
end
end WU

set_option maxRecDepth 100000
set_option maxHeartbeats 8000000
namespace WU
open PySem PySem.Spec PyProof.Rows L2
section
variable {P : Program} {w : World} {K : PySem.W.Frag} {mg : Str → Option Value} {base : Heap}
abbrev sBk : Stmt := top 26
/-- the scope of the comprehension that is returned as a tuple -/
def lcScopeOf : Stmt → Scope
  | .FunctionDef _ _ [.Return (some (.Call _ [.ListComp _ _ sc _] _ _)) _] _ _ _ _ _ _ _ => sc
  | st => defScope st
theorem scBk : FnScope ["hand", "p", "count", "size", "k", "j"] ["hand", "p", "count", "size"] (defScope sBk) := ⟨rfl, rfl, rfl, by decide +kernel, rfl, by decide +kernel, by decide +kernel⟩
/-- r is a tuple of the books bs, each a tuple -/
def BkAt (H : Hp) (r : Addr) (bs : List (List Int)) : Prop := ∃ rs, H r = some (.tup rs) ∧ Paired (TB H) rs bs
def spBk : Sp := fun vs H Q _ => ∃ (a d : Addr) (p : Int) (c n : Nat), vs = [.ref a, .int p, .int c, .int n] ∧ HandAt H a d ∧ 0 < p ∧ c ≤ 100 ∧ n ≤ 100 ∧
  ∀ r bs H', BkAt H' r bs → bs.length = c → (∀ b ∈ bs, Ltr p n b) → HandAt H' a d → Keep a H H' → Q (.ref r) H'
theorem ok_Bk {f fT : Addr} {fd fdT : FuncData} (F : FnS K "_law_books" sBk f fd) (B : Blt3 mg) (CT : Cal P w K mg base 1 "_law_take" fT fdT ["hand", "many"] spTake) :
    FnOk P w K mg base (L2.CX P w) 2 f fd ["hand", "p", "count", "size"] spBk := by
  refine F.ok scBk (fun vs H Q E h => ?_) (fun cdv A outer s H vs Q E hr h => ?_)
  · obtain ⟨a, d, p, c, n, rfl, _⟩ := h
    rfl
  · obtain ⟨a, d, p, c, n, rfl, hH, hp, hc, hn, kk⟩ := h
    have nd := scBk.nd
    refine ⟨_, (pss_one (ps_ret (pe_callTy call_tuple_of (by rfl) B.tuple (by decide +kernel) (pa_cons
      (pe_lc (te := tCB (rTupOf K) (tCons (tLc (iRng1 (tCons (tVar 3) tNil)) (gName 5) tYes (tCall spTake [] E0 (tCons (tVar 0) (tCons (tVar 1) tNil))) [5]) tNil)) (own := [("k", 4)]) (g := gName 4) (by rfl) nd (pi_range1 rfl B.range (pa_cons (pv 2) pa_nil)) (blkOk_by (own := [("k", 4)]) (N := ["hand", "p", "count", "size", "k", "j"]) (sc := defScope sBk) (by decide +kernel)) (fun _ _ _ _ _ => pg_name (i := 4) nd rfl (Or.inl rfl)) (fun _ _ _ _ _ => pts_nil)
        (fun _ _ _ _ _ => (pe_callTy call_tuple_of (by rfl) B.tuple (by decide +kernel) (pa_cons
          (pe_lc (te := tCall spTake [] E0 (tCons (tVar 0) (tCons (tVar 1) tNil))) (own := [("j", 5)]) (g := gName 5) (by rfl) nd (pi_range1 rfl B.range (pa_cons (pv 3) pa_nil)) (blkOk_by (own := [("j", 5)]) (N := ["hand", "p", "count", "size", "k", "j"]) (sc := relS (lcScopeOf sBk) (defScope sBk)) (by decide +kernel)) (fun _ _ _ _ _ => pg_name (i := 5) nd rfl (Or.inl rfl)) (fun _ _ _ _ _ => pts_nil)
            (fun _ _ _ _ _ => (pe_cal CT hr (pa_cons (pv 0) (pa_cons (pv 1) pa_nil)) passU))) pa_nil)))) pa_nil)))), ?_⟩
    refine ⟨_, rfl, (c : Int), rfl, by omega, by omega, fun D hD => lc_range (lo := 0) (n := c)
      (fun i H' => HandAt H' a d ∧ Keep a H H' ∧ ∃ ts bs, H' D = some (.lst ts) ∧ Paired (TB H') ts bs ∧ bs.length = i ∧ ∀ b ∈ bs, Ltr p n b)
      ⟨hH.new hD, Keep.new hD, [], [], upd_same, .nil, rfl, fun b hb => by cases hb⟩ ?_ ?_⟩
    · rintro i H1 hi ⟨hH1, k1, ts, bs, eD, hts, el, all⟩
      refine ⟨rfl, _, rfl, (n : Int), rfl, by omega, by omega, fun D2 hD2 => lc_range (lo := 0) (n := n)
        (fun j H' => HandAt H' a d ∧ Keep a H1 H' ∧ ∃ ls : List Int, H' D2 = some (.lst (ls.map V.int)) ∧ ls.length = j ∧ ∀ l ∈ ls, 0 ≤ l ∧ l < p)
        ⟨hH1.new hD2, Keep.new hD2, [], upd_same, rfl, fun l hl => by cases hl⟩ ?_ ?_⟩
      · rintro j H2 hj ⟨hH2, k2, ls, e2, l2, a2⟩
        refine ⟨rfl, _, rfl, _, rfl, a, d, p, rfl, hp, hH2, fun r H3 r0 r1 hH3 k3 => ?_⟩
        have na2 : a ≠ D2 := (hH1.ne hD2).1
        have nd2 : d ≠ D2 := (hH1.ne hD2).2
        refine ⟨_, k3 _ _ na2.symm e2, by rw [List.length_map]; exact small1000 (by omega), hH3.put na2 nd2, fun b o hb e => ?_, ls ++ [r], by rw [upd_same, List.map_append]; rfl, by rw [List.length_append, l2]; rfl, fun l hl => ?_⟩
        · rw [upd_ne (ne_of_none e hD2)]
          exact k3 _ _ hb (k2 _ _ hb e)
        · rcases List.mem_append.mp hl with h | h
          · exact a2 l h
          · rw [List.mem_singleton.mp h]
            exact ⟨r0, r1⟩
      · rintro H2 ⟨hH2, k2, ls, e2, l2, a2⟩
        refine ⟨D2, _, rfl, .inl ⟨SqL.of e2, fun l hl => ?_⟩⟩
        have naD : a ≠ D := (hH.ne hD).1
        have ndD : d ≠ D := (hH.ne hD).2
        have e3 : H2 D = some (.lst ts) := k2 _ _ naD.symm eD
        have e4 := same_new (o := .tup (ls.map V.int)) hl _ _ e3
        have h4 := hH2.new (o := .tup (ls.map V.int)) hl
        have k4 : Keep a H1 (upd H2 l (.tup (ls.map V.int))) := k2.trans (Keep.new hl)
        have el4 : upd H2 l (.tup (ls.map V.int)) l = some (.tup (ls.map V.int)) := upd_same
        generalize upd H2 l (.tup (ls.map V.int)) = H4 at e4 h4 k4 el4 ⊢
        have tbs : ∀ {b ts0}, TB H4 b ts0 → TB (upd H4 D (.lst (ts ++ [.ref l]))) b ts0 := fun {b ts0} h => by
          obtain ⟨c, e, h⟩ := h
          exact ⟨c, e, by rw [upd_ne (ne_of h e4 (by intro z; cases z))]; exact h⟩
        have tb1 : ∀ {b ts0}, TB H1 b ts0 → TB H4 b ts0 := fun {b ts0} h => by
          obtain ⟨c, e, h⟩ := h
          obtain ⟨ds, i0, z1, _⟩ := hH1
          exact ⟨c, e, k4 _ _ (ne_of h z1 (by intro z; cases z)) h⟩
        have lt : ts.length < sizeLine := by
          rw [paired_len hts]
          exact small1000 (by omega)
        refine ⟨ts, e4, lt, h4.put naD ndD, fun b o hb e => ?_, ts ++ [.ref l], bs ++ [ls], upd_same, paired_app (paired_mono (fun _ _ q => tbs (tb1 q)) hts) (.cons (tbs ⟨l, rfl, el4⟩) .nil), by rw [List.length_append, el]; rfl, fun b hb => ?_⟩
        · rw [upd_ne (ne_of_none e hD)]
          exact k4 _ _ hb (k1 _ _ hb e)
        · rcases List.mem_append.mp hb with h | h
          · exact all b h
          · rw [List.mem_singleton.mp h]
            exact ⟨l2, a2⟩
    · rintro H1 ⟨hH1, k1, ts, bs, eD, hts, el, all⟩
      refine ⟨D, _, rfl, .inl ⟨SqL.of eD, fun r hr => ?_⟩⟩
      exact kk r bs _ ⟨ts, upd_same, paired_mono (fun _ _ q => q.same (same_new hr)) hts⟩ el all (hH1.new hr) (k1.trans (Keep.new hr))
end
end WU

set_option maxRecDepth 100000
set_option maxHeartbeats 8000000
namespace WU
open PySem PySem.Spec PyProof.Rows L2
/-- u and v: the same number, or tuples alike (to the depth n) -/
def EqV : Nat → Hp → V → V → Prop
  | 0, _, u, v => ∃ i, u = .int i ∧ v = .int i
  | n + 1, H, u, v => (∃ i, u = .int i ∧ v = .int i) ∨ ∃ a b xs ys, u = .ref a ∧ v = .ref b ∧ H a = some (.tup xs) ∧ H b = some (.tup ys) ∧ Paired (EqV n H) xs ys ∧ ys.length ≤ 10000
section
variable {P : Program} {w : World} {K : PySem.W.Frag} {mg : Str → Option Value} {base : Heap}
abbrev sSm : Stmt := top 27
theorem scSm : FnScope ["found", "due", "at"] ["found", "due"] (defScope sSm) := ⟨rfl, rfl, rfl, by decide +kernel, rfl, by decide +kernel, by decide +kernel⟩
def spSmP (R : Hp → V → V → Prop) : Sp := fun vs H Q _ => ∃ u v, vs = [u, v] ∧ R H u v ∧ Q (.bl true) H
def spSm (n : Nat) : Sp := spSmP (EqV n)
/-- one step: where parts are told by R, numbers and tuples of such parts are -/
theorem ok_Sm1 {R : Hp → V → V → Prop} {k : Nat} {f : Addr} {fd : FuncData} (F : FnS K "_law_same" sSm f fd) (B : Blt3 mg) (C0 : Cal P w K mg base k "_law_same" f fd ["found", "due"] (spSmP R)) :
    FnOk P w K mg base (L2.CX P w) (k + 1) f fd ["found", "due"] (spSmP fun H u v => (∃ i, u = .int i ∧ v = .int i) ∨ ∃ a b xs ys, u = .ref a ∧ v = .ref b ∧ H a = some (.tup xs) ∧ H b = some (.tup ys) ∧ Paired (R H) xs ys ∧ ys.length ≤ 10000) := by
  refine F.ok scSm (fun vs H Q E h => ?_) (fun cdv A outer s H vs Q E hr h => ?_)
  · obtain ⟨u, v, rfl, _⟩ := h
    rfl
  · obtain ⟨u, v, rfl, he, kk⟩ := h
    have nd := scSm.nd
    refine ⟨_, (pss_cons (ps_if (pt_val (pe_callB call_isi (by rfl) B.isi (by decide +kernel) (pa_cons (pv 1) (pa_cons (pe_bltn (v := .ty "tuple") (by rfl) B.tuple (by decide +kernel) rfl) pa_nil)))) (pss_cons (ps_if (PW.pt (pw_or (pt_not (pt_val (pe_callB call_isi (by rfl) B.isi (by decide +kernel) (pa_cons (pv 0) (pa_cons (pe_bltn (v := .ty "tuple") (by rfl) B.tuple (by decide +kernel) rfl) pa_nil))))) (pw_or1 (pt_cmpR op_ne (pe_callB call_len_seq (by rfl) B.len (by decide +kernel) (pa_cons (pv 0) pa_nil)) (pe_callB call_len_seq (by rfl) B.len (by decide +kernel) (pa_cons (pv 1) pa_nil)) (nomark _))))) (pss_one (ps_ret pe_bl)) pss_nil)
      (pss_cons (ps_for (passes_of rfl) rfl (pi_range1 rfl B.range (pa_cons (pe_callB call_len_seq (by rfl) B.len (by decide +kernel) (pa_cons (pv 1) pa_nil)) pa_nil)) (pg_name (i := 2) nd rfl (Or.inl rfl)) (pss_one (ps_if (pt_not (pt_val (pe_cal C0 hr (pa_cons (pe_ix ix_tup (pv 0) (pv 2) (fun _ _ => rfl)) (pa_cons (pe_ix ix_tup (pv 1) (pv 2) (fun _ _ => rfl)) pa_nil)) passU))) (pss_one (ps_ret pe_bl)) pss_nil)))
      (pss_one (ps_ret pe_bl)))) pss_nil)
      (pss_one (ps_ret (pe_and (pe_callB call_isi (by rfl) B.isi (by decide +kernel) (pa_cons (pv 0) (pa_cons (pe_bltn (v := .ty "int") (by rfl) B.int (by decide +kernel) rfl) pa_nil))) (pe_and (pe_not (pe_callB call_isi (by rfl) B.isi (by decide +kernel) (pa_cons (pv 0) (pa_cons (pe_bltn (v := .ty "bool") (by rfl) B.bool (by decide +kernel) rfl) pa_nil)))) (pe_one (pe_cmpR op_eq (pv 0) (pv 1) (nomark _)))))))), ?_⟩
    rcases he with ⟨i, rfl, rfl⟩ | ⟨a, b, xs, ys, rfl, rfl, ha, hb, hP, hl⟩
    · refine ⟨_, rfl, _, _, _, _, _, rfl, .ty "tuple", .base (.int i), kit_ty (show kitB "int" "tuple" = some false by decide +kernel), _, rfl, iteF ?_⟩
      refine ⟨_, rfl, _, _, _, _, _, rfl, .ty "int", .base (.int i), kit_ty (show kitB "int" "int" = some true by decide +kernel), _, rfl, iteT ?_⟩
      refine ⟨_, rfl, _, _, _, _, _, rfl, .ty "bool", .base (.int i), kit_ty (show kitB "int" "bool" = some false by decide +kernel), _, rfl, _, rfl, iteT ⟨_, rfl, _, rfl, rfl, ?_⟩⟩
      rw [decide_eq_true rfl]
      exact kk
    · have el := paired_len hP
      refine ⟨_, rfl, _, _, _, _, _, rfl, .ty "tuple", .base (.tup hb), kit_ty (show kitB "tuple" "tuple" = some true by decide +kernel), _, rfl, iteT ?_⟩
      refine ⟨_, rfl, _, _, _, _, _, rfl, .ty "tuple", .base (.tup ha), kit_ty (show kitB "tuple" "tuple" = some true by decide +kernel), _, rfl, iteF ?_⟩
      refine ⟨_, rfl, a, _, rfl, .inr (SqT.of ha), _, rfl, b, _, rfl, .inr (SqT.of hb), rfl, _, rfl, iteFb (by rw [decide_eq_true (congrArg (fun n : Nat => V.int n) el)]; rfl) ?_⟩
      refine ⟨_, rfl, b, _, rfl, .inr (SqT.of hb), (ys.length : Int), rfl, by omega, by omega, for_range (lo := 0) (n := ys.length) (fun i σ H' => ∃ x, σ = [some (.ref a), some (.ref b), x] ∧ H' = H) ⟨none, rfl, rfl⟩ ?_ ?_⟩
      · rintro i σ H' hi ⟨x, rfl, rfl⟩
        have hy : ys[i]? = some ys[i] := List.getElem?_eq_getElem hi
        obtain ⟨u, hx, r⟩ := paired_of hP hy
        rw [show ((0 : Int) + (i : Int)) = ((i : Nat) : Int) from Int.zero_add _]
        refine ⟨_, rfl, _, rfl, a, xs, (i : Int), u, rfl, rfl, SqT.of ha, atI_nat hx, _, rfl, _, rfl, b, ys, (i : Int), _, rfl, rfl, SqT.of hb, atI_nat hy, u, _, rfl, r, _, rfl, iteF ⟨_, rfl, rfl⟩⟩
      · rintro σ H' ⟨x, rfl, rfl⟩
        exact kk
/-- whole values, to the depth n -/
theorem ok_Sm {f : Addr} {fd : FuncData} (F : FnS K "_law_same" sSm f fd) (B : Blt3 mg) (g : mg "_law_same" = some (.ref f)) (hb : L2.Binds K fd ["found", "due"] []) : ∀ n, FnOk P w K mg base (L2.CX P w) (n + 1) f fd ["found", "due"] (spSm n)
  | 0 => by
    have e : FnOk P w K mg base (L2.CX P w) 0 f fd ["found", "due"] (spSmP fun _ _ _ => False) := ⟨fun vs H Q E ⟨_, _, _, z, _⟩ => z.elim, fun A outer s H args us vs Q E _ _ _ _ ⟨_, _, _, z, _⟩ => z.elim⟩
    exact (ok_Sm1 F B ⟨g, F.kp, hb, e⟩).imp fun vs H Q E ⟨u, v, e, h, q⟩ => ⟨u, v, e, .inl h, q⟩
  | n + 1 => ok_Sm1 F B ⟨g, F.kp, hb, ok_Sm F B g hb n⟩
end
end WU

set_option maxRecDepth 100000
set_option maxHeartbeats 8000000
namespace WU
open PySem PySem.Spec PyProof.Rows L2
theorem catA_is {K : PySem.W.Frag} {H : Hp} {a b : Addr} {xs ys : List V} {Q : VK} (ha : H a = some (.tup xs)) (hb : H b = some (.tup ys)) (hz : xs.length + ys.length ≤ sizeLine) (k : ∀ r H', Same H H' → H' r = some (.tup (xs ++ ys)) → Q (.ref r) H') : rCatA K (.ref a) (.ref b) H Q := by
  refine ⟨a, b, xs, ys, rfl, rfl, SqT.of ha, SqT.of hb, hz, fun e => ?_, fun _ e => ?_, fun _ _ r hr => k r _ (same_new hr) upd_same⟩
  · subst e
    exact k b H (Same.refl H) hb
  · subst e
    exact k a H (Same.refl H) (by rw [List.append_nil]; exact ha)
/-- a tuple of numbers is alike to one of the same numbers -/
theorem eq_ints {n : Nat} {H : Hp} : ∀ b : List Int, Paired (EqV n H) (b.map V.int) (b.map V.int)
  | [] => .nil
  | i :: b => by
    refine .cons ?_ (eq_ints b)
    cases n with
    | zero => exact ⟨i, rfl, rfl⟩
    | succ n => exact .inl ⟨i, rfl, rfl⟩
theorem eq_row {n : Nat} {H : Hp} {u v : V} {b : List Int} (hu : TB H u b) (hv : TB H v b) (hl : b.length ≤ 10000) : EqV (n + 1) H u v := by
  obtain ⟨c, e, h⟩ := hu
  obtain ⟨d, f, g⟩ := hv
  exact .inr ⟨c, d, _, _, e, f, h, g, eq_ints b, by rw [List.length_map]; exact hl⟩
theorem eq_rows {n : Nat} {H : Hp} : ∀ {us vs : List V} {bs : List (List Int)}, Paired (TB H) us bs → Paired (TB H) vs bs → (∀ b ∈ bs, b.length ≤ 10000) → Paired (EqV (n + 1) H) us vs
  | _, _, _, .nil, .nil, _ => .nil
  | _, _, _, .cons h t, .cons h2 t2, hl => .cons (eq_row h h2 (hl _ (List.mem_cons_self ..))) (eq_rows t t2 fun b hb => hl b (List.mem_cons_of_mem _ hb))
section
variable {P : Program} {w : World} {K : PySem.W.Frag} {mg : Str → Option Value} {base : Heap} {L : Addr}
abbrev sIs : Stmt := top 28
theorem scIs : FnScope ["library", "p", "books", "letters", "book", "sizes"] ["library", "p", "books"] (defScope sIs) := ⟨rfl, rfl, rfl, by decide +kernel, rfl, by decide +kernel, by decide +kernel⟩
def spIs (L : Addr) : Sp := fun vs H Q _ => ∃ (x b : Addr) (p : Int) (n : Nat) (bs : List (List Int)), vs = [.ref x, .int p, .ref b] ∧ LibAt L H x p n bs ∧ Good p n bs ∧ BkAt H b bs ∧ ∀ H', Same H H' → Q (.bl true) H'
theorem ok_Is {f fS : Addr} {fd fdS : FuncData} (F : FnS K "_law_is" sIs f fd) (B : Blt3 mg) (C : LibC K mg L) (CS : Cal P w K mg base 3 "_law_same" fS fdS ["found", "due"] (spSm 2)) : FnOk P w K mg base (L2.CX P w) 4 f fd ["library", "p", "books"] (spIs L) := by
  refine F.ok scIs (fun vs H Q E h => ?_) (fun cdv A outer s H vs Q E hr h => ?_)
  · obtain ⟨x, b, p, n, bs, rfl, _⟩ := h
    rfl
  · obtain ⟨x, b, p, n, bs, rfl, ⟨dx, a, tl, rs, h1, h2, h3, h4⟩, g, ⟨ts, hb, hP⟩, kk⟩ := h
    have nd := scIs.nd
    refine ⟨_, (pss_cons (ps_if (PW.pt (pw_or (pt_not (pt_val (pe_callB call_isi (by rfl) B.isi (by decide +kernel) (pa_cons (pv 0) (pa_cons (pe_glob (v := .ref L) rfl C.g rfl) pa_nil))))) (pw_or (pt_not (pt_val (pe_cal CS hr (pa_cons (pe_fld (pv 0) rfl) (pa_cons (pv 2) pa_nil)) passU))) (pw_or1 (pt_not (pt_val (pe_cal CS hr (pa_cons (pe_fld (pv 0) rfl) (pa_cons (pv 1) pa_nil)) passU))))))) (pss_one (ps_ret pe_bl)) pss_nil)
      (pss_cons (ps_set (i := 3) nd rfl (Or.inl rfl) (pe_tup pa_nil))
      (pss_cons (ps_for (passes_of rfl) rfl (pi_tup (pv 2)) (pg_name (i := 4) nd rfl (Or.inl rfl)) (pss_one (ps_set (i := 3) nd rfl (Or.inl rfl) (pe_op op_catA (pv 3) (pv 4)))))
      (pss_cons (ps_set (i := 5) nd rfl (Or.inl rfl) (pe_tup (pa_cons (pe_fld (pv 0) rfl) (pa_cons (pe_fld (pv 0) rfl) pa_nil))))
      (pss_one (ps_ret (pe_and (pe_cal CS hr (pa_cons (pv 5) (pa_cons (pe_tup (pa_cons (pe_callB call_len_seq (by rfl) B.len (by decide +kernel) (pa_cons (pv 2) pa_nil)) (pa_cons (pe_callB call_len_seq (by rfl) B.len (by decide +kernel) (pa_cons (pe_ix ix_tup (pv 2) pe_int (fun _ _ => rfl)) pa_nil)) pa_nil))) pa_nil)) passU) (pe_one (pe_cal CS hr (pa_cons (pe_fld (pv 0) rfl) (pa_cons (pv 3) pa_nil)) passU))))))))), ?_⟩
    have sm : ∀ c ∈ bs, c.length ≤ 10000 := fun c hc => by rw [(g.all c hc).1]; have := g.le; omega
    have ebs := paired_len hP
    refine ⟨_, rfl, _, _, _, _, _, rfl, .own L, .base (.ins h1 C.cl C.ha C.hn C.htk C.hm), C.kS, _, rfl, iteF ?_⟩
    refine ⟨_, rfl, x, L, dx, _, _, rfl, h1, C.cl, C.nB, lf_books, _, rfl, _, _, rfl, .inr ⟨a, b, rs, ts, rfl, rfl, h2, hb, eq_rows h3 hP sm, by have := g.cnt; omega⟩, _, rfl, iteF ?_⟩
    refine ⟨_, rfl, x, L, dx, _, _, rfl, h1, C.cl, C.nP, lf_p, _, rfl, _, _, rfl, .inl ⟨p, rfl, rfl⟩, _, rfl, iteF ?_⟩
    refine ⟨(by show 0 ≤ sizeLine; decide), fun t0 ht0 => ?_⟩
    have s0 := same_new (o := .tup []) ht0
    have e0 : upd H t0 (.tup []) t0 = some (.tup []) := upd_same
    generalize upd H t0 (.tup []) = H0 at s0 e0 ⊢
    refine ⟨_, rfl, b, rfl, ⟨_, SqT.of (s0 _ _ hb)⟩, for_tup (K := K) (a := b) (xs := ts) (fun i σ H' => ∃ t y, σ = [some (.ref x), some (.int p), some (.ref b), some (.ref t), y, none] ∧ Same H H' ∧ H' t = some (.tup ((bs.take i).flatten.map V.int))) ⟨t0, none, rfl, s0, e0⟩ ?_ ?_ ?_⟩
    · rintro i σ H' hi ⟨t, y, rfl, s1, e1⟩
      exact SqT.of (s1 _ _ hb)
    · rintro i y σ H' hi ⟨t, y0, rfl, s1, e1⟩
      obtain ⟨c, hc, d, rfl, ed⟩ := paired_at hP hi
      have hcl : c.length = n := (g.all c (List.mem_of_getElem? hc)).1
      have fl : ((bs.take i).flatten).length ≤ 100 * 100 := by
        rw [flat_len (n := n) fun d hd => (g.all d (List.mem_of_mem_take hd)).1, List.length_take]
        exact Nat.mul_le_mul (Nat.le_trans (Nat.min_le_right _ _) g.cnt) g.le
      refine ⟨_, rfl, _, rfl, catA_is e1 (s1 _ _ ed) ?_ fun r H2 s2 e2 => ⟨r, _, rfl, s1.trans s2, ?_⟩⟩
      · rw [List.length_map, List.length_map, hcl]
        have := g.le
        exact Nat.le_trans (Nat.add_le_add fl this) (by decide)
      · rw [e2, List.take_succ, hc, ← List.map_append]
        simp
    · rintro σ H1 ⟨t, y, rfl, s1, e1⟩
      rw [ebs, List.take_length] at e1
      refine ⟨_, rfl, x, L, dx, _, _, rfl, s1 _ _ h1, C.cl, C.nC, lf_count, _, rfl, x, L, dx, _, _, rfl, s1 _ _ h1, C.cl, C.nL, lf_length, (by show 2 ≤ sizeLine; decide), fun z hz => ?_⟩
      have s2 := same_new (o := .tup [.int bs.length, .int n]) hz
      have ez : upd H1 z (.tup [.int bs.length, .int n]) z = some (.tup [.int bs.length, .int n]) := upd_same
      generalize upd H1 z (.tup [.int bs.length, .int n]) = H2 at s2 ez ⊢
      have s12 := s1.trans s2
      obtain ⟨b0, hb0⟩ : ∃ b0, bs[0]? = some b0 := by
        cases e : bs with
        | nil => exact absurd e g.ne
        | cons b0 _ => exact ⟨b0, rfl⟩
      obtain ⟨r0, hr0, c0, rfl, ec0⟩ := paired_of hP hb0
      have l0 : b0.length = n := (g.all b0 (List.mem_of_getElem? hb0)).1
      refine ⟨_, rfl, _, rfl, b, ts, rfl, .inr (SqT.of (s12 _ _ hb)), _, rfl, b, ts, 0, _, rfl, rfl, SqT.of (s12 _ _ hb), atI_nat (j := 0) hr0, c0, _, rfl, .inr (SqT.of (s12 _ _ ec0)), (by show 2 ≤ sizeLine; decide), fun z2 hz2 => ?_⟩
      rw [List.length_map, l0, ebs]
      have s3 := same_new (o := .tup [.int bs.length, .int n]) hz2
      have ez2 : upd H2 z2 (.tup [.int bs.length, .int n]) z2 = some (.tup [.int bs.length, .int n]) := upd_same
      generalize upd H2 z2 (.tup [.int bs.length, .int n]) = H3 at s3 ez2 ⊢
      have s13 := s12.trans s3
      refine ⟨_, _, rfl, .inr ⟨z, z2, _, _, rfl, rfl, s3 _ _ ez, ez2, .cons (.inl ⟨_, rfl, rfl⟩) (.cons (.inl ⟨_, rfl, rfl⟩) .nil), (by show 2 ≤ 10000; decide)⟩, _, rfl, iteT ?_⟩
      refine ⟨_, rfl, x, L, dx, _, _, rfl, s13 _ _ h1, C.cl, C.nT, lf_letters, _, rfl, _, _, rfl, .inr ⟨tl, t, _, _, rfl, rfl, s13 _ _ h4, s3 _ _ (s2 _ _ e1), eq_ints _, ?_⟩, kk _ s13⟩
      rw [List.length_map, flat_len (n := n) fun d hd => (g.all d hd).1]
      exact Nat.le_trans (Nat.mul_le_mul g.cnt g.le) (by decide)
end
end WU

set_option maxRecDepth 100000
set_option maxHeartbeats 8000000
namespace WU
open PySem PySem.Spec PyProof.Rows L2
section
variable {P : Program} {w : World} {K : PySem.W.Frag} {mg : Str → Option Value} {base : Heap} {S L : Addr}
abbrev sLP : Stmt := top 29
abbrev sLA : Stmt := top 30
theorem scLP : FnScope ["shelf", "k", "book", "e"] ["shelf", "k", "book"] (defScope sLP) := ⟨rfl, rfl, rfl, by decide +kernel, rfl, by decide +kernel, by decide +kernel⟩
theorem scLA : FnScope ["shelf", "edition", "e"] ["shelf", "edition"] (defScope sLA) := ⟨rfl, rfl, rfl, by decide +kernel, rfl, by decide +kernel, by decide +kernel⟩
/-- the list that _law_put hands back -/
def Told (x : Str) (v : V) (H : Hp) (Q : VK) : Prop := ∀ q H', Same H H' → H q = none → H' q = some (.lst [.str x, v]) → Q (.ref q) H'
def spLP (K : PySem.W.Frag) (S L : Addr) : Sp := fun vs H Q _ => ∃ (x a : Addr) (kv bv : V) (bd : PyData) (p : Int) (n c : Nat) (pre : List (List (List Int))) (last : List (List Int)), vs = [.ref x, kv, bv] ∧ ShelfAt S L H x a p n c (pre ++ [last]) ∧ (pre ++ [last]).length < 100 ∧ Ty3 K H kv ∧ Dp K H bv bd ∧ smallD bd ∧
  (letsD p n bd = true → ∃ b, SB H bv b ∧ Ltr p n b) ∧ p ∈ primes ∧
  (isBel c kv = false → Told "refused" kv H Q) ∧ (isBel c kv = true → letsD p n bd = false → Told "wrong" bv H Q) ∧
  ∀ (k : Nat) (b : List Int), kv = .int k → k < c → SB H bv b → Ltr p n b → ∀ q H', H q = none → KeepI x a H H' → ShelfAt S L H' x a p n c (pre ++ [last] ++ [last.set k b]) → H' q = some (.lst [.str "number", .int (pre ++ [last]).length]) → Q (.ref q) H'
/-- the Shelf's methods -/
structure ShM (P : Program) (w : World) (K : PySem.W.Frag) (mg : Str → Option Value) (base : Heap) (S L : Addr) (fP fA : Addr) (fdP fdA : FuncData) : Prop where
  mP : Meth K S "put" fP
  gP : FnOk P w K mg base (L2.CX P w) 9 fP fdP ["self", "k", "book"] (spSP K S L)
  bP : L2.Binds K fdP ["self", "k", "book"] []
  mA : Meth K S "at" fA
  gA : FnOk P w K mg base (L2.CX P w) 4 fA fdA ["self", "edition"] (spSA K S L)
  bA : L2.Binds K fdA ["self", "edition"] []
  bA0 : ∃ ds, Vals [V.non] ds ∧ L2.Binds K fdA ["self", "edition"] ds
  bAK : ∃ its : List Value, KBn K fdA ["self", "edition"] 1 ["edition"] (fun us ws => us ++ ws) (fun vs zs => vs ++ zs)
theorem KeepI.none {H H' : Hp} {x a q : Addr} {p : Int} {n c : Nat} {hist : List (List (List Int))} (k : KeepI x a H H') (h : ShelfAt S L H' x a p n c hist) (hq : H' q = Option.none) : H q = Option.none := by
  obtain ⟨⟨dx, fs, rs, h1, _, _, _, _, h6, _⟩, _⟩ := h
  cases e : H q with
  | none => rfl
  | some o =>
    by_cases e1 : q = x
    · rw [e1, h1] at hq; cases hq
    · by_cases e2 : q = a
      · rw [e2, h6] at hq; cases hq
      · rw [k q o e1 e2 e] at hq; cases hq
theorem ok_LP {f fP fA : Addr} {fd fdP fdA : FuncData} (F : FnS K "_law_put" sLP f fd) (C : ShC K mg S L) (M : ShM P w K mg base S L fP fA fdP fdA) (TN : Exc1 K mg "InvalidNumber" "value") (TL : Exc1 K mg "InvalidLibrary" "value")
    (XN : XfC K (He.ga K "InvalidNumber")) (XL : XfC K (He.ga K "InvalidLibrary")) (eNN : PySem.W.exmOne K (.ref (He.ga K "InvalidNumber")) (.ref (He.ga K "InvalidNumber")) = some true)
    (eLN : PySem.W.exmOne K (.ref (He.ga K "InvalidLibrary")) (.ref (He.ga K "InvalidNumber")) = some false) (eLL : PySem.W.exmOne K (.ref (He.ga K "InvalidLibrary")) (.ref (He.ga K "InvalidLibrary")) = some true) :
    FnOk P w K mg base (L2.CX P w) 10 f fd ["shelf", "k", "book"] (spLP K S L) := by
  refine F.ok scLP (fun vs H Q E h => ?_) (fun cdv A outer s H vs Q E hr h => ?_)
  · obtain ⟨x, a, kv, bv, bd, p, n, c, pre, last, rfl, _⟩ := h
    rfl
  · obtain ⟨x, a, kv, bv, bd, p, n, c, pre, last, rfl, hS, hle, hk, hb, hz, hsb, hp, kN, kL, kk⟩ := h
    have nd := scLP.nd
    refine ⟨_, pss_one (ps_try_cls rfl rfl nd takes0 (fun W pn xe tk _ => pss_one (ps_ret (pe_lst (pa_cons pe_str (pa_cons (pe_methSD (E := WE W) (pv 0) C.cl M.mP M.gP hr M.bP .nil (fun σ => passAt tk σ) (pa_cons (pv 1) (pa_cons (pv 2) pa_nil))) pa_nil)))))
      (.named (i := 3) rfl rfl ⟨rfl, by decide, .inl TN.glob⟩ (fun a oe cls d pn hz hf => pss_one (ps_ret (pe_lst (pa_cons pe_str (pa_cons (pe_xf XN TN.no hz hf (pv 3)) pa_nil)))))
      (.named (i := 3) rfl rfl ⟨rfl, by decide, .inl TL.glob⟩ (fun a oe cls d pn hz hf => pss_one (ps_ret (pe_lst (pa_cons pe_str (pa_cons (pe_xf XL TL.no hz hf (pv 3)) pa_nil))))) .nil))), ?_⟩
    obtain ⟨⟨dx, fs, rs, h1, h2, h3, h4, h5, h6, h7⟩, _, _⟩ := id hS
    refine ⟨_, rfl, x, dx, fs, rfl, h1, h4 _ (by decide +kernel) (by decide +kernel), _, rfl, _, rfl, x, a, kv, bv, bd, p, n, c, pre, last, rfl, hS, hle, hk, hb, hz, hsb, hp, ?_⟩
    refine ⟨fun eb => ?_, fun eb el => ?_, fun k b ek hkc hsk hlt H1 k1 hS1 => ?_⟩
    · intro d H' s1 n1 hd
      exact ⟨true, eNN, fun _ ax hax => ⟨_, rfl, rfl, rfl, d, _, kv, rfl, hd, (by simp [List.lookup]), (by show 2 ≤ sizeLine; decide), fun q hq => kN eb q _ (s1.trans (same_new hq)) (s1.free hq) upd_same⟩, fun q => nomatch q⟩
    · intro d H' s1 n1 hd
      exact ⟨false, eLN, (fun q => nomatch q), fun _ => ⟨true, eLL, fun _ ax hax => ⟨_, rfl, rfl, rfl, d, _, bv, rfl, hd, (by simp [List.lookup]), (by show 2 ≤ sizeLine; decide), fun q hq => kL eb el q _ (s1.trans (same_new hq)) (s1.free hq) upd_same⟩, fun q => nomatch q⟩⟩
    · exact ⟨(by show 2 ≤ sizeLine; decide), fun q hq => kk k b ek hkc hsk hlt q _ (k1.none hS1 hq) (fun d o n1 n2 hd => same_new hq _ _ (k1 _ _ n1 n2 hd)) (hS1.same (same_new hq)) upd_same⟩
/-- a wrong edition is told back -/
def spLA (S L : Addr) : Sp := fun vs H Q _ => ∃ (x a : Addr) (ev : V) (p : Int) (n c : Nat) (hist : List (List (List Int))), vs = [.ref x, ev] ∧ ShelfAt S L H x a p n c hist ∧ ev ≠ .non ∧ isBel hist.length ev = false ∧ ∀ H', Same H H' → Q ev H'
def spLA2 (K : PySem.W.Frag) (S L : Addr) : Sp := fun vs H Q E => spLA S L vs H Q E ∧ ∀ x ev, vs = [x, ev] → Ty3 K H ev
theorem ok_LA {f fP fA : Addr} {fd fdP fdA : FuncData} (F : FnS K "_law_at" sLA f fd) (C : ShC K mg S L) (M : ShM P w K mg base S L fP fA fdP fdA) (TN : Exc1 K mg "InvalidNumber" "value")
    (XN : XfC K (He.ga K "InvalidNumber")) (eNN : PySem.W.exmOne K (.ref (He.ga K "InvalidNumber")) (.ref (He.ga K "InvalidNumber")) = some true) :
    FnOk P w K mg base (L2.CX P w) 5 f fd ["shelf", "edition"] (spLA2 K S L) := by
  refine F.ok scLA (fun vs H Q E h => ?_) (fun cdv A outer s H vs Q E hr h => ?_)
  · obtain ⟨⟨x, a, ev, p, n, c, hist, rfl, _⟩, _⟩ := h
    rfl
  · obtain ⟨⟨x, a, ev, p, n, c, hist, rfl, hS, hn, hb, kk⟩, ht⟩ := h
    have hk := ht _ _ rfl
    have nd := scLA.nd
    refine ⟨_, pss_cons (ps_try_cls rfl rfl nd takes0 (fun W pn xe tk _ => pss_one (ps_expr (pe_methSD (E := WE W) (pv 0) C.cl M.mA M.gA hr M.bA .nil (fun σ => passAt tk σ) (pa_cons (pv 1) pa_nil))))
      (.named (i := 2) rfl rfl ⟨rfl, by decide, .inl TN.glob⟩ (fun a oe cls d pn hz hf => pss_one (ps_ret (pe_xf XN TN.no hz hf (pv 2)))) .nil)) (pss_one (ps_ret pe_str)), ?_⟩
    obtain ⟨⟨dx, fs, rs, h1, h2, h3, h4, h5, h6, h7⟩, _, _⟩ := id hS
    refine ⟨_, rfl, x, dx, fs, rfl, h1, h4 _ (by decide +kernel) (by decide +kernel), _, rfl, x, a, ev, p, n, c, hist, rfl, hS, hk, fun _ _ => ?_, fun e => absurd e hn, fun k bs ek hkb => ?_⟩
    · intro d H' s1 n1 hd
      exact ⟨true, eNN, fun _ ax hax => ⟨_, rfl, rfl, rfl, d, _, ev, rfl, hd, (by simp [List.lookup]), kk _ s1⟩, fun q => nomatch q⟩
    · exfalso
      subst ek
      have z : (decide (0 ≤ (k : Int)) && decide ((k : Int) < (hist.length : Int))) = false := hb
      have hl := (List.getElem?_eq_some_iff.mp hkb).1
      rw [decide_eq_true (show (0 : Int) ≤ k by omega), decide_eq_true (show (k : Int) < (hist.length : Int) by omega)] at z
      cases z
end
end WU

set_option maxRecDepth 100000
set_option maxHeartbeats 8000000
namespace WU
open PySem PySem.Spec PyProof.Rows L2
/-- r stands for a tuple of the books bs -/
def RB (H : Hp) (r : V) (bs : List (List Int)) : Prop := ∃ b, r = .ref b ∧ BkAt H b bs
theorem BkAt.same {H H' : Hp} {b : Addr} {bs : List (List Int)} (h : BkAt H b bs) (s : Same H H') : BkAt H' b bs := by
  obtain ⟨rs, e, h⟩ := h
  exact ⟨rs, s _ _ e, paired_mono (fun _ _ q => q.same s) h⟩
theorem RB.same {H H' : Hp} {r : V} {bs : List (List Int)} (h : RB H r bs) (s : Same H H') : RB H' r bs := by
  obtain ⟨b, e, h⟩ := h
  exact ⟨b, e, h.same s⟩
/-- the list at h holds the editions hist -/
def HistAt (H : Hp) (h : Addr) (hist : List (List (List Int))) : Prop := ∃ rs, H h = some (.lst rs) ∧ Paired (RB H) rs hist
theorem HistAt.same {H H' : Hp} {h : Addr} {hist : List (List (List Int))} (q : HistAt H h hist) (s : Same H H') : HistAt H' h hist := by
  obtain ⟨rs, e, q⟩ := q
  exact ⟨rs, s _ _ e, paired_mono (fun _ _ q => q.same s) q⟩
section
variable {P : Program} {w : World} {K : PySem.W.Frag} {mg : Str → Option Value} {base : Heap} {S L : Addr}
abbrev sSR : Stmt := top 31
theorem scSR : FnScope ["shelf", "p", "history", "at"] ["shelf", "p", "history"] (defScope sSR) := ⟨rfl, rfl, rfl, by decide +kernel, rfl, by decide +kernel, by decide +kernel⟩
def spSR (S L : Addr) : Sp := fun vs H Q _ => ∃ (x a h : Addr) (p : Int) (n c : Nat) (hist : List (List (List Int))), vs = [.ref x, .int p, .ref h] ∧ ShelfAt S L H x a p n c hist ∧ HistAt H h hist ∧ ∀ H', Same H H' → Q (.bl true) H'
theorem ok_SR {f fS fI fP fA : Addr} {fd fdS fdI fdP fdA : FuncData} (F : FnS K "_law_shelf_right" sSR f fd) (B : Blt3 mg) (C : ShC K mg S L) (M : ShM P w K mg base S L fP fA fdP fdA) (CS : Cal P w K mg base 3 "_law_same" fS fdS ["found", "due"] (spSm 2)) (CI : Cal P w K mg base 4 "_law_is" fI fdI ["library", "p", "books"] (spIs L)) :
    FnOk P w K mg base (L2.CX P w) 5 f fd ["shelf", "p", "history"] (spSR S L) := by
  refine F.ok scSR (fun vs H Q E h => ?_) (fun cdv A outer s H vs Q E hr h => ?_)
  · obtain ⟨x, a, h, p, n, c, hist, rfl, _⟩ := h
    rfl
  · obtain ⟨x, a, h, p, n, c, hist, rfl, hS, hH, kk⟩ := h
    have nd := scSR.nd
    have hr3 := hr.mono (show 3 ≤ 4 by decide)
    obtain ⟨ds0, v0, b0⟩ := M.bA0
    obtain ⟨its, bK⟩ := M.bAK
    refine ⟨_, (pss_cons (ps_if (pt_not (pt_val (pe_cal CS hr3 (pa_cons (pe_fld (pv 0) rfl) (pa_cons (pe_op op_sub (pe_callB call_len_seq (by rfl) B.len (by decide +kernel) (pa_cons (pv 2) pa_nil)) pe_int) pa_nil)) passU))) (pss_one (ps_ret pe_bl)) pss_nil)
      (pss_cons (ps_for (passes_of rfl) rfl (pi_range1 rfl B.range (pa_cons (pe_callB call_len_seq (by rfl) B.len (by decide +kernel) (pa_cons (pv 2) pa_nil)) pa_nil)) (pg_name (i := 3) nd rfl (Or.inl rfl)) (pss_one (ps_if (pt_not (pt_val (pe_cal CI hr (pa_cons (pe_meth (E := E0) (pv 0) C.cl M.mA M.gA hr M.bA .nil passU (pa_cons (pv 3) pa_nil)) (pa_cons (pv 1) (pa_cons (pe_ix ix_list (pv 2) (pv 3) (fun _ _ => rfl)) pa_nil))) passU))) (pss_one (ps_ret pe_bl)) pss_nil)))
      (pss_one (ps_ret (pe_and (pe_cal CI hr (pa_cons (pe_meth0 (E := E0) (pv 0) C.cl M.mA M.gA hr b0 v0 passU) (pa_cons (pv 1) (pa_cons (pe_ix ix_list (pv 2) (pe_un un_neg pe_int) (fun _ _ => rfl)) pa_nil))) passU) (pe_one (pe_cal CI hr (pa_cons (pe_methK (E := E0) (pv 0) C.cl M.mA M.gA hr bK passU (pk_cons pe_non pk_nil)) (pa_cons (pv 1) (pa_cons (pe_ix ix_list (pv 2) (pe_un un_neg pe_int) (fun _ _ => rfl)) pa_nil))) passU))))))), ?_⟩
    obtain ⟨⟨dx, fs, rs, h1, h2, h3, h4, h5, h6, h7⟩, h8, h9⟩ := id hS
    obtain ⟨ts, g1, g2⟩ := id hH
    have el := paired_len g2
    refine ⟨_, rfl, x, S, dx, fs, _, rfl, h1, C.cl, C.nE, h2, _, rfl, h, ts, rfl, .inl (SqL.of g1), _, 1, rfl, rfl, _, _, rfl, .inl ⟨_, rfl, ?_⟩, _, rfl, iteF ?_⟩
    · dsimp only
      rw [el]
    refine ⟨_, rfl, h, ts, rfl, .inl (SqL.of g1), (ts.length : Int), rfl, by omega, by omega, for_range (lo := 0) (n := ts.length) (fun i σ H' => ∃ y, σ = [some (.ref x), some (.int p), some (.ref h), y] ∧ Same H H') ⟨none, rfl, Same.refl H⟩ ?_ ?_⟩
    · rintro i σ H1 hi ⟨y, rfl, s1⟩
      rw [show ((0 : Int) + (i : Int)) = ((i : Nat) : Int) from Int.zero_add _]
      have hi2 : i < hist.length := by rw [← el]; exact hi
      have hbs : hist[i]? = some hist[i] := List.getElem?_eq_getElem hi2
      obtain ⟨r, hr1, b, rfl, hb⟩ := paired_of g2 hbs
      refine ⟨_, rfl, x, dx, fs, rfl, s1 _ _ h1, h4 _ (by decide +kernel) (by decide +kernel), _, rfl, x, a, .int i, p, n, c, hist, rfl, hS.same s1, ty3_int _, fun _ e => ?_, (by intro e; cases e), fun k bs ek hk r hr => ?_⟩
      · exfalso
        have z : (decide (0 ≤ (i : Int)) && decide ((i : Int) < (hist.length : Int))) = false := e
        rw [decide_eq_true (show (0 : Int) ≤ i by omega), decide_eq_true (show (i : Int) < (hist.length : Int) by omega)] at z
        cases z
      · have ek2 : i = k := by
          injection ek with ek
          omega
        subst ek2
        rw [hbs] at hk
        cases hk
        obtain ⟨y2, rfl, hL, gd, _⟩ := hr
        exact ⟨_, rfl, _, rfl, _, rfl, h, ts, (i : Int), _, rfl, rfl, SqL.of (s1 _ _ g1), atI_nat hr1, y2, b, p, n, _, rfl, hL, gd, hb.same s1, fun H2 s2 => ⟨_, rfl, iteF ⟨_, rfl, s1.trans s2⟩⟩⟩
    · rintro σ H1 ⟨y, rfl, s1⟩
      refine ⟨_, rfl, x, dx, fs, rfl, s1 _ _ h1, h4 _ (by decide +kernel) (by decide +kernel), x, a, .non, p, n, c, hist, rfl, hS.same s1, ty3_non, fun z => absurd rfl z, fun _ r pre last eh hr => ?_, (by intro k bs e; cases e)⟩
      subst eh
      obtain ⟨l0, r0, rfl, _, b, rfl, hb⟩ := paired_snoc g2
      obtain ⟨y2, rfl, hL, gd, _⟩ := hr
      refine ⟨_, rfl, _, rfl, 1, rfl, h, _, -1, _, rfl, rfl, SqL.of (s1 _ _ g1), atI_last _ _, y2, b, p, n, _, rfl, hL, gd, hb.same s1, fun H2 s2 => ⟨_, rfl, iteT ?_⟩⟩
      have s12 := s1.trans s2
      refine ⟨_, rfl, x, dx, fs, rfl, s12 _ _ h1, h4 _ (by decide +kernel) (by decide +kernel), rfl, x, a, .non, p, n, c, _, rfl, hS.same s12, ty3_non, fun z => absurd rfl z, fun _ r pre' last' eh hr => ?_, (by intro k bs e; cases e)⟩
      obtain ⟨_, e2⟩ := List.append_inj' eh rfl
      cases e2
      obtain ⟨y3, rfl, hL3, gd3, _⟩ := hr
      exact ⟨_, rfl, _, rfl, 1, rfl, h, _, -1, _, rfl, rfl, SqL.of (s12 _ _ g1), atI_last _ _, y3, b, p, n, _, rfl, hL3, gd3, hb.same s12, fun H3 s3 => kk H3 (s12.trans s3)⟩
end
end WU

set_option maxRecDepth 100000
set_option maxHeartbeats 8000000
namespace WU
open PySem PySem.Spec PyProof.Rows L2
/-! ### frames -/
/-- all but M is kept -/
def Chg (M : List Addr) (H H' : Hp) : Prop := ∀ b o, b ∉ M → H b = some o → H' b = some o
/-- a list, or a Shelf -/
def Mt (S : Addr) (H : Hp) (m : Addr) : Prop := (∃ xs, H m = some (.lst xs)) ∨ ∃ dx fs, H m = some (.ins S dx fs)
theorem Chg.of {M : List Addr} {H H' : Hp} (s : Same H H') : Chg M H H' := fun b o _ e => s b o e
theorem Keep.chg {a : Addr} {H H' : Hp} (k : Keep a H H') : Chg [a] H H' := fun b o n e => k b o (fun z => n (by rw [z]; exact List.mem_singleton.mpr rfl)) e
theorem KeepI.chg {x a : Addr} {H H' : Hp} (k : KeepI x a H H') : Chg [x, a] H H' := fun b o n e => k b o (fun z => n (by rw [z]; simp)) (fun z => n (by rw [z]; simp)) e
section
variable {S L : Addr} {M : List Addr} {H H' : Hp}
theorem Mt.tup {c : Addr} {xs : List V} (hm : ∀ m ∈ M, Mt S H m) (h : H c = some (.tup xs)) : c ∉ M := fun z => by
  rcases hm c z with ⟨ys, e⟩ | ⟨dx, fs, e⟩ <;> rw [h] at e <;> cases e
theorem TB.chg {r : V} {b : List Int} (h : TB H r b) (c : Chg M H H') (hm : ∀ m ∈ M, Mt S H m) : TB H' r b := by
  obtain ⟨e, h1, h2⟩ := h
  exact ⟨e, h1, c _ _ (Mt.tup hm h2) h2⟩
theorem BkAt.chg {r : Addr} {bs : List (List Int)} (h : BkAt H r bs) (c : Chg M H H') (hm : ∀ m ∈ M, Mt S H m) : BkAt H' r bs := by
  obtain ⟨rs, e, h⟩ := h
  exact ⟨rs, c _ _ (Mt.tup hm e) e, paired_mono (fun _ _ q => q.chg c hm) h⟩
theorem RB.chg {r : V} {bs : List (List Int)} (h : RB H r bs) (c : Chg M H H') (hm : ∀ m ∈ M, Mt S H m) : RB H' r bs := by
  obtain ⟨b, e, h⟩ := h
  exact ⟨b, e, h.chg c hm⟩
theorem LibAt.chg {x : Addr} {p : Int} {n : Nat} {bs : List (List Int)} (h : LibAt L H x p n bs) (hS : S ≠ L) (c : Chg M H H') (hm : ∀ m ∈ M, Mt S H m) : LibAt L H' x p n bs := by
  obtain ⟨dy, b, tl, rs, h1, h2, h3, h4⟩ := h
  refine ⟨dy, b, tl, rs, c _ _ (fun z => ?_) h1, c _ _ (Mt.tup hm h2) h2, paired_mono (fun _ _ q => q.chg c hm) h3, c _ _ (Mt.tup hm h4) h4⟩
  rcases hm x z with ⟨ys, e⟩ | ⟨dx, fs, e⟩ <;> rw [h1] at e <;> cases e
  exact hS rfl
theorem LB.chg {p : Int} {n c0 : Nat} {r : V} {bs : List (List Int)} (h : LB L p n c0 H r bs) (hS : S ≠ L) (c : Chg M H H') (hm : ∀ m ∈ M, Mt S H m) : LB L p n c0 H' r bs := by
  obtain ⟨y, e, h, g⟩ := h
  exact ⟨y, e, h.chg hS c hm, g⟩
theorem HistAt.chg {h : Addr} {hist : List (List (List Int))} (q : HistAt H h hist) (c : Chg M H H') (hm : ∀ m ∈ M, Mt S H m) (hn : h ∉ M) : HistAt H' h hist := by
  obtain ⟨rs, e, q⟩ := q
  exact ⟨rs, c _ _ hn e, paired_mono (fun _ _ q => q.chg c hm) q⟩
theorem ShelfAt.chg {x a : Addr} {p : Int} {n c0 : Nat} {hist : List (List (List Int))} (h : ShelfAt S L H x a p n c0 hist) (hS : S ≠ L) (c : Chg M H H') (hm : ∀ m ∈ M, Mt S H m) (hx : x ∉ M) (ha : a ∉ M) : ShelfAt S L H' x a p n c0 hist := by
  obtain ⟨⟨dx, fs, rs, h1, h2, h3, h4, h5, h6, h7⟩, h8, h9⟩ := h
  exact ⟨⟨dx, fs, rs, c _ _ hx h1, h2, h3, h4, h5, c _ _ ha h6, paired_mono (fun _ _ q => q.chg hS c hm) h7⟩, h8, h9⟩
theorem HandAt.chg {a d : Addr} (h : HandAt H a d) (c : Chg M H H') (ha : a ∉ M) (hd : d ∉ M) : HandAt H' a d := by
  obtain ⟨ds, i, h1, h2, h3⟩ := h
  exact ⟨ds, i, c _ _ ha h1, c _ _ hd h2, h3⟩
end
/-- the law's things are kept apart by numbers -/
structure Dis (t : Addr → Nat) (a d sh hi : Addr) (X A h : Nat → Addr) : Prop where
  ta : t a = 0
  td : t d = 1
  tsh : t sh = 2
  thi : t hi = 3
  tA : ∀ i, i < 2 → t (A i) = 4 + i
  th : ∀ i, i < 2 → t (h i) = 6 + i
  tX : ∀ i, i < 2 → t (X i) = 8 + i
/-- the law's things: shelves with the editions gS, lists of the editions gH -/
structure WS (S L : Addr) (H : Hp) (a d sh hi : Addr) (X A h : Nat → Addr) (p : Int) (n c : Nat) (gS gH : Nat → List (List (List Int))) (lib bk : Addr) (bs : List (List Int)) : Prop where
  hand : HandAt H a d
  shv : ∀ i, i < 2 → ShelfAt S L H (X i) (A i) p n c (gS i)
  hv : ∀ i, i < 2 → HistAt H (h i) (gH i)
  esh : H sh = some (.lst [.ref (X 0), .ref (X 1)])
  ehi : H hi = some (.lst [.ref (h 0), .ref (h 1)])
  elib : LibAt L H lib p n bs
  ebk : BkAt H bk bs
theorem not1 {x y : Addr} (h : x ≠ y) : x ∉ [y] := fun z => h (List.mem_singleton.mp z)
theorem not2 {x y z : Addr} (h : x ≠ y) (h2 : x ≠ z) : x ∉ [y, z] := fun q => by
  rcases List.mem_cons.mp q with e | q
  · exact h e
  · exact h2 (List.mem_singleton.mp q)
theorem ne_tg {t : Addr → Nat} {x y : Addr} {i j : Nat} (hx : t x = i) (hy : t y = j) (h : i ≠ j) : x ≠ y := fun e => h (by rw [← hx, ← hy, e])
section
variable {S L : Addr} {H H' : Hp} {a d sh hi : Addr} {X A h : Nat → Addr} {p : Int} {n c : Nat} {gS gH : Nat → List (List (List Int))} {lib bk : Addr} {bs : List (List Int)} {t : Addr → Nat}
theorem WS.same (w : WS S L H a d sh hi X A h p n c gS gH lib bk bs) (s : Same H H') : WS S L H' a d sh hi X A h p n c gS gH lib bk bs :=
  ⟨w.hand.same s, fun i hi => (w.shv i hi).same s, fun i hi => (w.hv i hi).same s, s _ _ w.esh, s _ _ w.ehi, w.elib.same s, w.ebk.same s⟩
theorem HandAt.mt {H : Hp} {a d : Addr} (h : HandAt H a d) : ∀ m ∈ [a], Mt S H m := fun m hm => by
  obtain ⟨ds, i, h1, _⟩ := h
  rw [List.mem_singleton.mp hm]
  exact .inl ⟨_, h1⟩
theorem WS.take (w : WS S L H a d sh hi X A h p n c gS gH lib bk bs) (hS : S ≠ L) (D : Dis t a d sh hi X A h) (k : Keep a H H') (hH : HandAt H' a d) : WS S L H' a d sh hi X A h p n c gS gH lib bk bs := by
  have mt : ∀ m ∈ [a], Mt S H m := w.hand.mt
  refine ⟨hH, fun i hi => (w.shv i hi).chg hS k.chg mt (not1 (ne_tg (D.tX i hi) D.ta (by omega))) (not1 (ne_tg (D.tA i hi) D.ta (by omega))), fun i hi => (w.hv i hi).chg k.chg mt (not1 (ne_tg (D.th i hi) D.ta (by omega))),
    k _ _ (ne_tg D.tsh D.ta (by omega)) w.esh, k _ _ (ne_tg D.thi D.ta (by omega)) w.ehi, w.elib.chg hS k.chg mt, w.ebk.chg k.chg mt⟩
/-- the list that is hf i at i = w -/
def setAt {α : Type} (g : Nat → α) (w : Nat) (v : α) : Nat → α := fun i => if i = w then v else g i
theorem setAt_same {α : Type} {g : Nat → α} {w : Nat} {v : α} : setAt g w v w = v := if_pos rfl
theorem setAt_ne {α : Type} {g : Nat → α} {w i : Nat} {v : α} (h : i ≠ w) : setAt g w v i = g i := if_neg h
theorem WS.put (w : WS S L H a d sh hi X A h p n c gS gH lib bk bs) (hS : S ≠ L) (D : Dis t a d sh hi X A h) {j : Nat} (hj : j < 2) {g : List (List (List Int))} (k : KeepI (X j) (A j) H H') (q : ShelfAt S L H' (X j) (A j) p n c g) :
    WS S L H' a d sh hi X A h p n c (setAt gS j g) gH lib bk bs := by
  have mt : ∀ m ∈ [X j, A j], Mt S H m := fun m hm => by
    obtain ⟨⟨dx, fs, rs, h1, _, _, _, _, h6, _⟩, _⟩ := w.shv j hj
    rcases List.mem_cons.mp hm with e | hm
    · rw [e]; exact .inr ⟨dx, fs, h1⟩
    · rw [List.mem_singleton.mp hm]; exact .inl ⟨rs, h6⟩
  have tX := D.tX j hj
  have tA := D.tA j hj
  refine ⟨w.hand.chg k.chg (not2 (ne_tg D.ta tX (by omega)) (ne_tg D.ta tA (by omega))) (not2 (ne_tg D.td tX (by omega)) (ne_tg D.td tA (by omega))), fun i hi => ?_, fun i hi => (w.hv i hi).chg k.chg mt (not2 (ne_tg (D.th i hi) tX (by omega)) (ne_tg (D.th i hi) tA (by omega))),
    k _ _ (ne_tg D.tsh tX (by omega)) (ne_tg D.tsh tA (by omega)) w.esh, k _ _ (ne_tg D.thi tX (by omega)) (ne_tg D.thi tA (by omega)) w.ehi, w.elib.chg hS k.chg mt, w.ebk.chg k.chg mt⟩
  by_cases e : i = j
  · subst e
    rw [setAt_same]
    exact q
  · rw [setAt_ne e]
    exact (w.shv i hi).chg hS k.chg mt (not2 (ne_tg (D.tX i hi) tX (by omega)) (ne_tg (D.tX i hi) tA (by omega))) (not2 (ne_tg (D.tA i hi) tX (by omega)) (ne_tg (D.tA i hi) tA (by omega)))
theorem WS.app (w : WS S L H a d sh hi X A h p n c gS gH lib bk bs) (hS : S ≠ L) (D : Dis t a d sh hi X A h) {j : Nat} (hj : j < 2) {xs : List V} {r : V} {g : List (List Int)} (e : H (h j) = some (.lst xs)) (hp : Paired (RB H) xs (gH j)) (hr : RB H r g) :
    WS S L (upd H (h j) (.lst (xs ++ [r]))) a d sh hi X A h p n c gS (setAt gH j (gH j ++ [g])) lib bk bs := by
  have k : Chg [h j] H (upd H (h j) (.lst (xs ++ [r]))) := fun b o nb eb => by rw [upd_ne fun z => nb (by rw [z]; exact List.mem_singleton.mpr rfl)]; exact eb
  have mt : ∀ m ∈ [h j], Mt S H m := fun m hm => by
    rw [List.mem_singleton.mp hm]
    exact .inl ⟨_, e⟩
  have th := D.th j hj
  refine ⟨w.hand.chg k (not1 (ne_tg D.ta th (by omega))) (not1 (ne_tg D.td th (by omega))), fun i hi => (w.shv i hi).chg hS k mt (not1 (ne_tg (D.tX i hi) th (by omega))) (not1 (ne_tg (D.tA i hi) th (by omega))), fun i hi => ?_,
    k _ _ (not1 (ne_tg D.tsh th (by omega))) w.esh, k _ _ (not1 (ne_tg D.thi th (by omega))) w.ehi, w.elib.chg hS k mt, w.ebk.chg k mt⟩
  by_cases z : i = j
  · subst z
    rw [setAt_same]
    exact ⟨_, upd_same, paired_app (paired_mono (fun _ _ q => q.chg k mt) hp) (.cons (hr.chg k mt) .nil)⟩
  · rw [setAt_ne z]
    exact (w.hv i hi).chg k mt (not1 (ne_tg (D.th i hi) th (by omega)))
/-- where z is none of the law's things -/
theorem WS.other (w : WS S L H a d sh hi X A h p n c gS gH lib bk bs) (hS : S ≠ L) {z : Addr} {xs : List V} {o : HO} (e : H z = some (.lst xs)) (n1 : a ≠ z) (n2 : d ≠ z) (n3 : sh ≠ z) (n4 : hi ≠ z) (n5 : ∀ i, i < 2 → A i ≠ z) (n6 : ∀ i, i < 2 → h i ≠ z) :
    WS S L (upd H z o) a d sh hi X A h p n c gS gH lib bk bs := by
  have k : Chg [z] H (upd H z o) := fun b u nb eb => by rw [upd_ne fun y => nb (by rw [y]; exact List.mem_singleton.mpr rfl)]; exact eb
  have mt : ∀ m ∈ [z], Mt S H m := fun m hm => by
    rw [List.mem_singleton.mp hm]
    exact .inl ⟨_, e⟩
  refine ⟨w.hand.chg k (not1 n1) (not1 n2), fun i hi => (w.shv i hi).chg hS k mt (not1 fun y => ?_) (not1 (n5 i hi)), fun i hi => (w.hv i hi).chg k mt (not1 (n6 i hi)),
    k _ _ (not1 n3) w.esh, k _ _ (not1 n4) w.ehi, w.elib.chg hS k mt, w.ebk.chg k mt⟩
  obtain ⟨⟨dx, fs, rs, h1, _⟩, _⟩ := w.shv i hi
  rw [y, e] at h1
  cases h1
/-- what is new stands apart -/
theorem WS.fresh (w : WS S L H a d sh hi X A h p n c gS gH lib bk bs) {z : Addr} (hz : H z = none) : a ≠ z ∧ d ≠ z ∧ sh ≠ z ∧ hi ≠ z ∧ (∀ i, i < 2 → A i ≠ z) ∧ ∀ i, i < 2 → h i ≠ z := by
  refine ⟨(w.hand.ne hz).1, (w.hand.ne hz).2, ne_of_none w.esh hz, ne_of_none w.ehi hz, fun i hi => ?_, fun i hi => ?_⟩
  · obtain ⟨⟨dx, fs, rs, h1, _, _, _, _, h6, _⟩, _⟩ := w.shv i hi
    exact ne_of_none h6 hz
  · obtain ⟨rs, e, _⟩ := w.hv i hi
    exact ne_of_none e hz
end
end WU

set_option maxRecDepth 100000
set_option maxHeartbeats 8000000
namespace WU
open PySem PySem.Spec PyProof.Rows L2
/-! ### the values that are no letters, no numbers -/
def SlfD (d : PyData) : Prop := d.canLay0 = true ∧ d.depth ≤ 10 ∧ PyData.eqv d d = true
theorem SlfD.shaped {d : PyData} (h : SlfD d) : SeqAt.shaped d = true := by
  unfold SeqAt.shaped
  rw [h.1, Bool.true_and]
  exact decide_eq_true (by have := h.2.1; omega)
theorem SlfD.pair {d : PyData} {z : Str} (h : SlfD d) (hz : PyData.strOk z = true) : SeqAt.shaped (.list [.str z, d]) = true ∧ PyData.eqv (.list [.str z, d]) (.list [.str z, d]) = true := by
  constructor
  · unfold SeqAt.shaped
    simp only [PyData.canLay0, PyData.canLayAll0, hz, h.1, PyData.depth, PyData.depthAll, Bool.and_self, Bool.true_and]
    exact decide_eq_true (by have := h.2.1; omega)
  · simp only [PyData.eqv, PyData.eqvAll, h.2.2, Bool.and_self, Bool.and_true]
    exact beq_self_eq_true z
/-- a number or a bool -/
def AtD (v : V) (d : PyData) : Prop := (∃ i, v = .int i ∧ d = .int i) ∨ ∃ b, v = .bl b ∧ d = .bool b
theorem at_ints : ∀ b : List Int, Paired AtD (b.map V.int) (b.map PyData.int)
  | [] => .nil
  | i :: b => .cons (.inl ⟨i, rfl, rfl⟩) (at_ints b)
theorem at_all {K : PySem.W.Frag} {H : Hp} : ∀ {xs : List V} {ds : List PyData}, Paired AtD xs ds → DpAll K H xs ds ∧ PyData.canLayAll0 ds = true ∧ PyData.depthAll ds = 0 ∧ PyData.eqvAll ds ds = true
  | _, _, .nil => ⟨.nil, rfl, rfl, rfl⟩
  | _, _, .cons h t => by
    obtain ⟨a, b, c, e⟩ := at_all (K := K) (H := H) t
    rcases h with ⟨i, rfl, rfl⟩ | ⟨k, rfl, rfl⟩
    · refine ⟨.cons (.int i) a, ?_, ?_, ?_⟩
      · simp only [PyData.canLayAll0, PyData.canLay0, b, Bool.and_self]
      · simp only [PyData.depthAll, PyData.depth, c, Nat.max_self]
      · simp only [PyData.eqvAll, PyData.eqv, e, Bool.and_true]
        exact beq_self_eq_true i
    · refine ⟨.cons (.bl k) a, ?_, ?_, ?_⟩
      · simp only [PyData.canLayAll0, PyData.canLay0, b, Bool.and_self]
      · simp only [PyData.depthAll, PyData.depth, c, Nat.max_self]
      · simp only [PyData.eqvAll, PyData.eqv, e, Bool.and_true]
        exact beq_self_eq_true k
/-- such a value, and its data -/
def VD (H : Hp) (v : V) (d : PyData) : Prop := (v = .non ∧ d = .none) ∨ AtD v d ∨ (v = .str "0" ∧ d = .str "0") ∨ (∃ r xs ds, v = .ref r ∧ d = .tuple ds ∧ H r = some (.tup xs) ∧ Paired AtD xs ds) ∨
  ∃ r s, v = .ref r ∧ d = .list [.list [.int 0]] ∧ H r = some (.lst [.ref s]) ∧ H s = some (.lst [.int 0])
theorem VD.dp {K : PySem.W.Frag} {H : Hp} {v : V} {d : PyData} (h : VD H v d) : Dp K H v d := by
  rcases h with ⟨rfl, rfl⟩ | (⟨i, rfl, rfl⟩ | ⟨b, rfl, rfl⟩) | ⟨rfl, rfl⟩ | ⟨r, xs, ds, rfl, rfl, e, h⟩ | ⟨r, s, rfl, rfl, e, f⟩
  · exact .non
  · exact .int i
  · exact .bl b
  · exact .str "0"
  · exact .tup (SqT.of e) (at_all h).1
  · exact .lst (SqL.of e) (.cons (.lst (SqL.of f) (.cons (.int 0) .nil)) .nil)
theorem VD.slf {H : Hp} {v : V} {d : PyData} (K : PySem.W.Frag) (h : VD H v d) : SlfD d := by
  rcases h with ⟨rfl, rfl⟩ | (⟨i, rfl, rfl⟩ | ⟨b, rfl, rfl⟩) | ⟨rfl, rfl⟩ | ⟨r, xs, ds, rfl, rfl, e, h⟩ | ⟨r, s, rfl, rfl, e, f⟩
  · exact ⟨rfl, by decide, rfl⟩
  · exact ⟨rfl, Nat.zero_le _, beq_self_eq_true i⟩
  · exact ⟨rfl, Nat.zero_le _, beq_self_eq_true b⟩
  · exact ⟨by decide +kernel, by decide, by decide +kernel⟩
  · obtain ⟨_, b, c, e⟩ := at_all (K := K) (H := H) h
    exact ⟨b, by simp only [PyData.depth, c]; omega, e⟩
  · exact ⟨by decide +kernel, by decide +kernel, by decide +kernel⟩
theorem VD.same {H H' : Hp} {v : V} {d : PyData} (h : VD H v d) (s : Same H H') : VD H' v d := by
  rcases h with h | h | h | ⟨r, xs, ds, h1, h2, e, h⟩ | ⟨r, t, h1, h2, e, f⟩
  · exact .inl h
  · exact .inr (.inl h)
  · exact .inr (.inr (.inl h))
  · exact .inr (.inr (.inr (.inl ⟨r, xs, ds, h1, h2, s _ _ e, h⟩)))
  · exact .inr (.inr (.inr (.inr ⟨r, t, h1, h2, s _ _ e, s _ _ f⟩)))
theorem VD.keep {H H' : Hp} {v : V} {d : PyData} {q dd : Addr} (h : VD H v d) (hH : HandAt H q dd) (s : Keep q H H') : VD H' v d := by
  obtain ⟨ns, i, g, _⟩ := hH
  rcases h with h | h | h | ⟨r, xs, ds, h1, h2, e, h⟩ | ⟨r, t, h1, h2, e, f⟩
  · exact .inl h
  · exact .inr (.inl h)
  · exact .inr (.inr (.inl h))
  · exact .inr (.inr (.inr (.inl ⟨r, xs, ds, h1, h2, s _ _ (ne_of e g (by intro z; cases z)) e, h⟩)))
  · exact .inr (.inr (.inr (.inr ⟨r, t, h1, h2, s _ _ (ne_of e g (by intro z; cases z)) e, s _ _ (ne_of f g (by intro z; cases z)) f⟩)))
theorem lets_no {p : Int} {n : Nat} {ds : List PyData} (h : ds.length ≠ n ∨ ∃ d ∈ ds, belD p d = false) : (decide ((ds.length : Int) = n) && ds.all (belD p)) = false := by
  rcases h with h | ⟨d, hd, e⟩
  · rw [decide_eq_false (by omega), Bool.false_and]
  · rw [show ds.all (belD p) = false from List.all_eq_false.mpr ⟨d, hd, by rw [e]; decide⟩, Bool.and_false]
theorem cut_1 {xs : List V} (h : 1 ≤ xs.length) : cutV xs (some 1) none = xs.drop 1 := cut_from (k := 1) h
theorem sIx_m1 {n d : Nat} (h : 1 ≤ n) : HT.sIx n d (some (-1)) = n - 1 := by
  show (if (-1 : Int) < 0 then ((-1 : Int) + (n : Int)).toNat else min (-1 : Int).toNat n) = n - 1
  rw [if_pos (by decide)]
  omega
theorem cut_m1 {xs : List V} (h : 1 ≤ xs.length) : cutV xs none (some (-1)) = xs.take (xs.length - 1) := by
  unfold cutV
  rw [HT.sIx_none, sIx_m1 h, List.drop_zero, Nat.sub_zero]
end WU

set_option maxRecDepth 100000
set_option maxHeartbeats 8000000
namespace WU
open PySem PySem.Spec PyProof.Rows L2
abbrev NL : List Str := ["script", "hand", "p", "count", "size", "books", "library", "shelves", "history", "step", "which", "k", "new", "kind", "wrong", "bad", "shelf", "passed", "found", "last", "far", "one"]
abbrev sLaw : Stmt := top 32
theorem scLaw : FnScope NL ["script"] (defScope sLaw) := ⟨rfl, rfl, rfl, by decide +kernel, rfl, by decide +kernel, by decide +kernel⟩
/-- the body of the loop -/
def loopOf : List Stmt → List Stmt
  | .For _ _ b _ _ :: _ => b
  | _ => []
def thenOf : List Stmt → List Stmt
  | .If _ b _ _ :: _ => b
  | _ => []
def elseOf : List Stmt → List Stmt
  | .If _ _ b _ :: _ => b
  | _ => []
abbrev LB8 : List Stmt := loopOf ((defBody sLaw).drop 8)
example : LB8.length = 9 := by rfl
abbrev TA8 : List Stmt := thenOf (LB8.drop 7)
abbrev TB8 : List Stmt := thenOf (elseOf (LB8.drop 7))
abbrev TC8 : List Stmt := elseOf (elseOf (LB8.drop 7))
example : TA8.length = 6 := by rfl
example : TB8.length = 2 := by rfl
example : TC8.length = 2 := by rfl
def CalE (P : Program) (w : World) (K : PySem.W.Frag) (mg : Str → Option Value) (base : Heap) (k : Nat) (x : Str) (ps : List Str) (sp : Sp) : Prop := ∃ f fd, Cal P w K mg base k x f fd ps sp
structure LC (P : Program) (w : World) (K : PySem.W.Frag) (mg : Str → Option Value) (base : Heap) (S L : Addr) : Prop where
  B : Blt3 mg
  cS : ShC K mg S L
  cL : LibC K mg L
  draws : CalE P w K mg base 1 "_law_draws" ["script", "many"] (spDraws K 160)
  take : CalE P w K mg base 1 "_law_take" ["hand", "many"] spTake
  field : CalE P w K mg base 2 "_law_field" ["hand"] spLFd
  books : CalE P w K mg base 2 "_law_books" ["hand", "p", "count", "size"] spBk
  put : CalE P w K mg base 10 "_law_put" ["shelf", "k", "book"] (spLP K S L)
  at_ : CalE P w K mg base 5 "_law_at" ["shelf", "edition"] (spLA2 K S L)
  same : CalE P w K mg base 3 "_law_same" ["found", "due"] (spSm 2)
  right : CalE P w K mg base 5 "_law_shelf_right" ["shelf", "p", "history"] (spSR S L)
  is : CalE P w K mg base 4 "_law_is" ["library", "p", "books"] (spIs L)
  mkL : ∃ f fd, Mk K L f ∧ FnOk P w K mg base (L2.CX P w) 6 f fd ["self", "p", "books"] (spLI K L) ∧ L2.Binds K fd ["self", "p", "books"] []
  mkS : ∃ f fd, Mk K S f ∧ FnOk P w K mg base (L2.CX P w) 1 f fd ["self", "library"] (spSI S L) ∧ L2.Binds K fd ["self", "library"] []
section
variable {P : Program} {w : World} {K : PySem.W.Frag} {mg : Str → Option Value} {base : Heap} {S L : Addr} {f : Addr} {cdv : Value} {A : Around} {outer : List Env} {s : Shared} {H : Hp} {E : XK}
/-- the last loop of a step -/
theorem pZ (C : LC P w K mg base S L) (hr : Room 10 (A.deeper (envOfC "law" (defScope sLaw) s.heap.objs.size f cdv))) :
    ∃ t, PSs (cxOf CX0 P w K mg base NL "law" (defScope sLaw) f cdv A outer s H E) (LB8.drop 8) t ∧ ∀ (D : Ends) (H' : Hp) (a0 q d sh hi : Addr) (X Y h : Nat → Addr) (p : Int) (n c : Nat) (g : Nat → List (List (List Int))) (lib bk : Addr) (bs : List (List Int)) (v9 v10 v11 v12 v13 v14 v15 v16 v17 v18 v19 v20 v21 : Option V),
      WS S L H' q d sh hi X Y h p n c g g lib bk bs → (∀ v21 H'', Same H' H'' → D.nx [some (.ref a0), some (.ref q), some (.int p), some (.int c), some (.int n), some (.ref bk), some (.ref lib), some (.ref sh), some (.ref hi), v9, v10, v11, v12, v13, v14, v15, v16, v17, v18, v19, v20, v21] H'') →
      t D [some (.ref a0), some (.ref q), some (.int p), some (.int c), some (.int n), some (.ref bk), some (.ref lib), some (.ref sh), some (.ref hi), v9, v10, v11, v12, v13, v14, v15, v16, v17, v18, v19, v20, v21] H' := by
  obtain ⟨_, _, CR⟩ := C.right
  have B := C.B
  have nd := scLaw.nd
  have hr5 := hr.mono (show 5 ≤ 10 by decide)
  refine ⟨_, (pss_one (ps_for (passes_of rfl) rfl (pi_range1 rfl B.range (pa_cons pe_int pa_nil)) (pg_name (i := 21) nd rfl (Or.inl rfl)) (pss_one (ps_if (pt_not (pt_val (pe_cal CR hr5 (pa_cons (pe_ix ix_list (pv 7) (pv 21) (fun _ _ => rfl)) (pa_cons (pv 2) (pa_cons (pe_ix ix_list (pv 8) (pv 21) (fun _ _ => rfl)) pa_nil))) passU))) (pss_one (ps_ret pe_bl)) pss_nil)))), ?_⟩
  intro D H0 a0 q d sh hi X Y h p n c g lib bk bs v9 v10 v11 v12 v13 v14 v15 v16 v17 v18 v19 v20 v21 W k
  refine ⟨2, rfl, by decide, by decide, for_range (lo := 0) (n := 2) (fun i σ H' => ∃ v21, σ = [some (.ref a0), some (.ref q), some (.int p), some (.int c), some (.int n), some (.ref bk), some (.ref lib), some (.ref sh), some (.ref hi), v9, v10, v11, v12, v13, v14, v15, v16, v17, v18, v19, v20, v21] ∧ Same H0 H') ⟨v21, rfl, Same.refl H0⟩ ?_ ?_⟩
  · rintro i σ H1 hi2 ⟨v21, rfl, s1⟩
    rw [show ((0 : Int) + (i : Int)) = ((i : Nat) : Int) from Int.zero_add _]
    have W1 := W.same s1
    have e1 : ([V.ref (X 0), V.ref (X 1)] : List V)[i]? = some (.ref (X i)) := by
      have : i = 0 ∨ i = 1 := by omega
      rcases this with rfl | rfl <;> rfl
    have e2 : ([V.ref (h 0), V.ref (h 1)] : List V)[i]? = some (.ref (h i)) := by
      have : i = 0 ∨ i = 1 := by omega
      rcases this with rfl | rfl <;> rfl
    exact ⟨_, rfl, _, rfl, sh, _, (i : Int), _, rfl, rfl, SqL.of W1.esh, atI_nat e1, _, rfl, _, rfl, _, rfl, hi, _, (i : Int), _, rfl, rfl, SqL.of W1.ehi, atI_nat e2, X i, Y i, h i, p, n, c, g i, rfl, W1.shv i hi2, W1.hv i hi2, fun H2 s2 => ⟨_, rfl, iteF ⟨_, rfl, s1.trans s2⟩⟩⟩
  · rintro σ H1 ⟨v21, rfl, s1⟩
    exact k v21 H1 s1
end
end WU

set_option maxRecDepth 100000
set_option maxHeartbeats 8000000
namespace WU
open PySem PySem.Spec PyProof.Rows L2
theorem map_int_inj {a b : List Int} (h : a.map V.int = b.map V.int) : a = b := by
  induction a generalizing b with
  | nil => cases b with
    | nil => rfl
    | cons _ _ => cases h
  | cons x a ih => cases b with
    | nil => cases h
    | cons y b =>
      simp only [List.map_cons, List.cons.injEq, V.int.injEq] at h
      rw [h.1, ih h.2]
theorem SB.inj {H : Hp} {r : V} {a b : List Int} (x : SB H r a) (y : SB H r b) : a = b := by
  obtain ⟨c, rfl, x⟩ := x
  obtain ⟨d, e, y⟩ := y
  cases e
  rcases x with x | x <;> rcases y with y | y <;> rw [x] at y <;> have z := Option.some.inj y
  · injection z with z
    exact map_int_inj z
  · cases z
  · cases z
  · injection z with z
    exact map_int_inj z
theorem pick2 {x : Nat → Addr} {i : Nat} (h : i < 2) : ([V.ref (x 0), V.ref (x 1)] : List V)[i]? = some (.ref (x i)) := by
  have : i = 0 ∨ i = 1 := by omega
  rcases this with rfl | rfl <;> rfl
section
variable {P : Program} {w : World} {K : PySem.W.Frag} {mg : Str → Option Value} {base : Heap} {S L : Addr} {f : Addr} {cdv : Value} {A : Around} {outer : List Env} {s : Shared} {H : Hp} {E : XK}
/-- a book is put -/
theorem pA (C : LC P w K mg base S L) (hr : Room 10 (A.deeper (envOfC "law" (defScope sLaw) s.heap.objs.size f cdv))) :
    ∃ t, PSs (cxOf CX0 P w K mg base NL "law" (defScope sLaw) f cdv A outer s H E) TA8 t ∧ ∀ (D : Ends) (H' : Hp) (a0 q d sh hi : Addr) (X Y h : Nat → Addr) (p : Int) (n c : Nat) (g : Nat → List (List (List Int))) (lib bk : Addr) (bs : List (List Int)) (tg : Addr → Nat) (j k : Nat) (nw : Addr) (nb : List Int) (v9 v13 v14 v15 v17 v18 v19 v20 v21 : Option V),
      WS S L H' q d sh hi X Y h p n c g g lib bk bs → Dis tg q d sh hi X Y h → j < 2 → k < c → TB H' (.ref nw) nb → Ltr p n nb → n ≤ 100 → 1 ≤ n → p ∈ primes → (g j).length < 100 →
      (∀ v17 v18 v19 g' H'', WS S L H'' q d sh hi X Y h p n c g' g' lib bk bs → (∀ i, (g' i).length ≤ (g i).length + 1) → D.nx [some (.ref a0), some (.ref q), some (.int p), some (.int c), some (.int n), some (.ref bk), some (.ref lib), some (.ref sh), some (.ref hi), v9, some (.int j), some (.int k), some (.ref nw), v13, v14, v15, some (.ref (X j)), v17, v18, v19, v20, v21] H'') →
      t D [some (.ref a0), some (.ref q), some (.int p), some (.int c), some (.int n), some (.ref bk), some (.ref lib), some (.ref sh), some (.ref hi), v9, some (.int j), some (.int k), some (.ref nw), v13, v14, v15, some (.ref (X j)), v17, v18, v19, v20, v21] H' := by
  obtain ⟨_, _, CT⟩ := C.take
  obtain ⟨_, _, CP⟩ := C.put
  obtain ⟨_, _, CS⟩ := C.same
  have B := C.B
  have nd := scLaw.nd
  have hr1 := hr.mono (show 1 ≤ 10 by decide)
  have hr3 := hr.mono (show 3 ≤ 10 by decide)
  refine ⟨_, (pss_cons (ps_set (i := 17) nd rfl (Or.inl rfl) (pe_ix ix_list (pe_lst (pa_cons (pe_callTy call_list_of (by rfl) B.lst (by decide +kernel) (pa_cons (pv 12) pa_nil)) (pa_cons (pv 12) pa_nil))) (pe_cal CT hr1 (pa_cons (pv 1) (pa_cons pe_int pa_nil)) passU) (fun _ _ => rfl)))
      (pss_cons (ps_set (i := 18) nd rfl (Or.inl rfl) (pe_cal CP hr (pa_cons (pv 16) (pa_cons (pv 11) (pa_cons (pv 17) pa_nil))) passU))
      (pss_cons (ps_set (i := 19) nd rfl (Or.inl rfl) (pe_ix ix_list (pe_ix ix_list (pv 8) (pv 10) (fun _ _ => rfl)) (pe_un un_neg pe_int) (fun _ _ => rfl)))
      (pss_cons (ps_expr (pe_bm PySem.F.plainAttrs_list PySem.F.slot_list_append PySem.F.type_list_append mt_append (pe_ix ix_list (pv 8) (pv 10) (fun _ _ => rfl)) (pa_cons (pe_op op_catA (pe_op op_catA (pe_slice sl_tupA (pv 19) po_none (po_some (pv 11))) (pe_tup (pa_cons (pv 12) pa_nil))) (pe_slice sl_tupA (pv 19) (po_some (pe_op op_add (pv 11) pe_int)) po_none)) pa_nil)))
      (pss_cons (ps_if (PW.pt (pw_or (pt_cmpR op_ne (pe_ix ix_list (pv 18) pe_int (fun _ _ => rfl)) pe_str (nomark _)) (pw_or1 (pt_not (pt_val (pe_cal CS hr3 (pa_cons (pe_ix ix_list (pv 18) pe_int (fun _ _ => rfl)) (pa_cons (pe_op op_sub (pe_callB call_len_seq (by rfl) B.len (by decide +kernel) (pa_cons (pe_ix ix_list (pv 8) (pv 10) (fun _ _ => rfl)) pa_nil)) pe_int) pa_nil)) passU)))))) (pss_one (ps_ret pe_bl)) pss_nil)
      (pss_one (ps_if (pt_val (pe_callB call_isi (by rfl) B.isi (by decide +kernel) (pa_cons (pv 17) (pa_cons (pe_bltn (v := .ty "list") (by rfl) B.lst (by decide +kernel) rfl) pa_nil)))) (pss_one (ps_asg (pv 2) (pg_sub (pv 17) pe_int set_list))) pss_nil))))))), ?_⟩
  intro D H0 a0 q d sh hi X Y h p n c g lib bk bs tg j k nw nb v9 v13 v14 v15 v17 v18 v19 v20 v21 W Ds hj hkc ⟨_, enw, hnw⟩ hlt hn100 hn1 hp hgl kk
  cases enw
  have hSL : S ≠ L := C.cS.ne
  -- the two forms of the new book
  refine ⟨_, rfl, nw, _, rfl, .inr (SqT.of hnw), fun l hl => ⟨_, rfl, (by show 2 ≤ sizeLine; decide), fun Z hZ => ?_⟩⟩
  have s1 := same_new (o := .lst (nb.map V.int)) hl
  have s2 := same_new (o := .lst [.ref l, .ref nw]) hZ
  have el : upd (upd H0 l (.lst (nb.map V.int))) Z (.lst [.ref l, .ref nw]) l = some (.lst (nb.map V.int)) := s2 _ _ upd_same
  have eZ : upd (upd H0 l (.lst (nb.map V.int))) Z (.lst [.ref l, .ref nw]) Z = some (.lst [.ref l, .ref nw]) := upd_same
  have fl := W.fresh hl
  have W2 := W.same (s1.trans s2)
  have hnw2 := (s1.trans s2) _ _ hnw
  generalize upd (upd H0 l (.lst (nb.map V.int))) Z (.lst [.ref l, .ref nw]) = H2 at el eZ W2 hnw2 ⊢
  refine ⟨_, rfl, q, d, 2, rfl, by decide, W2.hand, fun r H3 r0 r1 h3 k3 => ?_⟩
  have W3 := W2.take hSL Ds k3 h3
  have nqZ : Z ≠ q := fun e => by
    obtain ⟨ds, i, g1, _⟩ := W2.hand
    rw [e, g1] at eZ
    cases eZ
  have eZ3 := k3 _ _ nqZ eZ
  have el3 := k3 _ _ fl.1.symm el
  have hnw3 : H3 nw = some (.tup (nb.map V.int)) := by
    obtain ⟨ds, i, g1, _⟩ := W2.hand
    exact k3 _ _ (ne_of hnw2 g1 (by intro z; cases z)) hnw2
  obtain ⟨u, hu, hsb, hul⟩ : ∃ u, atI ([.ref l, .ref nw] : List V) r = some (.ref u) ∧ SB H3 (.ref u) nb ∧ ((u = l ∧ H3 u = some (.lst (nb.map V.int))) ∨ H3 u = some (.tup (nb.map V.int))) := by
    have : r = 0 ∨ r = 1 := by omega
    rcases this with rfl | rfl
    · exact ⟨l, rfl, ⟨l, rfl, .inl el3⟩, .inl ⟨rfl, el3⟩⟩
    · exact ⟨nw, rfl, ⟨nw, rfl, .inr hnw3⟩, .inr hnw3⟩
  refine ⟨Z, _, r, _, rfl, rfl, SqL.of eZ3, hu, ?_⟩
  have sh3 := W3.shv j hj
  obtain ⟨pre, last, eg⟩ : ∃ pre last, g j = pre ++ [last] := ⟨(g j).dropLast, (g j).getLast (by intro z; have := sh3.ne; rw [z] at this; cases this), (List.dropLast_concat_getLast _).symm⟩
  rw [eg] at sh3 hgl
  obtain ⟨bd, hbd, hbs, hbl, _, _⟩ := sb_dp (K := K) hsb hlt hn100
  have ib : isBel c (.int k) = true := by
    show (decide (0 ≤ (k : Int)) && decide ((k : Int) < (c : Int))) = true
    rw [decide_eq_true (show (0 : Int) ≤ k by omega), decide_eq_true (show (k : Int) < (c : Int) by omega)]
    rfl
  refine ⟨_, rfl, _, rfl, _, rfl, X j, Y j, .int k, .ref u, bd, p, n, c, pre, last, rfl, sh3, hgl, ty3_int _, hbd, hbs, fun _ => ⟨nb, hsb, hlt⟩, hp, (fun e => by rw [ib] at e; cases e), (fun _ e => by rw [hbl] at e; cases e), fun k' b' ek hk' hsb' hlt' fq H4 hq0 kI shn ef => ?_⟩
  obtain rfl := SB.inj hsb hsb'
  have ek' : k = k' := by
    injection ek with ek
    omega
  subst ek'
  have W4 := W3.put hSL Ds hj kI shn
  have fl3 : ∀ b o, H3 b = some o → b ≠ fq := fun b o e => ne_of_none e hq0
  have hnw4 : H4 nw = some (.tup (nb.map V.int)) := by
    obtain ⟨⟨dx, fs, rs, g1, _, _, _, _, g6, _⟩, _⟩ := sh3
    exact kI _ _ (ne_of hnw3 g1 (by intro z; cases z)) (ne_of hnw3 g6 (by intro z; cases z)) hnw3
  have hul4 : (u = l ∧ H4 u = some (.lst (nb.map V.int))) ∨ H4 u = some (.tup (nb.map V.int)) := by
    obtain ⟨⟨dx, fs, rs, g1, _, _, _, _, g6, _⟩, _⟩ := sh3
    rcases hul with ⟨rfl, e⟩ | e
    · exact .inl ⟨rfl, kI _ _ (ne_of e g1 (by intro z; cases z)) (fl.2.2.2.2.1 j hj).symm e⟩
    · exact .inr (kI _ _ (ne_of e g1 (by intro z; cases z)) (ne_of e g6 (by intro z; cases z)) e)
  have hfq : h j ≠ fq := by
    obtain ⟨rs, e, _⟩ := W3.hv j hj
    exact ne_of_none e hq0
  have hcl : last.length = c := by
    obtain ⟨⟨dx, fs, rs, g1, _, _, _, _, g6, g7⟩, _⟩ := sh3
    obtain ⟨_, _, _, _, y, _, _, _, hc⟩ := paired_snoc g7
    exact hc
  obtain ⟨rsH, eH, hPH⟩ := W4.hv j hj
  rw [eg] at hPH
  obtain ⟨l0, r0', rfl, hP0, lb, rfl, rsL, eL, hPL⟩ := paired_snoc hPH
  have elL := paired_len hPL
  refine ⟨_, rfl, _, rfl, hi, _, (j : Int), _, rfl, rfl, SqL.of W4.ehi, atI_nat (pick2 hj), 1, rfl, h j, _, -1, _, rfl, rfl, SqL.of eH, atI_last _ _, ?_⟩
  refine ⟨_, rfl, _, rfl, hi, _, (j : Int), _, rfl, rfl, SqL.of W4.ehi, atI_nat (pick2 hj), .inl ⟨rfl, _, SqL.of eH⟩, ?_⟩
  refine ⟨_, rfl, _, rfl, (k : Int), rfl, ?_⟩
  refine slA_is eL fun r1' H5 s5 e5 => ?_
  rw [cut_to (by omega)] at e5
  refine ⟨_, rfl, (by show 1 ≤ sizeLine; decide), fun z hz => ?_⟩
  have s6 := same_new (o := .tup [.ref nw]) hz
  have ez : upd H5 z (.tup [.ref nw]) z = some (.tup [.ref nw]) := upd_same
  have e5' := s6 _ _ e5
  generalize upd H5 z (.tup [.ref nw]) = H6 at s6 ez e5' ⊢
  have smL : rsL.length ≤ 1000 := by
    have := (shn.ex)
    have h1 : last.length = c := hcl
    have h2 : last.length ≤ 100 := by
      obtain ⟨⟨dx, fs, rs, g1, _, _, _, _, g6, g7⟩, _⟩ := sh3
      obtain ⟨_, _, _, _, y, _, _, gd, _⟩ := paired_snoc g7
      exact gd.cnt
    omega
  refine catA_is e5' ez (by rw [List.length_take]; exact Nat.le_trans (Nat.add_le_add_right (Nat.min_le_right _ _) 1) (Nat.le_trans (Nat.succ_le_succ smL) (by decide))) fun r2 H7 s7 e7 => ?_
  have s47 := s5.trans (s6.trans s7)
  refine ⟨_, rfl, _, rfl, (k : Int), 1, rfl, rfl, _, rfl, ?_⟩
  dsimp only [tNoPart]
  refine slA_is (s47 _ _ eL) fun r3 H8 s8 e8 => ?_
  rw [show ((k : Int) + 1) = ((k + 1 : Nat) : Int) from rfl, cut_from (by omega)] at e8
  refine catA_is (s8 _ _ e7) e8 (by rw [List.length_append, List.length_take, List.length_drop]; exact Nat.le_trans (show min k rsL.length + 1 + (rsL.length - (k + 1)) ≤ 2001 by omega) (by decide)) fun r4 H9 s9 e9 => ?_
  have s49 := s47.trans (s8.trans s9)
  have W9 := W4.same s49
  have eH9 := s49 _ _ eH
  have rb9 : RB H9 (.ref r4) (last.set k nb) := by
    refine ⟨r4, rfl, _, e9, ?_⟩
    rw [← set_cut last (by omega) nb, List.append_assoc]
    exact paired_app (paired_take k (paired_mono (fun _ _ q => q.same s49) hPL)) (paired_app (.cons ⟨nw, rfl, s49 _ _ hnw4⟩ .nil) (paired_drop (k + 1) (paired_mono (fun _ _ q => q.same s49) hPL)))
  refine ⟨h j, _, _, rfl, rfl, eH9, ?_, ?_⟩
  · have e := paired_len hP0
    rw [List.length_append] at hgl ⊢
    exact small1000 (by simp at hgl ⊢; omega)
  have W10 := W9.app hSL Ds hj eH9 (by rw [eg]; exact paired_mono (fun _ _ q => q.same s49) hPH) rb9
  have eH10 : upd H9 (h j) (.lst (l0 ++ [V.ref lb] ++ [V.ref r4])) (h j) = some (.lst (l0 ++ [V.ref lb] ++ [V.ref r4])) := upd_same
  have ef10 : upd H9 (h j) (.lst (l0 ++ [V.ref lb] ++ [V.ref r4])) fq = some (.lst [.str "number", .int (pre ++ [last]).length]) := by rw [upd_ne hfq.symm]; exact s49 _ _ ef
  have hul10 : (u = l ∧ upd H9 (h j) (.lst (l0 ++ [V.ref lb] ++ [V.ref r4])) u = some (.lst (nb.map V.int))) ∨ upd H9 (h j) (.lst (l0 ++ [V.ref lb] ++ [V.ref r4])) u = some (.tup (nb.map V.int)) := by
    rcases hul4 with ⟨rfl, e⟩ | e
    · exact .inl ⟨rfl, by rw [upd_ne (fl.2.2.2.2.2 j hj).symm]; exact s49 _ _ e⟩
    · exact .inr (by rw [upd_ne (ne_of (s49 _ _ e) eH9 (by intro z; cases z))]; exact s49 _ _ e)
  generalize upd H9 (h j) (.lst (l0 ++ [V.ref lb] ++ [V.ref r4])) = H10 at W10 eH10 ef10 hul10 ⊢
  have eqg : setAt g j (g j ++ [last.set k nb]) = setAt g j (pre ++ [last] ++ [last.set k nb]) := by rw [eg]
  rw [eqg] at W10
  have lenH : ((l0 ++ [V.ref lb] ++ [V.ref r4]).length : Int) - 1 = ((pre ++ [last]).length : Int) := by
    have e := paired_len hP0
    simp [e]
    omega
  have gl : ∀ i, (setAt g j (pre ++ [last] ++ [last.set k nb]) i).length ≤ (g i).length + 1 := fun i => by
    by_cases z : i = j
    · subst z
      rw [setAt_same, eg, List.length_append (bs := [last.set k nb])]
      exact Nat.le_refl _
    · rw [setAt_ne z]
      exact Nat.le_succ _
  refine ⟨_, rfl, fq, _, _, _, rfl, rfl, SqL.of ef10, rfl, rfl, _, rfl, iteF ?_⟩
  refine ⟨_, rfl, fq, _, _, _, rfl, rfl, SqL.of ef10, rfl, _, rfl, _, rfl, hi, _, (j : Int), _, rfl, rfl, SqL.of W10.ehi, atI_nat (pick2 hj), h j, _, rfl, .inl (SqL.of eH10), _, 1, rfl, rfl, _, _, rfl, .inl ⟨_, rfl, congrArg V.int lenH⟩, _, rfl, iteF ?_⟩
  rcases hul10 with ⟨rfl, e10⟩ | e10
  · refine ⟨_, rfl, _, _, _, _, _, rfl, .ty "list", .base (.lst e10), kit_ty (show kitB "list" "list" = some true by decide +kernel), _, rfl, iteT ?_⟩
    refine ⟨_, rfl, _, rfl, u, _, 0, 0, rfl, rfl, e10, ixN_at (n := (nb.map V.int).length) (q := 0) (by rw [List.length_map, hlt.1]; omega), ?_⟩
    exact kk _ _ _ _ _ (W10.other hSL e10 fl.1 fl.2.1 fl.2.2.1 fl.2.2.2.1 fl.2.2.2.2.1 fl.2.2.2.2.2) gl
  · refine ⟨_, rfl, _, _, _, _, _, rfl, .ty "list", .base (.tup e10), kit_ty (show kitB "tuple" "list" = some false by decide +kernel), _, rfl, iteF ?_⟩
    exact kk _ _ _ _ _ W10 gl
end
end WU

set_option maxRecDepth 100000
set_option maxHeartbeats 8000000
namespace WU
open PySem PySem.Spec PyProof.Rows L2
theorem at_ints_eq : ∀ {b : List Int} {ds : List PyData}, Paired AtD (b.map V.int) ds → ds = b.map PyData.int
  | [], _, .nil => rfl
  | i :: b, _, .cons h t => by
    rcases h with ⟨k, e, rfl⟩ | ⟨k, e, rfl⟩
    · cases e
      rw [at_ints_eq t]
      rfl
    · cases e
theorem VD.sb {H : Hp} {v : V} {d : PyData} {b : List Int} {p : Int} {n : Nat} (h : VD H v d) (hb : SB H v b) (hl : Ltr p n b) : letsD p n d = true := by
  obtain ⟨c, rfl, hc⟩ := hb
  rcases h with ⟨e, _⟩ | (⟨i, e, _⟩ | ⟨i, e, _⟩) | ⟨e, _⟩ | ⟨r, xs, ds, e, rfl, hx, h⟩ | ⟨r, s, e, rfl, hx, f⟩
  · cases e
  · cases e
  · cases e
  · cases e
  · cases e
    rcases hc with hc | hc
    · rw [hx] at hc; cases hc
    · rw [hx] at hc
      have z := Option.some.inj hc
      injection z with z
      subst z
      rw [at_ints_eq h]
      exact (lets_of hl).1
  · cases e
    rcases hc with hc | hc
    · rw [hx] at hc
      have z := Option.some.inj hc
      injection z with z
      cases b with
      | nil => cases z
      | cons x b => cases z
    · rw [hx] at hc; cases hc
section
variable {P : Program} {w : World} {K : PySem.W.Frag} {mg : Str → Option Value} {base : Heap} {S L : Addr} {f : Addr} {cdv : Value} {A : Around} {outer : List Env} {s : Shared} {H : Hp} {E : XK}
theorem nes {H : Hp} {fq z : Addr} {x : Str} {v : V} {d : PyData} {Q : VK} (e1 : H fq = some (.lst [.str x, v])) (e2 : H z = some (.lst [.str x, v])) (hv : VD H v d) (hx : PyData.strOk x = true) (k : Q (.bl false) H) : rNeD K (.ref fq) (.ref z) H Q := by
  have sd := (hv.slf K).pair hx
  refine ⟨_, _, .lst (SqL.of e1) (.cons (.str x) (.cons hv.dp .nil)), .lst (SqL.of e2) (.cons (.str x) (.cons hv.dp .nil)), sd.1, sd.1, ?_⟩
  rw [sd.2]
  exact k
/-- what is wrong is put -/
theorem pB (C : LC P w K mg base S L) (hr : Room 10 (A.deeper (envOfC "law" (defScope sLaw) s.heap.objs.size f cdv))) :
    ∃ t, PSs (cxOf CX0 P w K mg base NL "law" (defScope sLaw) f cdv A outer s H E) TB8 t ∧ ∀ (D : Ends) (H' : Hp) (a0 q d sh hi : Addr) (X Y h : Nat → Addr) (p : Int) (n c : Nat) (g : Nat → List (List (List Int))) (lib bk : Addr) (bs : List (List Int)) (j k : Nat) (nw : Addr) (nb : List Int) (wv bv : V) (wd bd : PyData) (v9 v13 v17 v18 v19 v20 v21 : Option V),
      WS S L H' q d sh hi X Y h p n c g g lib bk bs → j < 2 → k < c → TB H' (.ref nw) nb → Ltr p n nb → n ≤ 100 → p ∈ primes → (g j).length < 100 → VD H' wv wd → belD c wd = false → VD H' bv bd → letsD p n bd = false → smallD bd →
      (∀ H'', Same H' H'' → D.nx [some (.ref a0), some (.ref q), some (.int p), some (.int c), some (.int n), some (.ref bk), some (.ref lib), some (.ref sh), some (.ref hi), v9, some (.int j), some (.int k), some (.ref nw), v13, some wv, some bv, some (.ref (X j)), v17, v18, v19, v20, v21] H'') →
      t D [some (.ref a0), some (.ref q), some (.int p), some (.int c), some (.int n), some (.ref bk), some (.ref lib), some (.ref sh), some (.ref hi), v9, some (.int j), some (.int k), some (.ref nw), v13, some wv, some bv, some (.ref (X j)), v17, v18, v19, v20, v21] H' := by
  obtain ⟨_, _, CP⟩ := C.put
  have nd := scLaw.nd
  have hu := hr.units
  refine ⟨_, (pss_cons (ps_if (PW.pt (pw_or (pt_cmpR (op_neD hu) (pe_cal CP hr (pa_cons (pv 16) (pa_cons (pv 14) (pa_cons (pv 15) pa_nil))) passU) (pe_lst (pa_cons pe_str (pa_cons (pv 14) pa_nil))) (nomark _)) (pw_or1 (pt_cmpR (op_neD hu) (pe_cal CP hr (pa_cons (pv 16) (pa_cons (pv 14) (pa_cons (pv 12) pa_nil))) passU) (pe_lst (pa_cons pe_str (pa_cons (pv 14) pa_nil))) (nomark _))))) (pss_one (ps_ret pe_bl)) pss_nil)
      (pss_one (ps_if (pt_cmpR (op_neD hu) (pe_cal CP hr (pa_cons (pv 16) (pa_cons (pv 11) (pa_cons (pv 15) pa_nil))) passU) (pe_lst (pa_cons pe_str (pa_cons (pv 15) pa_nil))) (nomark _)) (pss_one (ps_ret pe_bl)) pss_nil))), ?_⟩
  intro D H0 a0 q d sh hi X Y h p n c g lib bk bs j k nw nb wv bv wd bd v9 v13 v17 v18 v19 v20 v21 W hj hkc hnw hlt hn100 hp hgl hw hwb hv hvl hvs kk
  have sh3 := W.shv j hj
  obtain ⟨pre, last, eg⟩ : ∃ pre last, g j = pre ++ [last] := ⟨(g j).dropLast, (g j).getLast (by intro z; have := sh3.ne; rw [z] at this; cases this), (List.dropLast_concat_getLast _).symm⟩
  rw [eg] at sh3 hgl
  have ibw : isBel c wv = false := by rw [dp_bel (K := K) (H := H0) hw.dp]; exact hwb
  have ib : isBel c (.int k) = true := by
    show (decide (0 ≤ (k : Int)) && decide ((k : Int) < (c : Int))) = true
    rw [decide_eq_true (show (0 : Int) ≤ k by omega), decide_eq_true (show (k : Int) < (c : Int) by omega)]
    rfl
  have ibk : ∀ k' : Nat, wv = .int k' → k' < c → False := fun k' e hk => by
    rw [e] at ibw
    have z : (decide (0 ≤ (k' : Int)) && decide ((k' : Int) < (c : Int))) = false := ibw
    rw [decide_eq_true (show (0 : Int) ≤ k' by omega), decide_eq_true (show (k' : Int) < (c : Int) by omega)] at z
    cases z
  refine ⟨_, rfl, _, rfl, _, rfl, X j, Y j, wv, bv, bd, p, n, c, pre, last, rfl, sh3, hgl, dp_ty3 hw.dp, hv.dp, hvs, (fun e => by rw [hvl] at e; cases e), hp, fun _ => ?_, (fun e => by rw [ibw] at e; cases e), fun k' b' ek hk' => (ibk k' ek hk').elim⟩
  intro fq H1 s1 hq ef
  refine ⟨_, rfl, (by show 2 ≤ sizeLine; decide), fun z hz => ?_⟩
  have s2 := same_new (o := .lst [.str "refused", wv]) hz
  refine nes (s2 _ _ ef) upd_same (hw.same (s1.trans s2)) (by decide +kernel) ⟨_, rfl, iteF ?_⟩
  have s02 := s1.trans s2
  generalize upd H1 z (.lst [.str "refused", wv]) = H2 at s02 ⊢
  have hnw2 := (hnw.same s02).sb
  obtain ⟨nd2, hnd, hns, hnl, _, _⟩ := sb_dp (K := K) hnw2 hlt hn100
  refine ⟨_, rfl, _, rfl, _, rfl, X j, Y j, wv, .ref nw, nd2, p, n, c, pre, last, rfl, sh3.same s02, hgl, dp_ty3 (hw.same s02).dp, hnd, hns, (fun _ => ⟨nb, hnw2, hlt⟩), hp, fun _ => ?_, (fun e => by rw [ibw] at e; cases e), fun k' b' ek hk' => (ibk k' ek hk').elim⟩
  intro fq2 H3 s3 hq3 ef3
  refine ⟨_, rfl, (by show 2 ≤ sizeLine; decide), fun z3 hz3 => ?_⟩
  have s4 := same_new (o := .lst [.str "refused", wv]) hz3
  have s04 := s02.trans (s3.trans s4)
  refine nes (s4 _ _ ef3) upd_same (hw.same s04) (by decide +kernel) ⟨_, rfl, iteF ?_⟩
  generalize upd H3 z3 (.lst [.str "refused", wv]) = H4 at s04 ⊢
  refine ⟨_, rfl, _, rfl, _, rfl, X j, Y j, .int k, bv, bd, p, n, c, pre, last, rfl, sh3.same s04, hgl, ty3_int _, (hv.same s04).dp, hvs, (fun e => by rw [hvl] at e; cases e), hp, (fun e => by rw [ib] at e; cases e), fun _ _ => ?_, fun k' b' ek hk' hsb hlb => ?_⟩
  · intro fq5 H5 s5 hq5 ef5
    refine ⟨_, rfl, (by show 2 ≤ sizeLine; decide), fun z5 hz5 => ?_⟩
    have s6 := same_new (o := .lst [.str "wrong", bv]) hz5
    have s06 := s04.trans (s5.trans s6)
    exact nes (s6 _ _ ef5) upd_same (hv.same s06) (by decide +kernel) ⟨_, rfl, iteF (kk _ s06)⟩
  · have z := (hv.same s04).sb hsb hlb
    rw [hvl] at z
    cases z
end
end WU

set_option maxRecDepth 100000
set_option maxHeartbeats 8000000
namespace WU
open PySem PySem.Spec PyProof.Rows L2
section
variable {P : Program} {w : World} {K : PySem.W.Frag} {mg : Str → Option Value} {base : Heap} {S L : Addr} {f : Addr} {cdv : Value} {A : Around} {outer : List Env} {s : Shared} {H : Hp} {E : XK}
theorem slf_ne {H : Hp} {v : V} {d : PyData} {Q : VK} (hv : VD H v d) (k : Q (.bl false) H) : rNeD K v v H Q := by
  have sd := hv.slf K
  refine ⟨_, _, hv.dp, hv.dp, sd.shaped, sd.shaped, ?_⟩
  rw [sd.2.2]
  exact k
theorem belD_big {n : Nat} (h : n ≤ 1000) : belD n (.int (10 ^ (25 : Int).toNat)) = false := by
  have big : (1000 : Int) ≤ 10 ^ (25 : Int).toNat := by decide +kernel
  show (decide ((0 : Int) ≤ 10 ^ (25 : Int).toNat) && decide ((10 : Int) ^ (25 : Int).toNat < (n : Int))) = false
  rw [decide_eq_false (show ¬ (10 : Int) ^ (25 : Int).toNat < (n : Int) by omega), Bool.and_false]
theorem belD_self {n : Nat} : belD n (.int n) = false := by
  show (decide ((0 : Int) ≤ n) && decide ((n : Int) < (n : Int))) = false
  rw [decide_eq_false (show ¬ (n : Int) < (n : Int) by omega), Bool.and_false]
/-- a wrong edition is looked at -/
theorem pC (C : LC P w K mg base S L) (hr : Room 10 (A.deeper (envOfC "law" (defScope sLaw) s.heap.objs.size f cdv))) :
    ∃ t, PSs (cxOf CX0 P w K mg base NL "law" (defScope sLaw) f cdv A outer s H E) TC8 t ∧ ∀ (D : Ends) (H' : Hp) (a0 q d sh hi : Addr) (X Y h : Nat → Addr) (p : Int) (n c : Nat) (g : Nat → List (List (List Int))) (lib bk : Addr) (bs : List (List Int)) (tg : Addr → Nat) (j : Nat) (v9 v11 v12 v13 v14 v15 v17 v18 v19 v20 v21 : Option V),
      WS S L H' q d sh hi X Y h p n c g g lib bk bs → Dis tg q d sh hi X Y h → j < 2 → (g j).length < 100 →
      (∀ v20 H'', WS S L H'' q d sh hi X Y h p n c g g lib bk bs → D.nx [some (.ref a0), some (.ref q), some (.int p), some (.int c), some (.int n), some (.ref bk), some (.ref lib), some (.ref sh), some (.ref hi), v9, some (.int j), v11, v12, v13, v14, v15, some (.ref (X j)), v17, v18, v19, v20, v21] H'') →
      t D [some (.ref a0), some (.ref q), some (.int p), some (.int c), some (.int n), some (.ref bk), some (.ref lib), some (.ref sh), some (.ref hi), v9, some (.int j), v11, v12, v13, v14, v15, some (.ref (X j)), v17, v18, v19, v20, v21] H' := by
  obtain ⟨_, _, CT⟩ := C.take
  obtain ⟨_, _, CA⟩ := C.at_
  have B := C.B
  have nd := scLaw.nd
  have hu := hr.units
  have hr1 := hr.mono (show 1 ≤ 10 by decide)
  have hr5 := hr.mono (show 5 ≤ 10 by decide)
  refine ⟨_, (pss_cons (ps_set (i := 20) nd rfl (Or.inl rfl) (pe_ix ix_list (pe_lst (pa_cons (pe_callB call_len_seq (by rfl) B.len (by decide +kernel) (pa_cons (pe_ix ix_list (pv 8) (pv 10) (fun _ _ => rfl)) pa_nil)) (pa_cons (pe_un un_neg pe_int) (pa_cons pe_bl (pa_cons pe_str (pa_cons (pe_tup (pa_cons pe_int pa_nil)) (pa_cons (pe_op op_pow pe_int pe_int) (pa_cons pe_bl pa_nil)))))))) (pe_cal CT hr1 (pa_cons (pv 1) (pa_cons pe_int pa_nil)) passU) (fun _ _ => rfl)))
      (pss_one (ps_if (pt_cmpR (op_neD hu) (pe_cal CA hr5 (pa_cons (pv 16) (pa_cons (pv 20) pa_nil)) passU) (pv 20) (nomark _)) (pss_one (ps_ret pe_bl)) pss_nil))), ?_⟩
  intro D H0 a0 q d sh hi X Y h p n c g lib bk bs tg j v9 v11 v12 v13 v14 v15 v17 v18 v19 v20 v21 W Ds hj hgl kk
  have hSL : S ≠ L := C.cS.ne
  obtain ⟨rsH, eH, hPH⟩ := W.hv j hj
  refine ⟨_, rfl, _, rfl, hi, _, (j : Int), _, rfl, rfl, SqL.of W.ehi, atI_nat (pick2 hj), h j, _, rfl, .inl (SqL.of eH), 1, rfl, (by show 1 ≤ sizeLine; decide), fun T hT => ⟨_, _, rfl, rfl, ⟨by decide, by decide, by decide⟩, (by show 7 ≤ sizeLine; decide), fun Z hZ => ?_⟩⟩
  rw [paired_len hPH]
  have s1 := same_new (o := .tup [.int 0]) hT
  have s2 := same_new (o := .lst [.int (g j).length, .int (-1), .bl true, .str "0", .ref T, .int (10 ^ (25 : Int).toNat), .bl false]) hZ
  have eT := s2 _ _ (show upd H0 T (.tup [.int 0]) T = some (.tup [.int 0]) from upd_same)
  have eZ : upd (upd H0 T (.tup [.int 0])) Z (.lst [.int (g j).length, .int (-1), .bl true, .str "0", .ref T, .int (10 ^ (25 : Int).toNat), .bl false]) Z = some (.lst [.int (g j).length, .int (-1), .bl true, .str "0", .ref T, .int (10 ^ (25 : Int).toNat), .bl false]) := upd_same
  have W2 := W.same (s1.trans s2)
  refine ⟨_, rfl, q, d, 7, rfl, by decide, W2.hand, fun r H3 r0 r1 h3 k3 => ?_⟩
  have W3 := W2.take hSL Ds k3 h3
  have eZ3 : H3 Z = some (.lst [.int (g j).length, .int (-1), .bl true, .str "0", .ref T, .int (10 ^ (25 : Int).toNat), .bl false]) := by
    obtain ⟨ds, i, g1, _⟩ := W2.hand
    exact k3 _ _ (fun e => by subst e; rw [g1] at eZ; cases eZ) eZ
  have eT3 : H3 T = some (.tup [.int 0]) := by
    obtain ⟨ds, i, g1, _⟩ := W2.hand
    exact k3 _ _ (ne_of eT g1 (by intro z; cases z)) eT
  have all : ∀ v ∈ ([.int (g j).length, .int (-1), .bl true, .str "0", .ref T, .int (10 ^ (25 : Int).toNat), .bl false] : List V), ∃ dv, VD H3 v dv ∧ belD (g j).length dv = false ∧ v ≠ .non := by
    intro v hv
    simp only [List.mem_cons, List.not_mem_nil, or_false] at hv
    rcases hv with rfl | rfl | rfl | rfl | rfl | rfl | rfl
    · exact ⟨_, .inr (.inl (.inl ⟨_, rfl, rfl⟩)), belD_self, (by intro z; cases z)⟩
    · exact ⟨_, .inr (.inl (.inl ⟨_, rfl, rfl⟩)), rfl, (by intro z; cases z)⟩
    · exact ⟨_, .inr (.inl (.inr ⟨_, rfl, rfl⟩)), rfl, (by intro z; cases z)⟩
    · exact ⟨_, .inr (.inr (.inl ⟨rfl, rfl⟩)), rfl, (by intro z; cases z)⟩
    · exact ⟨_, .inr (.inr (.inr (.inl ⟨T, _, _, rfl, rfl, eT3, at_ints [0]⟩))), rfl, (by intro z; cases z)⟩
    · exact ⟨_, .inr (.inl (.inl ⟨_, rfl, rfl⟩)), belD_big (by omega), (by intro z; cases z)⟩
    · exact ⟨_, .inr (.inl (.inr ⟨_, rfl, rfl⟩)), rfl, (by intro z; cases z)⟩
  obtain ⟨m, rfl⟩ : ∃ m : Nat, r = (m : Int) := ⟨r.toNat, by omega⟩
  have hm : m < 7 := by omega
  obtain ⟨v, hv⟩ : ∃ v, ([.int (g j).length, .int (-1), .bl true, .str "0", .ref T, .int (10 ^ (25 : Int).toNat), .bl false] : List V)[m]? = some v := ⟨_, List.getElem?_eq_getElem (show m < 7 from hm)⟩
  obtain ⟨dv, hvd, hvb, hvn⟩ := all v (List.mem_of_getElem? hv)
  refine ⟨Z, _, _, v, rfl, rfl, SqL.of eZ3, atI_nat hv, ?_⟩
  refine ⟨_, rfl, _, rfl, ⟨X j, Y j, v, p, n, c, g j, rfl, W3.shv j hj, hvn, by rw [dp_bel (K := K) (H := H3) hvd.dp]; exact hvb, fun H4 s4 => ⟨_, rfl, slf_ne (hvd.same s4) ⟨_, rfl, iteF (kk _ _ (W3.same s4))⟩⟩⟩, fun x ev e => ?_⟩
  cases e
  exact dp_ty3 hvd.dp
end
end WU

set_option maxRecDepth 100000
set_option maxHeartbeats 8000000
namespace WU
open PySem PySem.Spec PyProof.Rows L2
abbrev st4 : Stmt := LB8.getD 4 (.Pass ⟨0, 0, 0, 0⟩)
abbrev st5 : Stmt := LB8.getD 5 (.Pass ⟨0, 0, 0, 0⟩)
theorem at_app : ∀ {xs ys : List V} {ds es : List PyData}, Paired AtD xs ds → Paired AtD ys es → Paired AtD (xs ++ ys) (ds ++ es) := fun h t => paired_app h t
section
variable {P : Program} {w : World} {K : PySem.W.Frag} {mg : Str → Option Value} {base : Heap} {S L : Addr} {f : Addr} {cdv : Value} {A : Around} {outer : List Env} {s : Shared} {H : Hp} {E : XK}
/-- wrong = .. -/
theorem p4 (C : LC P w K mg base S L) (hr : Room 10 (A.deeper (envOfC "law" (defScope sLaw) s.heap.objs.size f cdv))) :
    ∃ t, PS (cxOf CX0 P w K mg base NL "law" (defScope sLaw) f cdv A outer s H E) st4 t ∧ ∀ (D : Ends) (H' : Hp) (q d : Addr) (c : Nat) (v0 v2 v4 v5 v6 v7 v8 v9 v10 v11 v12 v13 v14 v15 v16 v17 v18 v19 v20 v21 : Option V),
      HandAt H' q d → c ≤ 100 → (∀ wv wd H'', HandAt H'' q d → Keep q H' H'' → VD H'' wv wd → belD c wd = false → D.nx [v0, some (.ref q), v2, some (.int c), v4, v5, v6, v7, v8, v9, v10, v11, v12, v13, some wv, v15, v16, v17, v18, v19, v20, v21] H'') →
      t D [v0, some (.ref q), v2, some (.int c), v4, v5, v6, v7, v8, v9, v10, v11, v12, v13, v14, v15, v16, v17, v18, v19, v20, v21] H' := by
  obtain ⟨_, _, CT⟩ := C.take
  have B := C.B
  have nd := scLaw.nd
  have hr1 := hr.mono (show 1 ≤ 10 by decide)
  refine ⟨_, (ps_set (i := 14) nd rfl (Or.inl rfl) (pe_ix ix_list (pe_lst (pa_cons (pv 3) (pa_cons (pe_un un_neg pe_int) (pa_cons pe_bl (pa_cons pe_non (pa_cons pe_str (pa_cons (pe_tup pa_nil) (pa_cons (pe_op op_pow pe_int pe_int) pa_nil)))))))) (pe_cal CT hr1 (pa_cons (pv 1) (pa_cons pe_int pa_nil)) passU) (fun _ _ => rfl))), ?_⟩
  intro D H0 q d c v0 v2 v4 v5 v6 v7 v8 v9 v10 v11 v12 v13 v14 v15 v16 v17 v18 v19 v20 v21 hH hc kk
  refine ⟨_, rfl, 1, rfl, (by show 0 ≤ sizeLine; decide), fun T hT => ⟨_, _, rfl, rfl, ⟨by decide, by decide, by decide⟩, (by show 7 ≤ sizeLine; decide), fun Z hZ => ?_⟩⟩
  have hH1 := hH.new (o := .tup []) hT
  have hH2 := hH1.new (o := .lst [.int c, .int (-1), .bl true, .non, .str "0", .ref T, .int (10 ^ (25 : Int).toNat)]) hZ
  have eT := same_new (o := .lst [.int c, .int (-1), .bl true, .non, .str "0", .ref T, .int (10 ^ (25 : Int).toNat)]) hZ _ _ (show upd H0 T (.tup []) T = some (.tup []) from upd_same)
  have eZ : upd (upd H0 T (.tup [])) Z (.lst [.int c, .int (-1), .bl true, .non, .str "0", .ref T, .int (10 ^ (25 : Int).toNat)]) Z = some (.lst [.int c, .int (-1), .bl true, .non, .str "0", .ref T, .int (10 ^ (25 : Int).toNat)]) := upd_same
  have k2 : Keep q H0 (upd (upd H0 T (.tup [])) Z (.lst [.int c, .int (-1), .bl true, .non, .str "0", .ref T, .int (10 ^ (25 : Int).toNat)])) := (Keep.new hT).trans (Keep.new hZ)
  refine ⟨_, rfl, q, d, 7, rfl, by decide, hH2, fun r H3 r0 r1 h3 k3 => ?_⟩
  have eZ3 : H3 Z = some (.lst [.int c, .int (-1), .bl true, .non, .str "0", .ref T, .int (10 ^ (25 : Int).toNat)]) := k3 _ _ (hH1.ne hZ).1.symm eZ
  have eT3 : H3 T = some (.tup []) := k3 _ _ (hH.ne hT).1.symm eT
  have all : ∀ v ∈ ([.int c, .int (-1), .bl true, .non, .str "0", .ref T, .int (10 ^ (25 : Int).toNat)] : List V), ∃ dv, VD H3 v dv ∧ belD c dv = false := by
    intro v hv
    simp only [List.mem_cons, List.not_mem_nil, or_false] at hv
    rcases hv with rfl | rfl | rfl | rfl | rfl | rfl | rfl
    · exact ⟨_, .inr (.inl (.inl ⟨_, rfl, rfl⟩)), belD_self⟩
    · exact ⟨_, .inr (.inl (.inl ⟨_, rfl, rfl⟩)), rfl⟩
    · exact ⟨_, .inr (.inl (.inr ⟨_, rfl, rfl⟩)), rfl⟩
    · exact ⟨_, .inl ⟨rfl, rfl⟩, rfl⟩
    · exact ⟨_, .inr (.inr (.inl ⟨rfl, rfl⟩)), rfl⟩
    · exact ⟨_, .inr (.inr (.inr (.inl ⟨T, _, _, rfl, rfl, eT3, at_ints []⟩))), rfl⟩
    · exact ⟨_, .inr (.inl (.inl ⟨_, rfl, rfl⟩)), belD_big (by omega)⟩
  obtain ⟨m, rfl⟩ : ∃ m : Nat, r = (m : Int) := ⟨r.toNat, by omega⟩
  have hm : m < 7 := by omega
  obtain ⟨v, hv⟩ : ∃ v, ([.int c, .int (-1), .bl true, .non, .str "0", .ref T, .int (10 ^ (25 : Int).toNat)] : List V)[m]? = some v := ⟨_, List.getElem?_eq_getElem (show m < 7 from hm)⟩
  obtain ⟨dv, hvd, hvb⟩ := all v (List.mem_of_getElem? hv)
  exact ⟨Z, _, _, v, rfl, rfl, SqL.of eZ3, atI_nat hv, kk v dv H3 h3 (k2.trans k3) hvd hvb⟩
/-- bad = .. -/
theorem p5 (C : LC P w K mg base S L) (hr : Room 10 (A.deeper (envOfC "law" (defScope sLaw) s.heap.objs.size f cdv))) :
    ∃ t, PS (cxOf CX0 P w K mg base NL "law" (defScope sLaw) f cdv A outer s H E) st5 t ∧ ∀ (D : Ends) (H' : Hp) (q d nw : Addr) (p : Int) (n : Nat) (nb : List Int) (v0 v3 v4 v5 v6 v7 v8 v9 v10 v11 v13 v14 v15 v16 v17 v18 v19 v20 v21 : Option V),
      HandAt H' q d → TB H' (.ref nw) nb → Ltr p n nb → 1 ≤ n → n ≤ 100 → (∀ bv bd H'', HandAt H'' q d → Keep q H' H'' → VD H'' bv bd → letsD p n bd = false → smallD bd → D.nx [v0, some (.ref q), some (.int p), v3, v4, v5, v6, v7, v8, v9, v10, v11, some (.ref nw), v13, v14, some bv, v16, v17, v18, v19, v20, v21] H'') →
      t D [v0, some (.ref q), some (.int p), v3, v4, v5, v6, v7, v8, v9, v10, v11, some (.ref nw), v13, v14, v15, v16, v17, v18, v19, v20, v21] H' := by
  obtain ⟨_, _, CT⟩ := C.take
  have B := C.B
  have nd := scLaw.nd
  have hr1 := hr.mono (show 1 ≤ 10 by decide)
  refine ⟨_, (ps_set (i := 15) nd rfl (Or.inl rfl) (pe_ix ix_list (pe_lst (pa_cons (pe_op op_catA (pv 12) (pe_tup (pa_cons pe_int pa_nil))) (pa_cons (pe_slice sl_tupA (pv 12) (po_some pe_int) po_none) (pa_cons (pe_op op_catA (pe_slice sl_tupA (pv 12) po_none (po_some (pe_un un_neg pe_int))) (pe_tup (pa_cons (pv 2) pa_nil))) (pa_cons pe_non (pa_cons (pe_op op_catA (pe_slice sl_tupA (pv 12) po_none (po_some (pe_un un_neg pe_int))) (pe_tup (pa_cons pe_bl pa_nil))) (pa_cons pe_int (pa_cons pe_str (pa_cons (pe_lst (pa_cons (pe_lst (pa_cons pe_int pa_nil)) pa_nil)) (pa_cons (pe_op op_catA (pe_tup (pa_cons (pe_un un_neg pe_int) pa_nil)) (pe_slice sl_tupA (pv 12) (po_some pe_int) po_none)) pa_nil)))))))))) (pe_cal CT hr1 (pa_cons (pv 1) (pa_cons pe_int pa_nil)) passU) (fun _ _ => rfl))), ?_⟩
  intro D H0 q d nw p n nb v0 v3 v4 v5 v6 v7 v8 v9 v10 v11 v13 v14 v15 v16 v17 v18 v19 v20 v21 hH ⟨_, enw, hnw⟩ hlt hn1 hn kk
  cases enw
  have ln : (nb.map V.int).length = n := by rw [List.length_map]; exact hlt.1
  have sz : ∀ {xs ys : List V}, xs.length ≤ 100 → ys.length ≤ 100 → xs.length + ys.length ≤ sizeLine := fun a b => Nat.le_trans (Nat.add_le_add a b) (by decide)
  -- new + (0,)
  refine ⟨_, rfl, (by show 1 ≤ sizeLine; decide), fun T0 hT0 => ?_⟩
  have sA := same_new (o := .tup [.int 0]) hT0
  refine catA_is (sA _ _ hnw) upd_same (sz (by rw [ln]; exact hn) (show 1 ≤ 100 by decide)) fun r0 H1 s1 e1 => ?_
  have s01 := sA.trans s1
  -- new[1:]
  refine ⟨_, rfl, 1, rfl, ?_⟩
  dsimp only [tNoPart]
  refine slA_is (s01 _ _ hnw) fun r1 H2 s2 e2 => ?_
  rw [cut_1 (by rw [ln]; exact hn1)] at e2
  have s02 := s01.trans s2
  -- new[:-1] + (p,)
  refine ⟨_, rfl, 1, rfl, -1, rfl, slA_is (s02 _ _ hnw) fun r2 H3 s3 e3 => ⟨_, rfl, (by show 1 ≤ sizeLine; decide), fun T2 hT2 => ?_⟩⟩
  rw [cut_m1 (by rw [ln]; exact hn1), ln] at e3
  have sB := same_new (o := .tup [.int p]) hT2
  refine catA_is (sB _ _ e3) upd_same (sz (by rw [List.length_take]; omega) (show 1 ≤ 100 by decide)) fun r3 H4 s4 e4 => ?_
  have s04 := s02.trans (s3.trans (sB.trans s4))
  -- new[:-1] + (True,)
  refine ⟨_, rfl, 1, rfl, -1, rfl, slA_is (s04 _ _ hnw) fun r4 H5 s5 e5 => ⟨(by show 1 ≤ sizeLine; decide), fun T4 hT4 => ?_⟩⟩
  rw [cut_m1 (by rw [ln]; exact hn1), ln] at e5
  have sC := same_new (o := .tup [.bl true]) hT4
  refine catA_is (sC _ _ e5) upd_same (sz (by rw [List.length_take]; omega) (show 1 ≤ 100 by decide)) fun r5 H6 s6 e6 => ?_
  have s06 := s04.trans (s5.trans (sC.trans s6))
  -- [[0]]
  refine ⟨(by show 1 ≤ sizeLine; decide), fun I hI => ⟨(by show 1 ≤ sizeLine; decide), fun J hJ => ?_⟩⟩
  have sD := same_new (o := .lst [.int 0]) hI
  have sE := same_new (o := .lst [.ref I]) hJ
  have eI := sE _ _ (show upd H6 I (.lst [.int 0]) I = some (.lst [.int 0]) from upd_same)
  have eJ : upd (upd H6 I (.lst [.int 0])) J (.lst [.ref I]) J = some (.lst [.ref I]) := upd_same
  have s68 := sD.trans sE
  generalize upd (upd H6 I (.lst [.int 0])) J (.lst [.ref I]) = H8 at eI eJ s68 ⊢
  have s08 := s06.trans s68
  -- (-1,) + new[1:]
  refine ⟨1, rfl, (by show 1 ≤ sizeLine; decide), fun T8 hT8 => ?_⟩
  have sF := same_new (o := .tup [.int (-1)]) hT8
  have eT8 : upd H8 T8 (.tup [.int (-1)]) T8 = some (.tup [.int (-1)]) := upd_same
  have s09 := s08.trans sF
  refine ⟨_, rfl, 1, rfl, ?_⟩
  dsimp only [tNoPart]
  refine slA_is (s09 _ _ hnw) fun r8 H10 s10 e10 => ?_
  rw [cut_1 (by rw [ln]; exact hn1)] at e10
  refine catA_is (s10 _ _ eT8) e10 (sz (show 1 ≤ 100 by decide) (by rw [List.length_drop]; omega)) fun r9 H11 s11 e11 => ?_
  have s8e := sF.trans (s10.trans s11)
  refine ⟨(by show 9 ≤ sizeLine; decide), fun Z hZ => ?_⟩
  have s12 := same_new (o := .lst [.ref r0, .ref r1, .ref r3, .non, .ref r5, .int 5, .str "0", .ref J, .ref r9]) hZ
  have eZ : upd H11 Z (.lst [.ref r0, .ref r1, .ref r3, .non, .ref r5, .int 5, .str "0", .ref J, .ref r9]) Z = some (.lst [.ref r0, .ref r1, .ref r3, .non, .ref r5, .int 5, .str "0", .ref J, .ref r9]) := upd_same
  have a11 := s12 _ _ e11
  have a8 : ∀ b o, H8 b = some o → upd H11 Z (.lst [.ref r0, .ref r1, .ref r3, .non, .ref r5, .int 5, .str "0", .ref J, .ref r9]) b = some o := fun b o e => s12 _ _ (s8e _ _ e)
  have s0e : Same H0 (upd H11 Z (.lst [.ref r0, .ref r1, .ref r3, .non, .ref r5, .int 5, .str "0", .ref J, .ref r9])) := s08.trans (s8e.trans s12)
  generalize upd H11 Z (.lst [.ref r0, .ref r1, .ref r3, .non, .ref r5, .int 5, .str "0", .ref J, .ref r9]) = H12 at eZ a11 a8 s0e ⊢
  have a6 : ∀ b o, H6 b = some o → H12 b = some o := fun b o e => a8 _ _ (s68 _ _ e)
  have a4 : ∀ b o, H4 b = some o → H12 b = some o := fun b o e => a6 _ _ (s6 _ _ (sC _ _ (s5 _ _ e)))
  have a2 : ∀ b o, H2 b = some o → H12 b = some o := fun b o e => a4 _ _ (s4 _ _ (sB _ _ (s3 _ _ e)))
  have a1 : ∀ b o, H1 b = some o → H12 b = some o := fun b o e => a2 _ _ (s2 _ _ e)
  have h12 := hH.same s0e
  have all : ∀ v ∈ ([.ref r0, .ref r1, .ref r3, .non, .ref r5, .int 5, .str "0", .ref J, .ref r9] : List V), ∃ dv, VD H12 v dv ∧ letsD p n dv = false ∧ smallD dv := by
    intro v hv
    have lm : ∀ ds : List PyData, ds.length ≤ 200 → smallD (.tuple ds) := fun ds h => h
    simp only [List.mem_cons, List.not_mem_nil, or_false] at hv
    rcases hv with rfl | rfl | rfl | rfl | rfl | rfl | rfl | rfl | rfl
    · refine ⟨_, .inr (.inr (.inr (.inl ⟨r0, _, _, rfl, rfl, a1 _ _ e1, at_app (at_ints nb) (at_ints [0])⟩))), lets_no (.inl ?_), ?_⟩
      · simp [hlt.1]
      · refine lm _ ?_
        simp [hlt.1]
        omega
    · refine ⟨_, .inr (.inr (.inr (.inl ⟨r1, _, _, rfl, rfl, a2 _ _ e2, paired_drop 1 (at_ints nb)⟩))), lets_no (.inl ?_), ?_⟩
      · rw [List.length_drop, List.length_map, hlt.1]
        omega
      · refine lm _ ?_
        rw [List.length_drop, List.length_map, hlt.1]
        omega
    · refine ⟨_, .inr (.inr (.inr (.inl ⟨r3, _, _, rfl, rfl, a4 _ _ e4, at_app (paired_take (n - 1) (at_ints nb)) (at_ints [p])⟩))), lets_no (.inr ⟨.int p, List.mem_append.mpr (.inr (List.mem_singleton.mpr rfl)), ?_⟩), ?_⟩
      · show (decide (0 ≤ p) && decide (p < p)) = false
        rw [decide_eq_false (show ¬ p < p by omega), Bool.and_false]
      · refine lm _ ?_
        rw [List.length_append, List.length_take, List.length_map, hlt.1]
        exact Nat.le_trans (Nat.add_le_add_right (Nat.min_le_right _ _) _) (show n + 1 ≤ 200 by omega)
    · exact ⟨_, .inl ⟨rfl, rfl⟩, rfl, trivial⟩
    · refine ⟨_, .inr (.inr (.inr (.inl ⟨r5, _, _, rfl, rfl, a6 _ _ e6, at_app (paired_take (n - 1) (at_ints nb)) (.cons (.inr ⟨true, rfl, rfl⟩) .nil)⟩))), lets_no (.inr ⟨.bool true, List.mem_append.mpr (.inr (List.mem_singleton.mpr rfl)), rfl⟩), ?_⟩
      refine lm _ ?_
      rw [List.length_append, List.length_take, List.length_map, hlt.1]
      exact Nat.le_trans (Nat.add_le_add_right (Nat.min_le_right _ _) _) (show n + 1 ≤ 200 by omega)
    · exact ⟨_, .inr (.inl (.inl ⟨_, rfl, rfl⟩)), rfl, trivial⟩
    · exact ⟨_, .inr (.inr (.inl ⟨rfl, rfl⟩)), rfl, trivial⟩
    · exact ⟨_, .inr (.inr (.inr (.inr ⟨J, I, rfl, rfl, a8 _ _ eJ, a8 _ _ eI⟩))), lets_no (.inr ⟨.list [.int 0], List.mem_singleton.mpr rfl, rfl⟩), (by show 1 ≤ 200; decide)⟩
    · refine ⟨_, .inr (.inr (.inr (.inl ⟨r9, _, _, rfl, rfl, a11, at_app (at_ints [-1]) (paired_drop 1 (at_ints nb))⟩))), lets_no (.inr ⟨.int (-1), List.mem_append.mpr (.inl (List.mem_singleton.mpr rfl)), rfl⟩), ?_⟩
      refine lm _ ?_
      rw [List.length_append, List.length_drop, List.length_map, List.length_map, hlt.1]
      show 1 + (n - 1) ≤ 200
      omega
  refine ⟨_, rfl, q, d, 9, rfl, by decide, h12, fun r H13 b0 b1 h13 k13 => ?_⟩
  obtain ⟨m, rfl⟩ : ∃ m : Nat, r = (m : Int) := ⟨r.toNat, by omega⟩
  have hm : m < 9 := by omega
  obtain ⟨v, hv⟩ : ∃ v, ([.ref r0, .ref r1, .ref r3, .non, .ref r5, .int 5, .str "0", .ref J, .ref r9] : List V)[m]? = some v := ⟨_, List.getElem?_eq_getElem (show m < 9 from hm)⟩
  obtain ⟨dv, hvd, hvl, hvs⟩ := all v (List.mem_of_getElem? hv)
  have eZ3 : H13 Z = some (.lst [.ref r0, .ref r1, .ref r3, .non, .ref r5, .int 5, .str "0", .ref J, .ref r9]) := by
    obtain ⟨ds, i, g1, _⟩ := h12
    exact k13 _ _ (fun e => by subst e; rw [g1] at eZ; cases eZ) eZ
  exact ⟨Z, _, _, v, rfl, rfl, SqL.of eZ3, atI_nat hv, kk v dv H13 h13 ((Keep.of s0e).trans k13) (hvd.keep h12 k13) hvl hvs⟩
end
end WU

set_option maxRecDepth 100000
set_option maxHeartbeats 8000000
namespace WU
open PySem PySem.Spec PyProof.Rows L2
theorem TB.keepH {H H' : Hp} {q d : Addr} {r : V} {b : List Int} (h : TB H r b) (hH : HandAt H q d) (k : Keep q H H') : TB H' r b := by
  obtain ⟨ds, i, g1, _⟩ := hH
  obtain ⟨c, e, h⟩ := h
  exact ⟨c, e, k _ _ (ne_of h g1 (by intro z; cases z)) h⟩
theorem nat_of {r : Int} {m : Nat} (h0 : 0 ≤ r) (h1 : r < m) : ∃ k : Nat, r = k ∧ k < m := ⟨r.toNat, by omega, by omega⟩
section
variable {P : Program} {w : World} {K : PySem.W.Frag} {mg : Str → Option Value} {base : Heap} {S L : Addr} {f : Addr} {cdv : Value} {A : Around} {outer : List Env} {s : Shared} {H : Hp} {E : XK}
/-- one step of the loop -/
theorem pStep (C : LC P w K mg base S L) (hr : Room 10 (A.deeper (envOfC "law" (defScope sLaw) s.heap.objs.size f cdv))) :
    ∃ t, PSs (cxOf CX0 P w K mg base NL "law" (defScope sLaw) f cdv A outer s H E) LB8 t ∧ ∀ (D : Ends) (H' : Hp) (a0 q d sh hi : Addr) (X Y h : Nat → Addr) (p : Int) (n c : Nat) (g : Nat → List (List (List Int))) (lib bk : Addr) (bs : List (List Int)) (tg : Addr → Nat) (v9 v10 v11 v12 v13 v14 v15 v16 v17 v18 v19 v20 v21 : Option V),
      WS S L H' q d sh hi X Y h p n c g g lib bk bs → Dis tg q d sh hi X Y h → 1 ≤ c → c ≤ 100 → 1 ≤ n → n ≤ 100 → p ∈ primes → (∀ i, i < 2 → (g i).length < 100) →
      (∀ v10 v11 v12 v13 v14 v15 v16 v17 v18 v19 v20 v21 g' H'', WS S L H'' q d sh hi X Y h p n c g' g' lib bk bs → (∀ i, (g' i).length ≤ (g i).length + 1) → D.nx [some (.ref a0), some (.ref q), some (.int p), some (.int c), some (.int n), some (.ref bk), some (.ref lib), some (.ref sh), some (.ref hi), v9, v10, v11, v12, v13, v14, v15, v16, v17, v18, v19, v20, v21] H'') →
      t D [some (.ref a0), some (.ref q), some (.int p), some (.int c), some (.int n), some (.ref bk), some (.ref lib), some (.ref sh), some (.ref hi), v9, v10, v11, v12, v13, v14, v15, v16, v17, v18, v19, v20, v21] H' := by
  obtain ⟨_, _, CT⟩ := C.take
  obtain ⟨_, _, CB⟩ := C.books
  obtain ⟨t4, q4, k4⟩ := p4 (outer := outer) (H := H) (E := E) C hr
  obtain ⟨t5, q5, k5⟩ := p5 (outer := outer) (H := H) (E := E) C hr
  obtain ⟨tA, qA, kA⟩ := pA (outer := outer) (H := H) (E := E) C hr
  obtain ⟨tB, qB, kB⟩ := pB (outer := outer) (H := H) (E := E) C hr
  obtain ⟨tC, qC, kC⟩ := pC (outer := outer) (H := H) (E := E) C hr
  obtain ⟨tZ, qZ, kZ⟩ := pZ (outer := outer) (H := H) (E := E) C hr
  have B := C.B
  have nd := scLaw.nd
  have hr1 := hr.mono (show 1 ≤ 10 by decide)
  have hr2 := hr.mono (show 2 ≤ 10 by decide)
  refine ⟨_, (pss_cons (ps_set (i := 10) nd rfl (Or.inl rfl) (pe_op op_fdivN (pe_cal CT hr1 (pa_cons (pv 1) (pa_cons pe_int pa_nil)) passU) pe_int))
      (pss_cons (ps_set (i := 11) nd rfl (Or.inl rfl) (pe_cal CT hr1 (pa_cons (pv 1) (pa_cons (pv 3) pa_nil)) passU))
      (pss_cons (ps_set (i := 12) nd rfl (Or.inl rfl) (pe_ix ix_tup (pe_cal CB hr2 (pa_cons (pv 1) (pa_cons (pv 2) (pa_cons pe_int (pa_cons (pv 4) pa_nil)))) passU) pe_int (fun _ _ => rfl)))
      (pss_cons (ps_set (i := 13) nd rfl (Or.inl rfl) (pe_cal CT hr1 (pa_cons (pv 1) (pa_cons pe_int pa_nil)) passU))
      (pss_cons q4
      (pss_cons q5
      (pss_cons (ps_set (i := 16) nd rfl (Or.inl rfl) (pe_ix ix_list (pv 7) (pv 10) (fun _ _ => rfl)))
      (pss_cons (ps_if (pt_cmpR op_lt (pv 13) pe_int (nomark _)) qA (pss_one (ps_if (pt_cmpR op_eq (pv 13) pe_int (nomark _)) qB qC)))
      qZ)))))))), ?_⟩
  intro D H0 a0 q d sh hi X Y h p n c g lib bk bs tg v9 v10 v11 v12 v13 v14 v15 v16 v17 v18 v19 v20 v21 W Ds hc1 hc hn1 hn hp hgl kk
  have hSL : S ≠ L := C.cS.ne
  have hb := fld_le hp
  refine ⟨_, rfl, q, d, 4, rfl, by decide, W.hand, fun r H1 r0 r1 h1 k1 => ⟨_, _, rfl, rfl, ⟨by decide, by decide⟩, ?_⟩⟩
  have W1 := W.take hSL Ds k1 h1
  obtain ⟨j, ej, hj⟩ : ∃ j : Nat, r.fdiv 3 = (j : Int) ∧ j < 2 := by
    have : r = 0 ∨ r = 1 ∨ r = 2 ∨ r = 3 := by omega
    rcases this with rfl | rfl | rfl | rfl
    · exact ⟨0, rfl, by decide⟩
    · exact ⟨0, rfl, by decide⟩
    · exact ⟨0, rfl, by decide⟩
    · exact ⟨1, rfl, by decide⟩
  dsimp only
  rw [ej]
  refine ⟨_, rfl, _, rfl, q, d, c, rfl, by omega, h1, fun kz H2 z0 z1 h2 k2 => ?_⟩
  obtain ⟨k, rfl, hkc⟩ := nat_of z0 z1
  have W2 := W1.take hSL Ds k2 h2
  refine ⟨_, rfl, _, rfl, _, rfl, q, d, p, 1, n, rfl, h2, by omega, by decide, hn, fun rb nbs H3 hbk hlen hall h3 k3 => ?_⟩
  have W3 := W2.take hSL Ds k3 h3
  obtain ⟨rs, eb, hPb⟩ := hbk
  obtain ⟨nb, rfl⟩ : ∃ nb, nbs = [nb] := by
    cases nbs with
    | nil => cases hlen
    | cons x l => cases l with
      | nil => exact ⟨x, rfl⟩
      | cons y l => cases hlen
  obtain ⟨rw0, er0, tb⟩ := paired_of hPb (i := 0) (y := nb) rfl
  obtain ⟨nw, rfl, enw⟩ := id tb
  have hlt := hall nb (List.mem_singleton.mpr rfl)
  refine ⟨rb, rs, 0, _, rfl, rfl, SqT.of eb, atI_nat (j := 0) er0, ?_⟩
  refine ⟨_, rfl, q, d, 6, rfl, by decide, h3, fun kd H4 d0 d1 h4 k4' => ?_⟩
  have W4 := W3.take hSL Ds k4' h4
  have tb4 := tb.keepH h3 k4'
  refine k4 _ H4 q d c _ _ _ _ _ _ _ _ _ _ _ _ _ _ _ _ _ _ _ _ h4 hc fun wv wd H5 h5 k5' hw hwb => ?_
  have W5 := W4.take hSL Ds k5' h5
  have tb5 := tb4.keepH h4 k5'
  refine k5 _ H5 q d nw p n nb _ _ _ _ _ _ _ _ _ _ _ _ _ _ _ _ _ _ _ h5 tb5 hlt hn1 hn fun bv bd H6 h6 k6' hv hvl hvs => ?_
  have W6 := W5.take hSL Ds k6' h6
  have tb6 := tb5.keepH h5 k6'
  have hw6 := hw.keep h5 k6'
  refine ⟨_, rfl, _, rfl, sh, _, (j : Int), _, rfl, rfl, SqL.of W6.esh, atI_nat (pick2 hj), ?_⟩
  refine ⟨_, rfl, _, _, rfl, rfl, _, rfl, iteD (fun hlt3 => ?_) (fun hlt3 => ⟨_, rfl, rfl, _, rfl, iteD (fun heq => ?_) (fun hne => ?_)⟩)⟩
  · refine kA _ H6 a0 q d sh hi X Y h p n c g lib bk bs tg j k nw nb _ _ _ _ _ _ _ _ _ W6 Ds hj hkc tb6 hlt hn hn1 hp (hgl j hj) fun w17 w18 w19 g' H7 W7 hg' => ?_
    exact kZ _ H7 a0 q d sh hi X Y h p n c g' lib bk bs _ _ _ _ _ _ _ _ _ _ _ _ _ W7 fun w21 H8 s8 => kk _ _ _ _ _ _ _ _ _ _ _ _ g' H8 (W7.same s8) hg'
  · refine kB _ H6 a0 q d sh hi X Y h p n c g lib bk bs j k nw nb wv bv wd bd _ _ _ _ _ _ _ W6 hj hkc tb6 hlt hn hp (hgl j hj) hw6 hwb hv hvl hvs fun H7 s7 => ?_
    exact kZ _ H7 a0 q d sh hi X Y h p n c g lib bk bs _ _ _ _ _ _ _ _ _ _ _ _ _ (W6.same s7) fun w21 H8 s8 => kk _ _ _ _ _ _ _ _ _ _ _ _ g H8 (W6.same (s7.trans s8)) fun i => Nat.le_succ _
  · refine kC _ H6 a0 q d sh hi X Y h p n c g lib bk bs tg j _ _ _ _ _ _ _ _ _ _ _ W6 Ds hj (hgl j hj) fun w20 H7 W7 => ?_
    exact kZ _ H7 a0 q d sh hi X Y h p n c g lib bk bs _ _ _ _ _ _ _ _ _ _ _ _ _ W7 fun w21 H8 s8 => kk _ _ _ _ _ _ _ _ _ _ _ _ g H8 (W7.same s8) fun i => Nat.le_succ _
end
end WU

set_option maxRecDepth 100000
set_option maxHeartbeats 8000000
namespace WU
open PySem PySem.Spec PyProof.Rows L2
theorem ix_at : ∀ {l : List Addr}, l.Nodup → ∀ {i : Nat} {u : Addr}, l[i]? = some u → l.idxOf u = i
  | [], _, _, _, e => by cases e
  | x :: l, nd, 0, u, e => by
    cases e
    exact List.idxOf_cons_self
  | x :: l, nd, i + 1, u, e => by
    have e' : l[i]? = some u := e
    have h := (List.nodup_cons.mp nd).1
    have ne : x ≠ u := fun z => h (by rw [z]; exact List.mem_of_getElem? e')
    rw [List.idxOf_cons, beq_eq_false_iff_ne.mpr ne, ix_at (List.nodup_cons.mp nd).2 e']
    rfl
def pick (x y : Addr) : Nat → Addr := fun i => if i = 0 then x else y
theorem dis_of {q d sh hi x0 x1 y0 y1 h0 h1 : Addr} (nd : [hi, h1, h0, sh, y1, x1, y0, x0, q, d].Nodup) : ∃ t, Dis t q d sh hi (pick x0 x1) (pick y0 y1) (pick h0 h1) := by
  refine ⟨fun u => [3, 7, 6, 2, 5, 9, 4, 8, 0, 1].getD ([hi, h1, h0, sh, y1, x1, y0, x0, q, d].idxOf u) 0, ?_⟩
  have g : ∀ (i : Nat) (u : Addr), [hi, h1, h0, sh, y1, x1, y0, x0, q, d][i]? = some u → ([3, 7, 6, 2, 5, 9, 4, 8, 0, 1] : List Nat).getD ([hi, h1, h0, sh, y1, x1, y0, x0, q, d].idxOf u) 0 = ([3, 7, 6, 2, 5, 9, 4, 8, 0, 1] : List Nat).getD i 0 := fun i u e => by rw [ix_at nd e]
  exact ⟨g 8 q rfl, g 9 d rfl, g 3 sh rfl, g 0 hi rfl, fun i hi => by have : i = 0 ∨ i = 1 := by omega
                                                                      rcases this with rfl | rfl
                                                                      · exact g 6 y0 rfl
                                                                      · exact g 4 y1 rfl,
    fun i hi => by
      have : i = 0 ∨ i = 1 := by omega
      rcases this with rfl | rfl
      · exact g 2 h0 rfl
      · exact g 1 h1 rfl, fun i hi => by
      have : i = 0 ∨ i = 1 := by omega
      rcases this with rfl | rfl
      · exact g 7 x0 rfl
      · exact g 5 x1 rfl⟩
/-- all of l stand -/
def Alv (H : Hp) (l : List Addr) : Prop := ∀ u ∈ l, H u ≠ none
theorem Alv.new {H : Hp} {l : List Addr} {z : Addr} (h : Alv H l) (hz : H z = none) : z ∉ l := fun m => h z m hz
theorem Alv.cons {H : Hp} {l : List Addr} {z : Addr} (h : Alv H l) (hz : H z ≠ none) : Alv H (z :: l) := fun u hu => by
  rcases List.mem_cons.mp hu with e | hu
  · rw [e]; exact hz
  · exact h u hu
theorem alv_step {H H' : Hp} {l : List Addr} (h : Alv H l) (k : ∀ b o, H b = some o → H' b ≠ none) : Alv H' l := fun u hu => by
  cases e : H u with
  | none => exact absurd e (h u hu)
  | some o => exact k u o e
theorem Alv.same {H H' : Hp} {l : List Addr} (h : Alv H l) (s : Same H H') : Alv H' l := alv_step h fun b o e z => by rw [s b o e] at z; cases z
theorem HandAt.alv {H : Hp} {q d : Addr} (h : HandAt H q d) : Alv H [q, d] := fun u hu => by
  obtain ⟨ds, i, h1, h2, _⟩ := h
  rcases List.mem_cons.mp hu with e | hu
  · rw [e, h1]; intro z; cases z
  · rw [List.mem_singleton.mp hu, h2]; intro z; cases z
theorem ShelfAt.one {S L : Addr} {H : Hp} {x a : Addr} {p : Int} {n c : Nat} {g : List (List (List Int))} (h : ShelfAt S L H x a p n c g) : H x ≠ none ∧ H a ≠ none := by
  obtain ⟨⟨dx, fs, rs, h1, _, _, _, _, h6, _⟩, _⟩ := h
  constructor
  · rw [h1]; intro z; cases z
  · rw [h6]; intro z; cases z
section
variable {P : Program} {w : World} {K : PySem.W.Frag} {mg : Str → Option Value} {base : Heap} {S L : Addr}
def spLaw (K : PySem.W.Frag) : Sp := fun vs H Q _ => ∃ (a : Addr) (ns : List Int), vs = [.ref a] ∧ SqL K H a (ns.map V.int) ∧ ns.length ≤ 63 ∧ ∀ H', Q (.bl true) H'
theorem ok_Law {f : Addr} {fd : FuncData} (F : FnS K "law" sLaw f fd) (C : LC P w K mg base S L) : FnOk P w K mg base CX0 11 f fd ["script"] (spLaw K) := by
  refine F.ok scLaw (fun vs H Q E h => ?_) (fun cdv A outer s H vs Q E hr h => ?_)
  · obtain ⟨a, ns, rfl, _⟩ := h
    rfl
  · obtain ⟨a0, ns, rfl, hS, hl, k⟩ := h
    have nd := scLaw.nd
    have B := C.B
    have hSL : S ≠ L := C.cS.ne
    obtain ⟨_, _, CD⟩ := C.draws
    obtain ⟨_, _, CT⟩ := C.take
    obtain ⟨_, _, CF⟩ := C.field
    obtain ⟨_, _, CB⟩ := C.books
    obtain ⟨_, _, CI⟩ := C.is
    obtain ⟨_, _, MKL, GL, bL⟩ := C.mkL
    obtain ⟨_, _, MKS, GS, bS⟩ := C.mkS
    obtain ⟨tS, qS, kS⟩ := pStep (outer := outer) (H := H) (E := E) C hr
    have hr1 := hr.mono (show 1 ≤ 10 by decide)
    have hr2 := hr.mono (show 2 ≤ 10 by decide)
    have hr4 := hr.mono (show 4 ≤ 10 by decide)
    have hr7 := hr.mono (show 7 ≤ 10 by decide)
    refine ⟨_, (pss_cons (ps_set (i := 1) nd rfl (Or.inl rfl) (pe_lst (pa_cons (pe_cal CD hr1 (pa_cons (pv 0) (pa_cons pe_int pa_nil)) passU) (pa_cons pe_int pa_nil))))
      (pss_cons (ps_set (i := 2) nd rfl (Or.inl rfl) (pe_cal CF hr2 (pa_cons (pv 1) pa_nil) passU))
      (pss_cons (ps_set (i := 3) nd rfl (Or.inl rfl) (pe_op op_add pe_int (pe_cal CT hr1 (pa_cons (pv 1) (pa_cons pe_int pa_nil)) passU)))
      (pss_cons (ps_set (i := 4) nd rfl (Or.inl rfl) (pe_op op_add pe_int (pe_cal CT hr1 (pa_cons (pv 1) (pa_cons pe_int pa_nil)) passU)))
      (pss_cons (ps_set (i := 5) nd rfl (Or.inl rfl) (pe_cal CB hr2 (pa_cons (pv 1) (pa_cons (pv 2) (pa_cons (pv 3) (pa_cons (pv 4) pa_nil)))) passU))
      (pss_cons (ps_set (i := 6) nd rfl (Or.inl rfl) (pe_make MKL GL hr7 (by rfl) C.cL.g bL .nil passU (pa_cons (pv 2) (pa_cons (pv 5) pa_nil))))
      (pss_cons (ps_set (i := 7) nd rfl (Or.inl rfl) (pe_lst (pa_cons (pe_make MKS GS hr2 (by rfl) C.cS.g bS .nil passU (pa_cons (pv 6) pa_nil)) (pa_cons (pe_make MKS GS hr2 (by rfl) C.cS.g bS .nil passU (pa_cons (pv 6) pa_nil)) pa_nil))))
      (pss_cons (ps_set (i := 8) nd rfl (Or.inl rfl) (pe_lst (pa_cons (pe_lst (pa_cons (pv 5) pa_nil)) (pa_cons (pe_lst (pa_cons (pv 5) pa_nil)) pa_nil))))
      (pss_cons (ps_for (passes_of rfl) rfl (pi_range1 rfl B.range (pa_cons (pe_cal CT hr1 (pa_cons (pv 1) (pa_cons pe_int pa_nil)) passU) pa_nil)) (pg_name (i := 9) nd rfl (Or.inl rfl)) qS)
      (pss_one (ps_ret (pe_cal CI hr4 (pa_cons (pv 6) (pa_cons (pv 2) (pa_cons (pv 5) pa_nil))) passU)))))))))))), ?_⟩
    refine ⟨_, rfl, a0, ns, rfl, hS, hl, fun d ds H1 s1 nd1 e1 nn ln => ⟨(by show 2 ≤ sizeLine; decide), fun q hq => ?_⟩⟩
    have hH2 : HandAt (upd H1 q (.lst [.ref d, .int 0])) q d := ⟨ds, 0, upd_same, by rw [upd_ne (ne_of_none e1 hq)]; exact e1, nn, by decide⟩
    have nqd : q ≠ d := (ne_of_none e1 hq).symm
    refine ⟨_, rfl, q, d, rfl, hH2, fun p H3 hp h3 k3 => ?_⟩
    have hb := fld_le hp
    refine ⟨_, rfl, q, d, 3, rfl, by decide, h3, fun r H4 r0 r1 h4 k4 => ⟨_, _, rfl, rfl, ?_⟩⟩
    refine ⟨_, rfl, q, d, 3, rfl, by decide, h4, fun r' H5 r0' r1' h5 k5 => ⟨_, _, rfl, rfl, ?_⟩⟩
    dsimp only
    obtain ⟨c, ec, hc1, hc3⟩ : ∃ c : Nat, 1 + r = (c : Int) ∧ 1 ≤ c ∧ c ≤ 3 := ⟨(1 + r).toNat, by omega, by omega, by omega⟩
    obtain ⟨n, en, hn1, hn3⟩ : ∃ n : Nat, 1 + r' = (n : Int) ∧ 1 ≤ n ∧ n ≤ 3 := ⟨(1 + r').toNat, by omega, by omega, by omega⟩
    rw [ec, en]
    refine ⟨_, rfl, _, rfl, _, rfl, _, rfl, q, d, p, c, n, rfl, h5, by omega, by omega, by omega, fun bk bs H6 hbk hlen hall h6 k6 => ?_⟩
    have gd : Good p n bs := ⟨fun z => by rw [z] at hlen; simp at hlen; omega, by omega, by omega, by omega, hall⟩
    obtain ⟨rsb, ebk, hPb⟩ := id hbk
    refine ⟨_, rfl, _, rfl, fun lib dl hlib hdl nel => ?_⟩
    have h7 : Same H6 (upd (upd H6 dl (.own lib)) lib (.ins L dl [])) := (same_new hdl).trans (same_new (by rw [upd_ne (Ne.symm nel)]; exact hlib))
    have e7 : upd (upd H6 dl (.own lib)) lib (.ins L dl []) lib = some (.ins L dl []) := upd_same
    generalize upd (upd H6 dl (.own lib)) lib (.ins L dl []) = H7 at h7 e7 ⊢
    refine ⟨lib, dl, bk, p, rsb, bs, n, rfl, e7, hp, .inr (h7 _ _ ebk), paired_mono (fun _ _ q => (q.same h7).sb) hPb, gd, fun H8 hL8 k8 => ⟨rfl, ?_⟩⟩
    have h8 := (h6.same h7).chg k8.chg (not1 (h6.ne hlib).1) (not1 (h6.ne hlib).2)
    have hbk8 : BkAt H8 bk bs := ⟨rsb, k8 _ _ (ne_of (h7 _ _ ebk) e7 (by intro z; cases z)) (h7 _ _ ebk), paired_mono (fun _ _ q => (q.same h7).keep e7 k8) hPb⟩
    -- the first shelf
    refine ⟨_, rfl, fun x0 dx0 hx0 hdx0 ne0 => ?_⟩
    have s9 : Same H8 (upd (upd H8 dx0 (.own x0)) x0 (.ins S dx0 [])) := (same_new hdx0).trans (same_new (by rw [upd_ne (Ne.symm ne0)]; exact hx0))
    have e9 : upd (upd H8 dx0 (.own x0)) x0 (.ins S dx0 []) x0 = some (.ins S dx0 []) := upd_same
    generalize upd (upd H8 dx0 (.own x0)) x0 (.ins S dx0 []) = H9 at s9 e9 ⊢
    refine ⟨x0, dx0, .ref lib, p, n, c, bs, rfl, e9, ⟨lib, rfl, hL8.same s9, gd, hlen⟩, fun y0 H10 n0 n1 k10 sh0 => ⟨rfl, ?_⟩⟩
    have mt10 : ∀ m ∈ [x0], Mt S H9 m := fun m hm => by rw [List.mem_singleton.mp hm]; exact .inr ⟨_, _, e9⟩
    have h10 := (h8.same s9).chg k10.chg (not1 (h8.ne hx0).1) (not1 (h8.ne hx0).2)
    have hL10 := (hL8.same s9).chg hSL k10.chg mt10
    have hbk10 := (hbk8.same s9).chg k10.chg mt10
    have na : x0 ∉ [q, d] := h8.alv.new hx0
    have nb : y0 ∉ [x0, q, d] := (((h8.same s9).alv).cons (z := x0) (by rw [e9]; intro z; cases z)).new n0
    have al10 : Alv H10 [y0, x0, q, d] := (h10.alv.cons sh0.one.1).cons n1
    -- the second shelf
    refine ⟨_, rfl, fun x1 dx1 hx1 hdx1 ne1 => ?_⟩
    have s11 : Same H10 (upd (upd H10 dx1 (.own x1)) x1 (.ins S dx1 [])) := (same_new hdx1).trans (same_new (by rw [upd_ne (Ne.symm ne1)]; exact hx1))
    have e11 : upd (upd H10 dx1 (.own x1)) x1 (.ins S dx1 []) x1 = some (.ins S dx1 []) := upd_same
    generalize upd (upd H10 dx1 (.own x1)) x1 (.ins S dx1 []) = H11 at s11 e11 ⊢
    refine ⟨x1, dx1, .ref lib, p, n, c, bs, rfl, e11, ⟨lib, rfl, hL10.same s11, gd, hlen⟩, fun y1 H12 n2 n3 k12 sh1 => ⟨rfl, ?_⟩⟩
    have mt12 : ∀ m ∈ [x1], Mt S H11 m := fun m hm => by rw [List.mem_singleton.mp hm]; exact .inr ⟨_, _, e11⟩
    have nc : x1 ∉ [y0, x0, q, d] := al10.new hx1
    have x01 : x0 ≠ x1 := fun e => nc (by rw [← e]; simp)
    have y01 : y0 ≠ x1 := fun e => nc (by rw [← e]; simp)
    have h12 := (h10.same s11).chg k12.chg (not1 (h10.ne hx1).1) (not1 (h10.ne hx1).2)
    have hL12 := (hL10.same s11).chg hSL k12.chg mt12
    have hbk12 := (hbk10.same s11).chg k12.chg mt12
    have sh0' := (sh0.same s11).chg hSL k12.chg mt12 (not1 x01) (not1 y01)
    have ndd : y1 ∉ [x1, y0, x0, q, d] := ((al10.same s11).cons (z := x1) (by rw [e11]; intro z; cases z)).new n2
    have al12 : Alv H12 [y1, x1, y0, x0, q, d] := (((h12.alv.cons sh0'.one.1).cons sh0'.one.2).cons sh1.one.1).cons n3
    -- the lists
    refine ⟨(by show 2 ≤ sizeLine; decide), fun sh hsh => ?_⟩
    have s13 := same_new (o := .lst [.ref x0, .ref x1]) hsh
    have e13 : upd H12 sh (.lst [.ref x0, .ref x1]) sh = some (.lst [.ref x0, .ref x1]) := upd_same
    have ne_ : sh ∉ [y1, x1, y0, x0, q, d] := al12.new hsh
    have al13 := (al12.same s13).cons (z := sh) (by rw [e13]; intro z; cases z)
    generalize upd H12 sh (.lst [.ref x0, .ref x1]) = H13 at s13 e13 al13 ⊢
    refine ⟨_, rfl, (by show 1 ≤ sizeLine; decide), fun h0 hh0 => ?_⟩
    have s14 := same_new (o := .lst [.ref bk]) hh0
    have e14 : upd H13 h0 (.lst [.ref bk]) h0 = some (.lst [.ref bk]) := upd_same
    have nf := al13.new hh0
    have al14 := (al13.same s14).cons (z := h0) (by rw [e14]; intro z; cases z)
    generalize upd H13 h0 (.lst [.ref bk]) = H14 at s14 e14 al14 ⊢
    refine ⟨_, rfl, (by show 1 ≤ sizeLine; decide), fun h1 hh1 => ?_⟩
    have s15 := same_new (o := .lst [.ref bk]) hh1
    have e15 : upd H14 h1 (.lst [.ref bk]) h1 = some (.lst [.ref bk]) := upd_same
    have ng := al14.new hh1
    have al15 := (al14.same s15).cons (z := h1) (by rw [e15]; intro z; cases z)
    generalize upd H14 h1 (.lst [.ref bk]) = H15 at s15 e15 al15 ⊢
    refine ⟨(by show 2 ≤ sizeLine; decide), fun hi hhi => ?_⟩
    have s16 := same_new (o := .lst [.ref h0, .ref h1]) hhi
    have e16 : upd H15 hi (.lst [.ref h0, .ref h1]) hi = some (.lst [.ref h0, .ref h1]) := upd_same
    have nh := al15.new hhi
    generalize upd H15 hi (.lst [.ref h0, .ref h1]) = H16 at s16 e16 ⊢
    have nodup : [hi, h1, h0, sh, y1, x1, y0, x0, q, d].Nodup := by
      refine List.nodup_cons.mpr ⟨nh, List.nodup_cons.mpr ⟨ng, List.nodup_cons.mpr ⟨nf, List.nodup_cons.mpr ⟨ne_, List.nodup_cons.mpr ⟨ndd, List.nodup_cons.mpr ⟨nc, List.nodup_cons.mpr ⟨nb, List.nodup_cons.mpr ⟨na, List.nodup_cons.mpr ⟨not1 nqd, List.nodup_cons.mpr ⟨List.not_mem_nil, List.nodup_nil⟩⟩⟩⟩⟩⟩⟩⟩⟩⟩
    obtain ⟨tg, Ds⟩ := dis_of nodup
    have s126 := s13.trans (s14.trans (s15.trans s16))
    have W : WS S L H16 q d sh hi (pick x0 x1) (pick y0 y1) (pick h0 h1) p n c (fun _ => [bs]) (fun _ => [bs]) lib bk bs := by
      refine ⟨h12.same s126, fun i hi2 => ?_, fun i hi2 => ?_, s16 _ _ (s15 _ _ (s14 _ _ e13)), e16, hL12.same s126, hbk12.same s126⟩
      · have : i = 0 ∨ i = 1 := by omega
        rcases this with rfl | rfl
        · exact sh0'.same s126
        · exact sh1.same s126
      · have : i = 0 ∨ i = 1 := by omega
        rcases this with rfl | rfl
        · exact ⟨_, s16 _ _ (s15 _ _ e14), .cons ⟨bk, rfl, hbk12.same s126⟩ .nil⟩
        · exact ⟨_, s16 _ _ e15, .cons ⟨bk, rfl, hbk12.same s126⟩ .nil⟩
    refine ⟨_, rfl, q, d, 10, rfl, by decide, W.hand, fun rr H17 b0 b1 h17 k17 => ⟨rr, rfl, by omega, by omega, ?_⟩⟩
    have W17 := W.take hSL Ds k17 h17
    refine for_range (lo := 0) (n := rr.toNat) (fun i σ H' => ∃ v9 v10 v11 v12 v13 v14 v15 v16 v17 v18 v19 v20 v21 g', σ = [some (.ref a0), some (.ref q), some (.int p), some (.int c), some (.int n), some (.ref bk), some (.ref lib), some (.ref sh), some (.ref hi), v9, v10, v11, v12, v13, v14, v15, v16, v17, v18, v19, v20, v21] ∧ WS S L H' q d sh hi (pick x0 x1) (pick y0 y1) (pick h0 h1) p n c g' g' lib bk bs ∧ ∀ j, (g' j).length ≤ i + 1)
      ⟨none, none, none, none, none, none, none, none, none, none, none, none, none, _, rfl, W17, fun j => Nat.le_refl _⟩ ?_ ?_
    · rintro i σ H' hi2 ⟨v9, v10, v11, v12, v13, v14, v15, v16, v17, v18, v19, v20, v21, g', rfl, W', hg⟩
      refine kS _ H' a0 q d sh hi _ _ _ p n c g' lib bk bs tg _ _ _ _ _ _ _ _ _ _ _ _ _ W' Ds hc1 (by omega) hn1 (by omega) hp (fun j _ => by have := hg j; omega) fun w10 w11 w12 w13 w14 w15 w16 w17 w18 w19 w20 w21 g'' H'' W'' hg'' => ?_
      exact ⟨_, w10, w11, w12, w13, w14, w15, w16, w17, w18, w19, w20, w21, g'', rfl, W'', fun j => by have := hg'' j; have := hg j; omega⟩
    · rintro σ H' ⟨v9, v10, v11, v12, v13, v14, v15, v16, v17, v18, v19, v20, v21, g', rfl, W', hg⟩
      exact ⟨_, rfl, _, rfl, _, rfl, lib, bk, p, n, bs, rfl, W'.elib, gd, W'.ebk, fun H'' s'' => k H''⟩
end
end WU

set_option maxRecDepth 100000
set_option maxHeartbeats 0
namespace WU
open PySem PySem.Spec PyProof.Rows L2
def dG (x : Str) (i : Nat) : He.DefD := ⟨(x, none), x, x, defArgs (top i), defBody (top i), defScope (top i), [], []⟩
def dM (c m : Str) (i j : Nat) (q : Str) (ds : List He.Dv) : He.DefD := ⟨(c, some m), m, q, defArgs (inClass (top i) j), defBody (inClass (top i) j), defScope (inClass (top i) j), ds, []⟩
def fn : List He.DefD := [dG "is_integer" 6, dG "is_number" 7, dG "is_below" 8, dG "is_sequence" 9, dG "are_letters" 10, dG "is_field" 15, dG "check_field" 16, dG "are_books" 19, dG "letters_of" 20,
  dM "InvalidNumber" "__init__" 3 0 "InvalidNumber.__init__" [], dM "InvalidLibrary" "__init__" 4 0 "InvalidLibrary.__init__" [], dM "Shelf" "__init__" 12 0 "Shelf.__init__" [], dM "Shelf" "put" 12 1 "Shelf.put" [], dM "Shelf" "at" 12 2 "Shelf.at" [.non],
  dM "Library" "__init__" 18 0 "Library.__init__" [], dM "Library" "changed" 18 3 "Library.changed" [], dM "Library" "_check_book" 18 5 "Library._check_book" [],
  dG "_law_draws" 22, dG "_law_take" 23, dG "_law_is_field" 24, dG "_law_field" 25, dG "_law_books" 26, dG "_law_same" 27, dG "_law_is" 28, dG "_law_put" 29, dG "_law_at" 30, dG "_law_shelf_right" 31, dG "law" 32]
def frees : List Str := ["isinstance", "int", "bool", "len", "abs", "range", "tuple", "list", "all"]
def globs : List Str := ["is_integer", "is_number", "is_below", "is_sequence", "are_letters", "is_field", "check_field", "are_books", "letters_of", "PRIMES", "Shelf", "Library", "_law_draws", "_law_take", "_law_is_field", "_law_field", "_law_books", "_law_same", "_law_is", "_law_put", "_law_at", "_law_shelf_right", "law"]
def isB0 (o : Option Bool) (b : Bool) : Bool := decide (o = some b)
def lbB (K : PySem.W.Frag) (S : Addr) : Bool :=
  (He.Fa.cls "Library").ok K && ((He.Fa.noat "Library" "p").ok K && ((He.Fa.noat "Library" "books").ok K && ((He.Fa.noat "Library" "book_count").ok K && ((He.Fa.noat "Library" "book_length").ok K && ((He.Fa.noat "Library" "letters").ok K &&
    ((He.Fa.mkr "Library").ok K && ((He.Fa.meth "Library" "changed").ok K && ((He.Fa.meth "Library" "_check_book").ok K &&
      (decide (PySem.W.findIn K (.ref S) "__class__" = some (some (.builtin "object.__class__"))) && (decide (PySem.W.specialIn K (.builtin "object.__class__") "__get__" = some (some (.builtin "getset_descriptor.__get__"))) &&
        (isB0 (PySem.W.takesIn K (.builtin "object.__class__")) true && (isB0 (PySem.W.mroIn K S (.type "object")) true && isB0 (PySem.W.kitOne K (.ref S) (.ref S)) true))))))))))))
def shB (K : PySem.W.Frag) : Bool :=
  (He.Fa.cls "Shelf").ok K && ((He.Fa.noat "Shelf" "edition").ok K && ((He.Fa.noat "Shelf" "_libraries").ok K && ((He.Fa.mkr "Shelf").ok K && ((He.Fa.meth "Shelf" "put").ok K && ((He.Fa.meth "Shelf" "at").ok K && decide (He.ga K "Shelf" ≠ He.ga K "Library"))))))
def exmB (K : PySem.W.Frag) (x y : Str) (b : Bool) : Bool := isB0 (PySem.W.exmOne K (.ref (He.ga K x)) (.ref (He.ga K y))) b
def ex (K : PySem.W.Frag) : Bool :=
  freeB K frees && (globB K globs && (exc1B K "InvalidNumber" "value" && (exc1B K "InvalidLibrary" "value" && (xfB K (He.ga K "InvalidNumber") && (xfB K (He.ga K "InvalidLibrary") &&
    (exmB K "InvalidNumber" "InvalidNumber" true && (exmB K "InvalidLibrary" "InvalidNumber" false && (exmB K "InvalidLibrary" "InvalidLibrary" true &&
      (He.tupB K "PRIMES" (primes.map He.Dv.int) && (lbB K (He.ga K "Library") && shB K))))))))))
theorem getG {K : PySem.W.Frag} (c : He.SaysD [] fn K) (i : Nat) {x : Str} {j : Nat} (h : fn[i]? = some (dG x j)) : ∃ fd, FnS K x (top j) (He.ga K x) fd := c.def_ i h
theorem getM {K : PySem.W.Frag} (c : He.SaysD [] fn K) (i : Nat) {cl m q : Str} {ds : List He.Dv} {j k : Nat} (h : fn[i]? = some (dM cl m j k q ds)) :
    ∃ fd, FunD K m q (defArgs (inClass (top j) k)) (defBody (inClass (top j) k)) (defScope (inClass (top j) k)) (ds.map (He.Dv.v K)) [] (He.ma K (He.ga K cl) m) fd := c.def_ i h
theorem facts {P : Program} {w : World} {K : PySem.W.Frag} {h : Heap} {mg : Str → Option Value} {fa : Addr} (X : K.In h) (G : h.Ns mainGlobals mg) (hfa : mg "law" = some (.ref fa)) (c : He.SaysD [] fn K) (e : ex K = true) :
    ∃ fd : FuncData, (∀ (s : Shared) (v : Value), BindsTo s fd ⟨[v], []⟩ [("script", v)]) ∧ ∀ base : Heap, K.In base → base.Ns mainGlobals mg → FnOk P w K mg base CX0 11 fa fd ["script"] (spLaw K) := by
  obtain ⟨e1, e⟩ := and2 e
  obtain ⟨e2, e⟩ := and2 e
  obtain ⟨e3, e⟩ := and2 e
  obtain ⟨e4, e⟩ := and2 e
  obtain ⟨e5, e⟩ := and2 e
  obtain ⟨e6, e⟩ := and2 e
  obtain ⟨e7, e⟩ := and2 e
  obtain ⟨e8, e⟩ := and2 e
  obtain ⟨e9, e⟩ := and2 e
  obtain ⟨e10, e⟩ := and2 e
  obtain ⟨l, z⟩ := and2 e
  obtain ⟨l1, l⟩ := and2 l
  obtain ⟨l2, l⟩ := and2 l
  obtain ⟨l3, l⟩ := and2 l
  obtain ⟨l4, l⟩ := and2 l
  obtain ⟨l5, l⟩ := and2 l
  obtain ⟨l6, l⟩ := and2 l
  obtain ⟨l7, l⟩ := and2 l
  obtain ⟨l8, l⟩ := and2 l
  obtain ⟨l9, l⟩ := and2 l
  obtain ⟨l10, l⟩ := and2 l
  obtain ⟨l11, l⟩ := and2 l
  obtain ⟨l12, l⟩ := and2 l
  obtain ⟨l13, l14⟩ := and2 l
  obtain ⟨z1, z⟩ := and2 z
  obtain ⟨z2, z⟩ := and2 z
  obtain ⟨z3, z⟩ := and2 z
  obtain ⟨z4, z⟩ := and2 z
  obtain ⟨z5, z⟩ := and2 z
  obtain ⟨z6, z7⟩ := and2 z
  have fr : ∀ {x : Str}, x ∈ frees → mg x = none := fun hx => freeB_ok X G e1 hx
  have gl : ∀ {x : Str}, x ∈ globs → mg x = some (.ref (He.ga K x)) := fun hx => globB_ok X G e2 hx
  have B : Blt3 mg := { isi := fr (by decide +kernel), int := fr (by decide +kernel), bool := fr (by decide +kernel), len := fr (by decide +kernel), abs := fr (by decide +kernel), range := fr (by decide +kernel), tuple := fr (by decide +kernel), lst := fr (by decide +kernel), all := fr (by decide +kernel) }
  have TN : Exc1 K mg "InvalidNumber" "value" := exc1B_ok X G e3
  have TL : Exc1 K mg "InvalidLibrary" "value" := exc1B_ok X G e4
  have XN := xfB_ok e5
  have XL := xfB_ok e6
  have b0 : ∀ {o : Option Bool} {b : Bool}, isB0 o b = true → o = some b := fun h => of_decide_eq_true h
  have CLb : LibC K mg (He.ga K "Library") := { g := gl (by decide +kernel), cl := He.cls_ok l1, nP := He.noat_ok l2, nB := He.noat_ok l3, nC := He.noat_ok l4, nL := He.noat_ok l5, nT := He.noat_ok l6, ha := of_decide_eq_true l10, hn := of_decide_eq_true l11, htk := b0 l12, hm := b0 l13, kS := b0 l14 }
  have CSh : ShC K mg (He.ga K "Shelf") (He.ga K "Library") := { g := gl (by decide +kernel), cl := He.cls_ok z1, nE := He.noat_ok z2, nL := He.noat_ok z3, ne := of_decide_eq_true z7 }
  have MKL := He.mkr_ok l7
  have MCh := He.meth_ok l8
  have MCB := He.meth_ok l9
  have MKS := He.mkr_ok z4
  have MP := He.meth_ok z5
  have MA := He.meth_ok z6
  obtain ⟨fd0, F0⟩ := getG c 0 (x := "is_integer") (j := 6) rfl
  obtain ⟨fd1, F1⟩ := getG c 1 (x := "is_number") (j := 7) rfl
  obtain ⟨fd2, F2⟩ := getG c 2 (x := "is_below") (j := 8) rfl
  obtain ⟨fd3, F3⟩ := getG c 3 (x := "is_sequence") (j := 9) rfl
  obtain ⟨fd4, F4⟩ := getG c 4 (x := "are_letters") (j := 10) rfl
  obtain ⟨fd5, F5⟩ := getG c 5 (x := "is_field") (j := 15) rfl
  obtain ⟨fd6, F6⟩ := getG c 6 (x := "check_field") (j := 16) rfl
  obtain ⟨fd7, F7⟩ := getG c 7 (x := "are_books") (j := 19) rfl
  obtain ⟨fd8, F8⟩ := getG c 8 (x := "letters_of") (j := 20) rfl
  obtain ⟨fd9, F9⟩ := getM c 9 (cl := "InvalidNumber") (m := "__init__") (q := "InvalidNumber.__init__") (ds := []) (j := 3) (k := 0) rfl
  obtain ⟨fd10, F10⟩ := getM c 10 (cl := "InvalidLibrary") (m := "__init__") (q := "InvalidLibrary.__init__") (ds := []) (j := 4) (k := 0) rfl
  obtain ⟨fd11, F11⟩ := getM c 11 (cl := "Shelf") (m := "__init__") (q := "Shelf.__init__") (ds := []) (j := 12) (k := 0) rfl
  obtain ⟨fd12, F12⟩ := getM c 12 (cl := "Shelf") (m := "put") (q := "Shelf.put") (ds := []) (j := 12) (k := 1) rfl
  obtain ⟨fd13, F13⟩ := getM c 13 (cl := "Shelf") (m := "at") (q := "Shelf.at") (ds := [.non]) (j := 12) (k := 2) rfl
  obtain ⟨fd14, F14⟩ := getM c 14 (cl := "Library") (m := "__init__") (q := "Library.__init__") (ds := []) (j := 18) (k := 0) rfl
  obtain ⟨fd15, F15⟩ := getM c 15 (cl := "Library") (m := "changed") (q := "Library.changed") (ds := []) (j := 18) (k := 3) rfl
  obtain ⟨fd16, F16⟩ := getM c 16 (cl := "Library") (m := "_check_book") (q := "Library._check_book") (ds := []) (j := 18) (k := 5) rfl
  obtain ⟨fd17, F17⟩ := getG c 17 (x := "_law_draws") (j := 22) rfl
  obtain ⟨fd18, F18⟩ := getG c 18 (x := "_law_take") (j := 23) rfl
  obtain ⟨fd19, F19⟩ := getG c 19 (x := "_law_is_field") (j := 24) rfl
  obtain ⟨fd20, F20⟩ := getG c 20 (x := "_law_field") (j := 25) rfl
  obtain ⟨fd21, F21⟩ := getG c 21 (x := "_law_books") (j := 26) rfl
  obtain ⟨fd22, F22⟩ := getG c 22 (x := "_law_same") (j := 27) rfl
  obtain ⟨fd23, F23⟩ := getG c 23 (x := "_law_is") (j := 28) rfl
  obtain ⟨fd24, F24⟩ := getG c 24 (x := "_law_put") (j := 29) rfl
  obtain ⟨fd25, F25⟩ := getG c 25 (x := "_law_at") (j := 30) rfl
  obtain ⟨fd26, F26⟩ := getG c 26 (x := "_law_shelf_right") (j := 31) rfl
  obtain ⟨fd27, F27⟩ := getG c 27 (x := "law") (j := 32) rfl
  have efa := hfa.symm.trans (gl (x := "law") (by decide +kernel))
  cases efa
  have bl := FunD.bindsA (ps := ["script"]) F27 fun _ _ _ _ _ _ us hl => match us, hl with | [_], _ => rfl
  refine ⟨fd27, fun s v => bl s [v] rfl, fun base _ _ => ?_⟩
  have C0 : Cal P w K mg base 1 "is_integer" _ fd0 ["value"] (spIsInt K) := cal_mk F0 (gl (by decide +kernel)) (ok_isInt F0 B.toBlt) fun _ _ _ _ _ _ us hl => match us, hl with | [_], _ => rfl
  have C1 : Cal P w K mg base 2 "is_number" _ fd1 ["value"] (spIsNum K) := cal_mk F1 (gl (by decide +kernel)) (ok_isNum F1 C0) fun _ _ _ _ _ _ us hl => match us, hl with | [_], _ => rfl
  have C2 : Cal P w K mg base 3 "is_below" _ fd2 ["value", "limit"] (spIsBel K) := cal_mk F2 (gl (by decide +kernel)) (ok_isBel F2 C1) fun _ _ _ _ _ _ us hl => match us, hl with | [_, _], _ => rfl
  have C3 : Cal P w K mg base 1 "is_sequence" _ fd3 ["value"] (spSeq K) := cal_mk F3 (gl (by decide +kernel)) (ok_seq F3 B) fun _ _ _ _ _ _ us hl => match us, hl with | [_], _ => rfl
  have C4 : Cal P w K mg base 4 "are_letters" _ fd4 ["p", "count", "value"] (spLets K) := cal_mk F4 (gl (by decide +kernel)) (ok_lets F4 B C3 C2) fun _ _ _ _ _ _ us hl => match us, hl with | [_, _, _], _ => rfl
  have tP : ∀ H, SqT K H (He.ga K "PRIMES") (primes.map V.int) := fun H => He.tupB_ok e10 H
  have C5 : Cal P w K mg base 2 "is_field" _ fd5 ["p"] (spIsFld K) := cal_mk F5 (gl (by decide +kernel)) (ok_isFld F5 C0 (gl (by decide +kernel)) tP) fun _ _ _ _ _ _ us hl => match us, hl with | [_], _ => rfl
  have GN := ok_init1 (P := P) (w := w) (K := K) (mg := mg) (base := base) (C := He.ga K "InvalidNumber") F9 scIN bodyIN
  have bN : L2.Binds K fd9 ["self", "value"] [] := FunD.bindsN F9 fun _ _ _ _ _ _ us hl => match us, hl with | [_, _], _ => rfl
  have GL := ok_init1 (P := P) (w := w) (K := K) (mg := mg) (base := base) (C := He.ga K "InvalidLibrary") F10 scIL bodyIL
  have bL : L2.Binds K fd10 ["self", "value"] [] := FunD.bindsN F10 fun _ _ _ _ _ _ us hl => match us, hl with | [_, _], _ => rfl
  have C6 : Cal P w K mg base 3 "check_field" _ fd6 ["p"] (spCheck K) := cal_mk F6 (gl (by decide +kernel)) (ok_check F6 C5 TN GN bN) fun _ _ _ _ _ _ us hl => match us, hl with | [_], _ => rfl
  have C7 : Cal P w K mg base 5 "are_books" _ fd7 ["p", "value"] (spAB K) := cal_mk F7 (gl (by decide +kernel)) (ok_AB F7 B C3 C4) fun _ _ _ _ _ _ us hl => match us, hl with | [_, _], _ => rfl
  have C8 : Cal P w K mg base 1 "letters_of" _ fd8 ["books"] (spLO K) := cal_mk F8 (gl (by decide +kernel)) (ok_LO F8 B) fun _ _ _ _ _ _ us hl => match us, hl with | [_], _ => rfl
  have GLI := ok_LI (P := P) (w := w) (base := base) F14 B CLb C6 C7 C8
  have bLI : L2.Binds K fd14 ["self", "p", "books"] [] := FunD.bindsN F14 fun _ _ _ _ _ _ us hl => match us, hl with | [_, _, _], _ => rfl
  have GCB := ok_CB (P := P) (w := w) (base := base) F16 CLb C2 TN GN bN
  have bCB : L2.Binds K fd16 ["self", "k"] [] := FunD.bindsN F16 fun _ _ _ _ _ _ us hl => match us, hl with | [_, _], _ => rfl
  have GCh := ok_Ch (P := P) (w := w) (base := base) F15 CLb C4 MCB GCB bCB TL GL bL MKL GLI bLI
  have bCh : L2.Binds K fd15 ["self", "k", "book"] [] := FunD.bindsN F15 fun _ _ _ _ _ _ us hl => match us, hl with | [_, _, _], _ => rfl
  have GSI := ok_SI (P := P) (w := w) (base := base) F11 CSh
  have bSI : L2.Binds K fd11 ["self", "library"] [] := FunD.bindsN F11 fun _ _ _ _ _ _ us hl => match us, hl with | [_, _], _ => rfl
  have GSP := ok_SP (P := P) (w := w) (base := base) F12 B CSh CLb MCh GCh bCh
  have bSP : L2.Binds K fd12 ["self", "k", "book"] [] := FunD.bindsN F12 fun _ _ _ _ _ _ us hl => match us, hl with | [_, _, _], _ => rfl
  have GSA := ok_SA (P := P) (w := w) (base := base) F13 B CSh C2 TN GN bN
  have bSA : L2.Binds K fd13 ["self", "edition"] [] := by
    obtain ⟨ds, v, b⟩ := FunD.binds1 (ps := ["self", "edition"]) F13 2 1 (by intro z; cases z) rfl fun T kV doc pm an cdv ct us its hu hi => match us, its, hu, hi with | [_, _], [_], _, _ => ⟨_, rfl, rfl⟩
    cases v
    exact b
  have bSA0 : ∃ ds, Vals [V.non] ds ∧ L2.Binds K fd13 ["self", "edition"] ds := FunD.binds1 (ps := ["self", "edition"]) F13 1 0 (by intro z; cases z) rfl fun T kV doc pm an cdv ct us its hu hi => match us, its, hu, hi with | [_], [_], _, _ => ⟨_, rfl, rfl⟩
  have bSAK : ∃ its : List Value, KBn K fd13 ["self", "edition"] 1 ["edition"] (fun us ws => us ++ ws) (fun vs zs => vs ++ zs) :=
    FunD.kbindsD (ps := ["self", "edition"]) F13 1 ["edition"] (fun vs _ zs => vs ++ zs) (by intro z; cases z) (fun a _ b => a.append b) fun T kV doc pm an cdv ct us its ws hu hi hw => match us, its, ws, hu, hi, hw with | [_], [_], [_], _, _, _ => ⟨_, rfl, rfl⟩
  have SM : ShM P w K mg base (He.ga K "Shelf") (He.ga K "Library") _ _ fd12 fd13 := { mP := MP, gP := GSP, bP := bSP, mA := MA, gA := GSA, bA := bSA, bA0 := bSA0, bAK := bSAK }
  have CD : Cal P w K mg base 1 "_law_draws" _ fd17 ["script", "many"] (spDraws K 160) := cal_mk F17 (gl (by decide +kernel)) (ok_draws F17 B.toBlt2 (by decide) (by decide)) fun _ _ _ _ _ _ us hl => match us, hl with | [_, _], _ => rfl
  have CT : Cal P w K mg base 1 "_law_take" _ fd18 ["hand", "many"] spTake := cal_mk F18 (gl (by decide +kernel)) (ok_take F18 B.toBlt2) fun _ _ _ _ _ _ us hl => match us, hl with | [_, _], _ => rfl
  have CLF : Cal P w K mg base 1 "_law_is_field" _ fd19 ["p"] (spIsFld K) := cal_mk F19 (gl (by decide +kernel)) (ok_LF F19 B.toBlt2) fun _ _ _ _ _ _ us hl => match us, hl with | [_], _ => rfl
  have CFd : Cal P w K mg base 2 "_law_field" _ fd20 ["hand"] spLFd := cal_mk F20 (gl (by decide +kernel)) (ok_LFd F20 B.toBlt2 CLF CT) fun _ _ _ _ _ _ us hl => match us, hl with | [_], _ => rfl
  have CBk : Cal P w K mg base 2 "_law_books" _ fd21 ["hand", "p", "count", "size"] spBk := cal_mk F21 (gl (by decide +kernel)) (ok_Bk F21 B CT) fun _ _ _ _ _ _ us hl => match us, hl with | [_, _, _, _], _ => rfl
  have bSm : L2.Binds K fd22 ["found", "due"] [] := FunD.bindsN F22 fun _ _ _ _ _ _ us hl => match us, hl with | [_, _], _ => rfl
  have CSm : Cal P w K mg base 3 "_law_same" _ fd22 ["found", "due"] (spSm 2) := ⟨gl (by decide +kernel), F22.kp, bSm, ok_Sm F22 B (gl (by decide +kernel)) bSm 2⟩
  have CIs : Cal P w K mg base 4 "_law_is" _ fd23 ["library", "p", "books"] (spIs (He.ga K "Library")) := cal_mk F23 (gl (by decide +kernel)) (ok_Is F23 B CLb CSm) fun _ _ _ _ _ _ us hl => match us, hl with | [_, _, _], _ => rfl
  have CLP : Cal P w K mg base 10 "_law_put" _ fd24 ["shelf", "k", "book"] (spLP K (He.ga K "Shelf") (He.ga K "Library")) := cal_mk F24 (gl (by decide +kernel)) (ok_LP F24 CSh SM TN TL XN XL (b0 e7) (b0 e8) (b0 e9)) fun _ _ _ _ _ _ us hl => match us, hl with | [_, _, _], _ => rfl
  have CLA : Cal P w K mg base 5 "_law_at" _ fd25 ["shelf", "edition"] (spLA2 K (He.ga K "Shelf") (He.ga K "Library")) := cal_mk F25 (gl (by decide +kernel)) (ok_LA F25 CSh SM TN XN (b0 e7)) fun _ _ _ _ _ _ us hl => match us, hl with | [_, _], _ => rfl
  have CSR : Cal P w K mg base 5 "_law_shelf_right" _ fd26 ["shelf", "p", "history"] (spSR (He.ga K "Shelf") (He.ga K "Library")) := cal_mk F26 (gl (by decide +kernel)) (ok_SR F26 B CSh SM CSm CIs) fun _ _ _ _ _ _ us hl => match us, hl with | [_, _, _], _ => rfl
  exact ok_Law F27 { B := B, cS := CSh, cL := CLb, draws := ⟨_, _, CD⟩, take := ⟨_, _, CT⟩, field := ⟨_, _, CFd⟩, books := ⟨_, _, CBk⟩, put := ⟨_, _, CLP⟩, at_ := ⟨_, _, CLA⟩, same := ⟨_, _, CSm⟩, right := ⟨_, _, CSR⟩, is := ⟨_, _, CIs⟩, mkL := ⟨_, _, MKL, GLI, bLI⟩, mkS := ⟨_, _, MKS, GSI, bSI⟩ }
end WU

namespace WU
open PySem PySem.Spec PyProof.Rows L2
theorem walk {l : PySem.W.OpenLaw} {q : Program} {loose : List Str} {XP : (Str → Option Value) → Heap → Prop} {YP : World → Heap → Prop} {d : DefRec} {K : Params → PySem.W.Frag} (hn : l.most = some 63) (hdf : d.params.defaults = []) (hname : d.name = ("law" : Str))
    (hY : ∀ (w : World) (h : Heap), YP w h → (K w.params).In h) (hD : ∀ w : World, He.SaysD [] fn (K w.params)) (hE : ∀ w : World, ex (K w.params) = true) :
    PySem.W.WalkO q loose XP YP l.row.toRowW d [] (fun f vs => PySem.call f vs) :=
  L2.walk_of (n := 63) (k := 11) (x := "script") (CX := fun _ => CX0) (sp := fun w => spLaw (K w.params)) hn (by decide) hdf ⟨rfl, by decide, by decide⟩ hY
    (fun w mg fa h KX G hmg => facts KX G (by rw [← hname]; exact hmg) (hD w) (hE w)) (fun _ _ a ns hl _ hS => ⟨a, ns, rfl, hS, hl, fun _ => rfl⟩) fun _ _ _ _ _ z => z
end WU
open PySem PySem.W PyProof.Rows
set_option maxRecDepth 100000 in
set_option maxHeartbeats 0 in
theorem PySem.Challenge.cw_wishunseen_k08_editions_of_a_shelf_holds : PySem.Challenge.rw_wishunseen_k08_editions_of_a_shelf.Holds := by
  w_on; o_law; k_head; (case hw => w_witness2)
  k_fill
  refine WU.walk (l := PySem.Challenge.rw_wishunseen_k08_editions_of_a_shelf) rfl rfl (by rfl) (fun w h Y => PySem.W.kIn_of Y) ?D ?E
  case D =>
    intro w
    show He.obsD [] WU.fn _ = He.valD WU.fn
    kernel_rfl
  case E =>
    intro w
    kernel_rfl

