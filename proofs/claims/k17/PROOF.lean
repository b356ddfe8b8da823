import PyProof.Rows.All
import Wide.All
import OpenK.AllK
import Wide.FinOn
import HandS.Base
import HandS.Call
import HandS.Exc
import HandS.List
import HandS.Comp
import HandS.Ends
import HandS.ExcOwn
import HandS.ExcInit
import HandS.OwnEq
import HandS.Words
import HandS.Defaults
import HandS.Head0
import HandS.Head1
import HandS.Head2
import HandS.HeadHook1
import HandS.HeadHook2
import HandS.IsInst
import HandS.ExcField
import HandS.Conv
import HandS.WordsExc
import HandS.Star
import HandS.TupAny
import HandS.Gcd
import KE.DataAny
import HandS.TupMul
import HandS.TupLen
import HandS.DictTup
import HandS.Zip
import HandS.Iter
import HandS.Dict
import HandS.Walk
import KE.GoesMore
import HandS.Strs
import KE.DataCmp
import PyProof.Draws
import HandS.Deep
import HandS.ClsMeth
import HandS.CallSlots
import HandS.Style
import KE.KRevSl
import KE.SortData
import HandS.HeadEnd
import HandS.HeadNt
import PySem.Challenge.RW_wishunseen_k17_a_linear_plan_as_a_table
set_option Elab.async false
set_option linter.all false
set_option maxRecDepth 100000
set_option maxHeartbeats 4000000
/-! try with several clauses «except C as n», and with clauses without a name among them -/
namespace WU
open PySem PySem.Spec PyProof.Rows L2
/-- a clause: the class, its name's slot (if it has one), what the suite does -/
abbrev Cl := Value × Option Nat × (Addr → Value → Option Addr → TS)
/-- behind a named suite the slot is empty -/
def wiped (i : Nat) (D : Ends) : Ends := { nx := fun z h => D.nx (z.set i none) h, rt := D.rt, bk := fun z h => D.bk (z.set i none) h, ct := fun z h => D.ct (z.set i none) h }
def suiteOf (i : Option Nat) (ts : TS) (D : Ends) (σ : L2.St) (H : Hp) (a : Addr) : Prop :=
  match i with
  | some j => ts (wiped j D) (σ.set j (some (V.ref a))) H
  | none => ts D σ H
/-- what the clauses wish of an exception that leaves the body -/
def wCls (K : PySem.W.Frag) (Wout : WX) (D : Ends) : List Cl → WX
  | [] => Wout
  | q :: r => fun cls d σ H => ∃ b, PySem.W.exmOne K cls q.1 = some b ∧ (b = true → ∀ a, H a = none → suiteOf q.2.1 (q.2.2 a cls d) D σ H a) ∧ (b = false → wCls K Wout D r cls d σ H)
inductive Clauses (X : Cx) : List ExceptHandler → List Cl → Prop
  | nil : Clauses X [] []
  | named {x n : Str} {i : Nat} {c : Value} {ts : Addr → Value → Option Addr → TS} {b : Stmt} {su : List Stmt} {p q : Pos} {hs : List ExceptHandler} {l : List Cl}
      (hi : X.N[i]? = some n) (hl : X.env.kindOf n = some .local) (hc : Names X x c)
      (hsu : ∀ (a : Addr) (oe : Obj) (cls : Value) (d : Option Addr) (pn : List (Addr × Obj)), Zc cls d oe → (∃ vs, oe.data = .fields vs) → PSs (X.suite a ((a, oe) :: pn)) (b :: su) (ts a cls d))
      (r : Clauses X hs l) : Clauses X (.ExceptHandler (some (.Name x p)) (some n) (b :: su) q :: hs) ((c, some i, ts) :: l)
section
variable {X : Cx} {body : List Stmt} {h₀ : ExceptHandler} {hds : List ExceptHandler} {l : List Cl} {pos : Pos} {tb : WX → TS} {Wout : WX}
theorem ps_try_cls (hst : X.stack = X.env :: X.outer) (hfr : X.env.frame = some X.env.locals) (hN : X.N.Nodup) (tk : Takes X Wout)
    (hb : ∀ (W : WX) (pn : List (Addr × Obj)) (xe : Value → Shared → Prop), Takes (X.tr pn xe) W →
      PassesOwn (model X.prog X.w) X.A X.env xe → PSs (X.tr pn xe) body (tb W))
    (hh : Clauses X (h₀ :: hds) l) : PS X (.Try body (h₀ :: hds) [] [] pos) (fun D σ H => tb (wCls X.K Wout D l) D σ H) := by
  constructor
  intro pins s σ H D I h
  have okX := I.ok
  have frA : X.A.frames = some (X.env :: X.outer) := okX.frames.trans (congrArg some hst)
  apply wpAny_Try_except
  let xe1 : Value → Shared → Prop := fun e s₁ => wpAny (model X.prog X.w) X.A (noteFrame e X.env) (fun _ s₂ =>
    wpAny (model X.prog X.w) X.A (setFlight e none) (fun _ s₃ => wpAny (model X.prog X.w) X.A (handleBy e X.env (h₀ :: hds))
      (SP X pins D) X.xe s₃) X.xe s₂) X.xe s₁
  have taken : Takes (X.tr (X.pn ++ pins) xe1) (wCls X.K Wout D l) := by
    rintro u st ⟨a, B, sI, pins', σ', H', cls, d, rfl, J', nb, up, sky, na, os, ag, wish⟩
    have J : Inv X pins σ' H' sI := J'.ofTry okX
    rw [show (X.tr (X.pn ++ pins) xe1).stack = X.env :: X.outer from hst] at sky
    show wpAny (model X.prog X.w) X.A (noteFrame (Value.ref a) X.env) _ _ _
    refine Sky.land Zc.steady frA hfr sky fun hA flA upA => ?_
    have JA : Inv X pins σ' H' { st with heap := hA } := J.landed nb flA.1 (up.trans upA) os ag
    obtain ⟨oA, vA, eA, zA, dA⟩ := flA.there
    have offF : a ∉ frs (X.env :: X.outer) := fun hm => by
      obtain ⟨_, o', e', hn⟩ := flA.2.2.1.mem hm
      cases eA.symm.trans e'
      exact hn _ dA
    have offL : a ≠ X.env.locals := by
      rintro rfl
      exact offF (List.mem_filterMap.mpr ⟨X.env, .head _, hfr⟩)
    have offO : a ∉ X.fs := fun hm => by
      obtain ⟨en, hen, q⟩ := List.mem_filterMap.mp hm
      exact offF (List.mem_filterMap.mpr ⟨en, .tail _ hen, q⟩)
    have SA := JA.suite eA dA na offL offO
    have isT : PySem.W.Looks (model X.prog X.w) hA (typeOf (.ref a)) cls := by
      intro A Q E s2 kk q
      refine wpAny_typeOf_ref (kk _ _ eA) ?_
      rw [zA.1]
      exact q
    have onward : ∀ {hs : List ExceptHandler} {l' : List Cl}, Clauses X hs l' → wCls X.K Wout D l' cls d σ' H' →
        wpAny (model X.prog X.w) X.A (handleBy (.ref a) X.env hs) (SP X pins D) X.xe { st with heap := hA } := by
      intro hs l' hk
      induction hk with
      | nil =>
        intro wout
        apply wpAny_handleBy_nil
        obtain ⟨_, _, _, oe, vs, T, oT, tt, he, hz, hd, h1, hr⟩ := id flA
        unfold PySem.passOn
        apply wpAny_bind
        refine wpAny_field he hd h1 ?_
        have nn : ¬ ((Value.ref T == Value.none) = true) := by simp
        rw [if_neg nn]
        have fin : wpAny (model X.prog X.w) X.A (setFlight (.ref a) X.env.frame) (fun _ s4 =>
            wpAny (model X.prog X.w) X.A (throw (.ref a) : Sem Flow) (SP X pins D) X.xe s4) X.xe { st with heap := hA } := by
          rw [hfr]
          refine HandSPX.setFlight_upZ flA fun hB hhB upB => ?_
          apply wpAny_throw
          apply tk
          refine ⟨a, B, sI, pins, σ', H', cls, d, rfl, J, nb, (up.trans upA).trans upB, ?_, na, os, ag, wout⟩
          right; right
          rw [hst]
          exact hhB
        first
          | exact wpAny_bind (wpAny_pure (wpAny_bind fin))
          | exact wpAny_bind fin
      | @named x n i c ts b su p q hs2 l2 hi hl hc hsu r ih =>
        rintro ⟨yes, hyn, onYes, onNo⟩
        refine wpAny_handleBy_cons (codeAny_handlers_test ?_) (by intro z; cases z)
        have hits := PySem.W.exm_one (M := model X.prog X.w) JA.kIn isT hyn
        have asked : ∀ {Q E : Value → Shared → Prop}, Q c { st with heap := hA } →
            wpAny (model X.prog X.w) (X.A.mark (some (.ref a))) (eval (.Name x p) X.env) Q E { st with heap := hA } := by
          intro Q E q
          obtain ⟨g1, g2, g3⟩ := hc
          rcases g3 with g3 | ⟨g3, g4, g5⟩
          · exact ld_glob (X := X.suite a ((a, oA) :: (X.pn ++ pins))) SA g1 g3 q g2
          · exact ld_blt (X := X.suite a ((a, oA) :: (X.pn ++ pins))) SA g1 g3 g4 q g5 g2
        apply asked
        refine hits.here ?_
        cases yes with
        | false => exact ih (onNo rfl)
        | true =>
          apply codeAny_handlers_suite_as
          refine HandSPX.lands_againZ flA fun hB flB upB => ?_
          have JB : Inv X pins σ' H' { st with heap := hB } := J.landed nb flB.1 ((up.trans upA).trans upB) os ag
          obtain ⟨oB, vB, eB, zB, dB⟩ := flB.there
          have SB := JB.suite eB dB na offL offO
          refine store_ok (X := X.suite a ((a, oB) :: (X.pn ++ pins))) (v := .ref a) SB hN hi (Or.inl hl) rfl (fun s5 S5 => ?_) (Or.inr hl)
          have runs := (hsu a oB cls d (X.pn ++ pins) zB ⟨_, dB⟩).run [] s5 _ H' _ S5 (onYes rfl a na)
          refine wpAny_mono runs (fun f s6 hsp => ?_) fun _ _ z => z.elim
          have left_ : ∀ {σ6 : L2.St} {H6 : Hp} {Q : Shared → Prop}, Inv (X.suite a ((a, oB) :: (X.pn ++ pins))) [] σ6 H6 s6 →
              (∀ s7, Inv X pins (σ6.set i none) H6 s7 → Q s7) →
              wpAny (model X.prog X.w) X.A (do bindName X.env n .none; unbindBehindTheSuite X.env n q) (fun _ s7 => Q s7) X.xe s6 :=
            fun S6 k => gone_ok (S6.unsuite okX) hN hi hl k
          match f, hsp with
          | .next, ⟨σ6, H6, S6, q6⟩ => exact left_ S6 fun s7 J7 => ⟨_, _, J7, q6⟩
          | .brk, ⟨σ6, H6, S6, q6⟩ => exact left_ S6 fun s7 J7 => ⟨_, _, J7, q6⟩
          | .cont, ⟨σ6, H6, S6, q6⟩ => exact left_ S6 fun s7 J7 => ⟨_, _, J7, q6⟩
          | .ret u, ⟨v6, σ6, H6, S6, r6, q6⟩ => exact left_ S6 fun s7 J7 => ⟨_, _, _, J7, r6, q6⟩
    exact onward hh wish
  have body_ := (hb _ (X.pn ++ pins) xe1 taken PassesOwn.looking).run [] s σ H D (I.toTry _) h
  refine wpAny_mono body_ (fun f s1 hsp => ?_) fun _ _ z => z
  match f, hsp with
  | .next, ⟨σ', H', J', q⟩ => exact wpAny_execs_nil ⟨σ', H', J'.ofTry okX, q⟩
  | .brk, ⟨σ', H', J', q⟩ => exact ⟨σ', H', J'.ofTry okX, q⟩
  | .cont, ⟨σ', H', J', q⟩ => exact ⟨σ', H', J'.ofTry okX, q⟩
  | .ret u, ⟨v, σ', H', J', r, q⟩ => exact ⟨v, σ', H', J'.ofTry okX, r, q⟩
end
end WU

set_option maxRecDepth 100000
set_option maxHeartbeats 4000000
namespace WU
open PySem PySem.Spec PyProof.Rows L2
/-! ### the head's facts -/
/-- the facts of the defs, and one more Bool -/
def hookB (n : Nat) (fn : List He.DefD) (ex : PySem.W.Frag → Bool) : PySem.W.Hook where
  α := He.AlD × Bool
  obs := fun s => (He.obsDG n [] fn s.heap.get?, ex (He.frG s.heap.get? (He.asD s.heap.get? n)))
  val := fun _ => (He.valD fn, true)
  says := fun _ h => ∃ K : PySem.W.Frag, K.In h ∧ He.SaysD [] fn K ∧ ex K = true
  of := fun _ _ e => ⟨_, He.frG_in, congrArg Prod.fst e, congrArg Prod.snd e⟩
  keeps := fun _ _ _ ⟨K, hK, c⟩ k => ⟨K, PySem.W.Frag.In.keeps hK k, c⟩
def obB (n : Nat) (fn : List He.DefD) (ex : PySem.W.Frag → Bool) (s : PySem.W.SharedT) : He.AlD × Bool :=
  (He.obsDG n [] fn (HandSHeadRun.getT s), ex (He.frG (HandSHeadRun.getT s) (He.asD (HandSHeadRun.getT s) n)))
theorem obB_eq {n : Nat} {fn : List He.DefD} {ex : PySem.W.Frag → Bool} (s : PySem.W.SharedT) : obB n fn ex s = (hookB n fn ex).obs s.abs := by
  have e : HandSHeadRun.getT s = s.abs.heap.get? := funext (HandSHeadRun.getT_eq s)
  unfold obB
  rw [e]
  rfl
theorem and2 {a b : Bool} (h : (a && b) = true) : a = true ∧ b = true := Bool.and_eq_true_iff.mp h
/-- names that the module leaves to the built-ins; names that stand for objects -/
def freeB (K : PySem.W.Frag) (xs : List Str) : Bool := xs.all fun x => decide (PySem.W.nsIn K mainGlobals x = some none)
def globB (K : PySem.W.Frag) (xs : List Str) : Bool := xs.all fun x => decide (PySem.W.nsIn K mainGlobals x = some (some (.ref (He.ga K x))))
section
variable {K : PySem.W.Frag} {h : Heap} {mg : Str → Option Value}
theorem freeB_ok (X : K.In h) (G : h.Ns mainGlobals mg) {xs : List Str} (c : freeB K xs = true) {x : Str} (hx : x ∈ xs) : mg x = none :=
  PySem.W.mg_none_of X G (of_decide_eq_true (List.all_eq_true.mp c x hx))
theorem globB_ok (X : K.In h) (G : h.Ns mainGlobals mg) {xs : List Str} (c : globB K xs = true) {x : Str} (hx : x ∈ xs) : mg x = some (.ref (He.ga K x)) :=
  PySem.W.mg_of X G (of_decide_eq_true (List.all_eq_true.mp c x hx))
end
/-! ### an own exception class over ValueError (or over own ones that are) -/
def oexShape (C : Addr) : Option Obj → Bool
  | some ⟨.type t, _, .cls ⟨_, _, .ref C' :: bm, _, _, true, _, _, _, _, false⟩, ⟨[_, _, _, _, some (.builtin id), _]⟩⟩ =>
    decide (t = "type") && (decide (C' = C) && (decide (id = "ValueError.__new__") && PySem.HandSPX.refsVE bm))
  | _ => false
def oexB (K : PySem.W.Frag) (C : Addr) : Bool :=
  oexShape C (K.lookup C) && (decide (PySem.W.findIn K (.ref C) "__setattr__" = some (some (.builtin "object.__setattr__"))) &&
    (decide (PySem.W.subIn K (.ref C) (.type "BaseException") = some true) && (decide (PySem.W.typeIn K (.ref C) = some (.type "type")) && PySem.W.keepIn K (.ref C))))
theorem oexB_ok {K : PySem.W.Frag} {C : Addr} (h : oexB K C = true) : OexC K C := by
  obtain ⟨h1, h⟩ := and2 h
  obtain ⟨h2, h⟩ := and2 h
  obtain ⟨h3, h⟩ := and2 h
  obtain ⟨h4, h5⟩ := and2 h
  refine ⟨?_, of_decide_eq_true h2, of_decide_eq_true h3, of_decide_eq_true h4, h5⟩
  unfold oexShape at h1
  split at h1
  · rename_i t dd nm bs C' bm N q sn sub ab col k0 k1 k2 k3 id k5 heq
    obtain ⟨e1, h1⟩ := and2 h1
    obtain ⟨e2, h1⟩ := and2 h1
    obtain ⟨e3, e4⟩ := and2 h1
    have q1 := of_decide_eq_true e1
    have q2 := of_decide_eq_true e2
    have q3 := of_decide_eq_true e3
    subst q1 q2 q3
    exact ⟨_, _, _, _, _, _, _, _, _, _, _, _, _, _, _, heq, e4⟩
  · cases h1
/-- what every body asks of an exception class X whose __init__ stands at fI and keeps one field f -/
structure Exc1 (K : PySem.W.Frag) (mg : Str → Option Value) (x : Str) (f : Str) : Prop where
  glob : mg x = some (.ref (He.ga K x))
  oex : OexC K (He.ga K x)
  no : PySem.W.findIn K (.ref (He.ga K x)) f = some none
  init : PySem.W.findIn K (.ref (He.ga K x)) "__init__" = some (some (.ref (He.ma K (He.ga K x) "__init__")))
  tI : PySem.W.typeIn K (.ref (He.ma K (He.ga K x) "__init__")) = some (.type "function")
def exc1B (K : PySem.W.Frag) (x f : Str) : Bool :=
  decide (PySem.W.nsIn K mainGlobals x = some (some (.ref (He.ga K x)))) && (oexB K (He.ga K x) && (decide (PySem.W.findIn K (.ref (He.ga K x)) f = some none) &&
    (decide (PySem.W.findIn K (.ref (He.ga K x)) "__init__" = some (some (.ref (He.ma K (He.ga K x) "__init__")))) && decide (PySem.W.typeIn K (.ref (He.ma K (He.ga K x) "__init__")) = some (.type "function")))))
theorem exc1B_ok {K : PySem.W.Frag} {h : Heap} {mg : Str → Option Value} (X : K.In h) (G : h.Ns mainGlobals mg) {x f : Str} (c : exc1B K x f = true) : Exc1 K mg x f := by
  obtain ⟨h1, c⟩ := and2 c
  obtain ⟨h2, c⟩ := and2 c
  obtain ⟨h3, c⟩ := and2 c
  obtain ⟨h4, h5⟩ := and2 c
  exact ⟨PySem.W.mg_of X G (of_decide_eq_true h1), oexB_ok h2, of_decide_eq_true h3, of_decide_eq_true h4, of_decide_eq_true h5⟩
/-- an if whose test is known by an equation -/
theorem iteTb {c : Bool} {A B : Prop} (hc : c = true) (h : A) : if c = true then A else B := by
  rw [if_pos hc]
  exact h
theorem iteFb {c : Bool} {A B : Prop} (hc : c = false) (h : B) : if c = true then A else B := by
  rw [if_neg (by rw [hc]; decide)]
  exact h
theorem iteD {c : Prop} [Decidable c] {A B : Prop} (h1 : c → A) (h2 : ¬ c → B) : if decide c = true then A else B := by
  by_cases h : c
  · rw [decide_eq_true h]
    exact iteT (h1 h)
  · rw [decide_eq_false h]
    exact iteF (h2 h)
theorem ixN_at {n q : Nat} (h : q < n) : ixN n (q : Int) = some q := by
  unfold ixN
  rw [if_pos (by omega), if_pos (by omega)]
  simp
/-! ### calls -/
/-- the name x stands for a def that keeps sp -/
structure Cal (P : Program) (w : World) (K : PySem.W.Frag) (mg : Str → Option Value) (base : Heap) (k : Nat) (x : Str) (f : Addr) (fd : FuncData) (ps : List Str) (sp : Sp) : Prop where
  glob : mg x = some (.ref f)
  kp : PySem.W.keepIn K (.ref f) = true
  binds : Binds K fd ps []
  ok : FnOk P w K mg base (L2.CX P w) k f fd ps sp
theorem passU {X : Cx} : Passes (L2.CX X.prog X.w) X E0 := fun _ _ _ _ _ _ _ ⟨_, _, _, _, _, _, _, _, _, _, _, _, z⟩ => z.elim
section
variable {X : Cx} {k : Nat} {x : Str} {f : Addr} {fd : FuncData} {ps : List Str} {sp : Sp} {E : XK} {e : Expr} {es : List Expr} {t : TA} {p pos : Pos}
theorem pe_cal (C : Cal X.prog X.w X.K X.mg X.base k x f fd ps sp) (hr : Room k X.A) (ha : PA X (e :: es) t) (hx : Passes (L2.CX X.prog X.w) X E) (hg : Gl X x := by rfl) (hdb : (x == ("__debug__" : Str)) = false := by decide)
    (he : starEach (e :: es) X.env = (false, eval e X.env) :: starEach es X.env := by rfl) (hpl : (backTo pos (starEach es X.env)).any (·.1) = false := by rfl) :
    PE X (.Call (.Name x p) (e :: es) [] pos) (tCall sp [] E t) := pe_call C.ok hr hg C.glob C.kp C.binds .nil hx ha hdb he hpl
theorem pe_calS {W : WX} (C : Cal X.prog X.w X.K X.mg X.base k x f fd ps sp) (hr : Room k X.A) (ha : PA X (e :: es) t) (tk : Takes X W) (hg : Gl X x := by rfl) (hdb : (x == ("__debug__" : Str)) = false := by decide)
    (he : starEach (e :: es) X.env = (false, eval e X.env) :: starEach es X.env := by rfl) (hpl : (backTo pos (starEach es X.env)).any (·.1) = false := by rfl) :
    PE X (.Call (.Name x p) (e :: es) [] pos) (tCallS sp (WE W) t) := pe_callS C.ok hr hg C.glob C.kp C.binds (fun σ => passAt tk σ) ha hdb he hpl
end
/-! ### raise X(e), X's __init__ keeping one field -/
/-- self.f = value -/
def spInit1 (K : PySem.W.Frag) (C : Addr) (f : Str) : Sp := fun vs H Q _ => ∃ (a : Addr) (y : V), vs = [.ref a, y] ∧ OexC K C ∧ PySem.W.findIn K (.ref C) f = some none ∧ H a = some (exo a C none) ∧
  ∀ dx, H dx = none → dx ≠ a → Q .non (upd (upd H dx (exd dx [(f, y)])) a (exo a C (some dx)))
/-- the reading: the error's class, its own dict, the heap behind -/
def tMk1 (C : Addr) (f : Str) (ta : TA) : L2.St → Hp → XK → Prop := fun σ H Q => ta σ H fun vs H1 => ∃ v, vs = [v] ∧ ∀ d H', Same H1 H' → H1 d = none → H' d = some (.xd [(f, v)]) → Q (.ref C) (some d) H'
/-- a reading that may be weakened -/
def lax (ta : TA) : TA := fun σ H Q => ∃ Q0 : List V → Hp → Prop, ta σ H Q0 ∧ ∀ vs H1, Q0 vs H1 → Q vs H1
theorem pa_lax {X : Cx} {es : List Expr} {ta : TA} (ha : PA X es ta) : PA X es (lax ta) :=
  ⟨fun pos pins s σ H Q I h => by
    obtain ⟨Q0, h0, hq⟩ := h
    refine wpAny_mono (ha.run pos pins s σ H Q0 I h0) (fun us s1 hu => ?_) fun _ _ z => z
    obtain ⟨vs, H1, I1, r, q⟩ := hu
    exact ⟨vs, H1, I1, r, hq vs H1 q⟩⟩
section
variable {X : Cx} {k : Nat} {x f : Str} {fd : FuncData} {q : Str} {e : Expr} {ta : TA} {p pos pos2 : Pos}
theorem pmk_1 (T : Exc1 X.K X.mg x f) (F : FnOk X.prog X.w X.K X.mg X.base (L2.CX X.prog X.w) k (He.ma X.K (He.ga X.K x) "__init__") fd ["self", q] (spInit1 X.K (He.ga X.K x) f)) (b : Binds X.K fd ["self", q] [])
    (hr : Room (k + 1) X.A) (ha : PA X [e] ta) (hg : Gl X x := by rfl) (hdb : (x == ("__debug__" : Str)) = false := by decide)
    (he : starEach (e :: []) X.env = (false, eval e X.env) :: starEach [] X.env := by rfl) (hpl : (backTo pos (starEach [] X.env)).any (·.1) = false := by rfl) :
    PMk X (.Call (.Name x p) [e] [] pos) (tMk1 (He.ga X.K x) f ta) := by
  intro pins s σ H Q I h
  refine pmk_oex (CX := L2.CX X.prog X.w) (dvs := []) T.oex T.init T.tI F hr b .nil passU hg T.glob (pa_lax ha) hdb he hpl pins s σ H Q I ⟨_, h, fun vs H1 hv => ?_⟩
  obtain ⟨v, rfl, kk⟩ := hv
  refine ⟨(show 1 ≤ 1000 by decide), fun a na => ⟨a, v, rfl, T.oex, T.no, upd_same, fun dx ndx hdx => ⟨rfl, dx, [(f, v)], upd_same, by rw [upd_ne hdx, upd_same], ?_, ?_⟩⟩⟩
  · rw [upd_ne hdx] at ndx
    exact ndx
  · rw [upd_ne hdx] at ndx
    refine kk dx _ (fun c o hc => ?_) ndx upd_same
    have c1 : c ≠ dx := ne_of_none hc ndx
    have c2 : c ≠ a := ne_of_none hc na
    rw [upd_ne c1, del_ne c2, upd_ne c2, upd_ne c1, upd_ne c2]
    exact hc
theorem ps_raise1 {W : WX} (hc : X.calm = true) (tk : Takes X W) (T : Exc1 X.K X.mg x f) (F : FnOk X.prog X.w X.K X.mg X.base (L2.CX X.prog X.w) k (He.ma X.K (He.ga X.K x) "__init__") fd ["self", q] (spInit1 X.K (He.ga X.K x) f)) (b : Binds X.K fd ["self", q] [])
    (hr : Room (k + 1) X.A) (ha : PA X [e] ta) (hg : Gl X x := by rfl) (hdb : (x == ("__debug__" : Str)) = false := by decide)
    (he : starEach (e :: []) X.env = (false, eval e X.env) :: starEach [] X.env := by rfl) (hpl : (backTo pos (starEach [] X.env)).any (·.1) = false := by rfl) :
    PS X (.Raise (some (.Call (.Name x p) [e] [] pos)) none pos2) (fun _ σ H => tMk1 (He.ga X.K x) f ta σ H fun cls d H' => W cls d σ H') :=
  ps_raise hc tk (pmk_1 T F b hr ha hg hdb he hpl)
end
end WU

namespace WU
open PySem PySem.Spec PyProof.Rows L2
def top (i : Nat) : Stmt := PySem.Challenge.pw_wishunseen_k17_a_linear_plan_as_a_table.main.body.getD i (.Pass ⟨0, 0, 0, 0⟩)
abbrev s_wall : Stmt := top 0
abbrev sIsInt : Stmt := top 2
abbrev sIsNum : Stmt := top 3
abbrev sIsBel : Stmt := top 4
abbrev s_is_positive : Stmt := top 5
abbrev sSeq : Stmt := top 6
abbrev s_is_rising : Stmt := top 7
abbrev sLets : Stmt := top 8
abbrev s_rows_below : Stmt := top 9
abbrev s_number_of_digits : Stmt := top 10
abbrev s_power_up_to : Stmt := top 11
abbrev sInvalidNumber_init : Stmt := inClass (top 14) 0
abbrev sInvalidMatrix_init : Stmt := inClass (top 15) 0
abbrev sInvalidLibrary_init : Stmt := inClass (top 16) 0
abbrev sInvalidPlan_init : Stmt := inClass (top 17) 0
abbrev sIsFld : Stmt := top 20
abbrev sCheck : Stmt := top 21
abbrev sLibrary_init : Stmt := inClass (top 23) 0
abbrev sLibrary_eq : Stmt := inClass (top 23) 1
abbrev sLibrary_book : Stmt := inClass (top 23) 2
abbrev sLibrary_changed : Stmt := inClass (top 23) 3
abbrev sLibrary_of_letters : Stmt := inClass (top 23) 4
abbrev sLibrary_check_book : Stmt := inClass (top 23) 5
abbrev s_every_library : Stmt := top 24
abbrev s_are_books : Stmt := top 25
abbrev s_letters_of : Stmt := top 26
abbrev s_cut_in_books : Stmt := top 27
abbrev s_is_matrix : Stmt := top 29
abbrev s_products : Stmt := top 30
abbrev s_check_matrix : Stmt := top 31
abbrev s_width_of_rows : Stmt := top 32
abbrev s_is_row : Stmt := top 33
abbrev s_u_products : Stmt := top 34
abbrev sPlan_init : Stmt := inClass (top 36) 0
abbrev sPlan_eq : Stmt := inClass (top 36) 1
abbrev sPlan_asked : Stmt := inClass (top 36) 2
abbrev sPlan_asked_rows : Stmt := inClass (top 36) 3
abbrev sPlan_answer_size : Stmt := inClass (top 36) 4
abbrev sPlan_answer : Stmt := inClass (top 36) 5
abbrev sPlan_answers : Stmt := inClass (top 36) 6
abbrev sPlan_made : Stmt := inClass (top 36) 7
abbrev s_check_sizes : Stmt := top 37
abbrev s_members_of : Stmt := top 38
abbrev s_check_places : Stmt := top 39
abbrev s_check_draws : Stmt := top 40
abbrev s_kept_questions : Stmt := top 41
abbrev s_kept_draws : Stmt := top 42
abbrev s_weight_of : Stmt := top 43
abbrev s_is_draw : Stmt := top 44
abbrev s_check_wish : Stmt := top 45
abbrev s_check_ask : Stmt := top 46
abbrev s_check_question : Stmt := top 47
abbrev s_check_library : Stmt := top 48
abbrev s_parts_of : Stmt := top 49
abbrev s_are_questions : Stmt := top 50
abbrev s_is_framed : Stmt := top 52
abbrev sTablePlan_init : Stmt := inClass (top 55) 0
abbrev sTablePlan_eq : Stmt := inClass (top 55) 1
abbrev sTablePlan_asked : Stmt := inClass (top 55) 2
abbrev sTablePlan_answer_size : Stmt := inClass (top 55) 3
abbrev sTablePlan_answer : Stmt := inClass (top 55) 4
abbrev sTablePlan_answers : Stmt := inClass (top 55) 5
abbrev s_as_table : Stmt := top 56
abbrev s_are_questions2 : Stmt := top 57
abbrev s_is_question : Stmt := top 59
abbrev s_tabled_questions : Stmt := top 60
abbrev s_renumbered : Stmt := top 61
abbrev sDraws : Stmt := top 63
abbrev sTake : Stmt := top 64
abbrev s_law_books : Stmt := top 65
abbrev s_law_library_size : Stmt := top 66
abbrev s_law_questions : Stmt := top 67
abbrev s_law_rising : Stmt := top 68
abbrev s_law_parts : Stmt := top 69
abbrev s_law_product : Stmt := top 70
abbrev s_law_answer : Stmt := top 71
abbrev s_law_same : Stmt := top 72
abbrev s_law_is_plan : Stmt := top 73
abbrev s_law_letters : Stmt := top 74
abbrev s_law_power : Stmt := top 75
abbrev s_law_pair : Stmt := top 76
abbrev s_law_tables : Stmt := top 77
abbrev sLaw : Stmt := top 78
theorem scInvalidNumber : FnScope ["self", "value"] ["self", "value"] (defScope sInvalidNumber_init) := ⟨rfl, rfl, rfl, by decide +kernel, rfl, by decide +kernel, by decide +kernel⟩
theorem bodyInvalidNumber (X : Cx) (hN : X.N = (["self", "value"] : List Str)) (hs : X.env.scope = defScope sInvalidNumber_init) : PSs X (defBody sInvalidNumber_init) (tOst X.K "value" (tVar 0) (tVar 1)) :=
  pss_one (ps_ost (pv 0 (by rw [hN] <;> rfl) (by rw [hs]; exact .inl rfl)) (pv 1 (by rw [hN] <;> rfl) (by rw [hs]; exact .inl rfl)))
theorem scInvalidMatrix : FnScope ["self", "value"] ["self", "value"] (defScope sInvalidMatrix_init) := ⟨rfl, rfl, rfl, by decide +kernel, rfl, by decide +kernel, by decide +kernel⟩
theorem bodyInvalidMatrix (X : Cx) (hN : X.N = (["self", "value"] : List Str)) (hs : X.env.scope = defScope sInvalidMatrix_init) : PSs X (defBody sInvalidMatrix_init) (tOst X.K "value" (tVar 0) (tVar 1)) :=
  pss_one (ps_ost (pv 0 (by rw [hN] <;> rfl) (by rw [hs]; exact .inl rfl)) (pv 1 (by rw [hN] <;> rfl) (by rw [hs]; exact .inl rfl)))
theorem scInvalidLibrary : FnScope ["self", "value"] ["self", "value"] (defScope sInvalidLibrary_init) := ⟨rfl, rfl, rfl, by decide +kernel, rfl, by decide +kernel, by decide +kernel⟩
theorem bodyInvalidLibrary (X : Cx) (hN : X.N = (["self", "value"] : List Str)) (hs : X.env.scope = defScope sInvalidLibrary_init) : PSs X (defBody sInvalidLibrary_init) (tOst X.K "value" (tVar 0) (tVar 1)) :=
  pss_one (ps_ost (pv 0 (by rw [hN] <;> rfl) (by rw [hs]; exact .inl rfl)) (pv 1 (by rw [hN] <;> rfl) (by rw [hs]; exact .inl rfl)))
end WU

set_option maxRecDepth 100000
set_option maxHeartbeats 4000000
namespace WU
open PySem PySem.Spec PyProof.Rows L2
abbrev FnS (K : PySem.W.Frag) (x : Str) (st : Stmt) (f : Addr) (fd : FuncData) : Prop := FunD K x x (defArgs st) (defBody st) (defScope st) [] [] f fd
theorem small4k {n : Nat} (h : n ≤ 4000) : n < sizeLine := Nat.lt_of_le_of_lt h (by decide)
/-! ### any values -/
def isIB : V → Bool
  | .int _ => true
  | .bl _ => true
  | _ => false
def isB : V → Bool
  | .bl _ => true
  | _ => false
def isI : V → Bool
  | .int _ => true
  | _ => false
/-- the value has a type, of which int and bool are known -/
def Ty3 (K : PySem.W.Frag) (H : Hp) (v : V) : Prop := ∃ t, TyX K H v t ∧ PySem.W.kitOne K t (.type "int") = some (isIB v) ∧ PySem.W.kitOne K t (.type "bool") = some (isB v)
section
variable {K : PySem.W.Frag} {H : Hp}
theorem ty3_int (i : Int) : Ty3 K H (.int i) := ⟨_, .base (.int i), kit_ty (show kitB "int" "int" = some true by decide +kernel), kit_ty (show kitB "int" "bool" = some false by decide +kernel)⟩
theorem ty3_bl (b : Bool) : Ty3 K H (.bl b) := ⟨_, .base (.bl b), kit_ty (show kitB "bool" "int" = some true by decide +kernel), kit_ty (show kitB "bool" "bool" = some true by decide +kernel)⟩
theorem ty3_non : Ty3 K H .non := ⟨_, .base .non, kit_ty (show kitB "NoneType" "int" = some false by decide +kernel), kit_ty (show kitB "NoneType" "bool" = some false by decide +kernel)⟩
theorem ty3_str (z : Str) : Ty3 K H (.str z) := ⟨_, .base (.str z), kit_ty (show kitB "str" "int" = some false by decide +kernel), kit_ty (show kitB "str" "bool" = some false by decide +kernel)⟩
theorem ty3_lst {a : Addr} {xs : List V} (e : H a = some (.lst xs)) : Ty3 K H (.ref a) := ⟨_, .base (.lst e), kit_ty (show kitB "list" "int" = some false by decide +kernel), kit_ty (show kitB "list" "bool" = some false by decide +kernel)⟩
theorem ty3_tup {a : Addr} {xs : List V} (e : H a = some (.tup xs)) : Ty3 K H (.ref a) := ⟨_, .base (.tup e), kit_ty (show kitB "tuple" "int" = some false by decide +kernel), kit_ty (show kitB "tuple" "bool" = some false by decide +kernel)⟩
end
section
variable {P : Program} {w : World} {K : PySem.W.Frag} {mg : Str → Option Value} {base : Heap}
structure Blt (mg : Str → Option Value) : Prop where
  isi : mg "isinstance" = none
  int : mg "int" = none
  bool : mg "bool" = none
def spIsInt (K : PySem.W.Frag) : Sp := fun vs H Q _ => ∃ v, vs = [v] ∧ Ty3 K H v ∧ Q (.bl (isI v)) H
theorem scIsInt : FnScope ["value"] ["value"] (defScope sIsInt) := ⟨rfl, rfl, rfl, by decide +kernel, rfl, by decide +kernel, by decide +kernel⟩
theorem ok_isInt {f : Addr} {fd : FuncData} (F : FnS K "is_integer" sIsInt f fd) (B : Blt mg) : FnOk P w K mg base (L2.CX P w) 1 f fd ["value"] (spIsInt K) := by
  refine F.ok scIsInt (fun vs H Q E h => ?_) (fun cdv A outer s H vs Q E hr h => ?_)
  · obtain ⟨v, rfl, _⟩ := h
    rfl
  · obtain ⟨v, rfl, ⟨t, ht, h1, h2⟩, k⟩ := h
    refine ⟨_, pss_one (ps_ret (pe_and (pe_callB call_isi (by rfl) B.isi (by decide +kernel) (pa_cons (pv 0) (pa_cons (pe_bltn (v := .ty "int") (by rfl) B.int (by decide +kernel) rfl) pa_nil)))
      (pe_one (pe_not (pe_callB call_isi (by rfl) B.isi (by decide +kernel) (pa_cons (pv 0) (pa_cons (pe_bltn (v := .ty "bool") (by rfl) B.bool (by decide +kernel) rfl) pa_nil))))))), ?_⟩
    refine ⟨_, rfl, _, _, _, _, _, rfl, .ty "int", ht, h1, _, rfl, ?_⟩
    cases v with
    | int n =>
      refine iteT ⟨_, rfl, _, _, _, _, _, rfl, .ty "bool", ht, h2, _, rfl, k⟩
    | bl b => exact iteT ⟨_, rfl, _, _, _, _, _, rfl, .ty "bool", ht, h2, _, rfl, k⟩
    | _ => exact iteF k
theorem bN {x : Str} {st : Stmt} {f : Addr} {fd : FuncData} {ps : List Str} (F : FnS K x st f fd)
    (h : ∀ (kV doc pm : Value) (an : Option Addr) (cdv ct : Value) (us : List Value), us.length = ps.length → bindArgs (PySem.W.fnOf x x (defArgs st) (defBody st) (defScope st) .none kV doc pm an cdv ct) ⟨us, []⟩ = pure (ps.zip us)) : Binds K fd ps [] := F.bindsN h
theorem cal_mk {x : Str} {st : Stmt} {f : Addr} {fd : FuncData} {ps : List Str} {k : Nat} {sp : Sp} (F : FnS K x st f fd) (g : mg x = some (.ref f)) (ok : FnOk P w K mg base (L2.CX P w) k f fd ps sp)
    (h : ∀ (kV doc pm : Value) (an : Option Addr) (cdv ct : Value) (us : List Value), us.length = ps.length → bindArgs (PySem.W.fnOf x x (defArgs st) (defBody st) (defScope st) .none kV doc pm an cdv ct) ⟨us, []⟩ = pure (ps.zip us)) : Cal P w K mg base k x f fd ps sp :=
  ⟨g, F.kp, F.bindsN h, ok⟩
/-- whether it is a number; .. below n -/
def isN : V → Bool
  | .int i => decide (0 ≤ i)
  | _ => false
def isBel (n : Int) : V → Bool
  | .int i => decide (0 ≤ i) && decide (i < n)
  | _ => false
def spIsNum (K : PySem.W.Frag) : Sp := fun vs H Q _ => ∃ v, vs = [v] ∧ Ty3 K H v ∧ Q (.bl (isN v)) H
def spIsBel (K : PySem.W.Frag) : Sp := fun vs H Q _ => ∃ v n, vs = [v, .int n] ∧ Ty3 K H v ∧ Q (.bl (isBel n v)) H
theorem scIsNum : FnScope ["value"] ["value"] (defScope sIsNum) := ⟨rfl, rfl, rfl, by decide +kernel, rfl, by decide +kernel, by decide +kernel⟩
theorem ok_isNum {f f1 : Addr} {fd fd1 : FuncData} (F : FnS K "is_number" sIsNum f fd) (C1 : Cal P w K mg base 1 "is_integer" f1 fd1 ["value"] (spIsInt K)) : FnOk P w K mg base (L2.CX P w) 2 f fd ["value"] (spIsNum K) := by
  refine F.ok scIsNum (fun vs H Q E h => ?_) (fun cdv A outer s H vs Q E hr h => ?_)
  · obtain ⟨v, rfl, _⟩ := h
    rfl
  · obtain ⟨v, rfl, ht, k⟩ := h
    refine ⟨_, pss_one (ps_ret (pe_and (pe_cal C1 hr (pa_cons (pv 0) pa_nil) passU) (pe_one (pe_cmp (pc_ge (pv 0) pe_int))))), ?_⟩
    refine ⟨_, rfl, v, rfl, ht, _, rfl, ?_⟩
    cases v with
    | int n => exact iteT ⟨_, rfl, _, _, rfl, rfl, k⟩
    | _ => exact iteF k
theorem scIsBel : FnScope ["value", "limit"] ["value", "limit"] (defScope sIsBel) := ⟨rfl, rfl, rfl, by decide +kernel, rfl, by decide +kernel, by decide +kernel⟩
theorem ok_isBel {f f1 : Addr} {fd fd1 : FuncData} (F : FnS K "is_below" sIsBel f fd) (C1 : Cal P w K mg base 2 "is_number" f1 fd1 ["value"] (spIsNum K)) : FnOk P w K mg base (L2.CX P w) 3 f fd ["value", "limit"] (spIsBel K) := by
  refine F.ok scIsBel (fun vs H Q E h => ?_) (fun cdv A outer s H vs Q E hr h => ?_)
  · obtain ⟨v, n, rfl, _⟩ := h
    rfl
  · obtain ⟨v, n, rfl, ht, k⟩ := h
    refine ⟨_, pss_one (ps_ret (pe_and (pe_cal C1 hr (pa_cons (pv 0) pa_nil) passU) (pe_one (pe_cmp (pc_lt (pv 0) (pv 1)))))), ?_⟩
    refine ⟨_, rfl, v, rfl, ht, _, rfl, ?_⟩
    cases v with
    | int i =>
      have k' : Q (.bl (decide (0 ≤ i) && decide (i < n))) H := k
      show if decide (0 ≤ i) = true then _ else _
      by_cases h0 : 0 ≤ i
      · rw [decide_eq_true h0] at k' ⊢
        exact iteT ⟨_, rfl, _, rfl, _, _, rfl, rfl, k'⟩
      · rw [decide_eq_false h0] at k' ⊢
        exact iteF k'
    | _ => exact iteF k
/-- the primes to 31 -/
def primes : List Int := [2, 3, 5, 7, 11, 13, 17, 19, 23, 29, 31]
def isFld : V → Bool
  | .int i => inV (.int i) (primes.map V.int)
  | _ => false
def spIsFld (K : PySem.W.Frag) : Sp := fun vs H Q _ => ∃ v, vs = [v] ∧ Ty3 K H v ∧ Q (.bl (isFld v)) H
theorem scIsFld : FnScope ["p"] ["p"] (defScope sIsFld) := ⟨rfl, rfl, rfl, by decide +kernel, rfl, by decide +kernel, by decide +kernel⟩
theorem ok_isFld {f f1 fP : Addr} {fd fd1 : FuncData} (F : FnS K "is_field" sIsFld f fd) (C1 : Cal P w K mg base 1 "is_integer" f1 fd1 ["value"] (spIsInt K)) (gP : mg "PRIMES" = some (.ref fP)) (tP : ∀ H, SqT K H fP (primes.map V.int)) :
    FnOk P w K mg base (L2.CX P w) 2 f fd ["p"] (spIsFld K) := by
  refine F.ok scIsFld (fun vs H Q E h => ?_) (fun cdv A outer s H vs Q E hr h => ?_)
  · obtain ⟨v, rfl, _⟩ := h
    rfl
  · obtain ⟨v, rfl, ht, k⟩ := h
    refine ⟨_, pss_one (ps_ret (pe_and (pe_cal C1 hr (pa_cons (pv 0) pa_nil) passU) (pe_one (pe_cmpR op_in_seq (pv 0) (pe_glob (v := .ref fP) rfl gP rfl) rfl)))), ?_⟩
    refine ⟨_, rfl, v, rfl, ht, _, rfl, ?_⟩
    cases v with
    | int n => exact iteT ⟨_, rfl, _, _, rfl, .inr (tP H), rfl, by decide, k⟩
    | _ => exact iteF k
/-- an error of class C with its own dict at d, in a heap that has grown -/
def Errs (C : Addr) (f : Str) (v : V) (H : Hp) (E : XK) : Prop := ∀ d H', Same H H' → H d = none → H' d = some (.xd [(f, v)]) → E (.ref C) (some d) H'
def spCheck (K : PySem.W.Frag) : Sp := fun vs H Q E => ∃ v, vs = [v] ∧ Ty3 K H v ∧ (isFld v = true → Q .non H) ∧ (isFld v = false → Errs (He.ga K "InvalidNumber") "value" v H E)
theorem scCheck : FnScope ["p"] ["p"] (defScope sCheck) := ⟨rfl, rfl, rfl, by decide +kernel, rfl, by decide +kernel, by decide +kernel⟩
theorem ok_check {f f1 : Addr} {fd fd1 fdI : FuncData} (F : FnS K "check_field" sCheck f fd) (C1 : Cal P w K mg base 2 "is_field" f1 fd1 ["p"] (spIsFld K)) (T : Exc1 K mg "InvalidNumber" "value")
    (FI : FnOk P w K mg base (L2.CX P w) 1 (He.ma K (He.ga K "InvalidNumber") "__init__") fdI ["self", "value"] (spInit1 K (He.ga K "InvalidNumber") "value")) (bI : Binds K fdI ["self", "value"] []) :
    FnOk P w K mg base (L2.CX P w) 3 f fd ["p"] (spCheck K) := by
  refine F.ok scCheck (fun vs H Q E h => ?_) (fun cdv A outer s H vs Q E hr h => ?_)
  · obtain ⟨v, rfl, _⟩ := h
    rfl
  · obtain ⟨v, rfl, ht, kY, kN⟩ := h
    refine ⟨_, pss_one (ps_if (pt_not (pt_val (pe_cal C1 hr (pa_cons (pv 0) pa_nil) passU))) (pss_one (ps_raise1 rfl (takes_of rfl rfl rfl rfl) T FI bI hr (pa_cons (pv 0) pa_nil))) pss_nil), ?_⟩
    refine ⟨_, rfl, v, rfl, ht, _, rfl, ?_⟩
    cases e : isFld v with
    | true => exact iteF (kY e)
    | false => exact iteT ⟨_, rfl, v, rfl, kN e⟩
end
section
variable {P : Program} {w : World} {K : PySem.W.Frag} {mg : Str → Option Value} {base : Heap}
/-! ### the errors' __init__ -/
theorem ok_init1 {st : Stmt} {qual fld par : Str} {f C : Addr} {fd : FuncData} (F : FunD K "__init__" qual (defArgs st) (defBody st) (defScope st) [] [] f fd) (S : FnScope (("self" : Str) :: [par]) (("self" : Str) :: [par]) (defScope st))
    (body : ∀ X : Cx, X.N = (("self" : Str) :: [par]) → X.env.scope = defScope st → PSs X (defBody st) (tOst X.K fld (tVar 0) (tVar 1))) :
    FnOk P w K mg base (L2.CX P w) 1 f fd (("self" : Str) :: [par]) (spInit1 K C fld) := by
  refine F.ok S (fun vs H Q E h => ?_) (fun cdv A outer s H vs Q E hr h => ?_)
  · obtain ⟨a, y, rfl, _⟩ := h
    rfl
  · obtain ⟨a, y, rfl, hC, hno, ha, k⟩ := h
    refine ⟨_, body _ rfl rfl, ?_⟩
    exact ⟨_, rfl, _, rfl, a, C, rfl, hC, hno, .inl ⟨ha, fun dx n ne => k dx n ne⟩⟩
theorem fld_mem {p : Int} (h : isFld (.int p) = true) : p ∈ primes := by
  have h' : ((primes.map V.int).any fun y => eqV y (.int p)) = true := h
  obtain ⟨y, hy, e⟩ := List.any_eq_true.mp h'
  obtain ⟨q, hq, rfl⟩ := List.mem_map.mp hy
  have e' : (q == p) = true := e
  rw [← beq_iff_eq.mp e']
  exact hq
theorem mem_fld {p : Int} (h : p ∈ primes) : isFld (.int p) = true := by
  show ((primes.map V.int).any fun y => eqV y (.int p)) = true
  exact List.any_eq_true.mpr ⟨.int p, List.mem_map.mpr ⟨p, h, rfl⟩, by show (p == p) = true; simp⟩
theorem fld_le {p : Int} (h : p ∈ primes) : 2 ≤ p ∧ p ≤ 31 := by
  have all : ∀ q ∈ primes, 2 ≤ q ∧ q ≤ 31 := by decide
  exact all p h
/-- the built-ins that the law's helpers call -/
structure Blt2 (mg : Str → Option Value) : Prop extends Blt mg where
  len : mg "len" = none
  abs : mg "abs" = none
  range : mg "range" = none
  tuple : mg "tuple" = none
/-- numbers from 0 on -/
def Nn (ns : List Int) : Prop := ∀ n ∈ ns, 0 ≤ n
/-- _law_draws(script, many) -/
def spDraws (K : PySem.W.Frag) (many : Int) : Sp := fun vs H Q _ => ∃ (a : Addr) (ns : List Int), vs = [.ref a, .int many] ∧ SqL K H a (ns.map V.int) ∧ ns.length ≤ 63 ∧
  ∀ p ds H', Same H H' → H p = none → H' p = some (.lst (ds.map V.int)) → Nn ds → ds.length ≤ many.toNat → Q (.ref p) H'
theorem scDraws : FnScope ["script", "many", "cell", "rests", "draws", "k", "at", "mixed"] ["script", "many"] (defScope sDraws) := ⟨rfl, rfl, rfl, by decide +kernel, rfl, by decide +kernel, by decide +kernel⟩
def rMd : R2 := rI (fun _ j => j ≠ 0) fun i j => .int (i.fmod j)
def rDv : R2 := rI CDivN fun i j => .int (i.fdiv j)
def rMl : R2 := rI CMul fun i j => .int (i * j)
def rAd : R2 := rI0 fun i j => .int (i + j)
def tI1 (t : TE) : TE := tCB (fun xs H Q => (∃ i, xs = [V.int i] ∧ Q (.int i) H) ∨ ∃ k, xs = [V.bl k] ∧ Q (.int (if k then 1 else 0)) H) (tCons t tNil)
/-- the end of a turn: two mixings, one number put behind the others -/
def tTail (K : PySem.W.Frag) : TS := tSeq (tAsg (tOp rMd (tI1 (tOp rAd (tOp rAd (tOp rMl (tVar 2) (tC (.int 48271))) (tOp rMl (tVar 5) (tC (.int 69621)))) (tC (.int 11)))) (tC (.int 2147483647))) (gName 7))
  (tSeq (tAsg (tOp rMd (tI1 (tOp rAd (tOp rDv (tOp rMl (tVar 7) (tVar 7)) (tC (.int 4096))) (tVar 7))) (tC (.int 2147483629))) (gName 7))
    (tDrop (tBM K "list" rAppend (tVar 4) (tCons (tOp rMd (tI1 (tOp rAd (tOp rDv (tOp rMl (tVar 7) (tVar 7)) (tC (.int 4096))) (tOp rMl (tVar 5) (tC (.int 7919))))) (tC (.int 2147483629))) tNil))))
theorem fmod_bd (x : Int) {m : Int} (h : 0 < m) : 0 ≤ x.fmod m ∧ x.fmod m < m := ⟨Int.fmod_nonneg_of_pos x h, Int.fmod_lt_of_pos x h⟩
theorem tail_ok {D : Ends} {s0 s1 s3 s6 s7 : Option V} {c k : Int} {L : Addr} {ds : List Int} {H : Hp} (hL : H L = some (.lst (ds.map V.int))) (hl : ds.length ≤ 4000)
    (kk : ∀ (x : Int) (y : Option V), 0 ≤ x → D.nx [s0, s1, some (.int c), s3, some (.ref L), some (.int k), s6, y] (upd H L (.lst ((ds ++ [x]).map V.int)))) :
    tTail K D [s0, s1, some (.int c), s3, some (.ref L), some (.int k), s6, s7] H := by
  have b1 := fmod_bd (c * 48271 + k * 69621 + 11) (m := 2147483647) (by decide)
  refine ⟨_, rfl, _, _, rfl, rfl, .inr ⟨by decide, by decide⟩, _, rfl, _, _, rfl, rfl, .inr ⟨by decide, by decide⟩, _, _, rfl, rfl, _, _, rfl, rfl, .inl ⟨_, rfl, _, _, rfl, rfl, (show (2147483647 : Int) ≠ 0 by decide), ?_⟩⟩
  dsimp only
  generalize (c * 48271 + k * 69621 + 11).fmod 2147483647 = m at b1 ⊢
  have b2 := fmod_bd ((m * m).fdiv 4096 + m) (m := 2147483629) (by decide)
  refine ⟨_, rfl, _, rfl, _, _, rfl, rfl, .inl ⟨by omega, by omega⟩, _, _, rfl, rfl, ⟨by decide, by decide⟩, _, rfl, _, _, rfl, rfl, .inl ⟨_, rfl, _, _, rfl, rfl, (show (2147483629 : Int) ≠ 0 by decide), ?_⟩⟩
  dsimp only
  generalize ((m * m).fdiv 4096 + m).fmod 2147483629 = n at b2 ⊢
  refine ⟨_, rfl, .inl ⟨rfl, _, SqL.of hL⟩, ?_⟩
  refine ⟨_, rfl, _, rfl, _, _, rfl, rfl, .inl ⟨by omega, by omega⟩, _, _, rfl, rfl, ⟨by decide, by decide⟩, _, rfl, _, _, rfl, rfl, .inr ⟨by decide, by decide⟩, _, _, rfl, rfl, .inl ⟨_, rfl, _, _, rfl, rfl, (show (2147483629 : Int) ≠ 0 by decide), ?_⟩⟩
  refine ⟨L, _, _, rfl, rfl, hL, ?_, ?_⟩
  · rw [List.length_map]
    exact small4k hl
  · have b3 := fmod_bd ((n * n).fdiv 4096 + k * 7919) (m := 2147483629) (by decide)
    have q := kk _ (some (.int n)) b3.1
    rw [List.map_append] at q
    exact q
theorem ok_draws {f : Addr} {fd : FuncData} (F : FnS K "_law_draws" sDraws f fd) (B : Blt2 mg) {many : Int} (hm0 : 0 ≤ many) (hm : many ≤ 4000) : FnOk P w K mg base (L2.CX P w) 1 f fd ["script", "many"] (spDraws K many) := by
  refine F.ok scDraws (fun vs H Q E h => ?_) (fun cdv A outer s H vs Q E hr h => ?_)
  · obtain ⟨a, ns, rfl, _⟩ := h
    rfl
  · obtain ⟨a, ns, rfl, hS, hl, k⟩ := h
    have nd := scDraws.nd
    refine ⟨_, (pss_cons (ps_setLc (i := 3) (own := [("cell", 2)]) (g := gName 2) (by rfl) nd rfl rfl (sw_true rfl rfl rfl (by decide +kernel)) (pi_list (pv 0)) (blkOk_by (own := [("cell", 2)]) (N := ["script", "many", "cell", "rests", "draws", "k", "at", "mixed"]) (sc := defScope sDraws) (by decide +kernel)) (fun _ _ _ _ _ => pg_name (i := 2) nd rfl (Or.inl rfl)) (fun _ _ _ _ _ => pts_nil) (fun _ _ _ _ _ => (pe_callB call_abs (by rfl) B.abs (by decide +kernel) (pa_cons (pe_callTy call_int1 (by rfl) B.int (by decide +kernel) (pa_cons (pv 2) pa_nil)) pa_nil))))
      (pss_cons (ps_set (i := 4) nd rfl (Or.inl rfl) (pe_lst pa_nil))
      (pss_cons (ps_for (passes_of rfl) rfl (pi_range1 rfl B.range (pa_cons (pv 1) pa_nil)) (pg_name (i := 5) nd rfl (Or.inl rfl)) (pss_cons (ps_set (i := 2) nd rfl (Or.inl rfl) (pv 5))
      (pss_cons (ps_if (pt_cmpR op_gt (pe_callB call_len_seq (by rfl) B.len (by decide +kernel) (pa_cons (pv 0) pa_nil)) pe_int (nomark _)) (pss_cons (ps_set (i := 6) nd rfl (Or.inl rfl) (pe_op op_modN (pv 5) (pe_callB call_len_seq (by rfl) B.len (by decide +kernel) (pa_cons (pv 0) pa_nil))))
      (pss_cons (ps_set (i := 2) nd rfl (Or.inl rfl) (pe_callTy call_int1 (by rfl) B.int (by decide +kernel) (pa_cons (pe_ix ix_list (pv 0) (pv 6) (fun _ _ => rfl)) pa_nil)))
      (pss_one (ps_if (PW.pt (pw_and (pt_cmpR op_ge (pv 2) (pe_op op_pow pe_int pe_int) (nomark _)) (pw_and1 (pt_cmpR op_gt (pe_ix ix_list (pv 3) (pv 6) (fun _ _ => rfl)) pe_int (nomark _))))) (pss_cons (ps_expr (pe_bm PySem.F.plainAttrs_list PySem.F.slot_list_append PySem.F.type_list_append mt_append (pv 4) (pa_cons (pe_op op_modN (pe_callTy call_int1 (by rfl) B.int (by decide +kernel) (pa_cons (pe_ix ix_list (pv 3) (pv 6) (fun _ _ => rfl)) pa_nil)) pe_int) pa_nil)))
      (pss_cons (ps_asg (pe_op op_fdivN (pe_callTy call_int1 (by rfl) B.int (by decide +kernel) (pa_cons (pe_ix ix_list (pv 3) (pv 6) (fun _ _ => rfl)) pa_nil)) pe_int) (pg_sub (pv 3) (pv 6) set_list))
      (pss_one ps_continue))) pss_nil)))) pss_nil)
      (pss_cons (ps_set (i := 7) nd rfl (Or.inl rfl) (pe_op op_modN (pe_callTy call_int1 (by rfl) B.int (by decide +kernel) (pa_cons (pe_op op_add (pe_op op_add (pe_op op_mul (pv 2) pe_int) (pe_op op_mul (pv 5) pe_int)) pe_int) pa_nil)) pe_int))
      (pss_cons (ps_set (i := 7) nd rfl (Or.inl rfl) (pe_op op_modN (pe_callTy call_int1 (by rfl) B.int (by decide +kernel) (pa_cons (pe_op op_add (pe_op op_fdivN (pe_op op_mul (pv 7) (pv 7)) pe_int) (pv 7)) pa_nil)) pe_int))
      (pss_one (ps_expr (pe_bm PySem.F.plainAttrs_list PySem.F.slot_list_append PySem.F.type_list_append mt_append (pv 4) (pa_cons (pe_op op_modN (pe_callTy call_int1 (by rfl) B.int (by decide +kernel) (pa_cons (pe_op op_add (pe_op op_fdivN (pe_op op_mul (pv 7) (pv 7)) pe_int) (pe_op op_mul (pv 5) pe_int)) pa_nil)) pe_int) pa_nil)))))))))
      (pss_one (ps_ret (pv 4)))))), ?_⟩
    refine ⟨_, rfl, a, rfl, ⟨_, hS⟩, fun D hD => lc_list (K := K) (a := a) (xs := ns.map V.int) (fun i H' => Same H H' ∧ ∃ rs : List Int, H' D = some (.lst (rs.map V.int)) ∧ rs.length = i ∧ Nn rs)
      ⟨fun c o hc => by rw [upd_ne (ne_of_none hc hD)]; exact hc, [], upd_same, rfl, fun n hn => by cases hn⟩ (fun i H' _ z => z.1.seq hS) ?_ ?_⟩
    · rintro i x H' hi ⟨s1, rs, e, l, n⟩
      obtain ⟨z, hz, rfl⟩ : ∃ z, ns[i]? = some z ∧ x = V.int z := by
        rw [List.getElem?_map] at hi
        cases q : ns[i]? with
        | none => rw [q] at hi; cases hi
        | some z => rw [q] at hi; exact ⟨z, rfl, (Option.some.inj hi).symm⟩
      have hi2 : i < ns.length := (List.getElem?_eq_some_iff.mp hz).1
      refine ⟨rfl, _, rfl, .inl ⟨z, rfl, z, rfl, _, e, ?_, fun c o hc => ?_, rs ++ [if z < 0 then -z else z], ?_, ?_, ?_⟩⟩
      · rw [List.length_map]
        exact small4k (by omega)
      · rw [upd_ne (ne_of_none hc hD)]
        exact s1 c o hc
      · rw [upd_same, List.map_append]
        rfl
      · rw [List.length_append, l]
        rfl
      · intro m hm
        rcases List.mem_append.mp hm with hm | hm
        · exact n m hm
        · rw [List.mem_singleton.mp hm]
          split <;> omega
    · rintro H1 ⟨s1, rs, e, l, n⟩
      rw [List.length_map] at l
      refine ⟨(by show 0 ≤ sizeLine; omega), fun L hL => ?_⟩
      have hDL : D ≠ L := ne_of_none e hL
      have hL0 : H L = none := s1.free hL
      refine ⟨_, rfl, many, rfl, (by omega), (by omega), for_range (lo := 0) (n := many.toNat) (fun i σ H' => ∃ (v2 v5 v6 v7 : Option V) (rs ds : List Int), σ = [some (.ref a), some (.int many), v2, some (.ref D), some (.ref L), v5, v6, v7] ∧ Same H H' ∧
        H' D = some (.lst (rs.map V.int)) ∧ rs.length = ns.length ∧ Nn rs ∧ H' L = some (.lst (ds.map V.int)) ∧ Nn ds ∧ ds.length ≤ i)
        ⟨none, none, none, none, rs, [], rfl, fun c o hc => by rw [upd_ne (ne_of_none hc hL0)]; exact s1 c o hc, by rw [upd_ne hDL]; exact e, l, n, upd_same, (fun m hm => nomatch hm), Nat.le_refl _⟩ ?_ ?_⟩
      · rintro i σ H2 hi ⟨v2, v5, v6, v7, rs, ds, rfl, s2, eD, lD, nD, eL, nL, lL⟩
        have s2S := s2.seq hS
        have put : ∀ (x : Int) (v2 v5 v6 v7 : Option V), 0 ≤ x → ∃ (v2' v5' v6' v7' : Option V) (rs' ds' : List Int), [some (V.ref a), some (V.int many), v2, some (V.ref D), some (V.ref L), v5, v6, v7] = [some (V.ref a), some (V.int many), v2', some (V.ref D), some (V.ref L), v5', v6', v7'] ∧
            Same H (upd H2 L (.lst ((ds ++ [x]).map V.int))) ∧ upd H2 L (.lst ((ds ++ [x]).map V.int)) D = some (.lst (rs'.map V.int)) ∧ rs'.length = ns.length ∧ Nn rs' ∧ upd H2 L (.lst ((ds ++ [x]).map V.int)) L = some (.lst (ds'.map V.int)) ∧ Nn ds' ∧ ds'.length ≤ i + 1 := by
          intro x v2 v5 v6 v7 hx
          refine ⟨v2, v5, v6, v7, rs, ds ++ [x], rfl, fun c o hc => by rw [upd_ne (ne_of_none hc hL0)]; exact s2 c o hc, by rw [upd_ne hDL]; exact eD, lD, nD, upd_same, ?_, by rw [List.length_append]; show ds.length + 1 ≤ i + 1; omega⟩
          intro m hm
          rcases List.mem_append.mp hm with hm | hm
          · exact nL m hm
          · rw [List.mem_singleton.mp hm]
            exact hx
        refine ⟨_, rfl, _, rfl, _, _, rfl, .inl s2S, _, _, rfl, rfl, _, rfl, ?_⟩
        rw [List.length_map]
        by_cases h0 : ns.length = 0
        · rw [decide_eq_false (by omega)]
          refine iteF ?_
          show tTail K _ [some (.ref a), some (.int many), some (.int _), some (.ref D), some (.ref L), some (.int _), _, _] H2
          exact tail_ok eL (by omega) fun x y hx => put x _ _ _ y hx
        · rw [decide_eq_true (by omega)]
          refine iteT ?_
          refine ⟨_, rfl, _, rfl, _, _, rfl, .inl s2S, _, _, rfl, rfl, (by rw [List.length_map]; omega), ?_⟩
          have bq := fmod_bd (0 + (i : Int)) (m := ((ns.map V.int).length : Int)) (by rw [List.length_map]; omega)
          obtain ⟨q, hq⟩ : ∃ q : Nat, (0 + (i : Int)).fmod ((ns.map V.int).length : Int) = (q : Int) := ⟨((0 + (i : Int)).fmod ((ns.map V.int).length : Int)).toNat, by omega⟩
          rw [hq] at bq
          have hql : q < ns.length := by
            have := bq.2
            rw [List.length_map] at this
            omega
          have e1 : (ns.map V.int)[q]? = some (V.int ns[q]) := by rw [List.getElem?_map, List.getElem?_eq_getElem hql] <;> rfl
          have e2 : (rs.map V.int)[q]? = some (V.int (rs[q]'(by omega))) := by rw [List.getElem?_map, List.getElem?_eq_getElem (by omega)] <;> rfl
          refine ⟨_, rfl, _, rfl, a, _, _, _, rfl, rfl, s2S, (by rw [hq]; exact atI_nat e1), .inl ⟨_, rfl, ?_⟩⟩
          have ea2 : atI (rs.map V.int) ((0 + (i : Int)).fmod ((ns.map V.int).length : Int)) = some (.int (rs[q]'(by omega))) := by rw [hq]; exact atI_nat e2
          have nq : 0 ≤ rs[q]'(by omega) := nD _ (List.getElem_mem _)
          refine ⟨_, rfl, _, _, rfl, rfl, ⟨by decide, by decide, by decide⟩, _, _, rfl, rfl, _, rfl, ?_⟩
          refine iteD (fun hc => ?_) (fun hc => ?_)
          · refine ⟨_, rfl, _, rfl, D, _, _, _, rfl, rfl, SqL.of eD, ea2, _, _, rfl, rfl, _, rfl, ?_⟩
            refine iteD (fun hd => ?_) (fun hd => ?_)
            · refine ⟨_, rfl, .inl ⟨rfl, _, SqL.of eL⟩, _, rfl, _, rfl, D, _, _, _, rfl, rfl, SqL.of eD, ea2, .inl ⟨_, rfl, _, _, rfl, rfl, (show (1000003 : Int) ≠ 0 by decide), L, _, _, rfl, rfl, eL, (by rw [List.length_map]; exact small4k (by omega)), ?_⟩⟩
              have eD2 : ∀ o, upd H2 L o D = some (.lst (rs.map V.int)) := fun o => by rw [upd_ne hDL]; exact eD
              refine ⟨_, rfl, _, rfl, D, _, _, _, rfl, rfl, SqL.of (eD2 _), ea2, .inl ⟨_, rfl, _, _, rfl, rfl, ⟨by decide, by decide⟩, _, rfl, _, rfl, D, _, _, q, rfl, rfl, eD2 _, (by rw [hq, List.length_map]; exact ixN_at (by omega)), ?_⟩⟩
              have b4 := fmod_bd (rs[q]'(by omega)) (m := 1000003) (by decide)
              have b5 : 0 ≤ (rs[q]'(by omega)).fdiv 1000003 := Int.fdiv_nonneg nq (by decide)
              have hDc : ∀ {c : Addr} {o : HO}, H c = some o → c ≠ D := fun hc => ne_of_none hc hD
              refine ⟨_, _, _, _, rs.set q ((rs[q]'(by omega)).fdiv 1000003), ds ++ [(rs[q]'(by omega)).fmod 1000003], rfl, fun c o hc => ?_, ?_, ?_, ?_, ?_, ?_, ?_⟩
              · rw [upd_ne (hDc hc), upd_ne (ne_of_none hc hL0)]
                exact s2 c o hc
              · rw [upd_same, List.map_set]
              · rw [List.length_set]
                exact lD
              · intro m hm
                rcases List.mem_or_eq_of_mem_set hm with h | h
                · exact nD m h
                · rw [h]; exact b5
              · rw [upd_ne hDL.symm, upd_same, List.map_append]
                rfl
              · intro m hm
                rcases List.mem_append.mp hm with hm | hm
                · exact nL m hm
                · rw [List.mem_singleton.mp hm]
                  exact b4.1
              · rw [List.length_append]
                show ds.length + 1 ≤ i + 1
                omega
            · show tTail K _ [some (.ref a), some (.int many), some (.int _), some (.ref D), some (.ref L), some (.int _), _, _] H2
              exact tail_ok eL (by omega) fun x y hx => put x _ _ _ y hx
          · show tTail K _ [some (.ref a), some (.int many), some (.int _), some (.ref D), some (.ref L), some (.int _), _, _] H2
            exact tail_ok eL (by omega) fun x y hx => put x _ _ _ y hx
      · rintro σ H2 ⟨v2, v5, v6, v7, rs, ds, rfl, s2, eD, lD, nD, eL, nL, lL⟩
        exact ⟨_, rfl, k L ds H2 s2 hL0 eL nL lL⟩
/-- the hand: the draws and the place in them -/
def HandAt (H : Hp) (a d : Addr) : Prop := ∃ (ds : List Int) (i : Int), H a = some (.lst [.ref d, .int i]) ∧ H d = some (.lst (ds.map V.int)) ∧ Nn ds ∧ 0 ≤ i
theorem hand_ne {H : Hp} {a d : Addr} {ds : List Int} {i : Int} (h1 : H a = some (.lst [.ref d, .int i])) (h2 : H d = some (.lst (ds.map V.int))) : a ≠ d := by
  refine ne_of h1 h2 fun z => ?_
  have z' : [V.ref d, V.int i] = ds.map V.int := HO.lst.inj z
  cases ds with
  | nil => cases z'
  | cons x r =>
    have z2 : V.ref d = V.int x := (List.cons.inj z').1
    cases z2
/-- all but what stands at a is as it was -/
def Keep (a : Addr) (H H' : Hp) : Prop := ∀ b o, b ≠ a → H b = some o → H' b = some o
theorem Keep.refl {a : Addr} {H : Hp} : Keep a H H := fun _ _ _ h => h
theorem Keep.trans {a : Addr} {H H1 H2 : Hp} (x : Keep a H H1) (y : Keep a H1 H2) : Keep a H H2 := fun b o n h => y b o n (x b o n h)
theorem Keep.of {a : Addr} {H H' : Hp} (h : Same H H') : Keep a H H' := fun b o _ e => h b o e
theorem Keep.new {a p : Addr} {o : HO} {H : Hp} (h : H p = none) : Keep a H (upd H p o) := fun b u _ e => by rw [upd_ne (ne_of_none e h)]; exact e
theorem same_new {p : Addr} {o : HO} {H : Hp} (h : H p = none) : Same H (upd H p o) := fun b u e => by rw [upd_ne (ne_of_none e h)]; exact e
theorem HandAt.same {H H' : Hp} {a d : Addr} (h : HandAt H a d) (s : Same H H') : HandAt H' a d := by
  obtain ⟨ds, i, h1, h2, h3, h4⟩ := h
  exact ⟨ds, i, s _ _ h1, s _ _ h2, h3, h4⟩
theorem HandAt.one {H : Hp} {a d : Addr} (h : HandAt H a d) : ∃ o, H a = some o := by
  obtain ⟨ds, i, h1, _⟩ := h
  exact ⟨_, h1⟩
theorem HandAt.two {H : Hp} {a d : Addr} (h : HandAt H a d) : ∃ o, H d = some o := by
  obtain ⟨ds, i, _, h2, _⟩ := h
  exact ⟨_, h2⟩
theorem HandAt.ne {H : Hp} {a d p : Addr} (h : HandAt H a d) (n : H p = none) : a ≠ p ∧ d ≠ p := by
  obtain ⟨o, e⟩ := h.one
  obtain ⟨u, e2⟩ := h.two
  exact ⟨ne_of_none e n, ne_of_none e2 n⟩
theorem HandAt.put {H : Hp} {a d p : Addr} {o : HO} (h : HandAt H a d) (n1 : a ≠ p) (n2 : d ≠ p) : HandAt (upd H p o) a d := by
  obtain ⟨ds, i, h1, h2, h3, h4⟩ := h
  exact ⟨ds, i, by rw [upd_ne n1]; exact h1, by rw [upd_ne n2]; exact h2, h3, h4⟩
theorem HandAt.new {H : Hp} {a d p : Addr} {o : HO} (h : HandAt H a d) (n : H p = none) : HandAt (upd H p o) a d := h.put (h.ne n).1 (h.ne n).2
def spTake : Sp := fun vs H Q _ => ∃ (a d : Addr) (many : Int), vs = [.ref a, .int many] ∧ 0 < many ∧ HandAt H a d ∧ ∀ r H', 0 ≤ r → r < many → HandAt H' a d → Keep a H H' → Q (.int r) H'
theorem scTake : FnScope ["hand", "many", "at", "draws"] ["hand", "many"] (defScope sTake) := ⟨rfl, rfl, rfl, by decide +kernel, rfl, by decide +kernel, by decide +kernel⟩
theorem ok_take {f : Addr} {fd : FuncData} (F : FnS K "_law_take" sTake f fd) (B : Blt2 mg) : FnOk P w K mg base (L2.CX P w) 1 f fd ["hand", "many"] spTake := by
  refine F.ok scTake (fun vs H Q E h => ?_) (fun cdv A outer s H vs Q E hr h => ?_)
  · obtain ⟨a, d, m, rfl, _⟩ := h
    rfl
  · obtain ⟨a, d, m, rfl, hm, ⟨ds, i, h1, h2, h3, h4⟩, k⟩ := h
    have nd := scTake.nd
    have nad := hand_ne h1 h2
    refine ⟨_, (pss_cons (ps_set (i := 2) nd rfl (Or.inl rfl) (pe_ix ix_list (pv 0) pe_int (fun _ _ => rfl)))
      (pss_cons (ps_asg (pe_op op_add (pv 2) pe_int) (pg_sub (pv 0) pe_int set_list))
      (pss_cons (ps_set (i := 3) nd rfl (Or.inl rfl) (pe_ix ix_list (pv 0) pe_int (fun _ _ => rfl)))
      (pss_cons (ps_if (pt_cmpR op_ge (pv 2) (pe_callB call_len_seq (by rfl) B.len (by decide +kernel) (pa_cons (pv 3) pa_nil)) (nomark _)) (pss_one (ps_ret pe_int)) pss_nil)
      (pss_one (ps_ret (pe_op op_modN (pe_op op_fdivN (pe_callTy call_int1 (by rfl) B.int (by decide +kernel) (pa_cons (pe_ix ix_list (pv 3) (pv 2) (fun _ _ => rfl)) pa_nil)) pe_int) (pv 1)))))))), ?_⟩
    refine ⟨_, rfl, a, _, _, _, rfl, rfl, SqL.of h1, atI_nat (j := 1) rfl, ?_⟩
    refine ⟨_, rfl, _, _, rfl, rfl, _, rfl, a, _, _, 1, rfl, rfl, h1, rfl, ?_⟩
    have h2' : ∀ o, upd H a o d = some (.lst (ds.map V.int)) := fun o => by rw [upd_ne nad.symm]; exact h2
    have done : ∀ r, 0 ≤ r → r < m → Q (.int r) (upd H a (.lst [.ref d, .int (i + 1)])) := fun r r0 r1 =>
      k r _ r0 r1 ⟨ds, i + 1, upd_same, h2' _, h3, by omega⟩ fun b o hb e => by rw [upd_ne hb]; exact e
    refine ⟨_, rfl, a, _, _, _, rfl, rfl, SqL.of upd_same, atI_nat (j := 0) rfl, ?_⟩
    refine ⟨_, rfl, _, rfl, d, _, rfl, .inl (SqL.of (h2' _)), _, _, rfl, rfl, _, rfl, ?_⟩
    rw [List.length_map]
    refine iteD (fun hc => ?_) (fun hc => ?_)
    · exact done 0 (by omega) (by omega)
    · obtain ⟨q, hq⟩ : ∃ q : Nat, i = (q : Int) := ⟨i.toNat, by omega⟩
      subst hq
      have hql : q < ds.length := by omega
      have e1 : (ds.map V.int)[q]? = some (V.int ds[q]) := by rw [List.getElem?_map, List.getElem?_eq_getElem hql] <;> rfl
      have b := fmod_bd (ds[q].fdiv 7) hm
      refine ⟨_, rfl, _, rfl, d, _, _, _, rfl, rfl, SqL.of (h2' _), atI_nat e1, .inl ⟨_, rfl, _, _, rfl, rfl, ⟨by decide, by decide⟩, _, rfl, _, _, rfl, rfl, (by omega), done _ b.1 b.2⟩⟩
theorem fld_all {p : Int} (h2 : 2 ≤ p) (h31 : p ≤ 31) : (isFld (.int p) = true → ∀ j : Nat, (j : Int) < p - 2 → ¬ p.fmod (2 + (j : Int)) = 0) ∧ (isFld (.int p) = false → ∃ j : Nat, (j : Int) < p - 2 ∧ p.fmod (2 + (j : Int)) = 0) := by
  have t1 : ∀ n ∈ List.range 32, isFld (.int (n : Int)) = true → ∀ j ∈ List.range 32, (j : Int) < (n : Int) - 2 → ¬ (n : Int).fmod (2 + (j : Int)) = 0 := by decide +kernel
  have t2 : ∀ n ∈ List.range 32, 2 ≤ n → isFld (.int (n : Int)) = false → ∃ j ∈ List.range 32, (j : Int) < (n : Int) - 2 ∧ (n : Int).fmod (2 + (j : Int)) = 0 := by decide +kernel
  obtain ⟨n, rfl⟩ : ∃ n : Nat, p = (n : Int) := ⟨p.toNat, by omega⟩
  have hn : n ∈ List.range 32 := List.mem_range.mpr (by omega)
  refine ⟨fun h j hj => t1 n hn h j (List.mem_range.mpr (by omega)) hj, fun h => ?_⟩
  obtain ⟨j, _, h1, h2⟩ := t2 n hn (by omega) h
  exact ⟨j, h1, h2⟩
theorem fld_out {p : Int} (h : p < 2 ∨ 31 < p) : isFld (.int p) = false := by
  cases e : isFld (.int p) with
  | false => rfl
  | true =>
    have := fld_le (fld_mem e)
    omega
def ups (n : Nat) : List Int := ((List.range n).filter fun (j : Nat) => isFld (.int (2 + (j : Int)))).map fun (j : Nat) => 2 + (j : Int)
theorem ups_succ (n : Nat) : ups (n + 1) = if isFld (.int (2 + (n : Int))) = true then ups n ++ [2 + (n : Int)] else ups n := by
  unfold ups
  rw [List.range_succ, List.filter_append, List.map_append]
  cases h : isFld (.int (2 + (n : Int))) <;> simp [h]
theorem ups_len (n : Nat) : (ups n).length ≤ n := by
  unfold ups
  rw [List.length_map]
  exact Nat.le_trans (List.length_filter_le _ _) (by simp)
theorem ups_all : ups 30 = primes := by decide +kernel
def spLFd : Sp := fun vs H Q _ => ∃ (a d : Addr), vs = [.ref a] ∧ HandAt H a d ∧ ∀ p H', p ∈ primes → HandAt H' a d → Keep a H H' → Q (.int p) H'
end
end WU

set_option maxRecDepth 100000
set_option maxHeartbeats 8000000
namespace WU
open PySem PySem.Spec PyProof.Rows L2
/-! ### walking what may be a list or a tuple -/
def iSeq (K : PySem.W.Frag) (tl : TE) : TI := fun σ H R => tl σ H fun x H1 => ∃ a, x = .ref a ∧ (((∃ xs, SqL K H1 a xs) ∧ R (Itl K a) H1) ∨ ((∃ xs, SqT K H1 a xs) ∧ R (Itt K a) H1))
theorem pi_seq {X : Cx} {tg l : Expr} {tl : TE} (hl : PE X l tl) : PI X tg l (iSeq X.K tl) := by
  constructor
  intro pins st σ H R I h
  refine thn (hl.run pins st σ H _ I h) fun v t1 ⟨x, H2, J, rx, a, ea, q⟩ => ?_
  subst ea
  cases rx
  have fresh : ∀ b ∈ [t1.heap.objs.size], FpOk X pins H2 b := fun b hb => by
    cases List.mem_singleton.mp hb
    exact J.fpOk (Nat.le_refl _) (J.hok.fresh (Nat.le_refl _))
  rcases q with ⟨⟨xs, hq⟩, q⟩ | ⟨⟨xs, hq⟩, q⟩
  · obtain ⟨its, rv, pl, _⟩ := J.list hq
    apply wpAny_pyIter_list pl.isList
    exact ⟨_, [t1.heap.objs.size], _, _, H2, rfl, J.kept (t' := t1.toks) fun b o e => Heap.get?_push_of_some _ e, turn_list a _, ⟨_, Heap.get?_push_size _ rfl, rfl, rfl⟩, fresh, q⟩
  · obtain ⟨its, rv, pl, _⟩ := J.tuple hq
    apply wpAny_pyIter_tuple (show t1.heap.IsTuple a its.toArray from pl)
    exact ⟨_, [t1.heap.objs.size], _, _, H2, rfl, J.kept (t' := t1.toks) fun b o e => Heap.get?_push_of_some _ e, turn_tuple a _, ⟨_, Heap.get?_push_size _ rfl, rfl, rfl⟩, fresh, q⟩
/-! ### data -/
def tyName : PyData → String
  | .none => "NoneType"
  | .bool _ => "bool"
  | .int _ => "int"
  | .str _ => "str"
  | .list _ => "list"
  | .tuple _ => "tuple"
  | .dict _ => "dict"
def isSeq : PyData → Bool
  | .list _ => true
  | .tuple _ => true
  | _ => false
def belD (p : Int) : PyData → Bool
  | .int i => decide (0 ≤ i) && decide (i < p)
  | _ => false
/-- whether it is a sequence of n letters -/
def letsD (p n : Int) : PyData → Bool
  | .list ds => decide ((ds.length : Int) = n) && ds.all (belD p)
  | .tuple ds => decide ((ds.length : Int) = n) && ds.all (belD p)
  | _ => false
def smallD : PyData → Prop
  | .list ds => ds.length ≤ 200
  | .tuple ds => ds.length ≤ 200
  | _ => True
section
variable {K : PySem.W.Frag} {H H' : Hp}
theorem sqL_ty {a : Addr} {xs : List V} (h : SqL K H a xs) : TyX K H (.ref a) (.type "list") := by
  rcases h with (h | ⟨o, h⟩) | ⟨o, its, n, h1, h2, _⟩
  · exact .base (.lst h)
  · exact .base (.frz h)
  · exact .kList h1 h2
theorem sqT_ty {a : Addr} {xs : List V} (h : SqT K H a xs) : TyX K H (.ref a) (.type "tuple") := by
  rcases h with (h | ⟨o, h⟩) | ⟨o, its, n, h1, h2, _⟩
  · exact .base (.tup h)
  · exact .fTuple h
  · exact .kTuple h1 h2
theorem dp_ty {v : V} {d : PyData} (h : Dp K H v d) : TyX K H v (.type (tyName d)) := by
  cases h with
  | non => exact .base .non
  | bl b => exact .base (.bl b)
  | int i => exact .base (.int i)
  | str x => exact .base (.str x)
  | lst h _ => exact sqL_ty h
  | tup h _ => exact sqT_ty h
theorem dp_ty3 {v : V} {d : PyData} (h : Dp K H v d) : Ty3 K H v := by
  have t := dp_ty h
  cases h with
  | non => exact ty3_non
  | bl b => exact ty3_bl b
  | int i => exact ty3_int i
  | str x => exact ty3_str x
  | lst h _ => exact ⟨_, t, kit_ty (show kitB "list" "int" = some false by decide +kernel), kit_ty (show kitB "list" "bool" = some false by decide +kernel)⟩
  | tup h _ => exact ⟨_, t, kit_ty (show kitB "tuple" "int" = some false by decide +kernel), kit_ty (show kitB "tuple" "bool" = some false by decide +kernel)⟩
theorem dp_bel {v : V} {d : PyData} (h : Dp K H v d) (p : Int) : isBel p v = belD p d := by
  cases h <;> rfl
theorem kit_seq {d : PyData} : (∀ kvs, d ≠ .dict kvs) → PySem.W.kitAny K (.type (tyName d)) [.type "list", .type "tuple"] = some (isSeq d) := by
  intro nd
  cases d with
  | none => exact kitAny_cons (b := false) (kit_ty (show kitB "NoneType" "list" = some false by decide +kernel)) (fun _ => kitAny_cons (b := false) (kit_ty (show kitB "NoneType" "tuple" = some false by decide +kernel)) (fun _ => kitAny_nil) (fun h => nomatch h)) (fun h => nomatch h)
  | bool b => exact kitAny_cons (b := false) (kit_ty (show kitB "bool" "list" = some false by decide +kernel)) (fun _ => kitAny_cons (b := false) (kit_ty (show kitB "bool" "tuple" = some false by decide +kernel)) (fun _ => kitAny_nil) (fun h => nomatch h)) (fun h => nomatch h)
  | int i => exact kitAny_cons (b := false) (kit_ty (show kitB "int" "list" = some false by decide +kernel)) (fun _ => kitAny_cons (b := false) (kit_ty (show kitB "int" "tuple" = some false by decide +kernel)) (fun _ => kitAny_nil) (fun h => nomatch h)) (fun h => nomatch h)
  | str x => exact kitAny_cons (b := false) (kit_ty (show kitB "str" "list" = some false by decide +kernel)) (fun _ => kitAny_cons (b := false) (kit_ty (show kitB "str" "tuple" = some false by decide +kernel)) (fun _ => kitAny_nil) (fun h => nomatch h)) (fun h => nomatch h)
  | list xs => exact kitAny_cons (b := true) (kit_ty (show kitB "list" "list" = some true by decide +kernel)) (fun h => nomatch h) (fun _ => rfl)
  | tuple xs => exact kitAny_cons (b := false) (kit_ty (show kitB "tuple" "list" = some false by decide +kernel)) (fun _ => kitAny_cons (b := true) (kit_ty (show kitB "tuple" "tuple" = some true by decide +kernel)) (fun h => nomatch h) (fun _ => rfl)) (fun h => nomatch h)
  | dict kvs => exact absurd rfl (nd kvs)
theorem dp_nodict {v : V} {d : PyData} (h : Dp K H v d) : ∀ kvs, d ≠ .dict kvs := fun kvs z => by
  subst z
  cases h
theorem sqL_same {a : Addr} {xs : List V} (h : SqL K H a xs) (s : Same H H') : SqL K H' a xs := SqL.ext h s
theorem sqT_same {a : Addr} {xs : List V} (h : SqT K H a xs) (s : Same H H') : SqT K H' a xs := SqT.ext h s
mutual
theorem dp_same (s : Same H H') : ∀ {v : V} {d : PyData}, Dp K H v d → Dp K H' v d
  | _, _, .non => .non
  | _, _, .bl b => .bl b
  | _, _, .int i => .int i
  | _, _, .str x => .str x
  | _, _, .lst h k => .lst (sqL_same h s) (dps_same s k)
  | _, _, .tup h k => .tup (sqT_same h s) (dps_same s k)
theorem dps_same (s : Same H H') : ∀ {vs : List V} {ds : List PyData}, DpAll K H vs ds → DpAll K H' vs ds
  | _, _, .nil => .nil
  | _, _, .cons h k => .cons (dp_same s h) (dps_same s k)
end
theorem dps_len : ∀ {vs : List V} {ds : List PyData}, DpAll K H vs ds → vs.length = ds.length
  | _, _, .nil => rfl
  | _, _, .cons _ k => congrArg Nat.succ (dps_len k)
theorem dps_at : ∀ {vs : List V} {ds : List PyData} {i : Nat} {v : V}, DpAll K H vs ds → vs[i]? = some v → ∃ d, ds[i]? = some d ∧ Dp K H v d
  | _, _, _, _, .nil, e => by cases e
  | _, _, 0, _, .cons h _, e => by
    cases e
    exact ⟨_, rfl, h⟩
  | _, _, i + 1, _, .cons _ k, e => dps_at (i := i) k e
end
structure Blt3 (mg : Str → Option Value) : Prop extends Blt2 mg where
  lst : mg "list" = none
  all : mg "all" = none
section
variable {P : Program} {w : World} {K : PySem.W.Frag} {mg : Str → Option Value} {base : Heap}
def spSeq (K : PySem.W.Frag) : Sp := fun vs H Q _ => ∃ v d, vs = [v] ∧ Dp K H v d ∧ ∀ H', Same H H' → Q (.bl (isSeq d)) H'
theorem scSeq : FnScope ["value"] ["value"] (defScope sSeq) := ⟨rfl, rfl, rfl, by decide +kernel, rfl, by decide +kernel, by decide +kernel⟩
theorem ok_seq {f : Addr} {fd : FuncData} (F : FnS K "is_sequence" sSeq f fd) (B : Blt3 mg) : FnOk P w K mg base (L2.CX P w) 1 f fd ["value"] (spSeq K) := by
  refine F.ok scSeq (fun vs H Q E h => ?_) (fun cdv A outer s H vs Q E hr h => ?_)
  · obtain ⟨v, d, rfl, _⟩ := h
    rfl
  · obtain ⟨v, d, rfl, hd, k⟩ := h
    refine ⟨_, (pss_one (ps_ret (pe_callB call_isiT (by rfl) B.isi (by decide +kernel) (pa_cons (pv 0) (pa_cons (pe_tup (pa_cons (pe_bltn (v := .ty "list") (by rfl) B.lst (by decide +kernel) rfl) (pa_cons (pe_bltn (v := .ty "tuple") (by rfl) B.tuple (by decide +kernel) rfl) pa_nil))) pa_nil))))), ?_⟩
    refine ⟨_, rfl, (by show 2 ≤ sizeLine; decide), fun t ht => ⟨v, t, _, _, _, _, rfl, upd_same, .cons (.ty "list") (.cons (.ty "tuple") .nil), dp_ty (dp_same (same_new ht) hd), kit_seq (dp_nodict hd), k _ (same_new ht)⟩⟩
def spLets (K : PySem.W.Frag) : Sp := fun vs H Q _ => ∃ (p n : Int) (v : V) (d : PyData), vs = [.int p, .int n, v] ∧ Dp K H v d ∧ smallD d ∧ ∀ H', Same H H' → Q (.bl (letsD p n d)) H'
theorem scLets : FnScope ["p", "count", "value", "letter"] ["p", "count", "value"] (defScope sLets) := ⟨rfl, rfl, rfl, by decide +kernel, rfl, by decide +kernel, by decide +kernel⟩
theorem ok_lets {f f1 f2 : Addr} {fd fd1 fd2 : FuncData} (F : FnS K "are_letters" sLets f fd) (B : Blt3 mg) (CS : Cal P w K mg base 1 "is_sequence" f1 fd1 ["value"] (spSeq K)) (CB : Cal P w K mg base 3 "is_below" f2 fd2 ["value", "limit"] (spIsBel K)) :
    FnOk P w K mg base (L2.CX P w) 4 f fd ["p", "count", "value"] (spLets K) := by
  refine F.ok scLets (fun vs H Q E h => ?_) (fun cdv A outer s H vs Q E hr h => ?_)
  · obtain ⟨p, n, v, d, rfl, _⟩ := h
    rfl
  · obtain ⟨p, n, v, d, rfl, hd, hz, k⟩ := h
    have nd := scLets.nd
    have hr1 := hr.mono (show 1 ≤ 3 by decide)
    refine ⟨_, (pss_one (ps_ret (pe_and (pe_cal CS hr1 (pa_cons (pv 2) pa_nil) passU) (pe_and (pe_cmpR op_eq (pe_callB call_len_seq (by rfl) B.len (by decide +kernel) (pa_cons (pv 2) pa_nil)) (pv 1) (nomark _)) (pe_one (pe_callB (cr_all rfl) (by rfl) B.all (by decide +kernel) (pa_cons (pe_lc (own := [("letter", 3)]) (g := gName 3) (by rfl) nd (pi_seq (pv 2)) (blkOk_by (own := [("letter", 3)]) (N := ["p", "count", "value", "letter"]) (sc := defScope sLets) (by decide +kernel)) (fun _ _ _ _ _ => pg_name (i := 3) nd rfl (Or.inl rfl)) (fun _ _ _ _ _ => pts_nil) (fun _ _ _ _ _ => (pe_cal CB hr (pa_cons (pv 3) (pa_cons (pv 0) pa_nil)) passU))) pa_nil))))))), ?_⟩
    refine ⟨_, rfl, v, d, rfl, hd, fun H1 s1 => ⟨_, rfl, ?_⟩⟩
    have cs : (isSeq d = false ∧ letsD p n d = false) ∨ ∃ a xs ds, v = .ref a ∧ (SqL K H a xs ∨ SqT K H a xs) ∧ DpAll K H xs ds ∧ ds.length ≤ 200 ∧ isSeq d = true ∧ letsD p n d = (decide ((ds.length : Int) = n) && ds.all (belD p)) := by
      cases hd with
      | non => exact .inl ⟨rfl, rfl⟩
      | bl b => exact .inl ⟨rfl, rfl⟩
      | int i => exact .inl ⟨rfl, rfl⟩
      | str x => exact .inl ⟨rfl, rfl⟩
      | lst h q => exact .inr ⟨_, _, _, rfl, .inl h, q, hz, rfl, rfl⟩
      | tup h q => exact .inr ⟨_, _, _, rfl, .inr h, q, hz, rfl, rfl⟩
    rcases cs with ⟨e1, e2⟩ | ⟨a, xs, ds, rfl, hx, hds, hl, e1, e2⟩
    · rw [e1]
      rw [e2] at k
      exact iteF (k H1 s1)
    · refine iteTb e1 ?_
      rw [e2] at k
      have el := dps_len hds
      have hx1 : SqL K H1 a xs ∨ SqT K H1 a xs := hx.imp (fun h => sqL_same h s1) fun h => sqT_same h s1
      refine ⟨_, rfl, a, xs, rfl, hx1, _, rfl, rfl, _, rfl, ?_⟩
      refine iteD (fun hc => ?_) (fun hc => ?_)
      · have hc' : ((ds.length : Nat) : Int) = n := by
          rw [← el]
          exact V.int.inj hc
        rw [decide_eq_true hc', Bool.true_and] at k
        have st0 : ∀ D, H1 D = none → Same H1 (upd H1 D (.lst [])) ∧ upd H1 D (.lst []) D = some (.lst ((ds.take 0).map fun d => V.bl (belD p d))) := fun D hD => ⟨same_new hD, upd_same⟩
        have turn : ∀ (D : Addr), H1 D = none → ∀ (i : Nat) (y : V) (H2 : Hp), xs[i]? = some y → Same H1 H2 ∧ H2 D = some (.lst ((ds.take i).map fun d => V.bl (belD p d))) →
            isBel p y = belD p (ds.getD i .none) ∧ Ty3 K H2 y ∧ ((ds.take i).map fun d => V.bl (belD p d)).length < sizeLine ∧ Same H1 (upd H2 D (.lst (((ds.take i).map fun d => V.bl (belD p d)) ++ [.bl (isBel p y)]))) ∧
              upd H2 D (.lst (((ds.take i).map fun d => V.bl (belD p d)) ++ [.bl (isBel p y)])) D = some (.lst ((ds.take (i + 1)).map fun d => V.bl (belD p d))) := by
          rintro D hD i y H2 hi ⟨s2, eD⟩
          obtain ⟨di, hdi, hy⟩ := dps_at hds hi
          have eb := dp_bel hy p
          have eg : ds.getD i .none = di := by rw [List.getD_eq_getElem?_getD, hdi] <;> rfl
          refine ⟨by rw [eg]; exact eb, dp_ty3 (dp_same (s1.trans s2) hy), ?_, ?_, ?_⟩
          · rw [List.length_map, List.length_take]
            exact small1000 (by omega)
          · exact fun c o hc => by rw [upd_ne (ne_of_none hc hD)]; exact s2 c o hc
          · rw [upd_same, List.take_succ, hdi, List.map_append, eb]
            rfl
        have fin : ∀ (D : Addr) (H2 : Hp), Same H1 H2 → H2 D = some (.lst ((ds.take xs.length).map fun d => V.bl (belD p d))) → rAll K [.ref D] H2 Q := by
          intro D H2 s2 eD
          rw [el, List.take_length] at eD
          refine ⟨D, ds.map (belD p), rfl, SqL.of (by rw [eD, List.map_map]; rfl), ?_⟩
          have ea : (ds.map (belD p)).all id = ds.all (belD p) := by rw [List.all_map]; rfl
          rw [ea]
          exact k H2 (s1.trans s2)
        refine ⟨_, rfl, a, rfl, ?_⟩
        rcases hx1 with h | h
        · refine .inl ⟨⟨_, h⟩, fun D hD => lc_list (K := K) (a := a) (xs := xs) (fun i H2 => Same H1 H2 ∧ H2 D = some (.lst ((ds.take i).map fun d => V.bl (belD p d)))) (st0 D hD) (fun i H2 _ z => sqL_same h z.1) ?_ (fun H2 z => fin D H2 z.1 z.2)⟩
          rintro i y H2 hi z
          obtain ⟨t1, t2, t3, t4, t5⟩ := turn D hD i y H2 hi z
          exact ⟨rfl, _, rfl, _, rfl, y, p, rfl, t2, _, z.2, t3, t4, t5⟩
        · refine .inr ⟨⟨_, h⟩, fun D hD => lc_tup (K := K) (a := a) (xs := xs) (fun i H2 => Same H1 H2 ∧ H2 D = some (.lst ((ds.take i).map fun d => V.bl (belD p d)))) (st0 D hD) (fun i H2 _ z => sqT_same h z.1) ?_ (fun H2 z => fin D H2 z.1 z.2)⟩
          rintro i y H2 hi z
          obtain ⟨t1, t2, t3, t4, t5⟩ := turn D hD i y H2 hi z
          exact ⟨rfl, _, rfl, _, rfl, y, p, rfl, t2, _, z.2, t3, t4, t5⟩
      · have hc' : ¬ ((ds.length : Nat) : Int) = n := fun z => hc (congrArg V.int (by rw [el]; exact z))
        rw [decide_eq_false hc', Bool.false_and] at k
        exact k H1 s1
end
end WU

set_option maxRecDepth 100000
set_option maxHeartbeats 4000000
namespace WU
open PySem PySem.Spec PyProof.Rows L2
section
variable {P : Program} {w : World} {K : PySem.W.Frag} {mg : Str → Option Value} {base : Heap}
/-! ### the errors' __init__ -/
/-! ### inverse_of -/
/-- whether 1 + j is an inverse -/
def hit (p a : Int) (j : Nat) : Bool := decide ((a * (1 + (j : Int))).fmod p = 1)
def cnd (p a : Int) (n : Nat) : List Int := ((List.range n).filter (hit p a)).map fun (j : Nat) => 1 + (j : Int)
theorem cnd_succ (p a : Int) (n : Nat) : cnd p a (n + 1) = if hit p a n = true then cnd p a n ++ [1 + (n : Int)] else cnd p a n := by
  unfold cnd
  rw [List.range_succ, List.filter_append, List.map_append]
  by_cases h : hit p a n = true
  · rw [if_pos h]
    simp [h]
  · rw [if_neg h]
    simp [h]
theorem cnd_len (p a : Int) (n : Nat) : (cnd p a n).length ≤ n := by
  unfold cnd
  rw [List.length_map]
  exact Nat.le_trans (List.length_filter_le _ _) (by simp)
theorem cnd_none (p a : Int) (n : Nat) (h : ∀ j, j < n → hit p a j = false) : cnd p a n = [] := by
  induction n with
  | zero => rfl
  | succ n ih =>
    rw [cnd_succ, ih fun j hj => h j (by omega), if_neg (by rw [h n (by omega)]; decide)]
theorem cnd_grow (p a : Int) (n : Nat) : ∀ m, ∃ l, cnd p a (n + m) = cnd p a n ++ l
  | 0 => ⟨[], by simp⟩
  | m + 1 => by
    obtain ⟨l, e⟩ := cnd_grow p a n m
    rw [show n + (m + 1) = n + m + 1 from rfl, cnd_succ, e]
    split
    · exact ⟨l ++ [1 + ((n + m : Nat) : Int)], by simp⟩
    · exact ⟨l, rfl⟩
/-- the inverse: the first one -/
def inv (p a : Int) : Int := (cnd p a (p - 1).toNat).headD 0
theorem inv_first {p a : Int} {n : Nat} (hn : n < (p - 1).toNat) (h : ∀ j, j < n → hit p a j = false) (hh : hit p a n = true) : inv p a = 1 + (n : Int) := by
  obtain ⟨l, e⟩ := cnd_grow p a (n + 1) ((p - 1).toNat - (n + 1))
  rw [show n + 1 + ((p - 1).toNat - (n + 1)) = (p - 1).toNat by omega] at e
  unfold inv
  rw [e, cnd_succ, if_pos hh, cnd_none p a n h]
  rfl
theorem inv_there {p a : Int} (hp : p ∈ primes) (h0 : 0 < a) (h1 : a < p) : ∃ l, cnd p a (p - 1).toNat = inv p a :: l := by
  have all : ∀ q ∈ primes, ∀ n ∈ List.range 31, ¬ n = 0 → (n : Int) < q → (cnd q n (q - 1).toNat).isEmpty = false := by decide +kernel
  have hb := fld_le hp
  have e := all p hp a.toNat (List.mem_range.mpr (by omega)) (by omega) (by omega)
  rw [show ((a.toNat : Nat) : Int) = a by omega] at e
  unfold inv
  cases q : cnd p a (p - 1).toNat with
  | nil =>
    rw [q] at e
    cases e
  | cons x l => exact ⟨l, rfl⟩
def spInv (K : PySem.W.Frag) : Sp := fun vs H Q E => ∃ v u, vs = [v, u] ∧ Ty3 K H v ∧ Ty3 K H u ∧ (isFld v = false → Errs (He.ga K "InvalidNumber") "value" v H E) ∧
  ∀ p, v = .int p → isFld v = true → (isBel p u = false → Errs (He.ga K "InvalidNumber") "value" u H E) ∧ (u = .int 0 → Errs (He.ga K "Undefined") "what" (.str "inverse") H E) ∧
    ∀ a, u = .int a → 0 < a → a < p → ∀ H', Same H H' → Q (.int (inv p a)) H'
end
end WU

set_option maxRecDepth 100000
set_option maxHeartbeats 4000000
namespace WU
open PySem PySem.Spec PyProof.Rows L2
section
variable {P : Program} {w : World} {K : PySem.W.Frag} {mg : Str → Option Value} {base : Heap} {S : Addr}
/-- what is asked of the class Share, at S -/
structure ShC (K : PySem.W.Frag) (mg : Str → Option Value) (S : Addr) : Prop where
  g : mg "Share" = some (.ref S)
  cl : Cls K S
  nT : NoAttr K S "top"
  nB : NoAttr K S "bottom"
  ha : PySem.W.findIn K (.ref S) "__class__" = some (some (.builtin "object.__class__"))
  hn : PySem.W.specialIn K (.builtin "object.__class__") "__get__" = some (some (.builtin "getset_descriptor.__get__"))
  htk : PySem.W.takesIn K (.builtin "object.__class__") = some true
  hm : PySem.W.mroIn K S (.type "object") = some true
  kS : PySem.W.kitOne K (.ref S) (.ref S) = some true
  kI : PySem.W.kitOne K (.ref S) (.type "int") = some false
  kB : PySem.W.kitOne K (.ref S) (.type "bool") = some false
theorem nTB : ¬ (("top" : Str) = "bottom") := by decide +kernel
def shf (t b : Int) : List (Str × V) := putF "bottom" (.int b) (putF "top" (.int t) [])
theorem shf_top (t b : Int) : (shf t b).lookup ("top" : Str) = some (.int t) := by
  unfold shf
  rw [lookup_putF, if_neg nTB, lookup_putF, if_pos rfl]
theorem shf_bot (t b : Int) : (shf t b).lookup ("bottom" : Str) = some (.int b) := by
  unfold shf
  rw [lookup_putF, if_pos rfl]
/-- a Share stands at p -/
def ShAt (S : Addr) (H : Hp) (p : Addr) (t b : Int) : Prop := ∃ dx, H p = some (.ins S dx (shf t b))
theorem ShC.ty {H : Hp} {p : Addr} {t b : Int} (C : ShC K mg S) (h : ShAt S H p t b) : TyX K H (.ref p) (.ref S) := by
  obtain ⟨dx, h⟩ := h
  exact .base (.ins h C.cl C.ha C.hn C.htk C.hm)
theorem ShC.ty3 {H : Hp} {p : Addr} {t b : Int} (C : ShC K mg S) (h : ShAt S H p t b) : Ty3 K H (.ref p) := ⟨_, C.ty h, C.kI, C.kB⟩
def spSI (S : Addr) : Sp := fun vs H Q _ => ∃ (p dx : Addr) (n : Int), vs = [.ref p, .int n, .int 1] ∧ H p = some (.ins S dx []) ∧ 0 ≤ n ∧
  ∀ H', ShAt S H' p n 1 → (∀ b o, b ≠ p → H b = some o → H' b = some o) → Q .non H'
/-- two Shares of the same numbers -/
def ShR (S : Addr) : Addr → Addr → Hp → Prop := fun a b H => ∃ t u, ShAt S H a t u ∧ ShAt S H b t u
end
end WU

set_option maxRecDepth 100000
set_option maxHeartbeats 8000000
namespace WU
open PySem PySem.Spec PyProof.Rows L2
section
variable {P : Program} {w : World} {K : PySem.W.Frag} {mg : Str → Option Value} {base : Heap} {S : Addr}
/-- flat, or an object -/
def FR (x : V) : Prop := flatV x = true ∨ ∃ p, x = .ref p
/-- one of the odd values, none of them the hand at a -/
def OddV (S a : Addr) (H : Hp) (v : V) : Prop := flatV v = true ∨ ∃ p, v = .ref p ∧ p ≠ a ∧ ((∃ t b, ShAt S H p t b) ∨ ∃ xs, (H p = some (.lst xs) ∨ H p = some (.tup xs)) ∧ ∀ x ∈ xs, FR x)
theorem OddV.keep {a : Addr} {H H' : Hp} {v : V} (h : OddV S a H v) (k : Keep a H H') : OddV S a H' v := by
  rcases h with h | ⟨p, rfl, ne, h⟩
  · exact .inl h
  · refine .inr ⟨p, rfl, ne, ?_⟩
    rcases h with ⟨t, b, dx, h⟩ | ⟨xs, h, hx⟩
    · exact .inl ⟨t, b, dx, k _ _ ne h⟩
    · exact .inr ⟨xs, h.elim (fun h => .inl (k _ _ ne h)) fun h => .inr (k _ _ ne h), hx⟩
theorem OddV.fr {a : Addr} {H : Hp} {v : V} (h : OddV S a H v) : FR v := by
  rcases h with h | ⟨p, rfl, _⟩
  · exact .inl h
  · exact .inr ⟨p, rfl⟩
theorem OddV.ty3 {a : Addr} {H : Hp} {v : V} (C : ShC K mg S) (h : OddV S a H v) : Ty3 K H v := by
  rcases h with h | ⟨p, rfl, _, h⟩
  · cases v with
    | non => exact ty3_non
    | bl b => exact ty3_bl b
    | int i => exact ty3_int i
    | str z => exact ty3_str z
    | _ => cases h
  · rcases h with ⟨t, b, h⟩ | ⟨xs, h | h, _⟩
    · exact C.ty3 h
    · exact ty3_lst h
    · exact ty3_tup h
theorem sh_make {H : Hp} {x y : Addr} {n : Int} {G : Hp → Prop} {E : XK} (hx : H x = none) (hy : H y = none) (hn : 0 ≤ n) (k : ∀ H', ShAt S H' x n 1 → Same H H' → G H') :
    spSI S [.ref x, .int n, .int 1] (upd (upd H y (.own x)) x (.ins S y [])) (fun v H2 => v = .non ∧ G H2) E :=
  ⟨x, y, n, rfl, upd_same, hn, fun H' sh kp => ⟨rfl, k H' sh fun b o hb => kp b o (ne_of_none hb hx) (by rw [upd_ne (ne_of_none hb hx), upd_ne (ne_of_none hb hy)]; exact hb)⟩⟩
theorem ShAt.same {H H' : Hp} {p : Addr} {t b : Int} (h : ShAt S H p t b) (s : Same H H') : ShAt S H' p t b := by
  obtain ⟨dx, e⟩ := h
  exact ⟨dx, s _ _ e⟩
def spOdd (S : Addr) (n : Nat) : Sp := fun vs H Q _ => ∃ (a d : Addr) (m : Int), vs = [.ref a, .int m] ∧ 0 ≤ m ∧ m < n ∧ HandAt H a d ∧ ∀ v H', OddV S a H' v → HandAt H' a d → Keep a H H' → Q v H'
end
end WU

set_option maxRecDepth 100000
set_option maxHeartbeats 8000000
namespace WU
open PySem PySem.Spec PyProof.Rows L2
section
variable {P : Program} {w : World} {K : PySem.W.Frag} {mg : Str → Option Value} {base : Heap} {S : Addr}
def spLN (S : Addr) : Sp := fun vs H Q _ => ∃ (a d : Addr), vs = [.ref a] ∧ HandAt H a d ∧ ∀ v H', OddV S a H' v → isFld v = false → HandAt H' a d → Keep a H H' → Q v H'
def spLI : Sp := fun vs H Q _ => ∃ (a p : Int), vs = [.int a, .int p] ∧ p ∈ primes ∧ 0 < a ∧ a < p ∧ Q (.int (inv p a)) H
theorem cnd_hit {p a : Int} {n : Nat} {x : Int} {l : List Int} (h : cnd p a n = x :: l) : ∃ j : Nat, j < n ∧ hit p a j = true := by
  have hx : x ∈ cnd p a n := by rw [h]; exact List.mem_cons_self
  unfold cnd at hx
  obtain ⟨j, hj, _⟩ := List.mem_map.mp hx
  obtain ⟨h1, h2⟩ := List.mem_filter.mp hj
  exact ⟨j, List.mem_range.mp h1, h2⟩
end
end WU

set_option maxRecDepth 100000
set_option maxHeartbeats 8000000
namespace WU
open PySem PySem.Spec PyProof.Rows L2
section
variable {X : Cx}
theorem dps_ints {K : PySem.W.Frag} {H : Hp} : ∀ ns : List Int, DpAll K H (ns.map V.int) (ns.map PyData.int)
  | [] => .nil
  | n :: ns => .cons (.int n) (dps_ints ns)
theorem plain_ints : ∀ ns : List Int, PyData.plainAll (ns.map PyData.int) = true
  | [] => rfl
  | n :: ns => plain_ints ns
theorem any_ints : ∀ ns : List Int, (ns.map PyData.int).any PyData.truthy = ns.any fun n => decide (n ≠ 0)
  | [] => rfl
  | n :: ns => by
    rw [List.map_cons, List.any_cons, List.any_cons, any_ints ns]
    congr 1
    show (n != 0) = _
    by_cases h : n = 0 <;> simp [h]
/-- any(a tuple of ints) -/
def rAnyT (K : PySem.W.Frag) : List V → Hp → VK → Prop := fun vs H Q => ∃ (a : Addr) (ns : List Int), vs = [V.ref a] ∧ SqT K H a (ns.map V.int) ∧ Q (.bl (ns.any fun n => decide (n ≠ 0))) H
theorem cr_anyT (hc : X.calm = true) : CallR X (.builtin "any") (rAnyT X.K) := by
  intro pins s σ H vs us Q I r h
  obtain ⟨a, ns, rfl, hs, q⟩ := h
  obtain ⟨its, rv, hl, _⟩ := I.tuple hs
  rw [Vals.ref1 r]
  obtain ⟨as, hr⟩ := Dp.readsAll I (ns.map PyData.int) _ its (dps_ints ns) rv
  refine PySem.W.any_tuple_data (I.ok.hd hc) (show s.heap.IsTuple a its.toArray from hl) hr (plain_ints ns) (fun x hx => ?_) fun h' tk hk => ?_
  · obtain ⟨n, _, rfl⟩ := List.mem_map.mp hx
    trivial
  · rw [any_ints]
    exact ⟨.bl _, H, I.kept fun b o eo => hk b o eo, rfl, q⟩
end
end WU

set_option maxRecDepth 100000
set_option maxHeartbeats 8000000
namespace WU
open PySem PySem.Spec PyProof.Rows L2
theorem tuple_mul1 (l : Addr) (items : Array Value) (n : Nat) (dd : Option Addr) (sl : Array (Option Value)) (u : Tok) :
    Meets (Builtin.«tuple.__mul__» ⟨[.ref l, .int 1 u], []⟩) (fun _ R s => s.heap.get? l = some { cls := .type "tuple", dict := dd, data := .seq items n, slots := sl } ∧ R (.ok (.ret (Value.ref l))) { s with heap := s.heap, toks := s.toks }) :=
  .of_wp fun prog w A R s h => by
    obtain ⟨hp, g, d, tk, os⟩ := s
    obtain ⟨hl, h⟩ := h
    have f1 := AutoSeq1.idx_int
    have c0 : (decide ((1 : Int) < -(2 ^ 63)) || decide ((1 : Int) ≥ 2 ^ 63)) = false := by decide
    have c1 : (items.isEmpty || (1 : Int) == 1) = true := by simp
    wp_walk using wpAny_loadPart' hl
    repeat (first
      | (refine wpAny_ite_false (decide_eq_false (by rw [c0]; exact Bool.false_ne_true)) ?_; wp_walk using wpAny_loadPart' hl)
      | (refine wpAny_ite_true (decide_eq_true c1) ?_; wp_walk using wpAny_loadPart' hl))
    exact ⟨_, rfl, h⟩
theorem tuple_mul0 (l : Addr) (items : Array Value) (n : Nat) (dd : Option Addr) (sl : Array (Option Value)) (u : Tok) (hi : items.isEmpty = false) :
    Meets (Builtin.«tuple.__mul__» ⟨[.ref l, .int 0 u], []⟩) (fun _ R s => s.heap.get? l = some { cls := .type "tuple", dict := dd, data := .seq items n, slots := sl } ∧
      R (.ok (.ret (Value.ref s.heap.objs.size))) { s with heap := s.heap.push { cls := Value.type "tuple", data := Data.seq #[] }, toks := s.toks }) :=
  .of_wp fun prog w A R s h => by
    obtain ⟨hp, g, d, tk, os⟩ := s
    obtain ⟨hl, h⟩ := h
    have f1 := AutoSeq1.idx_int
    have c0 : (decide ((0 : Int) < -(2 ^ 63)) || decide ((0 : Int) ≥ 2 ^ 63)) = false := by decide
    have c1 : (items.isEmpty || (0 : Int) == 1) = false := by rw [hi]; decide
    have c2 : (decide ((0 : Int) ≤ 0) || items.isEmpty) = true := by rw [decide_eq_true (Int.le_refl 0)]; rfl
    wp_walk using wpAny_loadPart' hl
    repeat (first
      | (refine wpAny_ite_false (decide_eq_false (by rw [c0]; exact Bool.false_ne_true)) ?_; wp_walk using wpAny_loadPart' hl)
      | (refine wpAny_ite_false (decide_eq_false (by rw [c1]; exact Bool.false_ne_true)) ?_; wp_walk using wpAny_loadPart' hl)
      | (refine wpAny_ite_true (decide_eq_true c2) ?_; wp_walk using wpAny_loadPart' hl))
    exact ⟨_, rfl, h⟩
/-- (v,) * k, k from 0 on -/
def rRepA (K : PySem.W.Frag) : R2 := fun x y H Q => ∃ (l : Addr) (k : Nat) (xs : List V), x = .ref l ∧ y = .int k ∧ H l = some (.tup xs) ∧ xs ≠ [] ∧ k ≤ 1000 ∧ xs.length ≤ 1000 ∧ ∀ p H', Same H H' → H' p = some (.tup (List.replicate k xs).flatten) → Q (.ref p) H'
section
variable {X : Cx}
theorem op_repA : OpR X (binaryOp .Mult) (rRepA X.K) := by
  intro pins s σ H x y v u Q I rx ry h
  obtain ⟨l, k, xs, rfl, rfl, hT, hne, h2, hz, q⟩ := h
  by_cases hk : 2 ≤ k
  · refine op_repT pins s σ H _ _ v u Q I rx ry ⟨l, (k : Int), xs, rfl, rfl, SqT.of hT, hne, by omega, by omega, hz, fun p hp => q p _ (same_new hp) ?_⟩
    rw [upd_same]
    rfl
  · cases rx
    obtain ⟨t, rfl⟩ := ry
    obtain ⟨its, r, ⟨⟨cls, dd, data, sl⟩, ho, hc, n, hd⟩, hs⟩ := I.tuple (SqT.of hT)
    simp only at hc hd
    subst hc hd
    have hle : its.length = xs.length := r.length.symm
    have hi : its.toArray.isEmpty = false := by
      cases its with
      | nil => exact absurd (List.eq_nil_of_length_eq_zero hle.symm) hne
      | cons a b => rfl
    have hk2 : k = 0 ∨ k = 1 := by omega
    rcases hk2 with rfl | rfl
    · refine wpAny_binaryOp_repeat_ref (T := "tuple") (U := "int") (by decide) ⟨_, ho, rfl⟩ (fun s' => typeIs_int s' 0 t) noFill_tuple_mul PySem.F.fills_int_mul PySem.F.slot_int_rmul repeat_tuple PySem.F.slot_int_index.lookup
        (call_meets PySem.F.slot_int_rmul (typeIs_int s 0 t) PySem.F.entry_int_rmul (PySem.F.args_int_rmul_2 _ _) (int_rmul_tuple 0 t l its.toArray n dd sl)
          ⟨ho, rfl, ⟨_, ho, rfl⟩, call_meets PySem.F.slot_tuple_mul ⟨_, ho, rfl⟩ PySem.F.entry_tuple_mul (PySem.F.args_tuple_mul_2 _ _) (tuple_mul0 l its.toArray n dd sl t hi) ⟨ho, ?_⟩⟩)
      refine ⟨.ref s.heap.objs.size, _, I.laid (t' := s.toks) (o := .tup []) (fun b ob q => Heap.get?_push_of_some _ q) (Nat.le_refl _) ?_, rfl, q _ _ (same_new (I.hok.fresh (Nat.le_refl _))) upd_same⟩
      exact ⟨Nat.zero_le _, [], .nil, IsTup.new _ _⟩
    · refine wpAny_binaryOp_repeat_ref (T := "tuple") (U := "int") (by decide) ⟨_, ho, rfl⟩ (fun s' => typeIs_int s' 1 t) noFill_tuple_mul PySem.F.fills_int_mul PySem.F.slot_int_rmul repeat_tuple PySem.F.slot_int_index.lookup
        (call_meets PySem.F.slot_int_rmul (typeIs_int s 1 t) PySem.F.entry_int_rmul (PySem.F.args_int_rmul_2 _ _) (int_rmul_tuple 1 t l its.toArray n dd sl)
          ⟨ho, rfl, ⟨_, ho, rfl⟩, call_meets PySem.F.slot_tuple_mul ⟨_, ho, rfl⟩ PySem.F.entry_tuple_mul (PySem.F.args_tuple_mul_2 _ _) (tuple_mul1 l its.toArray n dd sl t) ⟨ho, ?_⟩⟩)
      refine ⟨.ref l, H, I, rfl, q l H (Same.refl H) ?_⟩
      rw [hT]
      simp
end
end WU

set_option maxRecDepth 100000
set_option maxHeartbeats 4000000
namespace WU
open PySem PySem.Spec PyProof.Rows L2
/-! ### rows of letters, by places -/
def at0 (r : List Int) (k : Nat) : Int := r.getD k 0
/-- a row of n letters -/
def Ltr (p : Int) (n : Nat) (b : List Int) : Prop := b.length = n ∧ ∀ i ∈ b, 0 ≤ i ∧ i < p
theorem at0_lt {r : List Int} {k : Nat} (h : k < r.length) : at0 r k = r[k] := by
  unfold at0
  rw [List.getD_eq_getElem?_getD, List.getElem?_eq_getElem h]
  rfl
theorem at0_some {r : List Int} {k : Nat} (h : k < r.length) : r[k]? = some (at0 r k) := by
  rw [at0_lt h, List.getElem?_eq_getElem h]
theorem Ltr.bd {p : Int} {n k : Nat} {r : List Int} (h : Ltr p n r) (hk : k < n) : 0 ≤ at0 r k ∧ at0 r k < p := by
  have hl : k < r.length := by rw [h.1]; exact hk
  rw [at0_lt hl]
  exact h.2 _ (List.getElem_mem hl)
theorem row_ext {n : Nat} {r t : List Int} (hr : r.length = n) (ht : t.length = n) (h : ∀ k, k < n → at0 r k = at0 t k) : r = t := by
  refine List.ext_getElem (by rw [hr, ht]) fun k h1 h2 => ?_
  rw [← at0_lt h1, ← at0_lt h2]
  exact h k (by omega)
theorem ltr_of {p : Int} {n : Nat} {r : List Int} (hl : r.length = n) (h : ∀ k, k < n → 0 ≤ at0 r k ∧ at0 r k < p) : Ltr p n r := by
  refine ⟨hl, fun x hx => ?_⟩
  obtain ⟨k, hk, rfl⟩ := List.getElem_of_mem hx
  rw [← at0_lt hk]
  exact h k (by omega)
def zer (n : Nat) : List Int := List.replicate n 0
theorem zer_len {n : Nat} : (zer n).length = n := List.length_replicate
theorem zer_at {n k : Nat} : at0 (zer n) k = 0 := by
  unfold at0 zer
  rw [List.getD_eq_getElem?_getD, List.getElem?_replicate]
  split <;> rfl
/-- u + c r, by places -/
def addv (p : Int) (u : List Int) (c : Int) (r : List Int) : List Int := List.zipWith (fun a b => (a + c * b).fmod p) u r
theorem addv_len {p c : Int} {n : Nat} {u r : List Int} (hu : u.length = n) (hr : r.length = n) : (addv p u c r).length = n := by
  unfold addv
  rw [List.length_zipWith, hu, hr, Nat.min_self]
theorem addv_at {p c : Int} {n k : Nat} {u r : List Int} (hu : u.length = n) (hr : r.length = n) (hk : k < n) : at0 (addv p u c r) k = (at0 u k + c * at0 r k).fmod p := by
  rw [at0_lt (by rw [addv_len hu hr]; exact hk), at0_lt (r := u) (by omega), at0_lt (r := r) (by omega)]
  unfold addv
  rw [List.getElem_zipWith]
theorem fm_bd (x : Int) {p : Int} (h : 0 < p) : 0 ≤ x.fmod p ∧ x.fmod p < p := ⟨Int.fmod_nonneg_of_pos x h, Int.fmod_lt_of_pos x h⟩
theorem addv_ltr {p c : Int} {n : Nat} {u r : List Int} (hp : 0 < p) (hu : u.length = n) (hr : r.length = n) : Ltr p n (addv p u c r) :=
  ltr_of (addv_len hu hr) fun k hk => by rw [addv_at hu hr hk]; exact fm_bd _ hp
theorem zer_ltr {p : Int} {n : Nat} (hp : 0 < p) : Ltr p n (zer n) := ltr_of zer_len fun k _ => by rw [zer_at]; omega
/-! ### alike modulo p -/
def Cg (p a b : Int) : Prop := ∃ t, a = b + p * t
theorem Cg.rfl' {p a : Int} : Cg p a a := ⟨0, by omega⟩
theorem Cg.symm {p a b : Int} (h : Cg p a b) : Cg p b a := by
  obtain ⟨t, e⟩ := h
  exact ⟨-t, by rw [e, Int.mul_neg]; omega⟩
theorem Cg.trans {p a b c : Int} (h : Cg p a b) (k : Cg p b c) : Cg p a c := by
  obtain ⟨t, e⟩ := h
  obtain ⟨u, f⟩ := k
  exact ⟨t + u, by rw [e, f, Int.mul_add]; omega⟩
theorem Cg.add {p a b c d : Int} (h : Cg p a b) (k : Cg p c d) : Cg p (a + c) (b + d) := by
  obtain ⟨t, e⟩ := h
  obtain ⟨u, f⟩ := k
  exact ⟨t + u, by rw [e, f, Int.mul_add]; omega⟩
theorem Cg.mul {p a b : Int} (c : Int) (h : Cg p a b) : Cg p (c * a) (c * b) := by
  obtain ⟨t, e⟩ := h
  exact ⟨c * t, by rw [e, Int.mul_add, ← Int.mul_assoc, ← Int.mul_assoc, Int.mul_comm c p]⟩
theorem Cg.mulr {p a b : Int} (c : Int) (h : Cg p a b) : Cg p (a * c) (b * c) := by
  rw [Int.mul_comm a, Int.mul_comm b]
  exact h.mul c
theorem Cg.fm {p : Int} (a : Int) : Cg p (a.fmod p) a := ⟨-(a.fdiv p), by rw [Int.fmod_def, Int.mul_neg]; omega⟩
theorem Cg.eq {p a b : Int} (h : Cg p a b) (ha : 0 ≤ a ∧ a < p) (hb : 0 ≤ b ∧ b < p) : a = b := by
  obtain ⟨t, e⟩ := h
  have h1 : a % p = a := Int.emod_eq_of_lt ha.1 ha.2
  have h2 : b % p = b := Int.emod_eq_of_lt hb.1 hb.2
  rw [← h1, ← h2, e, Int.add_mul_emod_self_left]
theorem Cg.fmod {p a b : Int} (hp : 0 < p) (h : Cg p a b) : a.fmod p = b.fmod p := Cg.eq ((Cg.fm a).trans (h.trans (Cg.fm b).symm)) (fm_bd a hp) (fm_bd b hp)
theorem fm_id {p a : Int} (h : 0 ≤ a ∧ a < p) : a.fmod p = a := Cg.eq (Cg.fm a) (fm_bd a (by omega)) h
/-! ### what sums and multiples keep -/
def Lin (p : Int) (n : Nat) (S : List Int → Prop) : Prop := S (zer n) ∧ ∀ u r c, S u → S r → S (addv p u c r)
/-- spanned by rows -/
def Span (p : Int) (n : Nat) (rows : List (List Int)) (v : List Int) : Prop := ∀ S, Lin p n S → (∀ r ∈ rows, S r) → S v
theorem span_lin {p : Int} {n : Nat} {rows : List (List Int)} : Lin p n (Span p n rows) := ⟨fun S l _ => l.1, fun u r c hu hr S l h => l.2 u r c (hu S l h) (hr S l h)⟩
theorem span_mem {p : Int} {n : Nat} {rows : List (List Int)} {r : List Int} (h : r ∈ rows) : Span p n rows r := fun S _ k => k r h
theorem span_sub {p : Int} {n : Nat} {rows rows' : List (List Int)} (h : ∀ r ∈ rows, Span p n rows' r) {v : List Int} (hv : Span p n rows v) : Span p n rows' v := hv _ span_lin h
theorem ltr_lin {p : Int} {n : Nat} (hp : 0 < p) : Lin p n (Ltr p n) := ⟨zer_ltr hp, fun u r c hu hr => addv_ltr hp hu.1 hr.1⟩
/-! ### the elimination -/
def nz (r : List Int) : Bool := r.any fun n => decide (n ≠ 0)
def led (p : Int) (r : List Int) (j : Nat) : List Int := r.map fun l => (inv p (at0 r j) * l).fmod p
def less (p : Int) (r : List Int) (f : Int) (lead : List Int) : List Int := List.zipWith (fun a b => (a - f * b).fmod p) r lead
def clr (p : Int) (lead : List Int) (j : Nat) (r : List Int) : List Int := if at0 r j ≠ 0 then less p r (at0 r j) lead else r
def hot (j : Nat) (r : List Int) : Bool := decide (at0 r j ≠ 0)
/-- one column, as the law goes -/
def stp (p : Int) (j : Nat) (s : List (List Int) × List (List Int)) : List (List Int) × List (List Int) :=
  match s.1.findIdx? (hot j) with
  | none => s
  | some k => ((s.1.eraseIdx k).map fun r => less p r (at0 r j) (led p (s.1.getD k []) j), (s.2.map fun r => less p r (at0 r j) (led p (s.1.getD k []) j)) ++ [led p (s.1.getD k []) j])
def run (p : Int) (rows : List (List Int)) : Nat → List (List Int) × List (List Int)
  | 0 => (rows, [])
  | j + 1 => stp p j (run p rows j)
def wid (rows : List (List Int)) : Nat := (rows.head?.getD []).length
/-- the reduced rows -/
def red (p : Int) (rows : List (List Int)) : List (List Int) := (run p rows (wid rows)).2
theorem less_add (p f : Int) (r lead : List Int) : less p r f lead = addv p r (-f) lead := by
  unfold less addv
  congr 1
  funext a b
  rw [Int.neg_mul]
  rfl
theorem less_len {p f : Int} {n : Nat} {r lead : List Int} (hr : r.length = n) (hl : lead.length = n) : (less p r f lead).length = n := by
  rw [less_add]
  exact addv_len hr hl
theorem less_at {p f : Int} {n k : Nat} {r lead : List Int} (hr : r.length = n) (hl : lead.length = n) (hk : k < n) : at0 (less p r f lead) k = (at0 r k - f * at0 lead k).fmod p := by
  rw [less_add, addv_at hr hl hk, Int.neg_mul]
  rfl
theorem led_len {p : Int} {j n : Nat} {r : List Int} (hr : r.length = n) : (led p r j).length = n := by
  unfold led
  rw [List.length_map, hr]
theorem led_at {p : Int} {j n k : Nat} {r : List Int} (hr : r.length = n) (hk : k < n) : at0 (led p r j) k = (inv p (at0 r j) * at0 r k).fmod p := by
  rw [at0_lt (by rw [led_len hr]; exact hk), at0_lt (r := r) (k := k) (by omega)]
  unfold led
  rw [List.getElem_map]
theorem led_add {p : Int} {j n : Nat} {r : List Int} (hr : r.length = n) : led p r j = addv p (zer n) (inv p (at0 r j)) r := by
  refine row_ext (led_len hr) (addv_len zer_len hr) fun k hk => ?_
  rw [led_at hr hk, addv_at zer_len hr hk, zer_at, Int.zero_add]
/-- the inverse is one -/
theorem inv_mul {p a : Int} (hp : p ∈ primes) (h0 : 0 < a) (h1 : a < p) : (a * inv p a).fmod p = 1 := by
  have all : ∀ q ∈ primes, ∀ n ∈ List.range 31, ¬ n = 0 → (n : Int) < q → ((n : Int) * inv q n).fmod q = 1 := by decide +kernel
  have hb := fld_le hp
  have e := all p hp a.toNat (List.mem_range.mpr (by omega)) (by omega) (by omega)
  rw [show ((a.toNat : Nat) : Int) = a by omega] at e
  exact e
/-- what stands ahead of column j -/
structure Iv (p : Int) (n : Nat) (rows : List (List Int)) (j : Nat) (s : List (List Int) × List (List Int)) (pv : List Nat) : Prop where
  left : ∀ r ∈ s.1, Ltr p n r
  done : ∀ r ∈ s.2, Ltr p n r
  low : ∀ r ∈ s.1, ∀ k, k < j → at0 r k = 0
  len : pv.length = s.2.length
  plt : ∀ c ∈ pv, c < j
  one : ∀ (i l : Nat) (r : List Int) (c : Nat), s.2[i]? = some r → pv[l]? = some c → at0 r c = if i = l then 1 else 0
  to : ∀ r, r ∈ s.1 ∨ r ∈ s.2 → Span p n rows r
  of : ∀ r ∈ rows, Span p n (s.1 ++ s.2) r
theorem iv_zero {p : Int} {n : Nat} {rows : List (List Int)} (h : ∀ r ∈ rows, Ltr p n r) : Iv p n rows 0 (run p rows 0) [] where
  left := h
  done := fun r hr => nomatch hr
  low := fun r _ k hk => absurd hk (Nat.not_lt_zero _)
  len := rfl
  plt := fun c hc => nomatch hc
  one := fun i l r c hi _ => nomatch hi
  to := fun r hr => hr.elim span_mem fun z => nomatch z
  of := fun r hr => span_mem (List.mem_append.mpr (.inl hr))
theorem find_hot {j : Nat} {rows : List (List Int)} {k : Nat} (h : rows.findIdx? (hot j) = some k) : ∃ a r b, rows = a ++ r :: b ∧ a.length = k ∧ hot j r = true ∧ ∀ t ∈ a, hot j t = false := by
  rw [List.findIdx?_eq_some_iff_getElem] at h
  obtain ⟨hk, h1, h2⟩ := h
  refine ⟨rows.take k, rows[k], rows.drop (k + 1), ?_, by rw [List.length_take]; omega, h1, fun t ht => ?_⟩
  · rw [List.getElem_cons_drop, List.take_append_drop]
  · obtain ⟨i, hi, rfl⟩ := List.getElem_of_mem ht
    rw [List.length_take] at hi
    rw [List.getElem_take]
    have := h2 i (by omega)
    simpa using this
theorem erase_mid {α : Type} (a b : List α) (r : α) : (a ++ r :: b).eraseIdx a.length = a ++ b := by
  rw [List.eraseIdx_append_of_length_le (Nat.le_refl _), Nat.sub_self]
  rfl
theorem getD_mid (a b : List (List Int)) (r : List Int) : (a ++ r :: b).getD a.length [] = r := by
  rw [List.getD_eq_getElem?_getD, List.getElem?_append_right (Nat.le_refl _), Nat.sub_self]
  rfl
theorem stp_some {p : Int} {j : Nat} {a b d : List (List Int)} {r : List Int} (hr : hot j r = true) (ha : ∀ t ∈ a, hot j t = false) :
    stp p j (a ++ r :: b, d) = ((a ++ b).map fun t => less p t (at0 t j) (led p r j), (d.map fun t => less p t (at0 t j) (led p r j)) ++ [led p r j]) := by
  have e : (a ++ r :: b).findIdx? (hot j) = some a.length := by
    rw [List.findIdx?_eq_some_iff_getElem]
    refine ⟨by rw [List.length_append]; simp, by rw [List.getElem_append_right (Nat.le_refl _)]; simpa using hr, fun i hi => ?_⟩
    rw [List.getElem_append_left hi, ha _ (List.getElem_mem hi)]
    exact Bool.false_ne_true
  unfold stp
  simp only
  rw [e]
  simp only
  rw [erase_mid, getD_mid]
theorem stp_none {p : Int} {j : Nat} {s : List (List Int) × List (List Int)} (h : ∀ t ∈ s.1, hot j t = false) : stp p j s = s := by
  have e : s.1.findIdx? (hot j) = none := by
    rw [List.findIdx?_eq_none_iff]
    exact h
  unfold stp
  rw [e]
end WU

set_option maxRecDepth 100000
set_option maxHeartbeats 4000000
namespace WU
open PySem PySem.Spec PyProof.Rows L2
theorem prime_pos {p : Int} (hp : p ∈ primes) : 0 < p := by have := fld_le hp; omega
theorem fm_zero {p : Int} : (0 : Int).fmod p = 0 := Int.zero_fmod p
theorem fm_one {p : Int} (hp : p ∈ primes) : (1 : Int).fmod p = 1 := fm_id (by have := fld_le hp; omega)
theorem hot_ne {j : Nat} {r : List Int} (h : hot j r = true) : at0 r j ≠ 0 := of_decide_eq_true h
theorem hot_not {j : Nat} {r : List Int} (h : hot j r = false) : at0 r j = 0 := by
  have := of_decide_eq_false h
  simpa using this
theorem led_one {p : Int} {j n : Nat} {r : List Int} (hp : p ∈ primes) (hr : Ltr p n r) (hj : j < n) (h : hot j r = true) : at0 (led p r j) j = 1 := by
  have b := hr.bd hj
  have z := hot_ne h
  rw [led_at hr.1 hj, Int.mul_comm]
  exact inv_mul hp (by omega) b.2
theorem less_ltr {p f : Int} {n : Nat} {r lead : List Int} (hp : 0 < p) (hr : r.length = n) (hl : lead.length = n) : Ltr p n (less p r f lead) := by
  rw [less_add]
  exact addv_ltr hp hr hl
theorem led_ltr {p : Int} {j n : Nat} {r : List Int} (hp : 0 < p) (hr : r.length = n) : Ltr p n (led p r j) := by
  rw [led_add hr]
  exact addv_ltr hp zer_len hr
/-- a row with nothing at j stays as it is -/
theorem less_zero {p : Int} {n : Nat} {r lead : List Int} (hr : Ltr p n r) (hl : lead.length = n) : less p r 0 lead = r := by
  refine row_ext (less_len hr.1 hl) hr.1 fun k hk => ?_
  rw [less_at hr.1 hl hk, Int.zero_mul, Int.sub_zero]
  exact fm_id (hr.bd hk)
theorem clr_less {p : Int} {j n : Nat} {r lead : List Int} (hr : Ltr p n r) (hl : lead.length = n) : clr p lead j r = less p r (at0 r j) lead := by
  unfold clr
  by_cases h : at0 r j = 0
  · rw [if_neg (by simpa using h), h, less_zero hr hl]
  · rw [if_pos h]
/-- cleared of itself a row is nothing -/
theorem less_self {p : Int} {j n : Nat} {r : List Int} (hp : p ∈ primes) (hr : Ltr p n r) (hj : j < n) (h : hot j r = true) : less p r (at0 r j) (led p r j) = zer n := by
  have p0 := prime_pos hp
  refine row_ext (less_len hr.1 (led_len hr.1)) zer_len fun k hk => ?_
  have b := hr.bd hj
  have z := hot_ne h
  rw [less_at hr.1 (led_len hr.1) hk, zer_at, led_at hr.1 hk]
  have c1 : Cg p (at0 r j * inv p (at0 r j)) 1 := by
    rw [← inv_mul hp (show 0 < at0 r j by omega) b.2]
    exact (Cg.fm _).symm
  have c2 : Cg p (at0 r j * (inv p (at0 r j) * at0 r k).fmod p) (at0 r k) := by
    have := (Cg.fm (p := p) (inv p (at0 r j) * at0 r k)).mul (at0 r j)
    rw [← Int.mul_assoc] at this
    have c3 := c1.mulr (at0 r k)
    rw [Int.one_mul] at c3
    exact this.trans c3
  have c4 : Cg p (at0 r k - at0 r j * (inv p (at0 r j) * at0 r k).fmod p) 0 := by
    obtain ⟨t, e⟩ := c2
    exact ⟨-t, by rw [e, Int.mul_neg]; omega⟩
  rw [Cg.fmod p0 c4, fm_zero]
theorem nz_zer {n : Nat} : nz (zer n) = false := by
  unfold nz zer
  rw [List.any_eq_false]
  intro x hx
  rw [(List.mem_replicate.mp hx).2]
  decide
theorem nz_false {p : Int} {n : Nat} {r : List Int} (hr : r.length = n) (h : nz r = false) : r = zer n := by
  unfold nz at h
  rw [List.any_eq_false] at h
  refine List.eq_replicate_iff.mpr ⟨hr, fun x hx => ?_⟩
  have := h x hx
  simpa using this
theorem nz_hot {j n : Nat} {r : List Int} (hr : r.length = n) (hj : j < n) (h : hot j r = true) : nz r = true := by
  unfold nz
  rw [List.any_eq_true]
  exact ⟨r[j]'(by omega), List.getElem_mem _, by rw [← at0_lt (by omega)]; exact h⟩
theorem less_span {p f : Int} {n : Nat} {rows : List (List Int)} {r l : List Int} (hr : Span p n rows r) (hl : Span p n rows l) : Span p n rows (less p r f l) := by
  rw [less_add]
  exact span_lin.2 _ _ _ hr hl
theorem led_span {p : Int} {j n : Nat} {rows : List (List Int)} {r : List Int} (hl : r.length = n) (hr : Span p n rows r) : Span p n rows (led p r j) := by
  rw [led_add hl]
  exact span_lin.2 _ _ _ span_lin.1 hr
/-- and back: a row is what is left of it and its multiple -/
theorem less_back {p f : Int} {n : Nat} {r l : List Int} (hp : 0 < p) (hr : Ltr p n r) (hl : l.length = n) : r = addv p (less p r f l) f l := by
  have h1 := less_len (p := p) (f := f) hr.1 hl
  refine row_ext hr.1 (addv_len h1 hl) fun k hk => ?_
  rw [addv_at h1 hl hk, less_at hr.1 hl hk]
  have c : Cg p ((at0 r k - f * at0 l k).fmod p + f * at0 l k) (at0 r k) := by
    have := (Cg.fm (p := p) (at0 r k - f * at0 l k)).add (Cg.rfl' (p := p) (a := f * at0 l k))
    rw [Int.sub_add_cancel] at this
    exact this
  rw [Cg.fmod hp c, fm_id (hr.bd hk)]
theorem led_back {p : Int} {j n : Nat} {r : List Int} (hp : p ∈ primes) (hr : Ltr p n r) (hj : j < n) (h : hot j r = true) : r = addv p (zer n) (at0 r j) (led p r j) := by
  have p0 := prime_pos hp
  have e := less_back (f := at0 r j) p0 hr (led_len (p := p) (j := j) hr.1)
  rw [less_self hp hr hj h] at e
  exact e
theorem iv_step {p : Int} {n j : Nat} {rows : List (List Int)} {s : List (List Int) × List (List Int)} {pv : List Nat} (hp : p ∈ primes) (hj : j < n) (I : Iv p n rows j s pv) : ∃ pv', Iv p n rows (j + 1) (stp p j s) pv' := by
  have p0 := prime_pos hp
  cases e : s.1.findIdx? (hot j) with
  | none =>
    rw [List.findIdx?_eq_none_iff] at e
    rw [stp_none e]
    refine ⟨pv, I.left, I.done, fun r hr k hk => ?_, I.len, fun c hc => Nat.lt_succ_of_lt (I.plt c hc), I.one, I.to, I.of⟩
    by_cases z : k = j
    · rw [z]
      exact hot_not (e r hr)
    · exact I.low r hr k (by omega)
  | some k =>
    obtain ⟨a, r, b, ea, hk, hr, ha⟩ := find_hot e
    obtain ⟨l, d⟩ := s
    simp only at ea
    subst ea
    rw [stp_some hr ha]
    have hrm : r ∈ a ++ r :: b := List.mem_append.mpr (.inr (List.mem_cons_self))
    have hrL : Ltr p n r := I.left r hrm
    have hl : (led p r j).length = n := led_len hrL.1
    have sub : ∀ t ∈ a ++ b, t ∈ a ++ r :: b := fun t ht => by
      rcases List.mem_append.mp ht with h | h
      · exact List.mem_append.mpr (.inl h)
      · exact List.mem_append.mpr (.inr (List.mem_cons_of_mem _ h))
    have l1 := led_one hp hrL hj hr
    have lpv : ∀ c, c < j → at0 (led p r j) c = 0 := fun c hc => by
      rw [led_at hrL.1 (by omega), I.low r hrm c hc, Int.mul_zero, fm_zero]
    have tl : Span p n rows (led p r j) := led_span hrL.1 (I.to r (.inl hrm))
    refine ⟨pv ++ [j], ?_⟩
    constructor
    · intro t ht
      obtain ⟨u, hu, rfl⟩ := List.mem_map.mp ht
      exact less_ltr p0 (I.left u (sub u hu)).1 hl
    · intro t ht
      rcases List.mem_append.mp ht with h | h
      · obtain ⟨u, hu, rfl⟩ := List.mem_map.mp h
        exact less_ltr p0 (I.done u hu).1 hl
      · rw [List.mem_singleton.mp h]
        exact led_ltr p0 hrL.1
    · intro t ht k hk
      obtain ⟨u, hu, rfl⟩ := List.mem_map.mp ht
      have hu2 := I.left u (sub u hu)
      rw [less_at hu2.1 hl (by omega)]
      by_cases z : k = j
      · rw [z, l1, Int.mul_one, Int.sub_self, fm_zero]
      · rw [I.low u (sub u hu) k (by omega), lpv k (by omega), Int.mul_zero, Int.sub_zero, fm_zero]
    · rw [List.length_append, List.length_append, List.length_map, I.len]
      rfl
    · intro c hc
      rcases List.mem_append.mp hc with h | h
      · exact Nat.lt_succ_of_lt (I.plt c h)
      · rw [List.mem_singleton.mp h]
        exact Nat.lt_succ_self j
    · intro i m t c hi hm
      have hpl := I.len
      by_cases zi : i < d.length
      · rw [List.getElem?_append_left (by rw [List.length_map]; exact zi), List.getElem?_map] at hi
        obtain ⟨u, hu, rfl⟩ := Option.map_eq_some_iff.mp hi
        have hu2 := I.done u (List.mem_of_getElem? hu)
        by_cases zm : m < pv.length
        · rw [List.getElem?_append_left zm] at hm
          have hc := I.plt c (List.mem_of_getElem? hm)
          rw [less_at hu2.1 hl (by omega), lpv c hc, Int.mul_zero, Int.sub_zero, I.one i m u c hu hm]
          split
          · exact fm_one hp
          · exact fm_zero
        · have hm2 := (List.getElem?_eq_some_iff.mp hm).1
          rw [List.length_append] at hm2
          have em : m = pv.length := by
            have : m < pv.length + 1 := hm2
            omega
          rw [em, List.getElem?_append_right (Nat.le_refl _), Nat.sub_self] at hm
          cases hm
          rw [less_at hu2.1 hl hj, l1, Int.mul_one, Int.sub_self, fm_zero, if_neg (by simp only at hpl; omega)]
      · have hi2 := (List.getElem?_eq_some_iff.mp hi).1
        rw [List.length_append, List.length_map] at hi2
        have ei : i = d.length := by
          have : i < d.length + 1 := hi2
          omega
        rw [ei, List.getElem?_append_right (by rw [List.length_map]; exact Nat.le_refl _), List.length_map, Nat.sub_self] at hi
        cases hi
        by_cases zm : m < pv.length
        · rw [List.getElem?_append_left zm] at hm
          have hc := I.plt c (List.mem_of_getElem? hm)
          rw [lpv c hc, if_neg (by simp only at hpl; omega)]
        · have hm2 := (List.getElem?_eq_some_iff.mp hm).1
          rw [List.length_append] at hm2
          have em : m = pv.length := by
            have : m < pv.length + 1 := hm2
            omega
          rw [em, List.getElem?_append_right (Nat.le_refl _), Nat.sub_self] at hm
          cases hm
          rw [l1, if_pos (by simp only at hpl; omega)]
    · intro t ht
      rcases ht with h | h
      · obtain ⟨u, hu, rfl⟩ := List.mem_map.mp h
        exact less_span (I.to u (.inl (sub u hu))) tl
      · rcases List.mem_append.mp h with h | h
        · obtain ⟨u, hu, rfl⟩ := List.mem_map.mp h
          exact less_span (I.to u (.inr hu)) tl
        · rw [List.mem_singleton.mp h]
          exact tl
    · intro t ht
      refine span_sub (fun u hu => ?_) (I.of t ht)
      generalize hL : ((a ++ b).map fun t => less p t (at0 t j) (led p r j)) ++ ((d.map fun t => less p t (at0 t j) (led p r j)) ++ [led p r j]) = L
      have hlead : Span p n L (led p r j) := span_mem (by rw [← hL]; exact List.mem_append.mpr (.inr (List.mem_append.mpr (.inr (List.mem_singleton.mpr rfl)))))
      have back : ∀ u, Ltr p n u → less p u (at0 u j) (led p r j) ∈ L → Span p n L u := fun u hu hm => by
        rw [less_back (f := at0 u j) p0 hu hl]
        exact span_lin.2 _ _ _ (span_mem hm) hlead
      rcases List.mem_append.mp hu with h | h
      · have hab : u ∈ a ++ b ∨ u = r := by
          rcases List.mem_append.mp h with h | h
          · exact .inl (List.mem_append.mpr (.inl h))
          · rcases List.mem_cons.mp h with h | h
            · exact .inr h
            · exact .inl (List.mem_append.mpr (.inr h))
        rcases hab with h | rfl
        · exact back u (I.left u (sub u h)) (by rw [← hL]; exact List.mem_append.mpr (.inl (List.mem_map.mpr ⟨u, h, rfl⟩)))
        · rw [led_back hp hrL hj hr]
          exact span_lin.2 _ _ _ span_lin.1 hlead
      · exact back u (I.done u h) (by rw [← hL]; exact List.mem_append.mpr (.inr (List.mem_append.mpr (.inl (List.mem_map.mpr ⟨u, h, rfl⟩)))))
theorem iv_run {p : Int} {n : Nat} {rows : List (List Int)} (hp : p ∈ primes) (h : ∀ r ∈ rows, Ltr p n r) : ∀ j, j ≤ n → ∃ pv, Iv p n rows j (run p rows j) pv
  | 0, _ => ⟨[], iv_zero h⟩
  | j + 1, hj => by
    obtain ⟨pv, I⟩ := iv_run hp h j (by omega)
    exact iv_step hp (by omega) I
end WU

set_option maxRecDepth 100000
set_option maxHeartbeats 4000000
namespace WU
open PySem PySem.Spec PyProof.Rows L2
theorem filter_hot_nz {p : Int} {n j : Nat} {l : List (List Int)} (hl : ∀ r ∈ l, Ltr p n r) (hj : j < n) : (l.filter nz).filter (hot j) = l.filter (hot j) := by
  rw [List.filter_filter]
  refine List.filter_congr fun r hr => ?_
  cases h : hot j r with
  | false => rfl
  | true => rw [nz_hot (hl r hr).1 hj h] <;> rfl
theorem filter_first {j : Nat} {l : List (List Int)} {r : List Int} {t : List (List Int)} (h : l.filter (hot j) = r :: t) : ∃ a b, l = a ++ r :: b ∧ hot j r = true ∧ ∀ u ∈ a, hot j u = false := by
  induction l with
  | nil => cases h
  | cons x l ih =>
    rw [List.filter_cons] at h
    cases e : hot j x with
    | true =>
      rw [if_pos e] at h
      cases h
      exact ⟨[], l, rfl, e, fun u hu => nomatch hu⟩
    | false =>
      rw [if_neg (by rw [e]; decide)] at h
      obtain ⟨a, b, e1, e2, e3⟩ := ih h
      refine ⟨x :: a, b, by rw [e1]; rfl, e2, fun u hu => ?_⟩
      rcases List.mem_cons.mp hu with h | h
      · rw [h]
        exact e
      · exact e3 u h
/-- clearing and dropping, and dropping first -/
theorem clr_filter {p : Int} {n j : Nat} {lead : List Int} (hp : 0 < p) (hl : lead.length = n) : ∀ {l : List (List Int)}, (∀ r ∈ l, Ltr p n r) → ((l.filter nz).map (clr p lead j)).filter nz = (l.map fun t => less p t (at0 t j) lead).filter nz
  | [], _ => rfl
  | r :: l, h => by
    have hr := h r (List.mem_cons_self)
    have ih := clr_filter (j := j) hp hl (l := l) fun u hu => h u (List.mem_cons_of_mem _ hu)
    rw [List.filter_cons, List.map_cons, List.filter_cons, ← clr_less (j := j) hr hl]
    cases e : nz r with
    | true =>
      rw [if_pos rfl, List.map_cons, List.filter_cons, ih]
    | false =>
      rw [if_neg (by decide), ih]
      have z := nz_false (p := p) hr.1 e
      have c : clr p lead j r = r := by
        unfold clr
        rw [if_neg]
        rw [z, zer_at]
        decide
      rw [c, e, if_neg (by decide)]
theorem map_clr {p : Int} {n j : Nat} {lead : List Int} (hl : lead.length = n) {l : List (List Int)} (h : ∀ r ∈ l, Ltr p n r) : l.map (clr p lead j) = l.map fun t => less p t (at0 t j) lead :=
  List.map_congr_left fun r hr => clr_less (h r hr) hl
theorem less_mid {p : Int} {n j : Nat} {a b : List (List Int)} {r : List Int} (hp : p ∈ primes) (hr : Ltr p n r) (hj : j < n) (h : hot j r = true) :
    ((a ++ r :: b).map fun t => less p t (at0 t j) (led p r j)).filter nz = ((a ++ b).map fun t => less p t (at0 t j) (led p r j)).filter nz := by
  rw [List.map_append, List.map_append, List.map_cons, List.filter_append, List.filter_append, List.filter_cons, less_self hp hr hj h, nz_zer, if_neg (by decide)]
/-- what the program does at a column is what the law does -/
theorem sim {p : Int} {n j : Nat} {rows : List (List Int)} {s : List (List Int) × List (List Int)} {pv : List Nat} (hp : p ∈ primes) (hj : j < n) (I : Iv p n rows j s pv) :
    ((s.1.filter nz).filter (hot j) = [] → stp p j s = s) ∧ ∀ r t, (s.1.filter nz).filter (hot j) = r :: t → Ltr p n r ∧ hot j r = true ∧
      (((s.1.filter nz).map (clr p (led p r j) j)).filter nz = (stp p j s).1.filter nz) ∧ s.2.map (clr p (led p r j) j) ++ [led p r j] = (stp p j s).2 := by
  rw [filter_hot_nz I.left hj]
  refine ⟨fun e => stp_none fun t ht => ?_, fun r t e => ?_⟩
  · have := List.filter_eq_nil_iff.mp e t ht
    simpa using this
  · obtain ⟨a, b, e1, e2, e3⟩ := filter_first e
    obtain ⟨l, d⟩ := s
    simp only at e1
    subst e1
    have hr : Ltr p n r := I.left r (List.mem_append.mpr (.inr (List.mem_cons_self)))
    have hl : (led p r j).length = n := led_len hr.1
    refine ⟨hr, e2, ?_, ?_⟩
    · rw [clr_filter (prime_pos hp) hl I.left, less_mid hp hr hj e2, stp_some e2 e3]
    · rw [map_clr hl I.done, stp_some e2 e3]
theorem run_stay {p : Int} {rows : List (List Int)} {j : Nat} (h : ∀ t ∈ (run p rows j).1, ∀ i, hot i t = false) : ∀ m, run p rows (j + m) = run p rows j
  | 0 => rfl
  | m + 1 => by
    show stp p (j + m) (run p rows (j + m)) = _
    rw [run_stay h m]
    exact stp_none fun t ht => h t ht _
theorem zer_hot {n i : Nat} : hot i (zer n) = false := by
  unfold hot
  rw [zer_at]
  decide
/-- nothing left: the rest of the columns change nothing -/
theorem run_end {p : Int} {n j : Nat} {rows : List (List Int)} {pv : List Nat} (I : Iv p n rows j (run p rows j) pv) (hj : j ≤ n) (h : (run p rows j).1.filter nz = []) : (run p rows n).2 = (run p rows j).2 := by
  have st := run_stay (p := p) (rows := rows) (j := j) (fun t ht i => by
    have h1 := List.filter_eq_nil_iff.mp h t ht
    rw [nz_false (p := p) (I.left t ht).1 (by simpa using h1)]
    exact zer_hot) (n - j)
  rw [show j + (n - j) = n by omega] at st
  rw [st]
/-- something left: there is a column -/
theorem run_more {p : Int} {n j : Nat} {rows : List (List Int)} {s : List (List Int) × List (List Int)} {pv : List Nat} (I : Iv p n rows j s pv) (h : s.1.filter nz ≠ []) : j < n := by
  obtain ⟨r, t, e⟩ := List.exists_cons_of_ne_nil h
  have hm : r ∈ s.1.filter nz := by rw [e]; exact List.mem_cons_self
  obtain ⟨h1, h2⟩ := List.mem_filter.mp hm
  have hr := I.left r h1
  rcases Nat.lt_or_ge j n with q | q
  · exact q
  · exfalso
    unfold nz at h2
    rw [List.any_eq_true] at h2
    obtain ⟨x, hx, ne⟩ := h2
    obtain ⟨k, hk, rfl⟩ := List.getElem_of_mem hx
    rw [← at0_lt hk, I.low r h1 k (by have := hr.1; omega)] at ne
    cases ne
theorem run_nil {p : Int} {n : Nat} {rows : List (List Int)} (hp : p ∈ primes) (h : ∀ r ∈ rows, Ltr p n r) : ∃ pv, Iv p n rows n (run p rows n) pv ∧ ∀ t ∈ (run p rows n).1, t = zer n := by
  obtain ⟨pv, I⟩ := iv_run hp h n (Nat.le_refl n)
  refine ⟨pv, I, fun t ht => row_ext (I.left t ht).1 zer_len fun k hk => ?_⟩
  rw [I.low t ht k hk, zer_at]
/-! ### how many sums there are -/
def cmb (p : Int) (n : Nat) : List (List Int) → List Int → List Int
  | r :: rs, c :: cs => addv p (cmb p n rs cs) c r
  | _, _ => zer n
theorem cmb_ltr {p : Int} {n : Nat} (hp : 0 < p) : ∀ {rs : List (List Int)} {cs : List Int}, (∀ r ∈ rs, Ltr p n r) → Ltr p n (cmb p n rs cs)
  | [], _, _ => by
    unfold cmb
    exact zer_ltr hp
  | r :: rs, [], _ => by
    unfold cmb
    exact zer_ltr hp
  | r :: rs, c :: cs, h => addv_ltr hp (cmb_ltr hp fun u hu => h u (List.mem_cons_of_mem _ hu)).1 (h r (List.mem_cons_self)).1
theorem cmb_span {p : Int} {n : Nat} {R : List (List Int)} : ∀ {rs : List (List Int)} {cs : List Int}, (∀ r ∈ rs, Span p n R r) → Span p n R (cmb p n rs cs)
  | [], _, _ => by
    unfold cmb
    exact span_lin.1
  | r :: rs, [], _ => by
    unfold cmb
    exact span_lin.1
  | r :: rs, c :: cs, h => span_lin.2 _ _ _ (cmb_span fun u hu => h u (List.mem_cons_of_mem _ hu)) (h r (List.mem_cons_self))
/-- the sum at a place -/
def csum (k : Nat) : List (List Int) → List Int → Int
  | r :: rs, c :: cs => csum k rs cs + c * at0 r k
  | _, _ => 0
theorem cmb_at {p : Int} {n k : Nat} (hp : 0 < p) (hk : k < n) : ∀ {rs : List (List Int)} {cs : List Int}, (∀ r ∈ rs, Ltr p n r) → Cg p (at0 (cmb p n rs cs) k) (csum k rs cs)
  | [], _, _ => by
    unfold cmb csum
    rw [zer_at]
    exact Cg.rfl'
  | r :: rs, [], _ => by
    unfold cmb csum
    rw [zer_at]
    exact Cg.rfl'
  | r :: rs, c :: cs, h => by
    have ih := cmb_at hp hk (rs := rs) (cs := cs) fun u hu => h u (List.mem_cons_of_mem _ hu)
    have l1 := (cmb_ltr (p := p) (n := n) (cs := cs) hp fun u hu => h u (List.mem_cons_of_mem _ hu)).1
    show Cg p (at0 (addv p (cmb p n rs cs) c r) k) (csum k rs cs + c * at0 r k)
    rw [addv_at l1 (h r (List.mem_cons_self)).1 hk]
    exact (Cg.fm _).trans (ih.add Cg.rfl')
/-- rows with a 1 at an own place, and noughts at the others' -/
structure Piv (p : Int) (n : Nat) (rs : List (List Int)) (pv : List Nat) : Prop where
  ltr : ∀ r ∈ rs, Ltr p n r
  len : pv.length = rs.length
  plt : ∀ c ∈ pv, c < n
  one : ∀ (i l : Nat) (r : List Int) (c : Nat), rs[i]? = some r → pv[l]? = some c → at0 r c = if i = l then 1 else 0
theorem Piv.tail {p : Int} {n : Nat} {r : List Int} {rs : List (List Int)} {c : Nat} {pv : List Nat} (P : Piv p n (r :: rs) (c :: pv)) : Piv p n rs pv where
  ltr := fun u hu => P.ltr u (List.mem_cons_of_mem _ hu)
  len := Nat.succ.inj P.len
  plt := fun u hu => P.plt u (List.mem_cons_of_mem _ hu)
  one := fun i l u d hi hl => by
    have := P.one (i + 1) (l + 1) u d hi hl
    rw [this]
    by_cases z : i = l
    · rw [if_pos z, if_pos (by omega)]
    · rw [if_neg z, if_neg (by omega)]
theorem csum_zero {k : Nat} : ∀ {rs : List (List Int)} {cs : List Int}, (∀ r ∈ rs, at0 r k = 0) → csum k rs cs = 0
  | [], _, _ => by
    unfold csum
    rfl
  | r :: rs, [], _ => by
    unfold csum
    rfl
  | r :: rs, c :: cs, h => by
    unfold csum
    rw [csum_zero fun u hu => h u (List.mem_cons_of_mem _ hu), h r (List.mem_cons_self), Int.mul_zero]
    rfl
/-- at the own places stand the letters -/
theorem csum_piv {p : Int} {n : Nat} : ∀ {rs : List (List Int)} {pv : List Nat} {cs : List Int}, Piv p n rs pv → cs.length = rs.length → pv.map (fun c => csum c rs cs) = cs
  | [], pv, cs, P, h => by
    have h1 := List.eq_nil_of_length_eq_zero (h.trans rfl)
    have h2 := List.eq_nil_of_length_eq_zero (P.len.trans rfl)
    rw [h1, h2]
    rfl
  | r :: rs, pv, cs, P, h => by
    cases pv with
    | nil => exact absurd P.len (by simp)
    | cons c pv =>
      cases cs with
      | nil => exact absurd h (by simp)
      | cons d cs =>
        have ih := csum_piv P.tail (Nat.succ.inj h)
        rw [List.map_cons]
        have e0 : csum c (r :: rs) (d :: cs) = d := by
          show csum c rs cs + d * at0 r c = d
          rw [P.one 0 0 r c rfl rfl, if_pos rfl, Int.mul_one, csum_zero, Int.zero_add]
          intro u hu
          obtain ⟨i, hi⟩ := List.getElem?_of_mem hu
          rw [P.one (i + 1) 0 u c hi rfl, if_neg (by omega)]
        rw [e0]
        congr 1
        refine Eq.trans (List.map_congr_left fun e he => ?_) ih
        obtain ⟨l, hl⟩ := List.getElem?_of_mem he
        show csum e rs cs + d * at0 r e = csum e rs cs
        rw [P.one 0 (l + 1) r e rfl hl, if_neg (by omega), Int.mul_zero, Int.add_zero]
def pvs (pv : List Nat) (v : List Int) : List Int := pv.map fun c => at0 v c
/-- what the rows span, read by its own places -/
def Sv (p : Int) (n : Nat) (rs : List (List Int)) (pv : List Nat) (v : List Int) : Prop := Ltr p n v ∧ ∀ k, k < n → Cg p (at0 v k) (csum k rs (pvs pv v))
theorem csum_add {p c : Int} {n k : Nat} {u v : List Int} (hu : u.length = n) (hv : v.length = n) : ∀ {rs : List (List Int)} {pv : List Nat}, (∀ d ∈ pv, d < n) →
    Cg p (csum k rs (pvs pv (addv p u c v))) (csum k rs (pvs pv u) + c * csum k rs (pvs pv v))
  | [], pv, _ => by
    unfold csum
    rw [Int.mul_zero]
    exact Cg.rfl'
  | r :: rs, [], _ => by
    unfold pvs csum
    simp only [List.map_nil]
    rw [Int.mul_zero]
    exact Cg.rfl'
  | r :: rs, d :: pv, h => by
    have ih := csum_add (k := k) (c := c) (p := p) hu hv (rs := rs) (pv := pv) fun e he => h e (List.mem_cons_of_mem _ he)
    show Cg p (csum k rs (pvs pv (addv p u c v)) + at0 (addv p u c v) d * at0 r k) ((csum k rs (pvs pv u) + at0 u d * at0 r k) + c * (csum k rs (pvs pv v) + at0 v d * at0 r k))
    rw [addv_at hu hv (h d (List.mem_cons_self))]
    have c1 := ih.add ((Cg.fm (p := p) (at0 u d + c * at0 v d)).mulr (at0 r k))
    rw [Int.add_mul] at c1
    rw [Int.mul_add, ← Int.mul_assoc]
    rw [show csum k rs (pvs pv u) + at0 u d * at0 r k + (c * csum k rs (pvs pv v) + c * at0 v d * at0 r k) = csum k rs (pvs pv u) + c * csum k rs (pvs pv v) + (at0 u d * at0 r k + c * at0 v d * at0 r k) by omega]
    exact c1
theorem pvs_zer {n : Nat} {pv : List Nat} : pvs pv (zer n) = pv.map fun _ => 0 := List.map_congr_left fun c _ => zer_at
theorem csum_zer {k : Nat} : ∀ {rs : List (List Int)} {pv : List Nat}, csum k rs (pv.map fun _ => 0) = 0
  | [], _ => by
    unfold csum
    rfl
  | r :: rs, [] => by
    show csum k (r :: rs) [] = 0
    unfold csum
    rfl
  | r :: rs, d :: pv => by
    show csum k rs (pv.map fun _ => 0) + 0 * at0 r k = 0
    rw [csum_zer, Int.zero_mul]
    rfl
theorem sv_lin {p : Int} {n : Nat} {rs : List (List Int)} {pv : List Nat} (hp : 0 < p) (h : ∀ d ∈ pv, d < n) : Lin p n (Sv p n rs pv) := by
  refine ⟨⟨zer_ltr hp, fun k hk => ?_⟩, fun u r c hu hr => ⟨addv_ltr hp hu.1.1 hr.1.1, fun k hk => ?_⟩⟩
  · rw [zer_at, pvs_zer, csum_zer]
    exact Cg.rfl'
  · rw [addv_at hu.1.1 hr.1.1 hk]
    exact (Cg.fm _).trans (((hu.2 k hk).add ((hr.2 k hk).mul c)).trans (csum_add hu.1.1 hr.1.1 h).symm)
theorem sv_of {p : Int} {n : Nat} {rs : List (List Int)} {pv : List Nat} (hp : 0 < p) (P : Piv p n rs pv) {cs : List Int} (hl : cs.length = rs.length) (hc : ∀ c ∈ cs, 0 ≤ c ∧ c < p) : pvs pv (cmb p n rs cs) = cs := by
  have e := csum_piv P hl
  refine Eq.trans (List.map_congr_left fun c hc2 => ?_) e
  have b : ∀ i ∈ cs, 0 ≤ i ∧ i < p := hc
  have m : csum c rs cs ∈ cs := by
    rw [← e]
    exact List.mem_map.mpr ⟨c, hc2, by rw [e]⟩
  exact Cg.eq (cmb_at hp (P.plt c hc2) P.ltr) ((cmb_ltr hp P.ltr).bd (P.plt c hc2)) (b _ m)
theorem sv_back {p : Int} {n : Nat} {rs : List (List Int)} {pv : List Nat} (hp : 0 < p) (P : Piv p n rs pv) {v : List Int} (h : Sv p n rs pv v) : cmb p n rs (pvs pv v) = v :=
  row_ext (cmb_ltr hp P.ltr).1 h.1.1 fun k hk => Cg.eq ((cmb_at hp hk P.ltr).trans (h.2 k hk).symm) ((cmb_ltr hp P.ltr).bd hk) (h.1.bd hk)
end WU

set_option maxRecDepth 100000
set_option maxHeartbeats 4000000
namespace WU
open PySem PySem.Spec PyProof.Rows L2
theorem run_empty {p : Int} : ∀ j, run p [] j = ([], [])
  | 0 => rfl
  | j + 1 => by
    show stp p j (run p [] j) = _
    rw [run_empty j]
    exact stp_none fun t ht => nomatch ht
theorem red_run {p : Int} {n : Nat} {rows : List (List Int)} (h : ∀ r ∈ rows, Ltr p n r) : red p rows = (run p rows n).2 := by
  cases rows with
  | nil =>
    unfold red
    rw [run_empty, run_empty]
  | cons r t =>
    unfold red
    have : wid (r :: t) = n := (h r (List.mem_cons_self)).1
    rw [this]
/-- the reduced rows have own places, and span the same -/
theorem red_piv {p : Int} {n : Nat} {rows : List (List Int)} (hp : p ∈ primes) (h : ∀ r ∈ rows, Ltr p n r) : ∃ pv, Piv p n (red p rows) pv ∧ (∀ r ∈ red p rows, Span p n rows r) ∧ ∀ r ∈ rows, Span p n (red p rows) r := by
  obtain ⟨pv, I, hz⟩ := run_nil hp h
  rw [red_run h]
  refine ⟨pv, ⟨I.done, I.len, I.plt, I.one⟩, fun r hr => I.to r (.inr hr), fun r hr => ?_⟩
  refine span_sub (fun u hu => ?_) (I.of r hr)
  rcases List.mem_append.mp hu with q | q
  · rw [hz u q]
    exact span_lin.1
  · exact span_mem q
/-- the sums, row by row -/
def SpanR (p : Int) (n : Nat) : List (List Int) → List Int → Prop
  | [], v => v = zer n
  | r :: rs, v => ∃ u c, SpanR p n rs u ∧ 0 ≤ c ∧ c < p ∧ v = addv p u c r
theorem spanR_ltr {p : Int} {n : Nat} (hp : 0 < p) : ∀ {rs : List (List Int)} {v : List Int}, (∀ r ∈ rs, Ltr p n r) → SpanR p n rs v → Ltr p n v
  | [], v, _, h => by
    rw [show v = zer n from h]
    exact zer_ltr hp
  | r :: rs, v, hr, ⟨u, c, hu, _, _, e⟩ => by
    rw [e]
    exact addv_ltr hp (spanR_ltr hp (fun t ht => hr t (List.mem_cons_of_mem _ ht)) hu).1 (hr r (List.mem_cons_self)).1
theorem addv_zero {p : Int} {n : Nat} {u r : List Int} (hu : Ltr p n u) (hr : r.length = n) : addv p u 0 r = u := by
  refine row_ext (addv_len hu.1 hr) hu.1 fun k hk => ?_
  rw [addv_at hu.1 hr hk, Int.zero_mul, Int.add_zero]
  exact fm_id (hu.bd hk)
theorem addv_one {p : Int} {n : Nat} {r : List Int} (hr : Ltr p n r) : addv p (zer n) 1 r = r := by
  refine row_ext (addv_len zer_len hr.1) hr.1 fun k hk => ?_
  rw [addv_at zer_len hr.1 hk, zer_at, Int.one_mul, Int.zero_add]
  exact fm_id (hr.bd hk)
theorem addv_mix {p c d e : Int} {n : Nat} {u v r : List Int} (hp : 0 < p) (hu : u.length = n) (hv : v.length = n) (hr : r.length = n) :
    addv p (addv p u c r) d (addv p v e r) = addv p (addv p u d v) ((c + d * e).fmod p) r := by
  have l1 := addv_len (p := p) (c := c) hu hr
  have l2 := addv_len (p := p) (c := e) hv hr
  have l3 := addv_len (p := p) (c := d) hu hv
  refine row_ext (addv_len l1 l2) (addv_len l3 hr) fun k hk => ?_
  rw [addv_at l1 l2 hk, addv_at hu hr hk, addv_at hv hr hk, addv_at l3 hr hk, addv_at hu hv hk]
  refine Cg.fmod hp ?_
  have a1 := (Cg.fm (p := p) (at0 u k + c * at0 r k)).add ((Cg.fm (p := p) (at0 v k + e * at0 r k)).mul d)
  have a2 := (Cg.fm (p := p) (at0 u k + d * at0 v k)).add ((Cg.fm (p := p) (c + d * e)).mulr (at0 r k))
  refine a1.trans (Cg.trans ?_ a2.symm)
  have : at0 u k + c * at0 r k + d * (at0 v k + e * at0 r k) = at0 u k + d * at0 v k + (c + d * e) * at0 r k := by
    rw [Int.mul_add, Int.add_mul, Int.mul_assoc]
    omega
  rw [this]
  exact Cg.rfl'
theorem addv_fm {p c : Int} {n : Nat} {u r : List Int} (hp : 0 < p) (hu : u.length = n) (hr : r.length = n) : addv p u (c.fmod p) r = addv p u c r := by
  refine row_ext (addv_len hu hr) (addv_len hu hr) fun k hk => ?_
  rw [addv_at hu hr hk, addv_at hu hr hk]
  exact Cg.fmod hp (Cg.rfl'.add ((Cg.fm c).mulr _))
theorem spanR_zero {p : Int} {n : Nat} (hp : 0 < p) : ∀ {rs : List (List Int)}, (∀ r ∈ rs, Ltr p n r) → SpanR p n rs (zer n)
  | [], _ => rfl
  | r :: rs, h => ⟨zer n, 0, spanR_zero hp (fun t ht => h t (List.mem_cons_of_mem _ ht)), Int.le_refl _, hp, (addv_zero (zer_ltr hp) (h r (List.mem_cons_self)).1).symm⟩
theorem spanR_add {p : Int} {n : Nat} (hp : 0 < p) : ∀ {rs : List (List Int)}, (∀ r ∈ rs, Ltr p n r) → ∀ u v d, SpanR p n rs u → SpanR p n rs v → SpanR p n rs (addv p u d v)
  | [], _, u, v, d, hu, hv => by
    rw [show u = zer n from hu, show v = zer n from hv]
    show addv p (zer n) d (zer n) = zer n
    refine row_ext (addv_len zer_len zer_len) zer_len fun k hk => ?_
    rw [addv_at zer_len zer_len hk, zer_at, Int.mul_zero]
    exact fm_zero
  | r :: rs, h, u, v, d, ⟨u0, c, hu, c0, c1, eu⟩, ⟨v0, e, hv, e0, e1, ev⟩ => by
    have h2 : ∀ t ∈ rs, Ltr p n t := fun t ht => h t (List.mem_cons_of_mem _ ht)
    refine ⟨addv p u0 d v0, (c + d * e).fmod p, spanR_add hp h2 u0 v0 d hu hv, (fm_bd _ hp).1, (fm_bd _ hp).2, ?_⟩
    rw [eu, ev]
    exact addv_mix hp (spanR_ltr hp h2 hu).1 (spanR_ltr hp h2 hv).1 (h r (List.mem_cons_self)).1
theorem spanR_mem {p : Int} {n : Nat} (hp : 1 < p) : ∀ {rs : List (List Int)}, (∀ r ∈ rs, Ltr p n r) → ∀ r ∈ rs, SpanR p n rs r
  | [], _, _, h => nomatch h
  | t :: rs, h, r, hr => by
    have h2 : ∀ t ∈ rs, Ltr p n t := fun t ht => h t (List.mem_cons_of_mem _ ht)
    rcases List.mem_cons.mp hr with e | e
    · rw [e]
      exact ⟨zer n, 1, spanR_zero (by omega) h2, by omega, hp, (addv_one (h t (List.mem_cons_self))).symm⟩
    · exact ⟨r, 0, spanR_mem hp h2 r e, Int.le_refl _, by omega, (addv_zero (h2 r e) (h t (List.mem_cons_self)).1).symm⟩
theorem spanR_span {p : Int} {n : Nat} : ∀ {rs : List (List Int)} {v : List Int}, SpanR p n rs v → Span p n rs v
  | [], v, h => by
    rw [show v = zer n from h]
    exact span_lin.1
  | r :: rs, v, ⟨u, c, hu, _, _, e⟩ => by
    rw [e]
    exact span_lin.2 _ _ _ (span_sub (fun t ht => span_mem (List.mem_cons_of_mem _ ht)) (spanR_span hu)) (span_mem (List.mem_cons_self))
/-- all rows of m letters -/
def allc (p : Nat) : Nat → List (List Int)
  | 0 => [[]]
  | m + 1 => (List.range p).flatMap fun (c : Nat) => (allc p m).map fun t => (c : Int) :: t
theorem allc_mem {p : Nat} : ∀ {m : Nat} {cs : List Int}, cs ∈ allc p m ↔ cs.length = m ∧ ∀ c ∈ cs, 0 ≤ c ∧ c < (p : Int)
  | 0, cs => by
    show cs ∈ [[]] ↔ _
    rw [List.mem_singleton]
    constructor
    · rintro rfl
      exact ⟨rfl, fun c hc => nomatch hc⟩
    · rintro ⟨h, _⟩
      exact List.eq_nil_of_length_eq_zero h
  | m + 1, cs => by
    show cs ∈ (List.range p).flatMap _ ↔ _
    rw [List.mem_flatMap]
    constructor
    · rintro ⟨c, hc, h⟩
      obtain ⟨t, ht, rfl⟩ := List.mem_map.mp h
      obtain ⟨h1, h2⟩ := allc_mem.mp ht
      have := List.mem_range.mp hc
      refine ⟨by rw [List.length_cons, h1], fun d hd => ?_⟩
      rcases List.mem_cons.mp hd with e | e
      · rw [e]
        omega
      · exact h2 d e
    · rintro ⟨h1, h2⟩
      cases cs with
      | nil => cases h1
      | cons c t =>
        have b := h2 c (List.mem_cons_self)
        refine ⟨c.toNat, List.mem_range.mpr (by omega), List.mem_map.mpr ⟨t, allc_mem.mpr ⟨Nat.succ.inj h1, fun d hd => h2 d (List.mem_cons_of_mem _ hd)⟩, ?_⟩⟩
        rw [show ((c.toNat : Nat) : Int) = c by omega]
theorem allc_len {p : Nat} : ∀ m : Nat, (allc p m).length = p ^ m
  | 0 => rfl
  | m + 1 => by
    show ((List.range p).flatMap _).length = _
    rw [List.length_flatMap]
    have : (List.range p).map (fun (c : Nat) => ((allc p m).map fun t => (c : Int) :: t).length) = (List.range p).map fun _ => p ^ m := List.map_congr_left fun c _ => by rw [List.length_map, allc_len m]
    rw [this, List.map_const', List.length_range, List.sum_replicate_nat, Nat.pow_succ, Nat.mul_comm]
theorem nodup_map' {α β : Type} {f : α → β} : ∀ {l : List α}, (∀ a ∈ l, ∀ b ∈ l, f a = f b → a = b) → l.Nodup → (l.map f).Nodup
  | [], _, _ => by simp
  | x :: l, hi, h => by
    rw [List.map_cons, List.nodup_cons]
    rw [List.nodup_cons] at h
    refine ⟨fun hm => ?_, nodup_map' (fun a ha b hb => hi a (List.mem_cons_of_mem _ ha) b (List.mem_cons_of_mem _ hb)) h.2⟩
    obtain ⟨y, hy, e⟩ := List.mem_map.mp hm
    rw [hi y (List.mem_cons_of_mem _ hy) x (List.mem_cons_self) e] at hy
    exact h.1 hy
theorem nodup_flat {α : Type} {f : Nat → List α} : ∀ {l : List Nat}, l.Nodup → (∀ a ∈ l, (f a).Nodup) → (∀ a ∈ l, ∀ b ∈ l, a ≠ b → ∀ x ∈ f a, x ∉ f b) → (l.flatMap f).Nodup
  | [], _, _, _ => by simp
  | x :: l, h, h1, h2 => by
    rw [List.flatMap_cons, List.nodup_append]
    rw [List.nodup_cons] at h
    refine ⟨h1 x (List.mem_cons_self), nodup_flat h.2 (fun a ha => h1 a (List.mem_cons_of_mem _ ha)) (fun a ha b hb => h2 a (List.mem_cons_of_mem _ ha) b (List.mem_cons_of_mem _ hb)), fun a ha b hb e => ?_⟩
    subst e
    obtain ⟨y, hy, hb⟩ := List.mem_flatMap.mp hb
    exact h2 x (List.mem_cons_self) y (List.mem_cons_of_mem _ hy) (fun z => h.1 (z ▸ hy)) a ha hb
theorem allc_nodup {p : Nat} : ∀ m : Nat, (allc p m).Nodup
  | 0 => by
    show ([[]] : List (List Int)).Nodup
    simp
  | m + 1 => by
    refine nodup_flat List.nodup_range (fun c _ => nodup_map' (fun a _ b _ e => (List.cons.inj e).2) (allc_nodup m)) fun a _ b _ ne x hx hb => ?_
    obtain ⟨t, _, rfl⟩ := List.mem_map.mp hx
    obtain ⟨u, _, e⟩ := List.mem_map.mp hb
    exact ne (Int.ofNat.inj (List.cons.inj e).1).symm
theorem nodup_len {α : Type} [DecidableEq α] {l m : List α} (hl : l.Nodup) (hm : m.Nodup) (h : ∀ x, x ∈ l ↔ x ∈ m) : l.length = m.length :=
  ((List.perm_ext_iff_of_nodup hl hm).mpr h).length_eq
/-- as many sums as letters' rows as long as the rank -/
theorem count_sums {p : Int} {n : Nat} {rows : List (List Int)} (hp : p ∈ primes) (h : ∀ r ∈ rows, Ltr p n r) {keys : List (List Int)} (hn : keys.Nodup) (hk : ∀ v, v ∈ keys ↔ SpanR p n rows.reverse v) :
    keys.length = p.toNat ^ (red p rows).length := by
  have p0 := prime_pos hp
  have p1 := fld_le hp
  obtain ⟨pv, P, h1, h2⟩ := red_piv hp h
  have hrev : ∀ r ∈ rows.reverse, Ltr p n r := fun r hr => h r (List.mem_reverse.mp hr)
  have ep : ((p.toNat : Nat) : Int) = p := by omega
  rw [← allc_len]
  refine Eq.trans ?_ (List.length_map (as := allc p.toNat (red p rows).length) (cmb p n (red p rows)))
  refine nodup_len hn (nodup_map' (fun a ha b hb e => ?_) (allc_nodup _)) fun v => ?_
  · obtain ⟨a1, a2⟩ := allc_mem.mp ha
    obtain ⟨b1, b2⟩ := allc_mem.mp hb
    rw [ep] at a2 b2
    rw [← sv_of p0 P a1 a2, ← sv_of p0 P b1 b2, e]
  · rw [hk, List.mem_map]
    constructor
    · intro hv
      have sp := span_sub (rows' := red p rows) (fun r hr => h2 r (List.mem_reverse.mp hr)) (spanR_span hv)
      have svm : ∀ r ∈ red p rows, Sv p n (red p rows) pv r := by
        intro r hr
        refine ⟨P.ltr r hr, fun k hk2 => ?_⟩
        -- a reduced row is its own sum
        obtain ⟨i, hi⟩ := List.getElem?_of_mem hr
        have hil : i < (red p rows).length := (List.getElem?_eq_some_iff.mp hi).1
        have e : pvs pv r = (List.range (red p rows).length).map fun l => if i = l then 1 else 0 := by
          refine List.ext_getElem (by unfold pvs; rw [List.length_map, List.length_map, List.length_range, P.len]) fun l g1 g2 => ?_
          unfold pvs at g1 ⊢
          rw [List.length_map] at g1
          rw [List.getElem_map, List.getElem_map, List.getElem_range]
          exact P.one i l r _ hi (List.getElem?_eq_getElem g1)
        have key : ∀ (rs : List (List Int)) (i : Nat) (r : List Int), rs[i]? = some r → csum k rs ((List.range rs.length).map fun l => if i = l then 1 else 0) = at0 r k := by
          intro rs
          induction rs with
          | nil => intro i r hi; cases hi
          | cons t rs ih =>
            intro i r hi
            rw [List.length_cons, List.range_succ_eq_map, List.map_cons, List.map_map]
            show csum k rs ((List.range rs.length).map fun l => if i = l + 1 then 1 else 0) + (if i = 0 then 1 else 0) * at0 t k = at0 r k
            cases i with
            | zero =>
              cases hi
              rw [if_pos rfl, Int.one_mul]
              have z : ∀ (m : Nat) (rs : List (List Int)), csum k rs ((List.range m).map fun l => if 0 = l + 1 then (1 : Int) else 0) = 0 := by
                intro m rs
                have : ((List.range m).map fun l => if 0 = l + 1 then (1 : Int) else 0) = (List.range m).map fun _ => 0 := List.map_congr_left fun l _ => if_neg (by omega)
                rw [this]
                have q := csum_zer (k := k) (rs := rs) (pv := List.range m)
                exact q
              rw [z, Int.zero_add]
            | succ i =>
              rw [if_neg (by omega), Int.zero_mul, Int.add_zero]
              have : ((List.range rs.length).map fun l => if i + 1 = l + 1 then (1 : Int) else 0) = (List.range rs.length).map fun l => if i = l then 1 else 0 := List.map_congr_left fun l _ => by
                by_cases z : i = l
                · rw [if_pos z, if_pos (by omega)]
                · rw [if_neg z, if_neg (by omega)]
              rw [this]
              exact ih i r hi
        rw [e, key _ i r hi]
        exact Cg.rfl'
      have sv := sp _ (sv_lin p0 P.plt) svm
      refine ⟨pvs pv v, allc_mem.mpr ⟨by unfold pvs; rw [List.length_map, P.len], fun c hc => ?_⟩, sv_back p0 P sv⟩
      unfold pvs at hc
      obtain ⟨d, hd, rfl⟩ := List.mem_map.mp hc
      rw [ep]
      exact sv.1.bd (P.plt d hd)
    · rintro ⟨cs, _, rfl⟩
      have := cmb_span (p := p) (n := n) (cs := cs) h1
      exact this _ ⟨spanR_zero p0 hrev, fun u r c hu hr => spanR_add p0 hrev u r c hu hr⟩ fun r hr => spanR_mem (by omega) hrev r (List.mem_reverse.mpr hr)
end WU

set_option maxRecDepth 100000
set_option maxHeartbeats 8000000
namespace WU
open PySem PySem.Spec PyProof.Rows L2
/-! ### the rules whose readings name the written part, with K told (for use within the blocks of comprehensions) -/
section
variable {X : Cx} {K : PySem.W.Frag}
theorem ix_tupK (hK : X.K = K := by rfl) : IxR X (rIxT K) := hK ▸ ix_tup
theorem ix_listK (hK : X.K = K := by rfl) : IxR X (rIxL K) := hK ▸ ix_list
theorem cr_anyTK (hc : X.calm = true) (hK : X.K = K := by rfl) : CallR X (.builtin "any") (rAnyT K) := hK ▸ cr_anyT hc
theorem cr_allK (hc : X.calm = true) (hK : X.K = K := by rfl) : CallR X (.builtin "all") (rAll K) := hK ▸ cr_all hc
theorem cr_anyK (hc : X.calm = true) (hK : X.K = K := by rfl) : CallR X (.builtin "any") (rAny K) := hK ▸ cr_any hc
theorem cr_sumK (hc : X.calm = true) (hK : X.K = K := by rfl) : CallR X (.builtin "sum") (rSum K) := hK ▸ cr_sum hc
def rLenK (K : PySem.W.Frag) : List V → Hp → VK → Prop := fun xs H Q => ∃ p ys, xs = [.ref p] ∧ (SqL K H p ys ∨ SqT K H p ys) ∧ Q (.int ys.length) H
theorem len_seqK (hK : X.K = K := by rfl) : CallR X (.builtin "len") (rLenK K) := hK ▸ call_len_seq
def rListK (K : PySem.W.Frag) : List V → Hp → VK → Prop := fun xs H Q => ∃ p ys, xs = [.ref p] ∧ (SqL K H p ys ∨ SqT K H p ys) ∧ ∀ l, H l = none → Q (.ref l) (upd H l (.lst ys))
theorem list_ofK (hK : X.K = K := by rfl) : CallR X (.type "list") (rListK K) := hK ▸ call_list_of
def rTupK (K : PySem.W.Frag) : List V → Hp → VK → Prop := fun xs H Q => ∃ p ys, xs = [.ref p] ∧ ((SqL K H p ys ∧ ∀ l, H l = none → Q (.ref l) (upd H l (.tup ys))) ∨ (SqT K H p ys ∧ Q (.ref p) H))
theorem tup_ofK (hK : X.K = K := by rfl) : CallR X (.type "tuple") (rTupK K) := hK ▸ call_tuple_of
theorem isiK (hK : X.K = K := by rfl) : CallR X (.builtin "isinstance") (rIsi K) := hK ▸ call_isi
theorem sl_tupAK (hK : X.K = K := by rfl) : SlR X (rSlA K) := hK ▸ sl_tupA
theorem sl_listK (hK : X.K = K := by rfl) : SlR X (rSlL K) := hK ▸ sl_list
theorem op_catAK (hK : X.K = K := by rfl) : OpR X (binaryOp .Add) (rCatA K) := hK ▸ op_catA
theorem op_repAK (hK : X.K = K := by rfl) : OpR X (binaryOp .Mult) (rRepA K) := hK ▸ op_repA
theorem op_inK (hK : X.K = K := by rfl) : OpR X (compareOp .In) (rIn K false) := hK ▸ op_in_seq
theorem op_notInK (hK : X.K = K := by rfl) : OpR X (compareOp .NotIn) (rIn K true) := hK ▸ op_notIn_seq
theorem op_neDK (hu : X.A.units + 64 < cLine) (hK : X.K = K := by rfl) : OpR X (compareOp .NotEq) (rNeD K) := hK ▸ op_neD hu
theorem op_eqDK (hu : X.A.units + 64 < cLine) (hK : X.K = K := by rfl) : OpR X (compareOp .Eq) (rEqD K) := hK ▸ op_eqD hu
theorem pi_listK {tg l : Expr} {tl : TE} (hl : PE X l tl) (hK : X.K = K := by rfl) : PI X tg l (iList K tl) := hK ▸ pi_list hl
theorem pi_tupK {tg l : Expr} {tl : TE} (hl : PE X l tl) (hK : X.K = K := by rfl) : PI X tg l (iTup K tl) := hK ▸ pi_tup hl
theorem pi_seqK {tg l : Expr} {tl : TE} (hl : PE X l tl) (hK : X.K = K := by rfl) : PI X tg l (iSeq K tl) := hK ▸ pi_seq hl
theorem pg_tupK {es : List Expr} {k : Nat} {pos : Pos} {t : List V → L2.St → Hp → (L2.St → Hp → Prop) → Prop} {n : Nat} (h : PG X (.Tuple es k pos) (gTup X.K n t)) (hK : X.K = K := by rfl) : PG X (.Tuple es k pos) (gTup K n t) := hK ▸ h
theorem pe_bmK {o e : Expr} {es : List Expr} {to : TE} {t : TA} {name : Str} {apos cpos : Pos} {T id : String} {r : V → List V → Hp → VK → Prop} (h : PE X (.Call (.Attribute o name apos) (e :: es) [] cpos) (tBM X.K T r to t)) (hK : X.K = K := by rfl) :
    PE X (.Call (.Attribute o name apos) (e :: es) [] cpos) (tBM K T r to t) := hK ▸ h
theorem pe_fldK {e : Expr} {f : Str} {pos : Pos} {ta : TE} (he : PE X e ta) (hb : attributeBase e f X.env (eval e X.env) = eval e X.env) (hK : X.K = K := by rfl) : PE X (.Attribute e f pos) (tFld K ta f) := hK ▸ pe_fld he hb
end
end WU

set_option maxRecDepth 100000
set_option maxHeartbeats 4000000
namespace WU
open PySem PySem.Spec PyProof.Rows L2
/-- nothing ahead of its own place, the places rising -/
structure Ah (s : List (List Int)) (pv : List Nat) : Prop where
  ahead : ∀ (i : Nat) (r : List Int) (c : Nat), s[i]? = some r → pv[i]? = some c → ∀ k, k < c → at0 r k = 0
  inc : ∀ (i l c d : Nat), pv[i]? = some c → pv[l]? = some d → i < l → c < d
theorem ah_step {p : Int} {n j : Nat} {rows : List (List Int)} {s : List (List Int) × List (List Int)} {pv : List Nat} (hp : p ∈ primes) (hj : j < n) (I : Iv p n rows j s pv) (A : Ah s.2 pv) : ∃ pv', Iv p n rows (j + 1) (stp p j s) pv' ∧ Ah (stp p j s).2 pv' := by
  cases e : s.1.findIdx? (hot j) with
  | none =>
    have hs := stp_none (p := p) (List.findIdx?_eq_none_iff.mp e)
    obtain ⟨pv', I'⟩ := iv_step hp hj I
    refine ⟨pv, ?_, by rw [hs]; exact A⟩
    rw [hs] at I' ⊢
    exact ⟨I'.left, I'.done, I'.low, I.len, fun c hc => Nat.lt_succ_of_lt (I.plt c hc), I.one, I.to, I.of⟩
  | some k =>
    obtain ⟨a, r, b, ea, hk, hr, ha⟩ := find_hot e
    obtain ⟨l, d⟩ := s
    simp only at ea
    subst ea
    have hs := stp_some (p := p) (b := b) (d := d) hr ha
    obtain ⟨pv', I'⟩ := iv_step hp hj I
    rw [hs] at I' ⊢
    have hrm : r ∈ a ++ r :: b := List.mem_append.mpr (.inr (List.mem_cons_self))
    have hrL : Ltr p n r := I.left r hrm
    have hl : (led p r j).length = n := led_len hrL.1
    have l1 := led_one hp hrL hj hr
    have lpv : ∀ c, c < j → at0 (led p r j) c = 0 := fun c hc => by
      rw [led_at hrL.1 (by omega), I.low r hrm c hc, Int.mul_zero, fm_zero]
    have hpl := I.len
    simp only at hpl
    refine ⟨pv ++ [j], ⟨I'.left, I'.done, I'.low, ?_, ?_, ?_, I'.to, I'.of⟩, ?_, ?_⟩
    · rw [List.length_append, List.length_append, List.length_map, hpl]
      rfl
    · intro c hc
      rcases List.mem_append.mp hc with h | h
      · exact Nat.lt_succ_of_lt (I.plt c h)
      · rw [List.mem_singleton.mp h]
        exact Nat.lt_succ_self j
    · intro i m t c hi hm
      by_cases zi : i < d.length
      · rw [List.getElem?_append_left (by rw [List.length_map]; exact zi), List.getElem?_map] at hi
        obtain ⟨u, hu, rfl⟩ := Option.map_eq_some_iff.mp hi
        have hu2 := I.done u (List.mem_of_getElem? hu)
        by_cases zm : m < pv.length
        · rw [List.getElem?_append_left zm] at hm
          have hc := I.plt c (List.mem_of_getElem? hm)
          rw [less_at hu2.1 hl (by omega), lpv c hc, Int.mul_zero, Int.sub_zero, I.one i m u c hu hm]
          split
          · exact fm_one hp
          · exact fm_zero
        · have hm2 := (List.getElem?_eq_some_iff.mp hm).1
          rw [List.length_append] at hm2
          have em : m = pv.length := by
            have : m < pv.length + 1 := hm2
            omega
          rw [em, List.getElem?_append_right (Nat.le_refl _), Nat.sub_self] at hm
          cases hm
          rw [less_at hu2.1 hl hj, l1, Int.mul_one, Int.sub_self, fm_zero, if_neg (by omega)]
      · have hi2 := (List.getElem?_eq_some_iff.mp hi).1
        rw [List.length_append, List.length_map] at hi2
        have ei : i = d.length := by
          have : i < d.length + 1 := hi2
          omega
        rw [ei, List.getElem?_append_right (by rw [List.length_map]; exact Nat.le_refl _), List.length_map, Nat.sub_self] at hi
        cases hi
        by_cases zm : m < pv.length
        · rw [List.getElem?_append_left zm] at hm
          have hc := I.plt c (List.mem_of_getElem? hm)
          rw [lpv c hc, if_neg (by omega)]
        · have hm2 := (List.getElem?_eq_some_iff.mp hm).1
          rw [List.length_append] at hm2
          have em : m = pv.length := by
            have : m < pv.length + 1 := hm2
            omega
          rw [em, List.getElem?_append_right (Nat.le_refl _), Nat.sub_self] at hm
          cases hm
          rw [l1, if_pos (by omega)]
    · intro i t c hi hc k hk
      by_cases zi : i < d.length
      · rw [List.getElem?_append_left (by rw [List.length_map]; exact zi), List.getElem?_map] at hi
        obtain ⟨u, hu, rfl⟩ := Option.map_eq_some_iff.mp hi
        have hu2 := I.done u (List.mem_of_getElem? hu)
        rw [List.getElem?_append_left (by omega)] at hc
        have hcj := I.plt c (List.mem_of_getElem? hc)
        rw [less_at hu2.1 hl (by omega), lpv k (by omega), A.ahead i u c hu hc k hk, Int.mul_zero, Int.sub_zero, fm_zero]
      · have hi2 := (List.getElem?_eq_some_iff.mp hi).1
        rw [List.length_append, List.length_map] at hi2
        have ei : i = d.length := by
          have : i < d.length + 1 := hi2
          omega
        rw [ei, List.getElem?_append_right (by rw [List.length_map]; exact Nat.le_refl _), List.length_map, Nat.sub_self] at hi
        cases hi
        rw [ei, ← hpl, List.getElem?_append_right (Nat.le_refl _), Nat.sub_self] at hc
        cases hc
        exact lpv k hk
    · intro i m c f hi hm him
      have hm2 := (List.getElem?_eq_some_iff.mp hm).1
      rw [List.length_append] at hm2
      have hm3 : m < pv.length + 1 := hm2
      rw [List.getElem?_append_left (by omega)] at hi
      by_cases zm : m < pv.length
      · rw [List.getElem?_append_left zm] at hm
        exact A.inc i m c f hi hm him
      · have em : m = pv.length := by omega
        rw [em, List.getElem?_append_right (Nat.le_refl _), Nat.sub_self] at hm
        cases hm
        exact I.plt c (List.mem_of_getElem? hi)
theorem ah_run {p : Int} {n : Nat} {rows : List (List Int)} (hp : p ∈ primes) (h : ∀ r ∈ rows, Ltr p n r) : ∀ j, j ≤ n → ∃ pv, Iv p n rows j (run p rows j) pv ∧ Ah (run p rows j).2 pv
  | 0, _ => ⟨[], iv_zero h, ⟨fun i r c hi => (nomatch hi), fun i l c d hi => (nomatch hi)⟩⟩
  | j + 1, hj => by
    obtain ⟨pv, I, A⟩ := ah_run hp h j (by omega)
    exact ah_step hp (by omega) I A
/-- a reduced matrix -/
structure Rr (p : Int) (n : Nat) (rs : List (List Int)) (pv : List Nat) : Prop where
  piv : Piv p n rs pv
  ah : Ah rs pv
theorem red_rr {p : Int} {n : Nat} {rows : List (List Int)} (hp : p ∈ primes) (h : ∀ r ∈ rows, Ltr p n r) : ∃ pv, Rr p n (red p rows) pv ∧ (∀ r ∈ red p rows, Span p n rows r) ∧ ∀ r ∈ rows, Span p n (red p rows) r := by
  obtain ⟨pv, I, A⟩ := ah_run hp h n (Nat.le_refl n)
  rw [red_run h]
  have hz : ∀ t ∈ (run p rows n).1, t = zer n := fun t ht => row_ext (I.left t ht).1 zer_len fun k hk => by rw [I.low t ht k hk, zer_at]
  refine ⟨pv, ⟨⟨I.done, I.len, I.plt, I.one⟩, A⟩, fun r hr => I.to r (.inr hr), fun r hr => ?_⟩
  refine span_sub (fun u hu => ?_) (I.of r hr)
  rcases List.mem_append.mp hu with q | q
  · rw [hz u q]
    exact span_lin.1
  · exact span_mem q
/-- rows with own places: a row's own letters -/
theorem sv_row {p : Int} {n : Nat} {rs : List (List Int)} {pv : List Nat} (P : Piv p n rs pv) {r : List Int} (hr : r ∈ rs) : Sv p n rs pv r := by
  refine ⟨P.ltr r hr, fun k hk2 => ?_⟩
  obtain ⟨i, hi⟩ := List.getElem?_of_mem hr
  have e : pvs pv r = (List.range rs.length).map fun l => if i = l then 1 else 0 := by
    refine List.ext_getElem (by unfold pvs; rw [List.length_map, List.length_map, List.length_range, P.len]) fun l g1 g2 => ?_
    unfold pvs at g1 ⊢
    rw [List.length_map] at g1
    rw [List.getElem_map, List.getElem_map, List.getElem_range]
    exact P.one i l r _ hi (List.getElem?_eq_getElem g1)
  have key : ∀ (rs : List (List Int)) (i : Nat) (r : List Int), rs[i]? = some r → csum k rs ((List.range rs.length).map fun l => if i = l then 1 else 0) = at0 r k := by
    intro rs
    induction rs with
    | nil => intro i r hi; cases hi
    | cons t rs ih =>
      intro i r hi
      rw [List.length_cons, List.range_succ_eq_map, List.map_cons, List.map_map]
      show csum k rs ((List.range rs.length).map fun l => if i = l + 1 then 1 else 0) + (if i = 0 then 1 else 0) * at0 t k = at0 r k
      cases i with
      | zero =>
        cases hi
        rw [if_pos rfl, Int.one_mul]
        have : ((List.range rs.length).map fun l => if 0 = l + 1 then (1 : Int) else 0) = (List.range rs.length).map fun _ => 0 := List.map_congr_left fun l _ => if_neg (by omega)
        rw [this]
        have q := csum_zer (k := k) (rs := rs) (pv := List.range rs.length)
        rw [q, Int.zero_add]
      | succ i =>
        rw [if_neg (by omega), Int.zero_mul, Int.add_zero]
        have : ((List.range rs.length).map fun l => if i + 1 = l + 1 then (1 : Int) else 0) = (List.range rs.length).map fun l => if i = l then 1 else 0 := List.map_congr_left fun l _ => by
          by_cases z : i = l
          · rw [if_pos z, if_pos (by omega)]
          · rw [if_neg z, if_neg (by omega)]
        rw [this]
        exact ih i r hi
  rw [e, key _ i r hi]
  exact Cg.rfl'
theorem sv_span {p : Int} {n : Nat} {rs : List (List Int)} {pv : List Nat} (hp : 0 < p) (P : Piv p n rs pv) {v : List Int} (h : Span p n rs v) : Sv p n rs pv v := h _ (sv_lin hp P.plt) fun r hr => sv_row P hr
/-- rising lists -/
def Inc (l : List Nat) : Prop := ∀ (i m c d : Nat), l[i]? = some c → l[m]? = some d → i < m → c < d
theorem Inc.tail {a : Nat} {l : List Nat} (h : Inc (a :: l)) : Inc l := fun i m c d hi hm him => h (i + 1) (m + 1) c d hi hm (by omega)
theorem Inc.head {a x : Nat} {l : List Nat} (h : Inc (a :: l)) (hx : x ∈ l) : a < x := by
  obtain ⟨i, hi⟩ := List.getElem?_of_mem hx
  exact h 0 (i + 1) a x rfl hi (by omega)
theorem sub_inc : ∀ {m l : List Nat}, Inc l → Inc m → (∀ x ∈ l, x ∈ m) → l.length ≤ m.length ∧ (l.length = m.length → l = m)
  | [], l, _, _, h => by
    cases l with
    | nil => exact ⟨Nat.le_refl _, fun _ => rfl⟩
    | cons a l => exact absurd (h a (List.mem_cons_self)) (by simp)
  | b :: m, [], _, _, _ => ⟨Nat.zero_le _, fun e => by cases e⟩
  | b :: m, a :: l, hl, hm, h => by
    by_cases e : a = b
    · subst e
      have := sub_inc (m := m) hl.tail hm.tail fun x hx => by
        rcases List.mem_cons.mp (h x (List.mem_cons_of_mem _ hx)) with q | q
        · exact absurd (hl.head hx) (by omega)
        · exact q
      refine ⟨by rw [List.length_cons, List.length_cons]; omega, fun q => ?_⟩
      rw [this.2 (Nat.succ.inj q)]
    · have ham : a ∈ m := by
        rcases List.mem_cons.mp (h a (List.mem_cons_self)) with q | q
        · exact absurd q e
        · exact q
      have hba := hm.head ham
      have := sub_inc (m := m) hl hm.tail fun x hx => by
        rcases List.mem_cons.mp (h x hx) with q | q
        · exfalso
          rcases List.mem_cons.mp hx with z | z
          · omega
          · have := hl.head z
            omega
        · exact q
      refine ⟨Nat.le_succ_of_le this.1, fun q => ?_⟩
      have q1 := this.1
      simp only [List.length_cons] at q q1
      omega
/-- a sum of products where all but some parts are 0 -/
theorem csum_null {k : Nat} : ∀ {rs : List (List Int)} {cs : List Int}, (∀ (i : Nat) (r : List Int) (c : Int), rs[i]? = some r → cs[i]? = some c → c = 0 ∨ at0 r k = 0) → csum k rs cs = 0
  | [], _, _ => by unfold csum; rfl
  | r :: rs, [], _ => by unfold csum; rfl
  | r :: rs, c :: cs, h => by
    unfold csum
    rw [csum_null fun i r c hr hc => h (i + 1) r c hr hc]
    rcases h 0 r c rfl rfl with e | e
    · rw [e, Int.zero_mul]
      rfl
    · rw [e, Int.mul_zero]
      rfl
/-- where a spanned row begins stands a lead -/
theorem lead_in {p : Int} {n c : Nat} {rs : List (List Int)} {pv : List Nat} {v : List Int} (hp : p ∈ primes) (R : Rr p n rs pv) (hv : Span p n rs v) (hc : c < n) (h0 : ∀ k, k < c → at0 v k = 0) (h1 : at0 v c = 1) : c ∈ pv := by
  by_cases hm : c ∈ pv
  · exact hm
  exfalso
  have p0 := prime_pos hp
  have p2 := fld_le hp
  have sv := sv_span p0 R.piv hv
  have := sv.2 c hc
  rw [h1, csum_null] at this
  · obtain ⟨t, e⟩ := this
    rw [Int.zero_add] at e
    have : p ∣ 1 := ⟨t, e⟩
    have := Int.le_of_dvd (by decide) this
    omega
  · intro i r d hr hd
    unfold pvs at hd
    rw [List.getElem?_map] at hd
    obtain ⟨x, hx, rfl⟩ := Option.map_eq_some_iff.mp hd
    rcases Nat.lt_trichotomy x c with q | q | q
    · exact .inl (h0 x q)
    · exact absurd (q ▸ List.mem_of_getElem? hx) hm
    · exact .inr (R.ah.ahead i r x hr hx c q)
theorem leads_sub {p : Int} {n : Nat} {rs rs' : List (List Int)} {pv pv' : List Nat} (hp : p ∈ primes) (R : Rr p n rs pv) (R' : Rr p n rs' pv') (h : ∀ r ∈ rs, Span p n rs' r) : ∀ c ∈ pv, c ∈ pv' := by
  intro c hc
  obtain ⟨i, hi⟩ := List.getElem?_of_mem hc
  have hil := (List.getElem?_eq_some_iff.mp hi).1
  rw [R.piv.len] at hil
  have hr : rs[i]? = some rs[i] := List.getElem?_eq_getElem hil
  refine lead_in hp R' (h _ (List.getElem_mem hil)) (R.piv.plt c hc) (R.ah.ahead i _ c hr hi) ?_
  rw [R.piv.one i i _ c hr hi, if_pos rfl]
/-- of as many rows, spanned: the same -/
theorem rr_len {p : Int} {n : Nat} {rs rs' : List (List Int)} {pv pv' : List Nat} (hp : p ∈ primes) (R : Rr p n rs pv) (R' : Rr p n rs' pv') (h : ∀ r ∈ rs, Span p n rs' r) : rs.length ≤ rs'.length ∧ (rs.length = rs'.length → rs = rs') := by
  have p0 := prime_pos hp
  have ss := sub_inc R.ah.inc R'.ah.inc (leads_sub hp R R' h)
  rw [R.piv.len, R'.piv.len] at ss
  refine ⟨ss.1, fun e => ?_⟩
  have ep := ss.2 e
  subst ep
  refine List.ext_getElem e fun i h1 h2 => ?_
  have g1 : rs[i]? = some rs[i] := List.getElem?_eq_getElem h1
  have g2 : rs'[i]? = some rs'[i] := List.getElem?_eq_getElem h2
  have q1 := sv_back p0 R'.piv (sv_span p0 R'.piv (h _ (List.getElem_mem h1)))
  have q2 := sv_back p0 R'.piv (sv_span p0 R'.piv (span_mem (List.getElem_mem h2)))
  rw [← q1, ← q2]
  congr 1
  refine List.map_congr_left fun c hc => ?_
  obtain ⟨l, hl⟩ := List.getElem?_of_mem hc
  rw [R.piv.one i l _ c g1 hl, R'.piv.one i l _ c g2 hl]
theorem rr_eq {p : Int} {n : Nat} {rs rs' : List (List Int)} {pv pv' : List Nat} (hp : p ∈ primes) (R : Rr p n rs pv) (R' : Rr p n rs' pv') (h : ∀ r ∈ rs, Span p n rs' r) (h' : ∀ r ∈ rs', Span p n rs r) : rs = rs' := by
  have a := rr_len hp R R' h
  have b := rr_len hp R' R h'
  exact a.2 (by omega)
/-- a further row that is spanned changes nothing; as many rows: it is spanned -/
theorem red_more {p : Int} {n : Nat} {rows : List (List Int)} {r : List Int} (hp : p ∈ primes) (h : ∀ t ∈ rows, Ltr p n t) (hr : Ltr p n r) : (Span p n rows r → red p (rows ++ [r]) = red p rows) ∧ ((red p (rows ++ [r])).length = (red p rows).length → Span p n rows r) := by
  have h2 : ∀ t ∈ rows ++ [r], Ltr p n t := fun t ht => by
    rcases List.mem_append.mp ht with q | q
    · exact h t q
    · rw [List.mem_singleton.mp q]
      exact hr
  obtain ⟨pv, R, a1, a2⟩ := red_rr hp h
  obtain ⟨pv2, R2, b1, b2⟩ := red_rr hp h2
  have up : ∀ t ∈ red p rows, Span p n (red p (rows ++ [r])) t := fun t ht => span_sub b2 (span_sub (fun u hu => span_mem (List.mem_append.mpr (.inl hu))) (a1 t ht))
  constructor
  · intro hs
    refine (rr_eq hp R R2 up fun t ht => ?_).symm
    refine span_sub a2 (span_sub (fun u hu => ?_) (b1 t ht))
    rcases List.mem_append.mp hu with q | q
    · exact span_mem q
    · rw [List.mem_singleton.mp q]
      exact hs
  · intro e
    have := (rr_len hp R R2 up).2 e.symm
    have hr2 := b2 r (List.mem_append.mpr (.inr (List.mem_singleton.mpr rfl)))
    rw [← this] at hr2
    exact span_sub a1 hr2
/-- reduced again it stays -/
theorem red_red {p : Int} {n : Nat} {rows : List (List Int)} (hp : p ∈ primes) (h : ∀ t ∈ rows, Ltr p n t) : red p (red p rows) = red p rows := by
  obtain ⟨pv, R, a1, a2⟩ := red_rr hp h
  obtain ⟨pv2, R2, b1, b2⟩ := red_rr hp R.piv.ltr
  exact rr_eq hp R2 R b1 b2
end WU

set_option maxRecDepth 100000
set_option maxHeartbeats 4000000
namespace WU
open PySem PySem.Spec PyProof.Rows L2
/-- the product of two rows, as far as m -/
def dotn : Nat → List Int → List Int → Int
  | 0, _, _ => 0
  | m + 1, x, v => dotn m x v + at0 x m * at0 v m
theorem dotn_congr {x y u v : List Int} : ∀ {m : Nat}, (∀ k, k < m → at0 x k * at0 u k = at0 y k * at0 v k) → dotn m x u = dotn m y v
  | 0, _ => rfl
  | m + 1, h => by
    unfold dotn
    rw [dotn_congr fun k hk => h k (by omega), h m (by omega)]
theorem dotn_comm {x u : List Int} (m : Nat) : dotn m x u = dotn m u x := dotn_congr fun k _ => Int.mul_comm _ _
theorem dotn_two {x u : List Int} {c d : Nat} {a b : Int} : ∀ {m : Nat}, (∀ k, k < m → at0 x k * at0 u k = (if k = c then a else 0) + (if k = d then b else 0)) → dotn m x u = (if c < m then a else 0) + (if d < m then b else 0)
  | 0, _ => by
    unfold dotn
    rw [if_neg (by omega), if_neg (by omega)]
    rfl
  | m + 1, h => by
    unfold dotn
    rw [dotn_two fun k hk => h k (by omega), h m (by omega)]
    by_cases e : c < m
    · rw [if_pos e, if_pos (show c < m + 1 by omega), if_neg (show ¬ m = c by omega)]
      by_cases f : d < m
      · rw [if_pos f, if_pos (show d < m + 1 by omega), if_neg (show ¬ m = d by omega)]
        omega
      · rw [if_neg f]
        by_cases g : m = d
        · rw [if_pos g, if_pos (show d < m + 1 by omega)]
          omega
        · rw [if_neg g, if_neg (show ¬ d < m + 1 by omega)]
          omega
    · rw [if_neg e]
      by_cases e2 : m = c
      · rw [if_pos e2, if_pos (show c < m + 1 by omega)]
        by_cases f : d < m
        · rw [if_pos f, if_pos (show d < m + 1 by omega), if_neg (show ¬ m = d by omega)]
          omega
        · rw [if_neg f]
          by_cases g : m = d
          · rw [if_pos g, if_pos (show d < m + 1 by omega)]
            omega
          · rw [if_neg g, if_neg (show ¬ d < m + 1 by omega)]
            omega
      · rw [if_neg e2, if_neg (show ¬ c < m + 1 by omega)]
        by_cases f : d < m
        · rw [if_pos f, if_pos (show d < m + 1 by omega), if_neg (show ¬ m = d by omega)]
          omega
        · rw [if_neg f]
          by_cases g : m = d
          · rw [if_pos g, if_pos (show d < m + 1 by omega)]
            omega
          · rw [if_neg g, if_neg (show ¬ d < m + 1 by omega)]
            omega
theorem dotn_one {x u : List Int} {c : Nat} {a : Int} {m : Nat} (h : ∀ k, k < m → at0 x k * at0 u k = if k = c then a else 0) : dotn m x u = if c < m then a else 0 := by
  have := dotn_two (x := x) (u := u) (c := c) (d := c) (a := a) (b := 0) (m := m) fun k hk => by
    rw [h k hk]
    split <;> omega
  rw [this]
  split <;> omega
theorem dotn_null {x u : List Int} {m : Nat} (h : ∀ k, k < m → at0 x k * at0 u k = 0) : dotn m x u = 0 := by
  have := dotn_one (x := x) (u := u) (c := 0) (a := 0) (m := m) fun k hk => by
    rw [h k hk]
    split <;> rfl
  rw [this]
  split <;> rfl
theorem dotn_addv {p c : Int} {n : Nat} {x u v : List Int} (hu : u.length = n) (hv : v.length = n) : ∀ {m : Nat}, m ≤ n → Cg p (dotn m x (addv p u c v)) (dotn m x u + c * dotn m x v)
  | 0, _ => by
    unfold dotn
    rw [Int.mul_zero]
    exact Cg.rfl'
  | m + 1, h => by
    unfold dotn
    rw [addv_at hu hv (by omega)]
    have c1 := (dotn_addv (p := p) (c := c) (x := x) hu hv (m := m) (by omega)).add ((Cg.fm (p := p) (at0 u m + c * at0 v m)).mul (at0 x m))
    have e : dotn m x u + c * dotn m x v + at0 x m * (at0 u m + c * at0 v m) = dotn m x u + at0 x m * at0 u m + c * (dotn m x v + at0 x m * at0 v m) := by
      rw [Int.mul_add, Int.mul_add, ← Int.mul_assoc, ← Int.mul_assoc, Int.mul_comm (at0 x m) c]
      omega
    rw [e] at c1
    exact c1
theorem dotn_zer {n m : Nat} {x : List Int} : dotn m x (zer n) = 0 := dotn_null fun k _ => by rw [zer_at, Int.mul_zero]
/-- rows to which the product with x is what stands at the last place -/
theorem phi_lin {p : Int} {m : Nat} {x : List Int} (hp : 0 < p) : Lin p (m + 1) fun v => Ltr p (m + 1) v ∧ Cg p (dotn m x v) (at0 v m) := by
  refine ⟨⟨zer_ltr hp, ?_⟩, fun u r c hu hr => ⟨addv_ltr hp hu.1.1 hr.1.1, ?_⟩⟩
  · rw [dotn_zer, zer_at]
    exact Cg.rfl'
  · have h1 := dotn_addv (p := p) (c := c) (x := x) hu.1.1 hr.1.1 (m := m) (by omega)
    refine h1.trans ((hu.2.add (hr.2.mul c)).trans ?_)
    rw [addv_at hu.1.1 hr.1.1 (by omega)]
    exact (Cg.fm _).symm
/-- rows to which the product with x is 0 -/
theorem ker_lin {p : Int} {n : Nat} {x : List Int} (hp : 0 < p) : Lin p n fun v => Ltr p n v ∧ Cg p (dotn n x v) 0 := by
  refine ⟨⟨zer_ltr hp, ?_⟩, fun u r c hu hr => ⟨addv_ltr hp hu.1.1 hr.1.1, ?_⟩⟩
  · rw [dotn_zer]
    exact Cg.rfl'
  · have h1 := dotn_addv (p := p) (c := c) (x := x) hu.1.1 hr.1.1 (m := n) (Nat.le_refl n)
    refine h1.trans ((hu.2.add (hr.2.mul c)).trans ?_)
    rw [Int.mul_zero]
    exact Cg.rfl'
/-- a column, and the equations -/
def colm (A : List (List Int)) (k : Nat) : List Int := A.map fun r => at0 r k
def eqn (A : List (List Int)) (b : List Int) (k : Nat) : List Int := colm A k ++ [at0 b k]
def eqs (A : List (List Int)) (b : List Int) (n : Nat) : List (List Int) := (List.range n).map (eqn A b)
theorem colm_len {A : List (List Int)} {k : Nat} : (colm A k).length = A.length := List.length_map _
theorem colm_at {A : List (List Int)} {k i : Nat} {r : List Int} (h : A[i]? = some r) : at0 (colm A k) i = at0 r k := by
  have hi := (List.getElem?_eq_some_iff.mp h).1
  have he := (List.getElem?_eq_some_iff.mp h).2
  rw [at0_lt (by rw [colm_len]; exact hi)]
  unfold colm
  rw [List.getElem_map, he]
theorem eqn_len {A : List (List Int)} {b : List Int} {k : Nat} : (eqn A b k).length = A.length + 1 := by
  unfold eqn
  rw [List.length_append, colm_len]
  rfl
theorem eqn_at {A : List (List Int)} {b : List Int} {k i : Nat} (h : i < A.length) : at0 (eqn A b k) i = at0 (colm A k) i := by
  unfold eqn at0
  rw [List.getD_eq_getElem?_getD, List.getElem?_append_left (by rw [colm_len]; exact h), ← List.getD_eq_getElem?_getD]
theorem eqn_last {A : List (List Int)} {b : List Int} {k : Nat} : at0 (eqn A b k) A.length = at0 b k := by
  unfold eqn at0
  rw [List.getD_eq_getElem?_getD, List.getElem?_append_right (by rw [colm_len]; exact Nat.le_refl _), colm_len, Nat.sub_self]
  rfl
theorem eqn_ltr {p : Int} {n : Nat} {A : List (List Int)} {b : List Int} {k : Nat} (hA : ∀ r ∈ A, Ltr p n r) (hb : Ltr p n b) (hk : k < n) : Ltr p (A.length + 1) (eqn A b k) := by
  refine ⟨eqn_len, fun x hx => ?_⟩
  unfold eqn colm at hx
  rcases List.mem_append.mp hx with q | q
  · obtain ⟨r, hr, rfl⟩ := List.mem_map.mp q
    exact (hA r hr).bd hk
  · rw [List.mem_singleton.mp q]
    exact hb.bd hk
theorem eqs_ltr {p : Int} {n : Nat} {A : List (List Int)} {b : List Int} (hA : ∀ r ∈ A, Ltr p n r) (hb : Ltr p n b) : ∀ r ∈ eqs A b n, Ltr p (A.length + 1) r := by
  intro r hr
  obtain ⟨k, hk, rfl⟩ := List.mem_map.mp hr
  exact eqn_ltr hA hb (List.mem_range.mp hk)
/-- x solves -/
def Slv (p : Int) (n : Nat) (A : List (List Int)) (b x : List Int) : Prop := ∀ k, k < n → Cg p (dotn A.length x (colm A k)) (at0 b k)
def addz (u : List Int) (c : Int) (v : List Int) : List Int := List.zipWith (fun a b => a + c * b) u v
theorem addz_at {c : Int} {m k : Nat} {u v : List Int} (hu : u.length = m) (hv : v.length = m) (hk : k < m) : at0 (addz u c v) k = at0 u k + c * at0 v k := by
  have hl : (addz u c v).length = m := by unfold addz; rw [List.length_zipWith, hu, hv, Nat.min_self]
  rw [at0_lt (by omega), at0_lt (r := u) (by omega), at0_lt (r := v) (by omega)]
  unfold addz
  rw [List.getElem_zipWith]
theorem dotn_addz {c : Int} {m : Nat} {u v y : List Int} (hu : u.length = m) (hv : v.length = m) : ∀ {t : Nat}, t ≤ m → dotn t (addz u c v) y = dotn t u y + c * dotn t v y
  | 0, _ => by
    unfold dotn
    rw [Int.mul_zero]
    rfl
  | t + 1, h => by
    unfold dotn
    rw [dotn_addz hu hv (by omega), addz_at hu hv (by omega), Int.add_mul, Int.mul_add, Int.mul_assoc]
    omega
def unt (m i : Nat) : List Int := (zer m).set i 1
theorem unt_len {m i : Nat} : (unt m i).length = m := by unfold unt; rw [List.length_set, zer_len]
theorem at0_set {l : List Int} {i k : Nat} {a : Int} (hi : i < l.length) : at0 (l.set i a) k = if k = i then a else at0 l k := by
  unfold at0
  rw [List.getD_eq_getElem?_getD, List.getElem?_set, List.getD_eq_getElem?_getD]
  by_cases e : i = k
  · rw [if_pos e, if_pos hi, if_pos e.symm]
    rfl
  · rw [if_neg e, if_neg (fun z => e z.symm)]
theorem unt_at {m i k : Nat} (hi : i < m) : at0 (unt m i) k = if k = i then 1 else 0 := by
  unfold unt
  rw [at0_set (by rw [zer_len]; exact hi), zer_at]
theorem slv_of {p : Int} {n : Nat} {A : List (List Int)} {b : List Int} (hp : 0 < p) (hA : ∀ r ∈ A, Ltr p n r) (h : Span p n A b) : ∃ x, x.length = A.length ∧ Slv p n A b x := by
  have : Ltr p n b ∧ ∃ x, x.length = A.length ∧ Slv p n A b x := by
    refine h (fun b => Ltr p n b ∧ ∃ x, x.length = A.length ∧ Slv p n A b x) ⟨⟨zer_ltr hp, zer A.length, zer_len, fun k hk => ?_⟩, ?_⟩ ?_
    · rw [dotn_comm, dotn_zer, zer_at]
      exact Cg.rfl'
    · rintro u r c ⟨hu, x, lx, hx⟩ ⟨hr, y, ly, hy⟩
      refine ⟨addv_ltr hp hu.1 hr.1, addz x c y, by unfold addz; rw [List.length_zipWith, lx, ly, Nat.min_self], fun k hk => ?_⟩
      rw [dotn_addz lx ly (Nat.le_refl _), addv_at hu.1 hr.1 hk]
      exact ((hx k hk).add ((hy k hk).mul c)).trans (Cg.fm _).symm
    · intro r hr
      obtain ⟨i, hi⟩ := List.getElem?_of_mem hr
      have hil := (List.getElem?_eq_some_iff.mp hi).1
      refine ⟨hA r hr, unt A.length i, unt_len, fun k hk => ?_⟩
      rw [dotn_one (c := i) (a := at0 r k), if_pos hil]
      · exact Cg.rfl'
      · intro k2 hk2
        rw [unt_at hil]
        by_cases e : k2 = i
        · rw [if_pos e, if_pos e, e, colm_at hi, Int.one_mul]
        · rw [if_neg e, if_neg e, Int.zero_mul]
  exact this.2
theorem slv_phi {p : Int} {n : Nat} {A : List (List Int)} {b x : List Int} (hA : ∀ r ∈ A, Ltr p n r) (hb : Ltr p n b) (h : Slv p n A b x) : ∀ v ∈ eqs A b n, Ltr p (A.length + 1) v ∧ Cg p (dotn A.length x v) (at0 v A.length) := by
  intro v hv
  refine ⟨eqs_ltr hA hb v hv, ?_⟩
  obtain ⟨k, hk, rfl⟩ := List.mem_map.mp hv
  rw [eqn_last, dotn_congr (v := colm A k) (y := x) fun i hi => by rw [eqn_at hi]]
  exact h k (List.mem_range.mp hk)
/-- spanned: no equation 0 = 1 -/
theorem cons_of {p : Int} {n : Nat} {A : List (List Int)} {b : List Int} {pv : List Nat} (hp : p ∈ primes) (hA : ∀ r ∈ A, Ltr p n r) (hb : Ltr p n b) (R : Rr p (A.length + 1) (red p (eqs A b n)) pv) (h : Span p n A b) : A.length ∉ pv := by
  intro hm
  have p0 := prime_pos hp
  have p2 := fld_le hp
  obtain ⟨x, lx, hx⟩ := slv_of p0 hA h
  obtain ⟨pv', R', a1, a2⟩ := red_rr hp (eqs_ltr hA hb)
  obtain ⟨i, hi⟩ := List.getElem?_of_mem hm
  have hil := (List.getElem?_eq_some_iff.mp hi).1
  rw [R.piv.len] at hil
  have hr : (red p (eqs A b n))[i]? = some (red p (eqs A b n))[i] := List.getElem?_eq_getElem hil
  have ph := (a1 _ (List.getElem_mem hil)) _ (phi_lin (x := x) p0) (slv_phi hA hb hx)
  have e1 := R.piv.one i i _ _ hr hi
  rw [if_pos rfl] at e1
  have e0 := R.ah.ahead i _ _ hr hi
  have z : dotn A.length x (red p (eqs A b n))[i] = 0 := dotn_null fun k hk => by rw [e0 k hk, Int.mul_zero]
  have := ph.2
  rw [z, e1] at this
  obtain ⟨t, e⟩ := this
  have : p ∣ 1 := ⟨-t, by rw [Int.mul_neg]; omega⟩
  have := Int.le_of_dvd (by decide) this
  omega
/-- values put at places, one behind the other -/
structure SetP (x0 : List Int) (pv : List Nat) (val : Nat → Int) (t : Nat) (x : List Int) : Prop where
  len : x.length = x0.length
  put : ∀ l c, l < t → pv[l]? = some c → at0 x c = val l
  old : ∀ k, (∀ l, l < t → pv[l]? ≠ some k) → at0 x k = at0 x0 k
theorem setP_zero {x0 : List Int} {pv : List Nat} {val : Nat → Int} : SetP x0 pv val 0 x0 := ⟨rfl, fun l c h => absurd h (by omega), fun _ _ => rfl⟩
theorem setP_step {x0 x : List Int} {pv : List Nat} {val : Nat → Int} {t c : Nat} (hi : Inc pv) (h : SetP x0 pv val t x) (hc : pv[t]? = some c) (hl : c < x0.length) : SetP x0 pv val (t + 1) (x.set c (val t)) := by
  have hl2 : c < x.length := by rw [h.len]; exact hl
  refine ⟨by rw [List.length_set, h.len], fun l d hlt hd => ?_, fun k hk => ?_⟩
  · rw [at0_set hl2]
    by_cases e : d = c
    · rw [if_pos e]
      subst e
      by_cases e2 : l = t
      · rw [e2]
      · have := hi l t d d hd hc (by omega)
        omega
    · rw [if_neg e]
      refine h.put l d ?_ hd
      by_cases e2 : l = t
      · rw [e2, hc] at hd
        exact absurd (Option.some.inj hd).symm e
      · omega
  · rw [at0_set hl2, if_neg (fun e => hk t (by omega) (by rw [e]; exact hc))]
    exact h.old k fun l hlt => hk l (by omega)
/-- the solution that is told -/
theorem sol_slv {p : Int} {n : Nat} {A : List (List Int)} {b x : List Int} {pv : List Nat} (hp : p ∈ primes) (hA : ∀ r ∈ A, Ltr p n r) (hb : Ltr p n b) (R : Rr p (A.length + 1) (red p (eqs A b n)) pv) (hm : A.length ∉ pv)
    (hx : SetP (zer A.length) pv (fun l => at0 ((red p (eqs A b n)).getD l []) A.length) (red p (eqs A b n)).length x) : Slv p n A b x ∧ Ltr p A.length x := by
  have p0 := prime_pos hp
  obtain ⟨pv', R', a1, a2⟩ := red_rr hp (eqs_ltr hA hb)
  have lt : ∀ (l c : Nat), pv[l]? = some c → l < (red p (eqs A b n)).length ∧ c < A.length := fun l c h => by
    have h1 := (List.getElem?_eq_some_iff.mp h).1
    have h2 := R.piv.plt c (List.mem_of_getElem? h)
    refine ⟨by rw [← R.piv.len]; exact h1, ?_⟩
    by_cases e : c = A.length
    · exact absurd (e ▸ List.mem_of_getElem? h) hm
    · omega
  have gd : ∀ (l : Nat) (h : l < (red p (eqs A b n)).length), (red p (eqs A b n)).getD l [] = (red p (eqs A b n))[l] := fun l h => by rw [List.getD_eq_getElem?_getD, List.getElem?_eq_getElem h]; rfl
  have ph : ∀ v ∈ red p (eqs A b n), Ltr p (A.length + 1) v ∧ Cg p (dotn A.length x v) (at0 v A.length) := by
    intro v hv
    refine ⟨R.piv.ltr v hv, ?_⟩
    obtain ⟨i, hi⟩ := List.getElem?_of_mem hv
    have hil := (List.getElem?_eq_some_iff.mp hi).1
    obtain ⟨c, hc⟩ : ∃ c, pv[i]? = some c := ⟨_, List.getElem?_eq_getElem (by rw [R.piv.len]; exact hil)⟩
    have hcm := (lt i c hc).2
    rw [dotn_one (c := c) (a := at0 v A.length), if_pos hcm]
    · exact Cg.rfl'
    · intro k hk
      by_cases e : k = c
      · rw [if_pos e, e, hx.put i c hil hc, R.piv.one i i v c hi hc, if_pos rfl, Int.mul_one]
        show at0 ((red p (eqs A b n)).getD i []) A.length = _
        rw [gd i hil]
        have := (List.getElem?_eq_some_iff.mp hi).2
        rw [this]
      · rw [if_neg e]
        by_cases hk2 : ∃ l : Nat, pv[l]? = some k
        · obtain ⟨l, hl⟩ := hk2
          rw [R.piv.one i l v k hi hl, if_neg (fun z => e (by rw [z, hl] at hc; exact Option.some.inj hc)), Int.mul_zero]
        · rw [hx.old k (fun l _ z => hk2 ⟨l, z⟩), zer_at, Int.zero_mul]
  constructor
  · intro k hk
    have hm2 : eqn A b k ∈ eqs A b n := List.mem_map.mpr ⟨k, List.mem_range.mpr hk, rfl⟩
    have := (a2 _ hm2) _ (phi_lin (x := x) p0) ph
    have q := this.2
    rw [eqn_last, dotn_congr (v := colm A k) (y := x) fun i hi => by rw [eqn_at hi]] at q
    exact q
  · refine ltr_of (by rw [hx.len, zer_len]) fun k hk => ?_
    by_cases hk2 : ∃ l : Nat, pv[l]? = some k
    · obtain ⟨l, hl⟩ := hk2
      have hl2 := (lt l k hl).1
      rw [hx.put l k hl2 hl]
      show 0 ≤ at0 ((red p (eqs A b n)).getD l []) A.length ∧ _
      rw [gd l hl2]
      exact (R.piv.ltr _ (List.getElem_mem hl2)).bd (by omega)
    · rw [hx.old k (fun l _ z => hk2 ⟨l, z⟩), zer_at]
      omega
/-- the rows times letters, added up -/
def lsum (p : Int) (n : Nat) (A : List (List Int)) (x : List Int) : Nat → List Int
  | 0 => zer n
  | t + 1 => addv p (lsum p n A x t) (at0 x t) (A.getD t [])
theorem lsum_at {p : Int} {n k : Nat} {A : List (List Int)} {x : List Int} (hp : 0 < p) (hA : ∀ r ∈ A, Ltr p n r) (hk : k < n) : ∀ t, t ≤ A.length → Ltr p n (lsum p n A x t) ∧ Cg p (at0 (lsum p n A x t) k) (dotn t x (colm A k))
  | 0, _ => ⟨zer_ltr hp, by
    show Cg p (at0 (zer n) k) 0
    rw [zer_at]
    exact Cg.rfl'⟩
  | t + 1, ht => by
    obtain ⟨i1, i2⟩ := lsum_at hp hA hk (x := x) t (by omega)
    have hr : A[t]? = some (A[t]'(by omega)) := List.getElem?_eq_getElem (by omega)
    have gd : A.getD t [] = A[t]'(by omega) := by rw [List.getD_eq_getElem?_getD, hr]; rfl
    have hrL := hA _ (List.getElem_mem (show t < A.length by omega))
    show Ltr p n (addv p (lsum p n A x t) (at0 x t) (A.getD t [])) ∧ Cg p (at0 (addv p (lsum p n A x t) (at0 x t) (A.getD t [])) k) (dotn t x (colm A k) + at0 x t * at0 (colm A k) t)
    rw [gd]
    refine ⟨addv_ltr hp i1.1 hrL.1, ?_⟩
    rw [addv_at i1.1 hrL.1 hk, colm_at hr]
    exact (Cg.fm _).trans (i2.add Cg.rfl')
theorem lsum_ltr {p : Int} {n : Nat} {A : List (List Int)} {x : List Int} (hp : 0 < p) (hA : ∀ r ∈ A, Ltr p n r) : ∀ t, t ≤ A.length → Ltr p n (lsum p n A x t)
  | 0, _ => zer_ltr hp
  | t + 1, ht => by
    have hr : A[t]? = some (A[t]'(by omega)) := List.getElem?_eq_getElem (by omega)
    have gd : A.getD t [] = A[t]'(by omega) := by rw [List.getD_eq_getElem?_getD, hr]; rfl
    show Ltr p n (addv p (lsum p n A x t) (at0 x t) (A.getD t []))
    rw [gd]
    exact addv_ltr hp (lsum_ltr hp hA t (by omega)).1 (hA _ (List.getElem_mem (show t < A.length by omega))).1
theorem lsum_span {p : Int} {n : Nat} {A : List (List Int)} {x : List Int} (hA : ∀ r ∈ A, Ltr p n r) : ∀ t, t ≤ A.length → Span p n A (lsum p n A x t)
  | 0, _ => span_lin.1
  | t + 1, ht => by
    have hr : A[t]? = some (A[t]'(by omega)) := List.getElem?_eq_getElem (by omega)
    have gd : A.getD t [] = A[t]'(by omega) := by rw [List.getD_eq_getElem?_getD, hr]; rfl
    show Span p n A (addv p (lsum p n A x t) (at0 x t) (A.getD t []))
    rw [gd]
    exact span_lin.2 _ _ _ (lsum_span hA t (by omega)) (span_mem (List.getElem_mem (show t < A.length by omega)))
theorem lsum_eq {p : Int} {n : Nat} {A : List (List Int)} {b x : List Int} (hp : 0 < p) (hA : ∀ r ∈ A, Ltr p n r) (hb : Ltr p n b) (h : Slv p n A b x) : lsum p n A x A.length = b := by
  have l := lsum_ltr (x := x) hp hA A.length (Nat.le_refl _)
  exact row_ext l.1 hb.1 fun k hk => Cg.eq ((lsum_at hp hA hk A.length (Nat.le_refl _)).2.trans (h k hk)) (l.bd hk) (hb.bd hk)
/-- not spanned: an equation 0 = 1 -/
theorem cons_not {p : Int} {n : Nat} {A : List (List Int)} {b : List Int} {pv : List Nat} (hp : p ∈ primes) (hA : ∀ r ∈ A, Ltr p n r) (hb : Ltr p n b) (R : Rr p (A.length + 1) (red p (eqs A b n)) pv) (h : ¬ Span p n A b) : A.length ∈ pv := by
  by_cases hm : A.length ∈ pv
  · exact hm
  exfalso
  have p0 := prime_pos hp
  -- the told solution is there
  have lt : ∀ (l c : Nat), pv[l]? = some c → c < A.length := fun l c h => by
    have h2 := R.piv.plt c (List.mem_of_getElem? h)
    by_cases e : c = A.length
    · exact absurd (e ▸ List.mem_of_getElem? h) hm
    · omega
  have ex : ∀ t, t ≤ pv.length → ∃ x, SetP (zer A.length) pv (fun l => at0 ((red p (eqs A b n)).getD l []) A.length) t x := by
    intro t
    induction t with
    | zero => exact fun _ => ⟨_, setP_zero⟩
    | succ t ih =>
      intro ht
      obtain ⟨x, hx⟩ := ih (by omega)
      have hc : pv[t]? = some (pv[t]'(by omega)) := List.getElem?_eq_getElem (by omega)
      exact ⟨_, setP_step R.ah.inc hx hc (by rw [zer_len]; exact lt t _ hc)⟩
  obtain ⟨x, hx⟩ := ex pv.length (Nat.le_refl _)
  rw [R.piv.len] at hx
  have s := sol_slv hp hA hb R hm hx
  exact h (by rw [← lsum_eq p0 hA hb s.1]; exact lsum_span hA _ (Nat.le_refl _))
end WU

set_option maxRecDepth 100000
set_option maxHeartbeats 4000000
namespace WU
open PySem PySem.Spec PyProof.Rows L2
/-- the places that are no leads -/
def free (n : Nat) (pv : List Nat) : List Nat := (List.range n).filter fun k => decide (k ∉ pv)
theorem free_mem {n : Nat} {pv : List Nat} {k : Nat} : k ∈ free n pv ↔ k < n ∧ k ∉ pv := by
  unfold free
  rw [List.mem_filter, List.mem_range]
  constructor
  · rintro ⟨a, b⟩
    exact ⟨a, of_decide_eq_true b⟩
  · rintro ⟨a, b⟩
    exact ⟨a, decide_eq_true b⟩
theorem inc_of_pairwise : ∀ {l : List Nat}, l.Pairwise (· < ·) → Inc l
  | [], _ => fun i m c d hi => by cases hi
  | a :: l, h => by
    rw [List.pairwise_cons] at h
    intro i m c d hi hm him
    cases m with
    | zero => omega
    | succ m =>
      cases i with
      | zero =>
        cases hi
        exact h.1 d (List.mem_of_getElem? (show l[m]? = some d from hm))
      | succ i => exact inc_of_pairwise h.2 i m c d hi hm (by omega)
theorem inc_filter {q : Nat → Bool} {n : Nat} : Inc ((List.range n).filter q) := inc_of_pairwise (List.Pairwise.filter q List.pairwise_lt_range)
theorem inc_nodup {l : List Nat} (h : Inc l) {i m c : Nat} (hi : l[i]? = some c) (hm : l[m]? = some c) : i = m := by
  rcases Nat.lt_trichotomy i m with e | e | e
  · exact absurd (h i m c c hi hm e) (by omega)
  · exact e
  · exact absurd (h m i c c hm hi e) (by omega)
theorem free_len {n : Nat} {pv : List Nat} (hi : Inc pv) (hl : ∀ c ∈ pv, c < n) : (free n pv).length + pv.length = n := by
  have e : pv = (List.range n).filter fun k => decide (k ∈ pv) := by
    have h1 := sub_inc (l := pv) (m := (List.range n).filter fun k => decide (k ∈ pv)) hi inc_filter fun x hx => List.mem_filter.mpr ⟨List.mem_range.mpr (hl x hx), decide_eq_true hx⟩
    have h2 := sub_inc (l := (List.range n).filter fun k => decide (k ∈ pv)) (m := pv) inc_filter hi fun x hx => of_decide_eq_true (List.mem_filter.mp hx).2
    exact h1.2 (by omega)
  have h3 : ∀ l : List Nat, (l.filter fun k => decide (k ∉ pv)).length + (l.filter fun k => decide (k ∈ pv)).length = l.length := by
    intro l
    induction l with
    | nil => rfl
    | cons a l ih =>
      rw [List.filter_cons, List.filter_cons]
      by_cases q : a ∈ pv
      · rw [if_neg (by simpa using q), if_pos (by simpa using q), List.length_cons, List.length_cons]
        omega
      · rw [if_pos (by simpa using q), if_neg (by simpa using q), List.length_cons, List.length_cons]
        omega
  have h4 := h3 (List.range n)
  rw [← e, List.length_range] at h4
  exact h4
/-- as many as the rank, where each has its own place -/
theorem piv_span {p : Int} {n : Nat} {rs : List (List Int)} {pv : List Nat} (hp : 0 < p) (P : Piv p n rs pv) {v : List Int} : Span p n rs v ↔ v ∈ (allc p.toNat rs.length).map (cmb p n rs) := by
  have ep : ((p.toNat : Nat) : Int) = p := by omega
  rw [List.mem_map]
  constructor
  · intro h
    have sv := sv_span hp P h
    refine ⟨pvs pv v, allc_mem.mpr ⟨by unfold pvs; rw [List.length_map, P.len], fun c hc => ?_⟩, sv_back hp P sv⟩
    unfold pvs at hc
    obtain ⟨d, hd, rfl⟩ := List.mem_map.mp hc
    rw [ep]
    exact sv.1.bd (P.plt d hd)
  · rintro ⟨cs, _, rfl⟩
    exact cmb_span fun r hr => span_mem hr
theorem piv_nodup {p : Int} {n : Nat} {rs : List (List Int)} {pv : List Nat} (hp : 0 < p) (P : Piv p n rs pv) : ((allc p.toNat rs.length).map (cmb p n rs)).Nodup := by
  have ep : ((p.toNat : Nat) : Int) = p := by omega
  refine nodup_map' (fun a ha b hb e => ?_) (allc_nodup _)
  obtain ⟨a1, a2⟩ := allc_mem.mp ha
  obtain ⟨b1, b2⟩ := allc_mem.mp hb
  rw [ep] at a2 b2
  rw [← sv_of hp P a1 a2, ← sv_of hp P b1 b2, e]
theorem red_len {p : Int} {n : Nat} {rs : List (List Int)} {pv : List Nat} (hp : p ∈ primes) (P : Piv p n rs pv) : (red p rs).length = rs.length := by
  have p0 := prime_pos hp
  have p2 := fld_le hp
  obtain ⟨pv2, R, a1, a2⟩ := red_rr hp P.ltr
  have := nodup_len (piv_nodup p0 R.piv) (piv_nodup p0 P) fun v => by
    rw [← piv_span p0 R.piv, ← piv_span p0 P]
    exact ⟨fun h => span_sub a1 h, fun h => span_sub a2 h⟩
  rw [List.length_map, List.length_map, allc_len, allc_len] at this
  rcases Nat.lt_trichotomy (red p rs).length rs.length with e | e | e
  · exact absurd this (Nat.ne_of_lt (Nat.pow_lt_pow_right (by omega) e))
  · exact e
  · exact absurd this (Nat.ne_of_gt (Nat.pow_lt_pow_right (by omega) e))
/-- one row that all others are 0 with -/
def zval (p : Int) (L : List (List Int)) (f l : Nat) : Int := (-(at0 (L.getD l []) f)).fmod p
def ZR (p : Int) (n : Nat) (L : List (List Int)) (pv : List Nat) (f : Nat) (z : List Int) : Prop := SetP (unt n f) pv (zval p L f) L.length z
theorem zr_at {p : Int} {n f : Nat} {L : List (List Int)} {pv : List Nat} {z : List Int} (R : Rr p n L pv) (hf : f ∈ free n pv) (h : ZR p n L pv f z) : z.length = n ∧ (∀ k, k < n → k ∉ pv → at0 z k = if k = f then 1 else 0) ∧ ∀ l c, pv[l]? = some c → at0 z c = zval p L f l := by
  obtain ⟨f1, f2⟩ := free_mem.mp hf
  refine ⟨by rw [h.len, unt_len], fun k hk hn => ?_, fun l c hc => ?_⟩
  · rw [h.old k fun l _ e => hn (List.mem_of_getElem? e), unt_at f1]
  · refine h.put l c ?_ hc
    rw [← R.piv.len]
    exact (List.getElem?_eq_some_iff.mp hc).1
theorem zr_ltr {p : Int} {n f : Nat} {L : List (List Int)} {pv : List Nat} {z : List Int} (hp : p ∈ primes) (R : Rr p n L pv) (hf : f ∈ free n pv) (h : ZR p n L pv f z) : Ltr p n z := by
  obtain ⟨a, b, c⟩ := zr_at R hf h
  have p2 := fld_le hp
  refine ltr_of a fun k hk => ?_
  by_cases q : k ∈ pv
  · obtain ⟨l, hl⟩ := List.getElem?_of_mem q
    rw [c l k hl]
    exact fm_bd _ (by omega)
  · rw [b k hk q]
    split <;> omega
theorem zr_ker {p : Int} {n f : Nat} {rows : List (List Int)} {pv : List Nat} {z : List Int} (hp : p ∈ primes) (hA : ∀ r ∈ rows, Ltr p n r) (R : Rr p n (red p rows) pv) (hf : f ∈ free n pv) (h : ZR p n (red p rows) pv f z) : ∀ u ∈ rows, Cg p (dotn n z u) 0 := by
  have p0 := prime_pos hp
  obtain ⟨a, b, c⟩ := zr_at R hf h
  obtain ⟨f1, f2⟩ := free_mem.mp hf
  obtain ⟨pv', R', a1, a2⟩ := red_rr hp hA
  have key : ∀ v ∈ red p rows, Ltr p n v ∧ Cg p (dotn n z v) 0 := by
    intro v hv
    refine ⟨R.piv.ltr v hv, ?_⟩
    obtain ⟨i, hi⟩ := List.getElem?_of_mem hv
    have hil := (List.getElem?_eq_some_iff.mp hi).1
    obtain ⟨d, hd⟩ : ∃ d, pv[i]? = some d := ⟨_, List.getElem?_eq_getElem (by rw [R.piv.len]; exact hil)⟩
    have hdn := R.piv.plt d (List.mem_of_getElem? hd)
    have gd : (red p rows).getD i [] = v := by rw [List.getD_eq_getElem?_getD, hi]; rfl
    have zd : at0 z d = zval p (red p rows) f i := c i d hd
    rw [dotn_two (c := f) (d := d) (a := at0 v f) (b := zval p (red p rows) f i), if_pos f1, if_pos hdn]
    · unfold zval
      rw [gd]
      have := (Cg.rfl' (p := p) (a := at0 v f)).add (Cg.fm (p := p) (-(at0 v f)))
      rw [show at0 v f + -(at0 v f) = 0 by omega] at this
      exact this
    · intro k hk
      by_cases q : k ∈ pv
      · obtain ⟨l, hl⟩ := List.getElem?_of_mem q
        have nf : ¬ k = f := fun e => f2 (e ▸ q)
        rw [if_neg nf, R.piv.one i l v k hi hl]
        by_cases e : i = l
        · subst e
          rw [hd] at hl
          have ek := Option.some.inj hl
          rw [if_pos rfl, if_pos ek.symm, ← ek, zd]
          omega
        · rw [if_neg e, if_neg (fun z2 => e (by rw [z2] at hl; exact inc_nodup R.ah.inc hd hl)), Int.mul_zero]
          rfl
      · have nd : ¬ k = d := fun e => q (e ▸ List.mem_of_getElem? hd)
        rw [b k hk q, if_neg nd]
        by_cases e : k = f
        · rw [if_pos e, if_pos e, e]
          omega
        · rw [if_neg e, if_neg e]
          omega
  intro u hu
  exact ((a2 u hu) _ (ker_lin (x := z) p0) key).2
/-- the rows for all free places -/
theorem zr_piv {p : Int} {n : Nat} {L Z : List (List Int)} {pv : List Nat} (hp : p ∈ primes) (R : Rr p n L pv) (hl : Z.length = (free n pv).length) (h : ∀ (i : Nat) (f : Nat) (z : List Int), (free n pv)[i]? = some f → Z[i]? = some z → ZR p n L pv f z) : Piv p n Z (free n pv) := by
  have ofZ : ∀ (i : Nat) z, Z[i]? = some z → ∃ f, (free n pv)[i]? = some f ∧ f ∈ free n pv ∧ ZR p n L pv f z := fun i z hz => by
    have hi := (List.getElem?_eq_some_iff.mp hz).1
    have hf : (free n pv)[i]? = some (free n pv)[i] := List.getElem?_eq_getElem (by omega)
    exact ⟨_, hf, List.mem_of_getElem? hf, h i _ z hf hz⟩
  refine ⟨fun z hz => ?_, hl.symm, fun c hc => (free_mem.mp hc).1, fun i l z c hi hc => ?_⟩
  · obtain ⟨i, hi⟩ := List.getElem?_of_mem hz
    obtain ⟨f, hf, hm, hz2⟩ := ofZ i z hi
    exact zr_ltr hp R hm hz2
  · obtain ⟨f, hf, hm, hz2⟩ := ofZ i z hi
    obtain ⟨c1, c2⟩ := free_mem.mp (List.mem_of_getElem? hc)
    rw [(zr_at R hm hz2).2.1 c c1 c2]
    have inc : Inc (free n pv) := inc_filter
    by_cases e : i = l
    · subst e
      rw [hf] at hc
      rw [if_pos rfl, if_pos (Option.some.inj hc).symm]
    · rw [if_neg e, if_neg (fun q => e (inc_nodup inc hf (by rw [← q]; exact hc)))]
/-- what zero_rows tells -/
theorem zero_ok {p : Int} {n : Nat} {rows Z : List (List Int)} {pv : List Nat} (hp : p ∈ primes) (hA : ∀ r ∈ rows, Ltr p n r) (R : Rr p n (red p rows) pv) (hl : Z.length = (free n pv).length) (h : ∀ (i : Nat) (f : Nat) (z : List Int), (free n pv)[i]? = some f → Z[i]? = some z → ZR p n (red p rows) pv f z) :
    (∀ z ∈ Z, Ltr p n z) ∧ (∀ r ∈ red p Z, Ltr p n r) ∧ red p (red p Z) = red p Z ∧ (∀ r ∈ red p Z, ∀ u ∈ rows, Cg p (dotn n r u) 0) ∧ (red p Z).length + (red p rows).length = n := by
  have p0 := prime_pos hp
  have P := zr_piv hp R hl h
  obtain ⟨pv2, R2, a1, a2⟩ := red_rr hp P.ltr
  refine ⟨P.ltr, R2.piv.ltr, red_red hp P.ltr, fun r hr u hu => ?_, ?_⟩
  · have := (a1 r hr) _ (ker_lin (x := u) p0) fun z hz => ?_
    · rw [dotn_comm]
      exact this.2
    · obtain ⟨i, hi⟩ := List.getElem?_of_mem hz
      have hil := (List.getElem?_eq_some_iff.mp hi).1
      have hf : (free n pv)[i]? = some (free n pv)[i] := List.getElem?_eq_getElem (by omega)
      refine ⟨P.ltr z hz, ?_⟩
      rw [dotn_comm]
      exact zr_ker hp hA R (List.mem_of_getElem? hf) (h i _ z hf hi) u hu
  · rw [red_len hp P, hl, ← R.piv.len]
    exact free_len R.ah.inc R.piv.plt
end WU

set_option maxRecDepth 100000
set_option maxHeartbeats 8000000
namespace WU
open PySem PySem.Spec PyProof.Rows L2
/-! ### t.index(z) of ints -/
theorem flat_ints (ys : List Int) : (ys.map V.int).all flatV = true := by
  rw [List.all_map]
  exact List.all_eq_true.mpr fun _ _ => rfl
def rIxI (K : PySem.W.Frag) : V → List V → Hp → VK → Prop := fun x xs H Q => ∃ p, ∃ ys : List Int, ∃ z j, x = .ref p ∧ xs = [.int z] ∧ SqT K H p (ys.map V.int) ∧ ys[j]? = some z ∧ (∀ m, m < j → ys[m]? ≠ some z) ∧ Q (.int (j : Nat)) H
section
variable {X : Cx}
/-- what stands at a place of a tuple of ints -/
theorem int_item {ys : List Int} {its : List Value} (r : Vals (ys.map V.int) its) {k : Nat} (hk : k < its.toArray.size) : ∃ y tk, ys[k]? = some y ∧ its.toArray[k] = Value.int y tk := by
  have lk : k < its.length := by simpa using hk
  have ly : k < ys.length := by
    have := r.length
    rw [List.length_map] at this
    omega
  obtain ⟨v, hv, tk, ev⟩ := r.get (i := k) (x := .int ys[k]) (by rw [List.getElem?_map, List.getElem?_eq_getElem ly]; rfl)
  refine ⟨_, tk, List.getElem?_eq_getElem ly, ?_⟩
  rw [List.getElem?_eq_getElem lk] at hv
  rw [List.getElem_toArray, Option.some.inj hv, ← ev]
theorem mt_tupIx : MtR X "tuple.index" (rIxI X.K) := by
  intro pn st sg HH self args sv avs QQ inv rself rargs ⟨c, ys, z, j, e1, e2, hseq, hat, hfirst, hQ⟩
  subst e1 e2
  cases rself
  obtain ⟨_, rfl, tk, rfl⟩ := vals1 rargs
  obtain ⟨its, rel, ⟨⟨oc, od, ot, osl⟩, hobj, hcls, num, hdata⟩, _⟩ := inv.tuple hseq
  simp only at hcls hdata
  subst hcls hdata
  have lj : j < its.toArray.size := by
    have h1 := (List.getElem?_eq_some_iff.mp hat).1
    have h2 := rel.length
    rw [List.length_map] at h2
    rw [List.size_toArray]
    omega
  have yes : eqU (.int z) its.toArray[j] = true := by
    obtain ⟨y, t2, hy, ey⟩ := int_item rel lj
    cases hat.symm.trans hy
    rw [ey]
    exact (show (z == z) = true from beq_self_eq_true z)
  have no : ∀ k (hk : k < its.toArray.size), k < j → eqU (.int z) its.toArray[k] = false := fun k hk hkj => by
    obtain ⟨y, t2, hy, ey⟩ := int_item rel hk
    rw [ey]
    refine beq_eq_false_iff_ne.mpr (fun eq => hfirst k hkj ?_)
    rw [hy]
    exact congrArg some eq
  refine call_meets PySem.F.slot_tuple_index ⟨_, hobj, rfl⟩ PySem.F.entry_tuple_index (PySem.F.args_tuple_index_2 _ _) (TI.tuple_indexAt c its.toArray num od osl _ (eqU (.int z)) j lj yes no) ⟨hobj, ?_, ⟨.int (j : Nat), HH, inv.tok _, ⟨_, rfl⟩, hQ⟩⟩
  exact fun it hit => mem_eqAt (x := .int z) ⟨tk, rfl⟩ rfl rel (flat_ints ys) it (by simpa using hit)
theorem mt_tupIxK {K : PySem.W.Frag} (hK : X.K = K := by rfl) : MtR X "tuple.index" (rIxI K) := hK ▸ mt_tupIx
end
/-! ### zip of a tuple and a list -/
def ItzM (K : PySem.W.Frag) (a b : Addr) : It :=
  ⟨fun i H => ∃ (xs ys : List V) (x y : V), SqT K H a xs ∧ SqL K H b ys ∧ xs[i]? = some x ∧ ys[i]? = some y,
    fun i H v H' => ∃ T x y, v = .ref T ∧ H T = none ∧ H' = upd H T (.tup [x, y]) ∧ (∀ xs, SqT K H a xs → xs[i]? = some x) ∧ ∀ ys, SqL K H b ys → ys[i]? = some y,
    fun i H => ∃ xs ys : List V, SqT K H a xs ∧ SqL K H b ys ∧ i ≤ xs.length ∧ i ≤ ys.length ∧ (i = xs.length ∨ i = ys.length)⟩
theorem not_two {x y z : Addr} (h1 : x ≠ y) (h2 : x ≠ z) : x ∉ [y, z] := fun h => by
  rw [List.mem_cons, List.mem_singleton] at h
  exact h.elim h1 h2
theorem zsep {z TI TO i1 i2 a b : Addr} (D : ZipApart z TI TO i1 i2 a b) : ZipSep2 z TI TO i1 i2 [i1, a] [i2, b] where
  TIz := D.TIz
  TOz := D.TOz
  TITO := D.TITO
  TIi1 := D.TIi1
  TIi2 := D.TIi2
  mem1 := List.mem_cons_self
  mem2 := List.mem_cons_self
  zf1 := not_two D.i1z.symm D.l1z.symm
  zf2 := not_two D.i2z.symm D.l2z.symm
  Tf1 := not_two D.TOi1 D.l1TO.symm
  Tf2 := not_two D.TOi2 D.l2TO.symm
  sep1_2 := not_two D.i12 D.l2i1.symm
  sep2_1 := not_two D.i12.symm D.l1i2.symm
/-- how the zip of a tuple and a list stands ahead of its k-th turn -/
structure ZSt (z TI TO i1 i2 a b : Addr) (k : Nat) (hp : Heap) : Prop where
  zip : IsZip hp z TI TO .none
  its : IsPair hp TI (.ref i1) (.ref i2)
  out : ∃ x y, IsPair hp TO x y
  fst : hp.IsTupleIter i1 a k
  snd : hp.IsListIter i2 b k
theorem five {z TI TO i1 i2 c : Addr} (h : c ∈ [z, TI, TO, i1, i2]) : c = z ∨ c = TI ∨ c = TO ∨ c = i1 ∨ c = i2 := by
  simpa only [List.mem_cons, List.not_mem_nil, or_false] using h
theorem ZSt.lt {z TI TO i1 i2 a b : Addr} {k : Nat} {hp : Heap} (S : ZSt z TI TO i1 i2 a b k hp) {c : Addr} (h : c ∈ [z, TI, TO, i1, i2]) : c < hp.objs.size := by
  obtain ⟨_, _, ho⟩ := S.out
  obtain ⟨_, h4, _⟩ := S.fst
  obtain ⟨_, h5, _⟩ := S.snd
  rcases five h with q | q | q | q | q <;> rw [q]
  · exact Heap.lt_size S.zip
  · exact Heap.lt_size S.its
  · exact Heap.lt_size ho
  · exact Heap.lt_size h4
  · exact Heap.lt_size h5
theorem turn_zipM {P : Program} {w : World} {K : PySem.W.Frag} {elts : List Expr} {kk : Nat} {tpos : Pos} {a b z TI TO i1 i2 : Addr} (D : ZipApart z TI TO i1 i2 a b) : Turn P w K (.Tuple elts kk tpos) (ItzM K a b) [z, TI, TO, i1, i2] z (ZSt z TI TO i1 i2 a b) where
  mem := List.mem_cons_self
  obj := fun k hp S c hc => by
    obtain ⟨_, _, ho⟩ := S.out
    obtain ⟨o4, h4, _, d4⟩ := S.fst
    obtain ⟨o5, h5, _, d5⟩ := S.snd
    rcases five hc with q | q | q | q | q <;> subst q
    · exact ⟨_, S.zip, fun v => by intro e; cases e⟩
    · exact ⟨_, S.its, fun v => by intro e; cases e⟩
    · exact ⟨_, ho, fun v => by intro e; cases e⟩
    · exact ⟨o4, h4, fun v e => by rw [d4] at e; cases e⟩
    · exact ⟨o5, h5, fun v e => by rw [d5] at e; cases e⟩
  keep := fun k hp hp' S same => by
    obtain ⟨x, y, ho⟩ := S.out
    exact ⟨same _ List.mem_cons_self _ S.zip, same TI (by simp) _ S.its, ⟨x, y, same TO (by simp) _ ho⟩, S.fst.at fun ob => same i1 (by simp) ob, S.snd.at fun ob => same i2 (by simp) ob⟩
  item := by
    intro X eP ew eK calm k pn st sg HH EE inv fp S go
    subst eP ew eK
    obtain ⟨xs, ys, x, y, sx, sy, gx, gy⟩ := go
    obtain ⟨us, rx, px, _⟩ := inv.tuple sx
    obtain ⟨vs, ry, py, _⟩ := inv.list sy
    obtain ⟨ux, hux, rux⟩ := rx.get gx
    obtain ⟨uy, huy, ruy⟩ := ry.get gy
    obtain ⟨_, _, ho⟩ := S.out
    have nh := inv.ok.hd calm
    have D1 := Draws.tuple (prog := X.prog) (w := X.w) (A := X.A.in1) nh i1 a D.l1i1 us.toArray
    have D2 := Draws.list (prog := X.prog) (w := X.w) (A := X.A.in1) nh i2 b D.l2i2 vs.toArray
    have lx : k < us.toArray.size := by rw [List.size_toArray]; exact (List.getElem?_eq_some_iff.mp hux).1
    have ly : k < vs.toArray.size := by rw [List.size_toArray]; exact (List.getElem?_eq_some_iff.mp huy).1
    have zl := S.lt (c := z) List.mem_cons_self
    refine wpAny_pyNext_zipD2_item (zsep D) D1 D2 S.zip S.its ho ⟨S.fst, px⟩ ⟨S.snd, py.isList⟩ lx ly ?_
    intro v1 v2 h1 tk q1 q2 z1 o1 f1 g1 new1 _ rest
    have q1' : us[k]? = some v1 := by simpa using q1
    have q2' : vs[k]? = some v2 := by simpa using q2
    cases hux.symm.trans q1'
    cases huy.symm.trans q2'
    refine ⟨_, rfl, wpAny_letOwnedTupleGo_zip (s := { st with heap := h1, toks := tk }) z1 fun h2 z2 but => ?_⟩
    have tup2 : h2.get? st.heap.objs.size = some { cls := .type "tuple", data := .seq #[ux, uy] } := (but.2 _ (Nat.ne_of_gt zl)).trans new1
    have out : ∀ c o, c ∉ [z, TI, TO, i1, i2] → st.heap.get? c = some o → h2.get? c = some o := fun c o nc ec => by
      have nz : c ≠ z := fun q => nc (by rw [q]; simp)
      have nO : c ≠ TO := fun q => nc (by rw [q]; simp)
      have n1 : c ≠ i1 := fun q => nc (by rw [q]; simp)
      have n2 : c ≠ i2 := fun q => nc (by rw [q]; simp)
      exact (but.2 c nz).trans (rest c o nz nO n1 n2 ec)
    have J : Inv X pn sg (upd HH st.heap.objs.size (.tup [x, y])) { st with heap := h2, toks := tk } :=
      inv.turnedNew (t' := tk) (ch := [z, TI, TO, i1, i2]) out fp (Nat.le_refl _) ⟨by show 2 ≤ sizeLine; decide, [ux, uy], .cons rux (.cons ruy .nil), ⟨_, tup2, rfl, _, rfl⟩⟩
    refine ⟨.ref st.heap.objs.size, _, J, rfl, ⟨_, x, y, rfl, inv.hok.fresh (Nat.le_refl _), rfl, fun l hl => ?_, fun l hl => ?_⟩, ⟨z2, ?_, ⟨ux, uy, ?_⟩, ?_, ?_⟩, fun c hc => ?_⟩
    · rw [inv.tuple_inj hl sx]
      exact gx
    · rw [inv.list_inj hl sy]
      exact gy
    · have e := rest TI _ D.TIz D.TITO D.TIi1 D.TIi2 S.its
      exact (but.2 TI D.TIz).trans e
    · exact (but.2 TO D.TOz).trans o1
    · exact f1.1.at fun ob eo => (but.2 i1 D.i1z).trans eo
    · exact g1.1.at fun ob eo => (but.2 i2 D.i2z).trans eo
    · rw [upd_ne (Nat.ne_of_lt (S.lt hc))]
      exact (fp c hc).1
  done := by
    intro X eP ew eK calm k pn st sg HH EE inv fp S go
    subst eP ew eK
    obtain ⟨xs, ys, sx, sy, l1, l2, fin⟩ := go
    obtain ⟨us, rx, px, _⟩ := inv.tuple sx
    obtain ⟨vs, ry, py, _⟩ := inv.list sy
    obtain ⟨_, _, ho⟩ := S.out
    have nh := inv.ok.hd calm
    have D1 := Draws.tuple (prog := X.prog) (w := X.w) (A := X.A.in1) nh i1 a D.l1i1 us.toArray
    have D2 := Draws.list (prog := X.prog) (w := X.w) (A := X.A.in1) nh i2 b D.l2i2 vs.toArray
    have m1 : us.toArray.size = xs.length := by rw [List.size_toArray, ← rx.length]
    have m2 : vs.toArray.size = ys.length := by rw [List.size_toArray, ← ry.length]
    refine wpAny_pyNext_zipD2_end (zsep D) D1 D2 S.zip S.its ho ⟨S.fst, px⟩ ⟨S.snd, py.isList⟩ (by omega) (by omega) (by omega) fun h1 tk rest => ⟨rfl, ?_⟩
    refine inv.turnedL (t' := tk) (ch := [z, TI, TO, i1, i2]) (fun c o nc ec => ?_) fp
    refine rest c o (fun q => nc ?_) (fun q => nc ?_) (fun q => nc ?_) (fun q => nc ?_) ec <;> rw [q] <;> simp
  self := fun _ _ _ _ _ S go => wpAny_pyIter_zip S.zip go
def iZipM (K : PySem.W.Frag) (ta : TA) : TI := fun σ H R => ta σ H fun vs H1 => ∃ a b xs ys, vs = [.ref a, .ref b] ∧ ((SqT K H1 a xs ∧ SqL K H1 b ys ∧ R (ItzM K a b) H1) ∨ (SqT K H1 a xs ∧ SqT K H1 b ys ∧ R (RZ.ItzT K a b) H1))
theorem pi_zipM {X : Cx} {e e2 : Expr} {ta : TA} {p pos tpos : Pos} {elts : List Expr} {kk : Nat} (hg : Gl X "zip") (hm : X.mg "zip" = none) (ha : PA X [e, e2] ta) (hs : starEach [e, e2] X.env = (false, eval e X.env) :: starEach [e2] X.env := by rfl)
    (hpl : (backTo pos (starEach [e2] X.env)).any (·.1) = false := by rfl) : PI X (.Tuple elts kk tpos) (.Call (.Name "zip" p) [e, e2] [] pos) (iZipM X.K ta) := by
  constructor
  intro pn st sg HH R inv h
  have args := ha.run pos pn st sg HH _ inv h
  refine Call_ (ld_blt inv hg hm boot_zip (callWith_type1 (thn args fun us s1 ⟨ws, H1, J, rel, a, b, xs, ys, ew, q⟩ => ?_) hs hpl))
  subst ew
  obtain ⟨u1, u2, rfl, ra, rb⟩ := Vals.two rel
  cases ra
  cases rb
  have young : ∀ c ∈ [s1.heap.objs.size + 4, s1.heap.objs.size + 2, s1.heap.objs.size + 3, s1.heap.objs.size, s1.heap.objs.size + 1], FpOk X pn H1 c := fun c hc => by
    have up : (s1.heap.objs.size : Nat) ≤ c := by
      rcases five hc with q | q | q | q | q <;> rw [q]
      · exact Nat.le_add_right _ 4
      · exact Nat.le_add_right _ 2
      · exact Nat.le_add_right _ 3
      · exact Nat.le_refl _
      · exact Nat.le_add_right _ 1
    exact J.fpOk up (J.hok.fresh up)
  rcases q with ⟨sx, sy, q⟩ | ⟨sx, sy, q⟩
  · obtain ⟨vx, _, px, _⟩ := J.tuple sx
    obtain ⟨vy, _, py, _⟩ := J.list sy
    have la : a < s1.heap.objs.size := px.lt
    refine zip_begins2 (begins_tuple a vx.toArray) (begins_list b vy.toArray) px py.isList fun h' hz hI hO f g _ kept => wpAny_pyIter_zip hz ?_
    refine ⟨s1.heap.objs.size + 4, _, _, _, H1, rfl, J.kept (t' := s1.toks) kept, turn_zipM (PySem.W.ktu_apart s1.heap.objs.size a b la py.lt), ?_, young, q⟩
    exact ⟨hz, hI, ⟨_, _, hO⟩, ⟨_, f, rfl, rfl⟩, ⟨_, g, rfl, rfl⟩⟩
  · obtain ⟨vx, _, px, _⟩ := J.tuple sx
    obtain ⟨vy, _, py, _⟩ := J.tuple sy
    refine RZ.call_zipT (show s1.heap.IsTuple a vx.toArray from px) (show s1.heap.IsTuple b vy.toArray from py) fun h' hz hI hO f g _ kept => wpAny_pyIter_zip hz ?_
    exact ⟨s1.heap.objs.size + 4, _, _, _, H1, rfl, J.kept (t' := s1.toks) kept, RZ.turn_zipT (PySem.W.ktu_apart s1.heap.objs.size a b px.lt py.lt), ⟨hz, hI, ⟨_, _, hO⟩, f, g⟩, young, q⟩
theorem pi_zipMK {X : Cx} {K : PySem.W.Frag} {e e2 : Expr} {ta : TA} {p pos tpos : Pos} {elts : List Expr} {kk : Nat} (hg : Gl X "zip") (hm : X.mg "zip" = none) (ha : PA X [e, e2] ta)
    (hs : starEach [e, e2] X.env = (false, eval e X.env) :: starEach [e2] X.env := by rfl) (hpl : (backTo pos (starEach [e2] X.env)).any (·.1) = false := by rfl) (hK : X.K = K := by rfl) :
    PI X (.Tuple elts kk tpos) (.Call (.Name "zip" p) [e, e2] [] pos) (iZipM K ta) := hK ▸ pi_zipM hg hm ha hs hpl
theorem walk_zipM {K : PySem.W.Frag} {a b : Addr} {xs ys : List V} {n : Nat} (l1 : xs.length = n) (l2 : ys.length = n) : Walk (ItzM K a b) n (fun H => SqT K H a xs ∧ SqL K H b ys) (YPair (fun i => xs[i]?) (fun i => ys[i]?)) where
  goes := fun i _ hi ⟨sx, sy⟩ => ⟨xs, ys, xs[i]'(by omega), ys[i]'(by omega), sx, sy, List.getElem?_eq_getElem _, List.getElem?_eq_getElem _⟩
  stops := fun _ ⟨sx, sy⟩ => ⟨xs, ys, sx, sy, Nat.le_of_eq l1.symm, Nat.le_of_eq l2.symm, .inl l1.symm⟩
  yields := fun _ _ _ _ _ ⟨sx, sy⟩ ⟨T, x, y, e, new, eH, fx, fy⟩ => ⟨T, x, y, e, new, eH, fx xs sx, fy ys sy⟩
theorem rd_same {H H' : Hp} {c : Addr} {u : HO} (s : Same H H') (h : Rd H c u) : Rd H' c u := h.imp (s _ _) fun ⟨o, e⟩ => ⟨o, s _ _ e⟩
/-- a sequence that is there, of whichever kind -/
def SqO (H : Hp) (a : Addr) (xs : List V) : Prop := H a = some (.lst xs) ∨ Rd H a (.tup xs)
theorem SqO.same {H H' : Hp} {a : Addr} {xs : List V} (h : SqO H a xs) (s : Same H H') : SqO H' a xs := h.imp (s _ _) (rd_same s)
/-! ### tuples that are made new -/
def rTupN (K : PySem.W.Frag) : List V → Hp → VK → Prop := fun xs H Q => ∃ p ys, xs = [.ref p] ∧ SqL K H p ys ∧ ∀ l o, H l = none → o.dict = none → Q (.ref l) (upd H l (.frz o (.tup ys)))
section
variable {X : Cx}
theorem tup_new : CallR X (.type "tuple") (rTupN X.K) := by
  intro pn st sg HH args avs QQ inv rel ⟨c, ys, ea, hseq, hQ⟩
  subst ea
  obtain ⟨_, rfl, ra⟩ := vals1 rel
  cases ra
  obtain ⟨us, ru, pl, small⟩ := inv.list hseq
  refine call_tuple_list pl.isList ?_ (by have := ru.length; simp only [List.size_toArray]; omega)
  intro h1 kept
  have J := inv.kept (t' := st.toks) kept
  have ob : ObjOk X.prog X.w (upd HH h1.objs.size (.frz { cls := .type "tuple", data := .seq us.toArray } (.tup ys))) (h1.push { cls := .type "tuple", data := .seq us.toArray }) h1.objs.size (.frz { cls := .type "tuple", data := .seq us.toArray } (.tup ys)) :=
    ⟨Heap.get?_push_size _ rfl, small, us, ru, IsTup.new _ _⟩
  exact ⟨.ref h1.objs.size, _, J.laid (t' := st.toks) (fun c o ec => Heap.get?_push_of_some _ ec) (Nat.le_refl _) ob, rfl, hQ _ _ (J.hok.fresh (Nat.le_refl _)) rfl⟩
theorem tup_newK {K : PySem.W.Frag} (hK : X.K = K := by rfl) : CallR X (.type "tuple") (rTupN K) := hK ▸ tup_new
/-- o.m(..), o a tuple that was made new -/
def tBN (r : V → List V → Hp → VK → Prop) (to : TE) (t : TA) : TE := fun σ H Q => to σ H fun x H1 => (∃ c o xs, x = .ref c ∧ H1 c = some (.frz o (.tup xs)) ∧ o.dict = none) ∧ t σ H1 fun vs H2 => r x vs H2 Q
variable {o e : Expr} {es : List Expr} {to : TE} {t : TA} {name : Str} {apos cpos : Pos} {id : String} {r : V → List V → Hp → VK → Prop}
theorem pe_bmN (pa : PlainAttrs "tuple") (slot : Slot "tuple" name id) (hty : typeOf (.builtin id) = pure (.type "method_descriptor")) (hm : MtR X id r) (ho : PE X o to) (ha : PA X (e :: es) t)
    (hbase : attributeBase o name X.env (eval o X.env) = eval o X.env := by rfl) (hfew : ((backTo cpos (starEach (e :: es) X.env)).all (fun x => !x.1) && (backToKw cpos (keywordEach [] X.env)).all (fun x => x.1.isSome) && decide ((e :: es).length + ([] : List Keyword).length + (if ([] : List Keyword).isEmpty then 0 else 1) < 30)) = true := by rfl)
    (hline : (apos.endLine == cpos.line) = true := by rfl)
    (hs : starEach (e :: es) X.env = (false, eval e X.env) :: starEach es X.env := by rfl)
    (hplain : (backTo cpos (starEach es X.env)).any (·.1) = false := by rfl) : PE X (.Call (.Attribute o name apos) (e :: es) [] cpos) (tBN r to t) := by
  constructor
  intro pn st sg HH QQ inv h
  refine wpAny_Call_method_late hbase hfew hline rfl (thn (ho.run pn st sg HH _ inv h) ?_)
  rintro v s1 ⟨x, H1, J, rv, ⟨c, ob, xs, rfl, eo, ed⟩, q⟩
  cases rv
  obtain ⟨here, _, us, _, o2, ho2, hc2, _⟩ := (show ObjOk X.prog X.w H1 s1.heap c (.frz ob (.tup xs)) from J.hok c _ eo)
  refine ⟨"tuple", id, pa, slot, hty, ⟨o2, ho2, hc2⟩, (fun a ea => ?_), ?_⟩
  · cases ea
    exact ⟨ob, here, ed⟩
  have run := ha.run cpos pn s1 sg H1 _ J q
  rw [hs] at run ⊢
  refine Calls.callWith_builtin ?_ (Calls.evalArgs_plain ?_)
  · exact (Bool.false_or _).trans hplain
  · exact thn run fun us2 s2 ⟨ws, H2, J2, rel, q2⟩ => hm pn s2 sg H2 (.ref c) ws _ us2 QQ J2 rfl rel q2
end
end WU

set_option maxRecDepth 100000
set_option maxHeartbeats 8000000
namespace WU
open PySem PySem.Spec PyProof.Rows L2
/-! ### lists that are built turn by turn -/
theorem paired_mono {α β : Type} {F G : α → β → Prop} (f : ∀ a b, F a b → G a b) : ∀ {l : List α} {m : List β}, Paired F l m → Paired G l m
  | _, _, .nil => .nil
  | _, _, .cons h t => .cons (f _ _ h) (paired_mono f t)
theorem paired_len {α β : Type} {F : α → β → Prop} : ∀ {l : List α} {m : List β}, Paired F l m → l.length = m.length
  | _, _, .nil => rfl
  | _, _, .cons _ t => congrArg Nat.succ (paired_len t)
theorem paired_at {α β : Type} {F : α → β → Prop} : ∀ {l : List α} {m : List β} {i : Nat} {x : α}, Paired F l m → l[i]? = some x → ∃ y, m[i]? = some y ∧ F x y
  | _, _, _, _, .nil, e => by cases e
  | _, _, 0, _, .cons h _, e => by
    cases e
    exact ⟨_, rfl, h⟩
  | _, _, i + 1, _, .cons _ t, e => paired_at (i := i) t e
theorem paired_of {α β : Type} {F : α → β → Prop} : ∀ {l : List α} {m : List β} {i : Nat} {y : β}, Paired F l m → m[i]? = some y → ∃ x, l[i]? = some x ∧ F x y
  | _, _, _, _, .nil, e => by cases e
  | _, _, 0, _, .cons h _, e => by
    cases e
    exact ⟨_, rfl, h⟩
  | _, _, i + 1, _, .cons _ t, e => paired_of (i := i) t e
theorem paired_app {α β : Type} {F : α → β → Prop} : ∀ {l l' : List α} {m m' : List β}, Paired F l m → Paired F l' m' → Paired F (l ++ l') (m ++ m')
  | _, _, _, _, .nil, t => t
  | _, _, _, _, .cons h s, t => .cons h (paired_app s t)
theorem paired_take {α β : Type} {F : α → β → Prop} : ∀ {l : List α} {m : List β} (k : Nat), Paired F l m → Paired F (l.take k) (m.take k)
  | _, _, _, .nil => by rw [List.take_nil, List.take_nil]; exact .nil
  | _, _, 0, _ => .nil
  | _, _, k + 1, .cons h t => .cons h (paired_take k t)
theorem paired_drop {α β : Type} {F : α → β → Prop} : ∀ {l : List α} {m : List β} (k : Nat), Paired F l m → Paired F (l.drop k) (m.drop k)
  | _, _, _, .nil => by rw [List.drop_nil, List.drop_nil]; exact .nil
  | _, _, 0, h => h
  | _, _, k + 1, .cons _ t => paired_drop k t
/-- the relation stays where all but one other object stays -/
def Stab {α : Type} (F : Hp → V → α → Prop) : Prop := ∀ (D : Addr) (H H' : Hp) (y : V) (z : α), (∀ b o, b ≠ D → H b = some o → H' b = some o) → y ≠ .ref D → F H y z → F H' y z
theorem Stab.same {α : Type} {F : Hp → V → α → Prop} (st : Stab F) {H H' : Hp} {y : V} {z : α} (s : Same H H') {p : Addr} (n : y ≠ .ref p) (f : F H y z) : F H' y z := st p H H' y z (fun b o _ e => s b o e) n f
structure Bld {α : Type} (F : Hp → V → α → Prop) (H1 : Hp) (D : Addr) (zs : List α) (H : Hp) : Prop where
  same : Same H1 H
  ex : ∃ ys, H D = some (.lst ys) ∧ Paired (fun y z => F H y z ∧ y ≠ .ref D) ys zs
section
variable {α : Type} {F : Hp → V → α → Prop} {H1 H H' : Hp} {D : Addr} {zs : List α}
theorem Bld.start (hD : H1 D = none) : Bld F H1 D [] (upd H1 D (.lst [])) := ⟨same_new hD, [], upd_same, .nil⟩
theorem Bld.skip (b : Bld F H1 D zs H) (st : Stab F) (s : Same H H') : Bld F H1 D zs H' := by
  obtain ⟨s1, ys, e, p⟩ := b
  exact ⟨s1.trans s, ys, s _ _ e, paired_mono (fun y z q => ⟨st.same s q.2 q.1, q.2⟩) p⟩
theorem Bld.put {y : V} {z : α} (b : Bld F H1 D zs H) (st : Stab F) (hD : H1 D = none) (s : Same H H') (f : F H' y z) (ny : y ≠ .ref D) (hl : zs.length < sizeLine) :
    ∃ acc, H' D = some (.lst acc) ∧ acc.length < sizeLine ∧ Bld F H1 D (zs ++ [z]) (upd H' D (.lst (acc ++ [y]))) := by
  obtain ⟨s1, ys, e, p⟩ := b.skip st s
  refine ⟨ys, e, by rw [paired_len p]; exact hl, fun b o h => ?_, ys ++ [y], upd_same, ?_⟩
  · rw [upd_ne (ne_of_none h hD)]
    exact s1 _ _ h
  · have k : ∀ b o, b ≠ D → H' b = some o → upd H' D (.lst (ys ++ [y])) b = some o := fun b o n h => by rw [upd_ne n]; exact h
    exact paired_app (paired_mono (fun y z q => ⟨st D _ _ _ _ k q.2 q.1, q.2⟩) p) (.cons ⟨st D _ _ _ _ k ny f, ny⟩ .nil)
theorem Bld.fin (b : Bld F H1 D zs H) : Same H1 H ∧ ∃ ys, H D = some (.lst ys) ∧ Paired (F H) ys zs := by
  obtain ⟨s1, ys, e, p⟩ := b
  exact ⟨s1, ys, e, paired_mono (fun _ _ q => q.1) p⟩
end
/-- numbers as they are -/
def FI : Hp → V → Int → Prop := fun _ y z => y = .int z
theorem stab_FI : Stab FI := fun _ _ _ _ _ _ _ f => f
def FB : Hp → V → Bool → Prop := fun _ y z => y = .bl z
theorem stab_FB : Stab FB := fun _ _ _ _ _ _ _ f => f
theorem fi_map {H : Hp} : ∀ {ys : List V} {zs : List Int}, Paired (FI H) ys zs → ys = zs.map V.int
  | _, _, .nil => rfl
  | _, _, .cons h t => by
    rw [List.map_cons, fi_map t]
    congr 1
theorem fb_map {H : Hp} : ∀ {ys : List V} {zs : List Bool}, Paired (FB H) ys zs → ys = zs.map V.bl
  | _, _, .nil => rfl
  | _, _, .cons h t => by
    rw [List.map_cons, fb_map t]
    congr 1
/-- a row: a tuple of ints that is there -/
def FT : Hp → V → List Int → Prop := fun H y z => ∃ c, y = .ref c ∧ Rd H c (.tup (z.map V.int))
theorem sqT {K : PySem.W.Frag} {H : Hp} {c : Addr} {xs : List V} (h : Rd H c (.tup xs)) : SqT K H c xs := .inl h
theorem stab_FT : Stab FT := fun D H H' y z k n ⟨c, e, h⟩ => ⟨c, e, h.imp (k _ _ (fun q => n (by rw [e, q]))) fun ⟨o, h⟩ => ⟨o, k _ _ (fun q => n (by rw [e, q])) h⟩⟩
theorem FT.same {H H' : Hp} {y : V} {z : List Int} (h : FT H y z) (s : Same H H') : FT H' y z := by
  obtain ⟨c, e, h⟩ := h
  exact ⟨c, e, rd_same s h⟩
theorem rd_ne {H : Hp} {c D : Addr} {u : HO} (h : Rd H c u) (n : H D = none) : c ≠ D := by
  intro q
  subst q
  rcases h with h | ⟨o, h⟩ <;> rw [h] at n <;> cases n
theorem rd_neL {H : Hp} {c D : Addr} {xs ys : List V} (h : Rd H c (.tup ys)) (n : H D = some (.lst xs)) : c ≠ D := by
  intro q
  subst q
  rcases h with h | ⟨o, h⟩ <;> rw [h] at n <;> cases n
theorem FT.ne {H : Hp} {y : V} {z : List Int} {D : Addr} (h : FT H y z) (n : H D = none) : y ≠ .ref D := by
  obtain ⟨c, rfl, h⟩ := h
  exact fun q => rd_ne h n (V.ref.inj q)
theorem FT.neL {H : Hp} {y : V} {z : List Int} {D : Addr} {xs : List V} (h : FT H y z) (n : H D = some (.lst xs)) : y ≠ .ref D := by
  obtain ⟨c, rfl, h⟩ := h
  exact fun q => rd_neL h n (V.ref.inj q)
theorem FT.new {H : Hp} {p : Addr} {z : List Int} : FT (upd H p (.tup (z.map V.int))) (.ref p) z := ⟨p, rfl, .inl upd_same⟩
/-- a row that was made new: a tuple without a dict -/
def FN : Hp → V → List Int → Prop := fun H y z => ∃ c o, y = .ref c ∧ H c = some (.frz o (.tup (z.map V.int))) ∧ o.dict = none
theorem FN.ft {H : Hp} {y : V} {z : List Int} (h : FN H y z) : FT H y z := by
  obtain ⟨c, o, e, h, _⟩ := h
  exact ⟨c, e, .inr ⟨o, h⟩⟩
theorem stab_FN : Stab FN := fun D H H' y z k n ⟨c, o, e, h, d⟩ => ⟨c, o, e, k _ _ (fun q => n (by rw [e, q])) h, d⟩
theorem FN.same {H H' : Hp} {y : V} {z : List Int} (h : FN H y z) (s : Same H H') : FN H' y z := by
  obtain ⟨c, o, e, h, d⟩ := h
  exact ⟨c, o, e, s _ _ h, d⟩
theorem FN.new {H : Hp} {p : Addr} {o : Obj} {z : List Int} (d : o.dict = none) : FN (upd H p (.frz o (.tup (z.map V.int)))) (.ref p) z := ⟨p, o, rfl, upd_same, d⟩
/-- what is told of rows: as tuples, or as tuples that were made new -/
structure Good (F : Hp → V → List Int → Prop) : Prop where
  stab : Stab F
  same : ∀ {H H' y z}, F H y z → Same H H' → F H' y z
  ofN : ∀ {H y z}, FN H y z → F H y z
  toT : ∀ {H y z}, F H y z → FT H y z
theorem good_T : Good FT := ⟨stab_FT, FT.same, FN.ft, id⟩
theorem good_N : Good FN := ⟨stab_FN, FN.same, id, FN.ft⟩
/-- a tuple of rows -/
def MT (H : Hp) (v : V) (rows : List (List Int)) : Prop := ∃ a ts, v = .ref a ∧ H a = some (.tup ts) ∧ Paired (FT H) ts rows
theorem MT.same {H H' : Hp} {v : V} {rows : List (List Int)} (h : MT H v rows) (s : Same H H') : MT H' v rows := by
  obtain ⟨a, ts, e, h, p⟩ := h
  exact ⟨a, ts, e, s _ _ h, paired_mono (fun _ _ q => q.same s) p⟩
/-- a row as a plain tuple -/
def FQ : Hp → V → List Int → Prop := fun H y z => ∃ c, y = .ref c ∧ H c = some (.tup (z.map V.int))
theorem stab_FQ : Stab FQ := fun D H H' y z k n ⟨c, e, h⟩ => ⟨c, e, k _ _ (fun q => n (by rw [e, q])) h⟩
theorem FQ.same {H H' : Hp} {y : V} {z : List Int} (h : FQ H y z) (s : Same H H') : FQ H' y z := by
  obtain ⟨c, e, h⟩ := h
  exact ⟨c, e, s _ _ h⟩
theorem FQ.ft {H : Hp} {y : V} {z : List Int} (h : FQ H y z) : FT H y z := by
  obtain ⟨c, e, h⟩ := h
  exact ⟨c, e, .inl h⟩
theorem FQ.ne {H : Hp} {y : V} {z : List Int} {D : Addr} (h : FQ H y z) (n : H D = none) : y ≠ .ref D := h.ft.ne n
theorem FQ.neL {H : Hp} {y : V} {z : List Int} {D : Addr} {xs : List V} (h : FQ H y z) (n : H D = some (.lst xs)) : y ≠ .ref D := h.ft.neL n
theorem FQ.new {H : Hp} {p : Addr} {z : List Int} : FQ (upd H p (.tup (z.map V.int))) (.ref p) z := ⟨p, rfl, upd_same⟩
def MQ (H : Hp) (v : V) (rows : List (List Int)) : Prop := ∃ a ts, v = .ref a ∧ H a = some (.tup ts) ∧ Paired (FQ H) ts rows
theorem MQ.same {H H' : Hp} {v : V} {rows : List (List Int)} (h : MQ H v rows) (s : Same H H') : MQ H' v rows := by
  obtain ⟨a, ts, e, h, p⟩ := h
  exact ⟨a, ts, e, s _ _ h, paired_mono (fun _ _ q => q.same s) p⟩
theorem MQ.mt {H : Hp} {v : V} {rows : List (List Int)} (h : MQ H v rows) : MT H v rows := by
  obtain ⟨a, ts, e, h, p⟩ := h
  exact ⟨a, ts, e, h, paired_mono (fun _ _ q => q.ft) p⟩
/-- a tuple of rows that were made new -/
def MN (H : Hp) (v : V) (rows : List (List Int)) : Prop := ∃ a ts, v = .ref a ∧ H a = some (.tup ts) ∧ Paired (FN H) ts rows
theorem MN.same {H H' : Hp} {v : V} {rows : List (List Int)} (h : MN H v rows) (s : Same H H') : MN H' v rows := by
  obtain ⟨a, ts, e, h, p⟩ := h
  exact ⟨a, ts, e, s _ _ h, paired_mono (fun _ _ q => q.same s) p⟩
theorem MN.mt {H : Hp} {v : V} {rows : List (List Int)} (h : MN H v rows) : MT H v rows := by
  obtain ⟨a, ts, e, h, p⟩ := h
  exact ⟨a, ts, e, h, paired_mono (fun _ _ q => q.ft) p⟩
/-! ### as data -/
def rowP (r : List Int) : PyData := .tuple (r.map PyData.int)
def MD (rows : List (List Int)) : PyData := .tuple (rows.map rowP)
theorem FT.dp {K : PySem.W.Frag} {H : Hp} {y : V} {z : List Int} (h : FT H y z) : Dp K H y (rowP z) := by
  obtain ⟨c, rfl, h⟩ := h
  exact .tup (sqT h) (dps_ints z)
theorem fts_dp {K : PySem.W.Frag} {H : Hp} : ∀ {ys : List V} {zs : List (List Int)}, Paired (FT H) ys zs → DpAll K H ys (zs.map rowP)
  | _, _, .nil => .nil
  | _, _, .cons h t => .cons h.dp (fts_dp t)
theorem MT.dp {K : PySem.W.Frag} {H : Hp} {v : V} {rows : List (List Int)} (h : MT H v rows) : Dp K H v (MD rows) := by
  obtain ⟨a, ts, rfl, h, p⟩ := h
  exact .tup (SqT.of h) (fts_dp p)
def rowD (p n : Int) : PyData → Bool
  | .tuple ds => letsD p n (.tuple ds)
  | _ => false
def matD (p n : Int) : PyData → Bool
  | .tuple ds => ds.all (rowD p n)
  | _ => false
def membs : PyData → List PyData
  | .tuple ds => ds
  | .list ds => ds
  | _ => []
def widD : PyData → Int
  | .tuple (.tuple ds :: _) => ds.length
  | _ => 0
def smallM (d : PyData) : Prop := smallD d ∧ ∀ r ∈ membs d, smallD r
theorem row_lets {p : Int} {n : Nat} {r : List Int} : rowD p n (rowP r) = true ↔ Ltr p n r := by
  show (decide (((r.map PyData.int).length : Int) = (n : Int)) && (r.map PyData.int).all (belD p)) = true ↔ _
  rw [Bool.and_eq_true, List.length_map, List.all_map, List.all_eq_true]
  constructor
  · rintro ⟨h1, h2⟩
    refine ⟨by have := of_decide_eq_true h1; omega, fun i hi => ?_⟩
    have := h2 i hi
    have e : (decide (0 ≤ i) && decide (i < p)) = true := this
    obtain ⟨a, b⟩ := and2 e
    exact ⟨of_decide_eq_true a, of_decide_eq_true b⟩
  · rintro ⟨h1, h2⟩
    refine ⟨decide_eq_true (by omega), fun i hi => ?_⟩
    obtain ⟨a, b⟩ := h2 i hi
    show (decide (0 ≤ i) && decide (i < p)) = true
    rw [decide_eq_true a, decide_eq_true b]
    rfl
theorem mat_rows {p : Int} {n : Nat} {rows : List (List Int)} (h : ∀ r ∈ rows, Ltr p n r) : matD p n (MD rows) = true := by
  show (rows.map rowP).all (rowD p n) = true
  rw [List.all_map, List.all_eq_true]
  exact fun r hr => row_lets.mpr (h r hr)
theorem wid_rows {p : Int} {n : Nat} {rows : List (List Int)} (h : ∀ r ∈ rows, Ltr p n r) : matD p (widD (MD rows)) (MD rows) = true := by
  cases rows with
  | nil => rfl
  | cons r t =>
    have : widD (MD (r :: t)) = (n : Int) := by
      show (((r.map PyData.int).length : Nat) : Int) = _
      rw [List.length_map, (h r (List.mem_cons_self)).1]
    rw [this]
    exact mat_rows h
theorem small_rows {p : Int} {n : Nat} {rows : List (List Int)} (h : ∀ r ∈ rows, Ltr p n r) (hn : n ≤ 200) (hm : rows.length ≤ 200) : smallM (MD rows) := by
  refine ⟨by show (rows.map rowP).length ≤ 200; rw [List.length_map]; exact hm, fun r hr => ?_⟩
  obtain ⟨t, ht, rfl⟩ := List.mem_map.mp (show r ∈ rows.map rowP from hr)
  show (t.map PyData.int).length ≤ 200
  rw [List.length_map, (h t ht).1]
  exact hn
end WU

set_option maxRecDepth 100000
set_option maxHeartbeats 8000000
namespace WU
open PySem PySem.Spec PyProof.Rows L2
structure Blt4 (mg : Str → Option Value) : Prop extends Blt3 mg where
  any : mg "any" = none
  zip : mg "zip" = none
  max : mg "max" = none
  min : mg "min" = none
section
variable {P : Program} {w : World} {K : PySem.W.Frag} {mg : Str → Option Value} {base : Heap} {S : Addr}
def isTup : PyData → Bool
  | .tuple _ => true
  | _ => false
theorem kit_tup {d : PyData} (nd : ∀ kvs, d ≠ .dict kvs) : PySem.W.kitOne K (.type (tyName d)) (.type "tuple") = some (isTup d) := by
  cases d with
  | none => exact kit_ty (show kitB "NoneType" "tuple" = some false by decide +kernel)
  | bool b => exact kit_ty (show kitB "bool" "tuple" = some false by decide +kernel)
  | int i => exact kit_ty (show kitB "int" "tuple" = some false by decide +kernel)
  | str x => exact kit_ty (show kitB "str" "tuple" = some false by decide +kernel)
  | list xs => exact kit_ty (show kitB "list" "tuple" = some false by decide +kernel)
  | tuple xs => exact kit_ty (show kitB "tuple" "tuple" = some true by decide +kernel)
  | dict kvs => exact absurd rfl (nd kvs)
def spRow (K : PySem.W.Frag) : Sp := fun vs H Q _ => ∃ (p n : Int) (v : V) (d : PyData), vs = [v, .int p, .int n] ∧ Dp K H v d ∧ smallD d ∧ ∀ H', Same H H' → Q (.bl (rowD p n d)) H'
theorem scRow : FnScope ["value", "p", "columns"] ["value", "p", "columns"] (defScope s_is_row) := ⟨rfl, rfl, rfl, by decide +kernel, rfl, by decide +kernel, by decide +kernel⟩
theorem ok_row {f f1 : Addr} {fd fd1 : FuncData} (F : FnS K "_is_row" s_is_row f fd) (B : Blt4 mg) (CL : Cal P w K mg base 4 "are_letters" f1 fd1 ["p", "count", "value"] (spLets K)) : FnOk P w K mg base (L2.CX P w) 5 f fd ["value", "p", "columns"] (spRow K) := by
  refine F.ok scRow (fun vs H Q E h => ?_) (fun cdv A outer s H vs Q E hr h => ?_)
  · obtain ⟨p, n, v, d, rfl, _⟩ := h
    rfl
  · obtain ⟨p, n, v, d, rfl, hd, hz, k⟩ := h
    refine ⟨_, (pss_one (ps_ret (pe_and (pe_callB call_isi (by rfl) B.isi (by decide +kernel) (pa_cons (pv 0) (pa_cons (pe_bltn (v := .ty "tuple") (by rfl) B.tuple (by decide +kernel) rfl) pa_nil))) (pe_one (pe_cal CL hr (pa_cons (pv 1) (pa_cons (pv 2) (pa_cons (pv 0) pa_nil))) passU))))), ?_⟩
    refine ⟨_, rfl, _, _, _, _, _, rfl, .ty "tuple", dp_ty hd, kit_tup (dp_nodict hd), _, rfl, ?_⟩
    cases hi : isTup d with
    | false =>
      refine iteF ?_
      have := k H (Same.refl H)
      cases d <;> first | exact this | cases hi
    | true =>
      refine iteT ⟨_, rfl, _, rfl, _, rfl, p, n, v, d, rfl, hd, hz, fun H' s1 => ?_⟩
      have := k H' s1
      cases d <;> first | exact this | cases hi
def spMat (K : PySem.W.Frag) : Sp := fun vs H Q _ => ∃ (p n : Int) (v : V) (d : PyData), vs = [v, .int p, .int n] ∧ Dp K H v d ∧ smallM d ∧ ∀ H', Same H H' → Q (.bl (matD p n d)) H'
theorem scMat : FnScope ["value", "p", "columns", "row"] ["value", "p", "columns"] (defScope s_is_matrix) := ⟨rfl, rfl, rfl, by decide +kernel, rfl, by decide +kernel, by decide +kernel⟩
theorem ok_mat {f f1 : Addr} {fd fd1 : FuncData} (F : FnS K "is_matrix" s_is_matrix f fd) (B : Blt4 mg) (CR : Cal P w K mg base 5 "_is_row" f1 fd1 ["value", "p", "columns"] (spRow K)) : FnOk P w K mg base (L2.CX P w) 6 f fd ["value", "p", "columns"] (spMat K) := by
  refine F.ok scMat (fun vs H Q E h => ?_) (fun cdv A outer s H vs Q E hr h => ?_)
  · obtain ⟨p, n, v, d, rfl, _⟩ := h
    rfl
  · obtain ⟨p, n, v, d, rfl, hd, hz, k⟩ := h
    have nd := scMat.nd
    refine ⟨_, (pss_one (ps_ret (pe_and (pe_callB call_isi (by rfl) B.isi (by decide +kernel) (pa_cons (pv 0) (pa_cons (pe_bltn (v := .ty "tuple") (by rfl) B.tuple (by decide +kernel) rfl) pa_nil))) (pe_one (pe_callB (cr_all rfl) (by rfl) B.all (by decide +kernel) (pa_cons (pe_lc (own := [("row", 3)]) (g := gName 3) (by rfl) nd (pi_tup (pv 0)) (blkOk_by (own := [("row", 3)]) (N := ["value", "p", "columns", "row"]) (sc := defScope s_is_matrix) (by decide +kernel)) (fun _ _ _ _ _ => (pg_name (i := 3) nd rfl (Or.inl rfl))) (fun _ _ _ _ _ => pts_nil) (fun _ _ _ _ _ => (pe_cal CR hr (pa_cons (pv 3) (pa_cons (pv 1) (pa_cons (pv 2) pa_nil))) passU))) pa_nil)))))), ?_⟩
    refine ⟨_, rfl, _, _, _, _, _, rfl, .ty "tuple", dp_ty hd, kit_tup (dp_nodict hd), _, rfl, ?_⟩
    cases hi : isTup d with
    | false =>
      refine iteF ?_
      have := k H (Same.refl H)
      cases d <;> first | exact this | cases hi
    | true =>
      refine iteT ?_
      cases hd with
      | tup hs ha =>
        rename_i a xs ds
        refine ⟨_, rfl, a, rfl, ⟨_, hs⟩, fun D hD => lc_tup (K := K) (a := a) (xs := xs) (fun i H' => Bld FB H D ((ds.take i).map (rowD p n)) H') (Bld.start hD) (fun i H' _ b => sqT_same hs b.same) ?_ ?_⟩
        · rintro i x H' hx b
          obtain ⟨e, he, hy⟩ := dps_at ha hx
          have hl : i < ds.length := (List.getElem?_eq_some_iff.mp he).1
          have hz1 : ds.length ≤ 200 := hz.1
          refine ⟨rfl, _, rfl, _, rfl, _, rfl, p, n, x, e, rfl, dp_same b.same hy, hz.2 e (List.mem_of_getElem? he), fun H2 s2 => ?_⟩
          have r := b.put (y := .bl (rowD p n e)) (z := rowD p n e) stab_FB hD s2 rfl (by intro z; cases z) (by rw [List.length_map, List.length_take]; exact small1000 (by omega))
          rw [List.take_succ, he, List.map_append]
          exact r
        · intro H' b
          obtain ⟨s1, ys, eD, py⟩ := b.fin
          rw [dps_len ha, List.take_length] at py
          have ey := fb_map py
          subst ey
          refine ⟨D, ds.map (rowD p n), rfl, SqL.of eD, ?_⟩
          have ea : (ds.map (rowD p n)).all id = ds.all (rowD p n) := by rw [List.all_map]; rfl
          rw [ea]
          exact k H' s1
      | _ => cases hi
def spWid (K : PySem.W.Frag) : Sp := fun vs H Q _ => ∃ (v : V) (d : PyData), vs = [v] ∧ Dp K H v d ∧ Q (.int (widD d)) H
theorem scWid : FnScope ["rows"] ["rows"] (defScope s_width_of_rows) := ⟨rfl, rfl, rfl, by decide +kernel, rfl, by decide +kernel, by decide +kernel⟩
theorem ok_wid {f : Addr} {fd : FuncData} (F : FnS K "width_of_rows" s_width_of_rows f fd) (B : Blt4 mg) : FnOk P w K mg base (L2.CX P w) 1 f fd ["rows"] (spWid K) := by
  refine F.ok scWid (fun vs H Q E h => ?_) (fun cdv A outer s H vs Q E hr h => ?_)
  · obtain ⟨v, d, rfl, _⟩ := h
    rfl
  · obtain ⟨v, d, rfl, hd, k⟩ := h
    refine ⟨_, (pss_cons (ps_if (PW.pt (pw_and (pt_val (pe_callB call_isi (by rfl) B.isi (by decide +kernel) (pa_cons (pv 0) (pa_cons (pe_bltn (v := .ty "tuple") (by rfl) B.tuple (by decide +kernel) rfl) pa_nil)))) (pw_and (pt_cmpR op_gt (pe_callB call_len_seq (by rfl) B.len (by decide +kernel) (pa_cons (pv 0) pa_nil)) pe_int (nomark _)) (pw_and1 (pt_val (pe_callB call_isi (by rfl) B.isi (by decide +kernel) (pa_cons (pe_ix ix_tup (pv 0) pe_int (fun _ _ => rfl)) (pa_cons (pe_bltn (v := .ty "tuple") (by rfl) B.tuple (by decide +kernel) rfl) pa_nil)))))))) (pss_one (ps_ret (pe_callB call_len_seq (by rfl) B.len (by decide +kernel) (pa_cons (pe_ix ix_tup (pv 0) pe_int (fun _ _ => rfl)) pa_nil)))) pss_nil)
      (pss_one (ps_ret pe_int))), ?_⟩
    refine ⟨_, rfl, _, _, _, _, _, rfl, .ty "tuple", dp_ty hd, kit_tup (dp_nodict hd), _, rfl, ?_⟩
    cases hd with
    | tup hs ha =>
      rename_i a xs ds
      refine iteT ⟨_, rfl, a, xs, rfl, .inr hs, _, _, rfl, rfl, _, rfl, ?_⟩
      cases ha with
      | nil => exact iteFb (decide_eq_false (by decide)) (iteF k)
      | cons h1 h2 =>
        rename_i x xs e ds
        refine iteTb (decide_eq_true (by show ((0 : Int) < ((x :: xs).length : Nat)); rw [List.length_cons]; omega)) ?_
        refine ⟨_, rfl, a, _, _, x, rfl, rfl, hs, atI_nat (j := 0) rfl, _, _, _, _, _, rfl, .ty "tuple", dp_ty h1, kit_tup (dp_nodict h1), _, rfl, ?_⟩
        cases h1 with
        | tup hs1 ha1 =>
          rename_i c ys es
          refine iteT ⟨_, rfl, a, _, _, _, rfl, rfl, hs, atI_nat (j := 0) rfl, c, ys, rfl, .inr hs1, ?_⟩
          rw [dps_len ha1]
          exact k
        | _ => exact iteF k
    | _ => exact iteF k
end
end WU

set_option maxRecDepth 100000
set_option maxHeartbeats 8000000
namespace WU
open PySem PySem.Spec PyProof.Rows L2
section
variable {P : Program} {w : World} {K : PySem.W.Frag} {mg : Str → Option Value} {base : Heap} {S : Addr}
theorem errs_same {C : Addr} {f : Str} {v : V} {H H' : Hp} {E : XK} (h : Errs C f v H E) (s : Same H H') : Errs C f v H' E := fun d H2 s2 n hd => h d H2 (s.trans s2) (s.free n) hd
/-- check_matrix(p, rows) -/
def spChk (K : PySem.W.Frag) : Sp := fun vs H Q E => ∃ (v u : V), vs = [v, u] ∧ Ty3 K H v ∧ (isFld v = false → Errs (He.ga K "InvalidNumber") "value" v H E) ∧
  ∀ p, v = .int p → isFld v = true → ∃ d, Dp K H u d ∧ smallM d ∧ (matD p (widD d) d = false → Errs (He.ga K "InvalidMatrix") "value" u H E) ∧ (matD p (widD d) d = true → ∀ H', Same H H' → Q .non H')
theorem scChk : FnScope ["p", "rows"] ["p", "rows"] (defScope s_check_matrix) := ⟨rfl, rfl, rfl, by decide +kernel, rfl, by decide +kernel, by decide +kernel⟩
theorem ok_chk {f f1 f2 f3 : Addr} {fd fd1 fd2 fd3 fdI : FuncData} (F : FnS K "check_matrix" s_check_matrix f fd) (CF : Cal P w K mg base 3 "check_field" f1 fd1 ["p"] (spCheck K)) (CM : Cal P w K mg base 6 "is_matrix" f2 fd2 ["value", "p", "columns"] (spMat K))
    (CW : Cal P w K mg base 1 "width_of_rows" f3 fd3 ["rows"] (spWid K)) (T : Exc1 K mg "InvalidMatrix" "value")
    (FI : FnOk P w K mg base (L2.CX P w) 1 (He.ma K (He.ga K "InvalidMatrix") "__init__") fdI ["self", "value"] (spInit1 K (He.ga K "InvalidMatrix") "value")) (bI : Binds K fdI ["self", "value"] []) :
    FnOk P w K mg base (L2.CX P w) 7 f fd ["p", "rows"] (spChk K) := by
  refine F.ok scChk (fun vs H Q E h => ?_) (fun cdv A outer s H vs Q E hr h => ?_)
  · obtain ⟨v, u, rfl, _⟩ := h
    rfl
  · obtain ⟨v, u, rfl, hv, kF, kk⟩ := h
    refine ⟨_, (pss_cons (ps_expr (pe_cal (E := E) CF (hr.mono (by decide)) (pa_cons (pv 0) pa_nil) (passes_call (takes_of rfl rfl rfl rfl) (fun _ _ _ _ h => h))))
      (pss_one (ps_if (pt_not (pt_val (pe_cal CM (hr.mono (by decide)) (pa_cons (pv 1) (pa_cons (pv 0) (pa_cons (pe_cal CW (hr.mono (by decide)) (pa_cons (pv 1) pa_nil) passU) pa_nil))) passU))) (pss_one (ps_raise1 rfl (takes_of rfl rfl rfl rfl) T FI bI (hr.mono (by decide)) (pa_cons (pv 1) pa_nil))) pss_nil))), ?_⟩
    refine ⟨_, rfl, v, rfl, hv, fun e => ?_, kF⟩
    cases v with
    | int p =>
      obtain ⟨d, hd, hz, kN, kY⟩ := kk p rfl e
      refine ⟨_, rfl, _, rfl, _, rfl, u, d, rfl, hd, p, widD d, u, d, rfl, hd, hz, fun H1 s1 => ⟨_, rfl, ?_⟩⟩
      cases em : matD p (widD d) d with
      | true => exact iteF (kY em H1 s1)
      | false => exact iteT ⟨_, rfl, u, rfl, errs_same (kN em) s1⟩
    | _ => cases e
/-- _less(p, row, factor, lead) -/
def spLess : Sp := fun vs H Q _ => ∃ (p f : Int) (n : Nat) (v u : V) (r l : List Int), vs = [.int p, v, .int f, u] ∧ FT H v r ∧ FT H u l ∧ p ∈ primes ∧ 0 ≤ f ∧ f < p ∧ r.length = n ∧ l.length = n ∧ n ≤ 200 ∧ (∀ x ∈ l, 0 ≤ x ∧ x < p) ∧
  ∀ y H', Same H H' → FN H' y (less p r f l) → Q y H'
theorem walk_zipT {a b : Addr} {xs ys : List V} {n : Nat} (hn : n = min xs.length ys.length) : Walk (RZ.ItzT K a b) n (fun H => SqT K H a xs ∧ SqT K H b ys) (YPair (fun i => xs[i]?) (fun i => ys[i]?)) where
  goes := fun i _ hi ⟨sx, sy⟩ => ⟨xs, ys, xs[i]'(by omega), ys[i]'(by omega), sx, sy, List.getElem?_eq_getElem _, List.getElem?_eq_getElem _⟩
  stops := fun _ ⟨sx, sy⟩ => ⟨xs, ys, sx, sy, by omega⟩
  yields := fun _ _ _ _ _ ⟨sx, sy⟩ ⟨T, x, y, e, new, eH, fx, fy⟩ => ⟨T, x, y, e, new, eH, fx xs sx, fy ys sy⟩
theorem take_map_at (n : Nat) {r : List Int} {i : Nat} (hi : i < r.length) : (r.map V.int)[i]? = some (.int (at0 r i)) := by
  rw [List.getElem?_map, at0_some hi]
  rfl
theorem take_at0 {r : List Int} {i : Nat} (hi : i < r.length) : r.take (i + 1) = r.take i ++ [at0 r i] := by
  rw [List.take_succ, at0_some hi]
  rfl
end
end WU

set_option maxRecDepth 100000
set_option maxHeartbeats 8000000
namespace WU
open PySem PySem.Spec PyProof.Rows L2
section
variable {P : Program} {w : World} {K : PySem.W.Frag} {mg : Str → Option Value} {base : Heap} {S : Addr}
/-- _led_by_one(p, row, column) -/
def spLed : Sp := fun vs H Q _ => ∃ (p : Int) (n j : Nat) (v : V) (r : List Int), vs = [.int p, v, .int j] ∧ FT H v r ∧ p ∈ primes ∧ Ltr p n r ∧ n ≤ 200 ∧ j < n ∧ hot j r = true ∧ ∀ y H', Same H H' → FN H' y (led p r j) → Q y H'
theorem isBel_in {p a : Int} (h0 : 0 ≤ a) (h1 : a < p) : isBel p (.int a) = true := by
  show (decide (0 ≤ a) && decide (a < p)) = true
  rw [decide_eq_true h0, decide_eq_true h1]
  rfl
theorem iteND {c : Prop} [Decidable c] {A B : Prop} (h1 : ¬ c → A) (h2 : c → B) : if (!decide c) = true then A else B := by
  by_cases h : c
  · rw [decide_eq_true h]
    exact iteF (h2 h)
  · rw [decide_eq_false h]
    exact iteT (h1 h)
/-- a list of rows -/
def LX (F : Hp → V → List Int → Prop) (H : Hp) (v : V) (rows : List (List Int)) : Prop := ∃ a ts, v = .ref a ∧ H a = some (.lst ts) ∧ Paired (F H) ts rows
abbrev LT := LX FT
abbrev LN := LX FN
theorem LX.same {F : Hp → V → List Int → Prop} (g : Good F) {H H' : Hp} {v : V} {rows : List (List Int)} (h : LX F H v rows) (s : Same H H') : LX F H' v rows := by
  obtain ⟨a, ts, e, h, p⟩ := h
  exact ⟨a, ts, e, s _ _ h, paired_mono (fun _ _ q => g.same q s) p⟩
/-- _cleared(p, rows, lead, column) -/
def spClr : Sp := fun vs H Q _ => ∃ (F : Hp → V → List Int → Prop) (p : Int) (n j : Nat) (v u : V) (rows : List (List Int)) (l : List Int), vs = [.int p, v, u, .int j] ∧ Good F ∧ LX F H v rows ∧ FT H u l ∧ p ∈ primes ∧ (∀ r ∈ rows, Ltr p n r) ∧ Ltr p n l ∧ n ≤ 200 ∧ rows.length ≤ 200 ∧ j < n ∧
  ∀ y H', Same H H' → LX F H' y (rows.map (clr p l j)) → Q y H'
end
end WU

set_option maxRecDepth 100000
set_option maxHeartbeats 8000000
namespace WU
open PySem PySem.Spec PyProof.Rows L2
theorem take_filter {q : List Int → Bool} {rows : List (List Int)} {i : Nat} {r : List Int} (h : rows[i]? = some r) : (rows.take (i + 1)).filter q = (rows.take i).filter q ++ (if q r = true then [r] else []) := by
  rw [List.take_succ, h, List.filter_append]
  congr 1
  show List.filter q [r] = _
  rw [List.filter_cons]
  split <;> rfl
theorem filter_le {q : List Int → Bool} {rows : List (List Int)} {i : Nat} (h : rows.length ≤ 200) : ((rows.take i).filter q).length < sizeLine :=
  small1000 (Nat.le_trans (List.length_filter_le _ _) (by rw [List.length_take]; omega))
/-- lists built by a test, item by item -/
theorem bld_if {H1 H H' : Hp} {D : Addr} {q : List Int → Bool} {rows : List (List Int)} {i : Nat} {r : List Int} {y : V} (b : Bld FT H1 D ((rows.take i).filter q) H) (h : rows[i]? = some r) (hD : H1 D = none) (s : Same H H') (f : FT H' y r) (ny : y ≠ .ref D) (hl : rows.length ≤ 200) (e : q r = true) :
    ∃ acc, H' D = some (.lst acc) ∧ acc.length < sizeLine ∧ Bld FT H1 D ((rows.take (i + 1)).filter q) (upd H' D (.lst (acc ++ [y]))) := by
  rw [take_filter h, if_pos e]
  exact b.put stab_FT hD s f ny (filter_le hl)
theorem bld_not {H1 H H' : Hp} {D : Addr} {q : List Int → Bool} {rows : List (List Int)} {i : Nat} {r : List Int} (b : Bld FT H1 D ((rows.take i).filter q) H) (h : rows[i]? = some r) (s : Same H H') (e : q r = false) : Bld FT H1 D ((rows.take (i + 1)).filter q) H' := by
  rw [take_filter h, if_neg (by rw [e]; decide), List.append_nil]
  exact b.skip stab_FT s
section
variable {P : Program} {w : World} {K : PySem.W.Frag} {mg : Str → Option Value} {base : Heap} {S : Addr}
/-- rows in a list or a tuple -/
def SR (H : Hp) (v : V) (rows : List (List Int)) : Prop := ∃ a ts, v = .ref a ∧ SqO H a ts ∧ Paired (FT H) ts rows
theorem SR.same {H H' : Hp} {v : V} {rows : List (List Int)} (h : SR H v rows) (s : Same H H') : SR H' v rows := by
  obtain ⟨a, ts, e, h, p⟩ := h
  exact ⟨a, ts, e, h.same s, paired_mono (fun _ _ q => q.same s) p⟩
theorem MT.sr {H : Hp} {v : V} {rows : List (List Int)} (h : MT H v rows) : SR H v rows := by
  obtain ⟨a, ts, e, h, p⟩ := h
  exact ⟨a, ts, e, .inr (.inl h), p⟩
theorem LT.sr {H : Hp} {v : V} {rows : List (List Int)} (h : LT H v rows) : SR H v rows := by
  obtain ⟨a, ts, e, h, p⟩ := h
  exact ⟨a, ts, e, .inl h, p⟩
/-- _reduced(p, rows) -/
def spRed : Sp := fun vs H Q _ => ∃ (p : Int) (n : Nat) (v : V) (rows : List (List Int)), vs = [.int p, v] ∧ SR H v rows ∧ p ∈ primes ∧ (∀ r ∈ rows, Ltr p n r) ∧ n ≤ 200 ∧ rows.length ≤ 200 ∧ ∀ y H', Same H H' → MN H' y (red p rows) → Q y H'
theorem stp_len {p : Int} {j : Nat} {s : List (List Int) × List (List Int)} : (stp p j s).1.length + (stp p j s).2.length = s.1.length + s.2.length := by
  unfold stp
  split
  · rfl
  · rename_i k e
    obtain ⟨a, r, b, ea, hk, _, _⟩ := find_hot e
    rw [List.length_map, List.length_append, List.length_map, ea, ← hk, erase_mid, List.length_append, List.length_append]
    simp
    omega
theorem run_len {p : Int} {rows : List (List Int)} : ∀ j, (run p rows j).1.length + (run p rows j).2.length = rows.length
  | 0 => rfl
  | j + 1 => by
    show (stp p j (run p rows j)).1.length + (stp p j (run p rows j)).2.length = _
    rw [stp_len, run_len j]
end
end WU

set_option maxRecDepth 100000
set_option maxHeartbeats 8000000
namespace WU
open PySem PySem.Spec PyProof.Rows L2
/-- a statement whose next state is told more loosely -/
def tWk (t : TS) : TS := fun D σ H => ∃ P : L2.St → Hp → Prop, t { D with nx := P } σ H ∧ ∀ σ1 H1, P σ1 H1 → D.nx σ1 H1
theorem ps_wk {X : Cx} {st : Stmt} {t : TS} (h : PS X st t) : PS X st (tWk t) := by
  refine ⟨fun pins s σ H D I ⟨P, q, k⟩ => thn (h.run pins s σ H { D with nx := P } I q) fun f s1 z => ?_⟩
  cases f with
  | next =>
    obtain ⟨σ', H', I', z⟩ := z
    exact ⟨σ', H', I', k _ _ z⟩
  | ret v => exact z
  | brk => exact z
  | cont => exact z
theorem FQ.keep {H H' : Hp} {a d : Addr} {y : V} {z : List Int} (h : FQ H y z) (hH : HandAt H a d) (k : Keep a H H') : FQ H' y z := by
  obtain ⟨c, e, h⟩ := h
  obtain ⟨ds, i0, z1, _⟩ := hH
  exact ⟨c, e, k _ _ (ne_of h z1 (by intro z; cases z)) h⟩
theorem FQ.but {H H' : Hp} {D : Addr} {xs : List V} {y : V} {z : List Int} (h : FQ H y z) (e : H D = some (.lst xs)) (k : ∀ b o, b ≠ D → H b = some o → H' b = some o) : FQ H' y z :=
  stab_FQ D H H' y z k (h.neL e) h
theorem lst_ne {H : Hp} {a d R : Addr} {ls : List Int} (hH : HandAt H a d) (h : H R = some (.lst (ls.map V.int))) : R ≠ a := by
  obtain ⟨ds, i0, z1, z2, _⟩ := hH
  intro q
  subst q
  rw [z1] at h
  have := HO.lst.inj (Option.some.inj h)
  cases ls with
  | nil => cases this
  | cons x t => cases (List.cons.inj this).1
theorem cut_to {xs : List V} {k : Nat} (hk : k ≤ xs.length) : cutV xs none (some (k : Int)) = xs.take k := by
  unfold cutV
  rw [HT.sIx_none, HT.sIx_nat, List.drop_zero, Nat.sub_zero, Nat.min_eq_left hk]
theorem cut_from {xs : List V} {k : Nat} (hk : k ≤ xs.length) : cutV xs (some (k : Int)) none = xs.drop k := by
  unfold cutV
  rw [HT.sIx_none, HT.sIx_nat, Nat.min_eq_left hk]
  exact List.take_of_length_le (by rw [List.length_drop]; omega)
theorem slA_is {K : PySem.W.Frag} {H : Hp} {a : Addr} {xs : List V} {lo hi : Option Int} {Q : VK} (h : H a = some (.tup xs)) (k : ∀ r H', Same H H' → H' r = some (.tup (cutV xs lo hi)) → Q (.ref r) H') : rSlA K (.ref a) lo hi H Q := by
  refine ⟨a, xs, rfl, SqT.of h, fun hw => ?_, fun _ r hr => k r _ (same_new hr) upd_same⟩
  have e : cutV xs lo hi = xs := by
    unfold cutV
    rw [hw.1, hw.2, List.drop_zero, Nat.sub_zero, List.take_length]
  exact k a H (Same.refl H) (by rw [e]; exact h)
theorem FT.keep {H H' : Hp} {a d : Addr} {y : V} {z : List Int} (h : FT H y z) (hH : HandAt H a d) (k : Keep a H H') : FT H' y z := by
  obtain ⟨c, e, h⟩ := h
  obtain ⟨ds, i0, z1, _⟩ := hH
  rcases h with h | ⟨o, h⟩
  · exact ⟨c, e, .inl (k _ _ (ne_of h z1 (by intro z; cases z)) h)⟩
  · exact ⟨c, e, .inr ⟨o, k _ _ (ne_of h z1 (by intro z; cases z)) h⟩⟩
def Lets (p : Int) (ls : List Int) : Prop := ∀ x ∈ ls, 0 ≤ x ∧ x < p
section
variable {P : Program} {w : World} {K : PySem.W.Frag} {mg : Str → Option Value} {base : Heap} {S : Addr}
def spLM : Sp := fun vs H Q _ => ∃ (a d : Addr) (p : Int) (m n : Nat), vs = [.ref a, .int p, .int m, .int n] ∧ HandAt H a d ∧ p ∈ primes ∧ m ≤ 100 ∧ n ≤ 100 ∧
  ∀ v rows H', MQ H' v rows → rows.length = m → (∀ r ∈ rows, Ltr p n r) → HandAt H' a d → Keep a H H' → Q v H'
theorem rep_one {x : V} : ∀ n : Nat, (List.replicate n [x]).flatten = List.replicate n x
  | 0 => rfl
  | n + 1 => by
    rw [List.replicate_succ, List.flatten_cons, rep_one n, List.replicate_succ]
    rfl
theorem rep_int (n : Nat) : (List.replicate n [V.int 0]).flatten = (List.replicate n (0 : Int)).map V.int := by
  rw [rep_one, List.map_replicate]
theorem rep_lets {p : Int} (hp : 0 < p) (n : Nat) : Lets p (List.replicate n 0) := fun x hx => by
  rw [(List.mem_replicate.mp hx).2]
  omega
theorem take_lets {p : Int} {ls : List Int} {n : Nat} (h : Lets p ls) (hn : n ≤ ls.length) : Ltr p n (ls.take n) :=
  ⟨by rw [List.length_take]; omega, fun x hx => h x (List.mem_of_mem_take hx)⟩
/-- the rows that stand in the list L -/
def Rws (p : Int) (n : Nat) (L : Addr) (i : Nat) (H : Hp) : Prop := ∃ ts rs, H L = some (.lst ts) ∧ Paired (FQ H) ts rs ∧ rs.length = i ∧ ∀ r ∈ rs, Ltr p n r
theorem Rws.keep {p : Int} {n i : Nat} {L a d : Addr} {H H' : Hp} (h : Rws p n L i H) (ne : L ≠ a) (hH : HandAt H a d) (k : Keep a H H') : Rws p n L i H' := by
  obtain ⟨ts, rs, e, q, l, z⟩ := h
  exact ⟨ts, rs, k _ _ ne e, paired_mono (fun _ _ f => f.keep hH k) q, l, z⟩
end
end WU

set_option maxRecDepth 100000
set_option maxHeartbeats 8000000
namespace WU
open PySem PySem.Spec PyProof.Rows L2
def retLc : Stmt → Scope
  | .Return (some (.Call _ (.ListComp _ _ sc _ :: _) _ _)) _ => sc
  | st => defScope st
theorem map_take_succ {α β : Type} {f : α → β} {l : List α} {i : Nat} {x : α} (h : l[i]? = some x) : (l.take (i + 1)).map f = (l.take i).map f ++ [f x] := by
  rw [List.take_succ, h, List.map_append]
  rfl
theorem map_range_succ {β : Type} {f : Nat → β} {i : Nat} : (List.range (i + 1)).map f = (List.range i).map f ++ [f i] := by
  rw [List.range_succ, List.map_append]
  rfl
theorem ref_new {H : Hp} {D q : Addr} {o : HO} (e : H D = some o) (hq : H q = none) : V.ref q ≠ V.ref D := fun z => by
  cases z
  rw [e] at hq
  cases hq
/-- ints that are places -/
def nV (ks : List Nat) : List V := ks.map fun (k : Nat) => V.int (k : Int)
theorem nV_at {ks : List Nat} {j : Nat} {y : V} (h : (nV ks)[j]? = some y) : ∃ k, ks[j]? = some k ∧ y = .int (k : Int) := by
  unfold nV at h
  rw [List.getElem?_map] at h
  obtain ⟨k, hk, rfl⟩ := Option.map_eq_some_iff.mp h
  exact ⟨k, hk, rfl⟩
theorem nV_len {ks : List Nat} : (nV ks).length = ks.length := List.length_map _
section
variable {P : Program} {w : World} {K : PySem.W.Frag} {mg : Str → Option Value} {base : Heap} {S : Addr}
/-- columns_at(rows, places) -/
def spCA : Sp := fun vs H Q _ => ∃ (v : V) (u : Addr) (rows : List (List Int)) (n : Nat) (ks : List Nat), vs = [v, .ref u] ∧ MT H v rows ∧ H u = some (.lst (nV ks)) ∧ (∀ r ∈ rows, r.length = n) ∧ (∀ k ∈ ks, k < n) ∧ rows.length ≤ 200 ∧ ks.length ≤ 200 ∧
  ∀ y H', Same H H' → MT H' y (rows.map fun r => ks.map (at0 r)) → Q y H'
/-- turned_rows(rows, columns) -/
def spTR : Sp := fun vs H Q _ => ∃ (v : V) (rows : List (List Int)) (n : Nat), vs = [v, .int n] ∧ MT H v rows ∧ (∀ r ∈ rows, r.length = n) ∧ rows.length ≤ 200 ∧ n ≤ 200 ∧
  ∀ y H', Same H H' → MT H' y ((List.range n).map (colm rows)) → Q y H'
/-- leads_of(reduced) -/
def nI (ks : List Nat) : List Int := ks.map fun (k : Nat) => (k : Int)
def spLO : Sp := fun vs H Q _ => ∃ (v : V) (p : Int) (L : List (List Int)) (n : Nat) (qs : List Nat), vs = [v] ∧ MN H v L ∧ Rr p n L qs ∧ L.length ≤ 400 ∧ ∀ y H', Same H H' → FT H' y (nI qs) → Q y H'
end
end WU

set_option maxRecDepth 100000
set_option maxHeartbeats 8000000
namespace WU
open PySem PySem.Spec PyProof.Rows L2
structure Blt5 (mg : Str → Option Value) : Prop extends Blt4 mg where
  sum : mg "sum" = none
theorem sum_dotn {r ls : List Int} : ∀ n, ((List.range n).map fun k => at0 r k * at0 ls k).sum = dotn n r ls
  | 0 => rfl
  | n + 1 => by
    rw [map_range_succ, List.sum_append, sum_dotn n]
    show dotn n r ls + (at0 r n * at0 ls n + 0) = _
    rw [Int.add_zero]
    rfl
section
variable {P : Program} {w : World} {K : PySem.W.Frag} {mg : Str → Option Value} {base : Heap} {S : Addr}
/-- _products(p, rows, letters) -/
def spPr : Sp := fun vs H Q _ => ∃ (p : Int) (n : Nat) (v : V) (u : Addr) (rows : List (List Int)) (ls : List Int), vs = [.int p, v, .ref u] ∧ MT H v rows ∧ SqO H u (ls.map V.int) ∧ p ∈ primes ∧ (∀ r ∈ rows, Ltr p n r) ∧ ls.length = n ∧ n ≤ 200 ∧ rows.length ≤ 200 ∧
  ∀ y H', Same H H' → FT H' y (rows.map fun r => (dotn n r ls).fmod p) → Q y H'
theorem scPr : FnScope ["p", "rows", "letters", "row", "a", "b"] ["p", "rows", "letters"] (defScope s_u_products) := ⟨rfl, rfl, rfl, by decide +kernel, rfl, by decide +kernel, by decide +kernel⟩
theorem ok_Pr {f : Addr} {fd : FuncData} (F : FnS K "_products" s_u_products f fd) (B : Blt5 mg) : FnOk P w K mg base (L2.CX P w) 1 f fd ["p", "rows", "letters"] spPr := by
  refine F.ok scPr (fun vs H Q E h => ?_) (fun cdv A outer s H vs Q E hr h => ?_)
  · obtain ⟨p, n, v, u, rows, ls, rfl, _⟩ := h
    rfl
  · obtain ⟨p, n, v, u, rows, ls, rfl, ⟨a, ts, rfl, ha, hts⟩, hu, hp, hR, hl, hn, hm, k⟩ := h
    have nd := scPr.nd
    have hb := fld_le hp
    refine ⟨_, (pss_one (ps_ret (pe_callTy (tup_ofK (K := K)) (by rfl) B.tuple (by decide +kernel) (pa_cons (pe_lc (own := [("row", 3)]) (g := gName 3) (by rfl) nd (pi_tupK (K := K) (pv 1)) (blkOk_by (own := [("row", 3)]) (N := ["p", "rows", "letters", "row", "a", "b"]) (sc := defScope s_u_products) (by decide +kernel)) (fun _ _ _ _ _ => (pg_name (i := 3) nd rfl (Or.inl rfl))) (fun _ _ _ _ _ => pts_nil) (fun _ _ _ _ _ => (pe_op op_modN (pe_callB (cr_sumK (K := K) rfl) (by rfl) B.sum (by decide +kernel) (pa_cons (pe_lc (own := [("a", 4), ("b", 5)]) (g := gTup K 2 (gCons (gName 4) (gCons (gName 5) gNil))) (by rfl) nd (pi_zipMK (K := K) (by rfl) B.zip (pa_cons (pv 3) (pa_cons (pv 2) pa_nil))) (blkOk_by (own := [("a", 4), ("b", 5)]) (N := ["p", "rows", "letters", "row", "a", "b"]) (sc := relS (retLc ((defBody s_u_products).getD 0 (.Pass ⟨0, 0, 0, 0⟩))) (defScope s_u_products)) (by decide +kernel)) (fun _ _ _ _ _ => (pg_tupK (K := K) <| pg_tup rfl (pgs_cons (pg_name (i := 4) nd rfl (Or.inl rfl)) (pgs_cons (pg_name (i := 5) nd rfl (Or.inl rfl)) pgs_nil)))) (fun _ _ _ _ _ => pts_nil) (fun _ _ _ _ _ => (pe_op op_mul (pv 4) (pv 5)))) pa_nil)) (pv 0)))) pa_nil)))), ?_⟩
    refine ⟨_, rfl, a, rfl, ⟨_, SqT.of ha⟩, fun D hD => lc_tup (K := K) (a := a) (xs := ts) (fun i H' => Bld FI H D ((rows.take i).map fun r => (dotn n r ls).fmod p) H') (Bld.start hD) (fun i H' _ b => SqT.of (b.same _ _ ha)) ?_ ?_⟩
    · intro i x H1 hx b
      obtain ⟨r, hr0, hxr⟩ := paired_at hts hx
      obtain ⟨c, rfl, hc⟩ := hxr.same b.same
      have hrL := hR r (List.mem_of_getElem? hr0)
      have lr : (r.map V.int).length = n := by rw [List.length_map, hrL.1]
      have ll : (ls.map V.int).length = n := by rw [List.length_map, hl]
      refine ⟨rfl, _, rfl, _, rfl, c, u, r.map V.int, ls.map V.int, rfl, ?_⟩
      rcases hu.same b.same with hu1 | hu1
      · refine .inl ⟨sqT hc, SqL.of hu1, fun D2 hD2 => lc_it (walk_zipM lr ll) (fun j H' => Bld FI H1 D2 ((List.range j).map fun k => at0 r k * at0 ls k) H') (Bld.start hD2) (fun j H' _ b2 => ⟨sqT (rd_same b2.same hc), SqL.of (b2.same _ _ hu1)⟩) ?_ ?_⟩
        · rintro j x H2 H3 hj b2 ⟨T, x1, x2, rfl, hT, rfl, g1, g2⟩
          cases (take_map_at n (r := r) (i := j) (by rw [hrL.1]; exact hj)).symm.trans g1
          cases (take_map_at n (r := ls) (i := j) (by rw [hl]; exact hj)).symm.trans g2
          have bj := hrL.bd hj
          refine ⟨T, _, rfl, SqT.of upd_same, rfl, _, _, rfl, _, _, rfl, rfl, rfl, ?_⟩
          refine ⟨_, rfl, _, rfl, _, _, rfl, rfl, .inl ⟨by omega, by omega⟩, ?_⟩
          rw [map_range_succ]
          exact b2.put (y := .int (at0 r j * at0 ls j)) (z := at0 r j * at0 ls j) stab_FI hD2 (same_new hT) rfl (by intro z; cases z) (by rw [List.length_map, List.length_range]; exact small1000 (by omega))
        · intro H2 b2
          obtain ⟨s2, ys, eD, py⟩ := b2.fin
          rw [fi_map py] at eD
          refine ⟨D2, _, rfl, SqL.of eD, _, rfl, _, p, rfl, rfl, by omega, ?_⟩
          rw [sum_dotn, map_take_succ hr0]
          exact b.put (y := .int ((dotn n r ls).fmod p)) (z := (dotn n r ls).fmod p) stab_FI hD s2 rfl (by intro z; cases z) (by rw [List.length_map, List.length_take]; exact small1000 (by omega))
      · refine .inr ⟨sqT hc, sqT hu1, fun D2 hD2 => lc_it (walk_zipT (n := n) (by rw [lr, ll]; exact (Nat.min_self n).symm)) (fun j H' => Bld FI H1 D2 ((List.range j).map fun k => at0 r k * at0 ls k) H') (Bld.start hD2) (fun j H' _ b2 => ⟨sqT (rd_same b2.same hc), sqT (rd_same b2.same hu1)⟩) ?_ ?_⟩
        · rintro j x H2 H3 hj b2 ⟨T, x1, x2, rfl, hT, rfl, g1, g2⟩
          cases (take_map_at n (r := r) (i := j) (by rw [hrL.1]; exact hj)).symm.trans g1
          cases (take_map_at n (r := ls) (i := j) (by rw [hl]; exact hj)).symm.trans g2
          have bj := hrL.bd hj
          refine ⟨T, _, rfl, SqT.of upd_same, rfl, _, _, rfl, _, _, rfl, rfl, rfl, ?_⟩
          refine ⟨_, rfl, _, rfl, _, _, rfl, rfl, .inl ⟨by omega, by omega⟩, ?_⟩
          rw [map_range_succ]
          exact b2.put (y := .int (at0 r j * at0 ls j)) (z := at0 r j * at0 ls j) stab_FI hD2 (same_new hT) rfl (by intro z; cases z) (by rw [List.length_map, List.length_range]; exact small1000 (by omega))
        · intro H2 b2
          obtain ⟨s2, ys, eD, py⟩ := b2.fin
          rw [fi_map py] at eD
          refine ⟨D2, _, rfl, SqL.of eD, _, rfl, _, p, rfl, rfl, by omega, ?_⟩
          rw [sum_dotn, map_take_succ hr0]
          exact b.put (y := .int ((dotn n r ls).fmod p)) (z := (dotn n r ls).fmod p) stab_FI hD s2 rfl (by intro z; cases z) (by rw [List.length_map, List.length_take]; exact small1000 (by omega))
    · intro H1 b
      obtain ⟨s1, ys, eD, py⟩ := b.fin
      rw [paired_len hts, List.take_length] at py
      rw [fi_map py] at eD
      exact ⟨D, _, rfl, .inl ⟨SqL.of eD, fun q hq => k _ _ (s1.trans (same_new hq)) FT.new⟩⟩
/-- _zero_row(p, leading, leads, columns, free) -/
def spZR : Sp := fun vs H Q _ => ∃ (p : Int) (n f : Nat) (v l : V) (L : List (List Int)) (pvs : List Nat), vs = [.int p, v, l, .int n, .int f] ∧ MT H v L ∧ FT H l (nI pvs) ∧ p ∈ primes ∧ Rr p n L pvs ∧ f ∈ free n pvs ∧ n ≤ 200 ∧ L.length ≤ 400 ∧
  ∀ y z H', Same H H' → ZR p n L pvs f z → FT H' y z → Q y H'
theorem nI_at {ks : List Nat} {j : Nat} {y : V} (h : ((nI ks).map V.int)[j]? = some y) : ∃ k, ks[j]? = some k ∧ y = .int (k : Int) := by
  unfold nI at h
  rw [List.map_map, List.getElem?_map] at h
  obtain ⟨k, hk, rfl⟩ := Option.map_eq_some_iff.mp h
  exact ⟨k, hk, rfl⟩
theorem nI_len {ks : List Nat} : (nI ks).length = ks.length := List.length_map _
end
end WU

set_option maxRecDepth 100000
set_option maxHeartbeats 8000000
namespace WU
open PySem PySem.Spec PyProof.Rows L2
/-! ### books -/
def TB (H : Hp) (r : V) (b : List Int) : Prop := ∃ c, r = .ref c ∧ H c = some (.tup (b.map V.int))
def SB (H : Hp) (r : V) (b : List Int) : Prop := ∃ c, r = .ref c ∧ (H c = some (.lst (b.map V.int)) ∨ H c = some (.tup (b.map V.int)))
theorem TB.sb {H : Hp} {r : V} {b : List Int} (h : TB H r b) : SB H r b := by
  obtain ⟨c, e, h⟩ := h
  exact ⟨c, e, .inr h⟩
theorem TB.same {H H' : Hp} {r : V} {b : List Int} (h : TB H r b) (s : Same H H') : TB H' r b := by
  obtain ⟨c, e, h⟩ := h
  exact ⟨c, e, s _ _ h⟩
theorem SB.same {H H' : Hp} {r : V} {b : List Int} (h : SB H r b) (s : Same H H') : SB H' r b := by
  obtain ⟨c, e, h⟩ := h
  exact ⟨c, e, h.imp (s _ _) (s _ _)⟩
/-- a row of letters -/
structure LGood (p : Int) (n : Nat) (bs : List (List Int)) : Prop where
  ne : bs ≠ []
  pos : 0 < n
  le : n ≤ 100
  cnt : bs.length ≤ 100
  all : ∀ b ∈ bs, Ltr p n b
theorem lets_of {p : Int} {n : Nat} {b : List Int} (h : Ltr p n b) : letsD p n (.tuple (b.map PyData.int)) = true ∧ letsD p n (.list (b.map PyData.int)) = true := by
  have e : (decide (((b.map PyData.int).length : Int) = n) && (b.map PyData.int).all (belD p)) = true := by
    rw [List.length_map, h.1, decide_eq_true rfl, Bool.true_and, List.all_map]
    refine List.all_eq_true.mpr fun i hi => ?_
    obtain ⟨h1, h2⟩ := h.2 i hi
    show (decide (0 ≤ i) && decide (i < p)) = true
    rw [decide_eq_true h1, decide_eq_true h2]
    rfl
  exact ⟨e, e⟩
theorem sb_dp {K : PySem.W.Frag} {H : Hp} {r : V} {b : List Int} {p : Int} {n : Nat} (h : SB H r b) (g : Ltr p n b) (hn : n ≤ 100) : ∃ d, Dp K H r d ∧ smallD d ∧ letsD p n d = true ∧ isSeq d = true ∧ ∃ c, r = .ref c ∧ (SqL K H c (b.map V.int) ∨ SqT K H c (b.map V.int)) := by
  obtain ⟨c, rfl, h | h⟩ := h
  · refine ⟨.list (b.map PyData.int), .lst (SqL.of h) (dps_ints b), ?_, (lets_of g).2, rfl, c, rfl, .inl (SqL.of h)⟩
    show (b.map PyData.int).length ≤ 200
    rw [List.length_map, g.1]
    omega
  · refine ⟨.tuple (b.map PyData.int), .tup (SqT.of h) (dps_ints b), ?_, (lets_of g).1, rfl, c, rfl, .inr (SqT.of h)⟩
    show (b.map PyData.int).length ≤ 200
    rw [List.length_map, g.1]
    omega
/-- a walk over a tuple that stands -/
theorem wTup {K : PySem.W.Frag} {a : Addr} {xs : List V} {H0 : Hp} {Qd : Hp → Prop} {B : V → Hp → (Hp → Prop) → Prop} (Pv : Nat → Hp → Prop) (h0 : Pv 0 H0) (hl : ∀ i H, Pv i H → SqT K H a xs)
    (hs : ∀ i x H, xs[i]? = some x → Pv i H → B x H (Pv (i + 1))) (hd : ∀ H, Pv xs.length H → Qd H) :
    ∃ W : Nat → Nat → Hp → Prop, (∃ m, W 0 m H0) ∧ ∀ i m H, W i m H → ((Itt K a).stop i H ∧ Qd H) ∨
      ((Itt K a).go i H ∧ ∃ Nx : Hp → Prop, (∀ H', Nx H' → ∃ m', m' < m ∧ W (i + 1) m' H') ∧ ∀ x H', (Itt K a).yld i H x H' → B x H' Nx) := by
  refine ⟨fun i m H => m + i = xs.length ∧ Pv i H, ⟨xs.length, rfl, h0⟩, fun i m H h => ?_⟩
  obtain ⟨hm, pv⟩ := h
  have q := hl i H pv
  cases m with
  | zero =>
    have e : i = xs.length := by omega
    subst e
    exact .inl ⟨⟨xs, q, Nat.le_refl _⟩, hd H pv⟩
  | succ m =>
    have hi : i < xs.length := by omega
    refine .inr ⟨⟨xs, xs[i], q, List.getElem?_eq_getElem hi⟩, Pv (i + 1), fun H' p' => ⟨m, Nat.lt_succ_self m, by omega, p'⟩, fun x H' y => ?_⟩
    obtain ⟨e, y⟩ := y
    subst e
    exact hs i x _ (y xs q) pv
section
variable {P : Program} {w : World} {K : PySem.W.Frag} {mg : Str → Option Value} {base : Heap} {L : Addr}
/-- letters_of(books): all books are tuples -/
def spLet (K : PySem.W.Frag) : Sp := fun vs H Q _ => ∃ (a : Addr) (rs : List V) (bs : List (List Int)) (n : Nat), vs = [.ref a] ∧ SqT K H a rs ∧ Paired (TB H) rs bs ∧ bs.length ≤ 100 ∧ (∀ b ∈ bs, b.length = n) ∧ n ≤ 100 ∧
  ∀ r H', Same H H' → H' r = some (.tup (bs.flatten.map V.int)) → Q (.ref r) H'
theorem scLO : FnScope ["books", "book", "letter"] ["books"] (defScope s_letters_of) := ⟨rfl, rfl, rfl, by decide +kernel, rfl, by decide +kernel, by decide +kernel⟩
theorem flat_len : ∀ {bs : List (List Int)} {n : Nat}, (∀ b ∈ bs, b.length = n) → bs.flatten.length = bs.length * n
  | [], n, _ => by simp
  | b :: bs, n, h => by
    rw [List.flatten_cons, List.length_append, h b (List.mem_cons_self ..), flat_len fun c hc => h c (List.mem_cons_of_mem _ hc), List.length_cons, Nat.succ_mul]
    omega
theorem ok_LO {f : Addr} {fd : FuncData} (F : FnS K "letters_of" s_letters_of f fd) (B : Blt3 mg) : FnOk P w K mg base (L2.CX P w) 1 f fd ["books"] (spLet K) := by
  refine F.ok scLO (fun vs H Q E h => ?_) (fun cdv A outer s H vs Q E hr h => ?_)
  · obtain ⟨a, rs, bs, n, rfl, _⟩ := h
    rfl
  · obtain ⟨a, rs, bs, n, rfl, hT, hP, hc, hb, hn, k⟩ := h
    have nd := scLO.nd
    refine ⟨_, (pss_one (ps_ret (pe_callTy call_tuple_of (by rfl) B.tuple (by decide +kernel) (pa_cons (pe_lc2 (wi1 := iTup K (tVar 1)) (own := [("book", 1), ("letter", 2)]) (vs1 := [2]) (g := gName 1) (g1 := gName 2) (by rfl) nd (pi_tup (pv 0)) (blkOk_by (own := [("book", 1), ("letter", 2)]) (N := ["books", "book", "letter"]) (sc := defScope s_letters_of) (by decide +kernel)) (by decide) (fun _ _ _ _ _ => pg_name (i := 1) nd rfl (Or.inl rfl)) (fun _ _ _ _ _ => pts_nil) (fun _ _ _ _ _ => pi_tup (pv 1)) (fun _ _ _ _ _ => pg_name (i := 2) nd rfl (Or.inl rfl)) (fun _ _ _ _ _ => pts_nil) (fun _ _ _ _ _ => pv 2)) pa_nil)))), ?_⟩
    refine ⟨_, rfl, a, rfl, ⟨_, hT⟩, fun D hD => wTup (K := K) (a := a) (xs := rs) (fun i H' => Same H H' ∧ H' D = some (.lst ((bs.take i).flatten.map V.int))) ⟨same_new hD, upd_same⟩ (fun i H' z => sqT_same hT z.1) ?_ ?_⟩
    · rintro i x H1 hi ⟨s1, e⟩
      obtain ⟨b, hbi, c, rfl, ec⟩ := paired_at hP hi
      have hb1 : b.length = n := hb b (List.mem_of_getElem? hbi)
      have hi2 : i < bs.length := (List.getElem?_eq_some_iff.mp hbi).1
      have ect := s1 _ _ ec
      have hcD : c ≠ D := ne_of_none ec hD
      have fl : ∀ j, ((bs.take i).flatten ++ b.take j).length ≤ 100 * 100 := fun j => by
        rw [List.length_append, flat_len (n := n) fun d hd => hb d (List.mem_of_mem_take hd), List.length_take, List.length_take]
        have h1 : min i bs.length * n ≤ 99 * 100 := Nat.mul_le_mul (by omega) hn
        omega
      refine ⟨rfl, _, rfl, c, rfl, ⟨_, SqT.of ect⟩, wTup (K := K) (a := c) (xs := b.map V.int) (fun j H' => Same H H' ∧ H' D = some (.lst (((bs.take i).flatten ++ b.take j).map V.int))) ⟨s1, by rw [e, List.take_zero, List.append_nil]⟩ (fun j H' z => SqT.of (z.1 _ _ ec)) ?_ ?_⟩
      · rintro j x H2 hj ⟨s2, e2⟩
        obtain ⟨z, hz, rfl⟩ : ∃ z, b[j]? = some z ∧ x = V.int z := by
          rw [List.getElem?_map] at hj
          cases q : b[j]? with
          | none => rw [q] at hj; cases hj
          | some z => rw [q] at hj; exact ⟨z, rfl, (Option.some.inj hj).symm⟩
        refine ⟨rfl, _, rfl, _, e2, ?_, fun d o hd => by rw [upd_ne (ne_of_none hd hD)]; exact s2 d o hd, ?_⟩
        · rw [List.length_map]
          have := fl j
          exact Nat.lt_of_le_of_lt this (by decide)
        · rw [upd_same, List.take_succ, hz, ← List.append_assoc, List.map_append (l₂ := (some z).toList)]
          rfl
      · rintro H2 ⟨s2, e2⟩
        refine ⟨s2, ?_⟩
        rw [e2, List.length_map, List.take_length, List.take_succ, hbi]
        simp
    · rintro H1 ⟨s1, e⟩
      rw [paired_len hP, List.take_length] at e
      refine ⟨D, _, rfl, .inl ⟨SqL.of e, fun l hl => k l _ (s1.trans (same_new hl)) upd_same⟩⟩
def rLenS (K : PySem.W.Frag) : List V → Hp → VK → Prop := fun xs H Q => ∃ p ys, xs = [V.ref p] ∧ (SqL K H p ys ∨ SqT K H p ys) ∧ Q (.int ys.length) H
/-- are_books of what are books -/
def spAB (K : PySem.W.Frag) : Sp := fun vs H Q _ => ∃ (p : Int) (a : Addr) (rs : List V) (bs : List (List Int)) (n : Nat), vs = [.int p, .ref a] ∧ (SqL K H a rs ∨ SqT K H a rs) ∧ Paired (SB H) rs bs ∧ LGood p n bs ∧ ∀ H', Same H H' → Q (.bl true) H'
theorem scAB : FnScope ["p", "value", "book"] ["p", "value"] (defScope s_are_books) := ⟨rfl, rfl, rfl, by decide +kernel, rfl, by decide +kernel, by decide +kernel⟩
theorem ok_AB {f f1 f2 : Addr} {fd fd1 fd2 : FuncData} (F : FnS K "are_books" s_are_books f fd) (B : Blt3 mg) (CS : Cal P w K mg base 1 "is_sequence" f1 fd1 ["value"] (spSeq K)) (CL : Cal P w K mg base 4 "are_letters" f2 fd2 ["p", "count", "value"] (spLets K)) :
    FnOk P w K mg base (L2.CX P w) 5 f fd ["p", "value"] (spAB K) := by
  refine F.ok scAB (fun vs H Q E h => ?_) (fun cdv A outer s H vs Q E hr h => ?_)
  · obtain ⟨p, a, rs, bs, n, rfl, _⟩ := h
    rfl
  · obtain ⟨p, a, rs, bs, n, rfl, hx, hP, g, k⟩ := h
    have nd := scAB.nd
    have hr1 := hr.mono (show 1 ≤ 4 by decide)
    refine ⟨_, (pss_cons (ps_if (PW.pt (pw_or (pt_not (pt_val (pe_cal CS hr1 (pa_cons (pv 1) pa_nil) passU))) (pw_or1 (pt_cmpR op_eq (pe_callB call_len_seq (by rfl) B.len (by decide +kernel) (pa_cons (pv 1) pa_nil)) pe_int (nomark _))))) (pss_one (ps_ret pe_bl)) pss_nil)
      (pss_cons (ps_if (PW.pt (pw_or (pt_not (pt_val (pe_cal CS hr1 (pa_cons (pe_ix ix_seq (pv 1) pe_int (fun _ _ => rfl)) pa_nil) passU))) (pw_or1 (pt_cmpR op_eq (pe_callB call_len_seq (by rfl) B.len (by decide +kernel) (pa_cons (pe_ix ix_seq (pv 1) pe_int (fun _ _ => rfl)) pa_nil)) pe_int (nomark _))))) (pss_one (ps_ret pe_bl)) pss_nil)
      (pss_one (ps_ret (pe_callB (cr_all rfl) (by rfl) B.all (by decide +kernel) (pa_cons (pe_lc (te := tCall (spLets K) [] E0 (tCons (tVar 0) (tCons (tCB (rLenS K) (tCons (tOp (rIx K) (tVar 1) (tC (.int 0))) tNil)) (tCons (tVar 2) tNil)))) (own := [("book", 2)]) (g := gName 2) (by rfl) nd (pi_seq (pv 1)) (blkOk_by (own := [("book", 2)]) (N := ["p", "value", "book"]) (sc := defScope s_are_books) (by decide +kernel)) (fun _ _ _ _ _ => pg_name (i := 2) nd rfl (Or.inl rfl)) (fun _ _ _ _ _ => pts_nil) (fun _ _ _ _ _ => (pe_cal CL hr (pa_cons (pv 0) (pa_cons (pe_callB call_len_seq (by rfl) B.len (by decide +kernel) (pa_cons (pe_ix ix_seq (pv 1) pe_int (fun _ _ => rfl)) pa_nil)) (pa_cons (pv 2) pa_nil))) passU))) pa_nil)))))), ?_⟩
    obtain ⟨r0, rs', er⟩ : ∃ r0 rs', rs = r0 :: rs' := by
      cases rs with
      | nil =>
        cases hP
        exact absurd rfl g.ne
      | cons r0 rs' => exact ⟨r0, rs', rfl⟩
    have e0 : rs[0]? = some r0 := by rw [er]; rfl
    obtain ⟨b0, hb0, sb0⟩ := paired_at hP e0
    have g0 := g.all b0 (List.mem_of_getElem? hb0)
    have eln := paired_len hP
    have hlen : 0 < rs.length := by rw [er, List.length_cons]; omega
    -- the value is a sequence
    obtain ⟨dv, hdv, sv⟩ : ∃ d, Dp K H (.ref a) d ∧ isSeq d = true := by
      have all : ∀ {rs : List V} {bs : List (List Int)}, Paired (SB H) rs bs → ∃ ds, DpAll K H rs ds := by
        intro rs bs h
        induction h with
        | nil => exact ⟨[], .nil⟩
        | cons h _ ih =>
          obtain ⟨ds, ih⟩ := ih
          obtain ⟨c, rfl, h | h⟩ := h
          · exact ⟨_, .cons (.lst (SqL.of h) (dps_ints _)) ih⟩
          · exact ⟨_, .cons (.tup (SqT.of h) (dps_ints _)) ih⟩
      obtain ⟨ds, hds⟩ := all hP
      rcases hx with h | h
      · exact ⟨.list ds, .lst h hds, rfl⟩
      · exact ⟨.tuple ds, .tup h hds, rfl⟩
    have ixs : ∀ {H' : Hp} {Q' : VK}, Same H H' → Q' r0 H' → rIx K (.ref a) (.int 0) H' Q' := fun {H' Q'} s' q => by
      have ea : atI rs (0 : Int) = some r0 := atI_nat (j := 0) e0
      rcases hx with h | h
      · exact .inl ⟨a, rs, 0, r0, rfl, rfl, sqL_same h s', ea, q⟩
      · exact .inr (.inl ⟨a, rs, 0, r0, rfl, rfl, sqT_same h s', ea, q⟩)
    have hxs : ∀ {H' : Hp}, Same H H' → SqL K H' a rs ∨ SqT K H' a rs := fun s' => hx.imp (fun h => sqL_same h s') fun h => sqT_same h s'
    refine ⟨_, rfl, .ref a, dv, rfl, hdv, fun H1 s1 => ⟨_, rfl, ?_⟩⟩
    rw [sv]
    refine iteF ⟨_, rfl, a, rs, rfl, hxs s1, rfl, _, rfl, iteFb (decide_eq_false fun z => absurd (V.int.inj z) (by omega)) ?_⟩
    obtain ⟨d0, hd0, sm0, l0, q0, c0, ec0, hc0⟩ := sb_dp (K := K) (sb0.same s1) g0 g.le
    refine ⟨_, rfl, ixs s1 ⟨r0, d0, rfl, hd0, fun H2 s2 => ⟨_, rfl, ?_⟩⟩⟩
    rw [q0]
    have s12 := s1.trans s2
    have hc2 : SqL K H2 c0 (b0.map V.int) ∨ SqT K H2 c0 (b0.map V.int) := hc0.imp (fun h => sqL_same h s2) fun h => sqT_same h s2
    have hl0 : (b0.map V.int).length = n := by rw [List.length_map]; exact g0.1
    have hpos := g.pos
    refine iteF ⟨_, rfl, ixs s12 ⟨c0, _, by rw [ec0], hc2, rfl, _, rfl, iteFb (decide_eq_false fun z => absurd (V.int.inj z) (by omega)) ?_⟩⟩
    have turn : ∀ (D : Addr), H2 D = none → ∀ (i : Nat) (y : V) (H3 : Hp), rs[i]? = some y → Same H2 H3 ∧ H3 D = some (.lst ((List.replicate i true).map V.bl)) →
        (tCall (spLets K) [] E0 (tCons (tVar 0) (tCons (tCB (rLenS K) (tCons (tOp (rIx K) (tVar 1) (tC (.int 0))) tNil)) (tCons (tVar 2) tNil)))) [some (.int p), some (.ref a), some y] H3
          fun z H4 => ∃ acc, H4 D = some (.lst acc) ∧ acc.length < sizeLine ∧ Same H2 (upd H4 D (.lst (acc ++ [z]))) ∧ upd H4 D (.lst (acc ++ [z])) D = some (.lst ((List.replicate (i + 1) true).map V.bl)) := by
      rintro D hD i y H3 hi ⟨s3, eD⟩
      obtain ⟨b, hb, sb⟩ := paired_at hP hi
      have gb := g.all b (List.mem_of_getElem? hb)
      have hi2 : i < bs.length := (List.getElem?_eq_some_iff.mp hb).1
      have s13 := s12.trans s3
      obtain ⟨d, hd, sm, ld, _, _, _, _⟩ := sb_dp (K := K) (sb.same s13) gb g.le
      have hc3 : SqL K H3 c0 (b0.map V.int) ∨ SqT K H3 c0 (b0.map V.int) := hc2.imp (fun h => sqL_same h s3) fun h => sqT_same h s3
      refine ⟨_, rfl, _, rfl, ixs s13 ⟨c0, _, by rw [ec0], hc3, ?_⟩⟩
      rw [hl0]
      refine ⟨_, rfl, p, n, y, d, rfl, hd, sm, fun H4 s4 => ?_⟩
      rw [ld]
      refine ⟨_, s4 _ _ eD, ?_, fun c o hc => ?_, ?_⟩
      · rw [List.length_map, List.length_replicate]
        have := g.cnt
        exact small1000 (by omega)
      · rw [upd_ne (ne_of_none hc hD)]
        exact s4 _ _ (s3 _ _ hc)
      · rw [upd_same, List.replicate_succ', List.map_append]
        rfl
    have fin : ∀ (D : Addr) (H3 : Hp), Same H2 H3 → H3 D = some (.lst ((List.replicate rs.length true).map V.bl)) → rAll K [.ref D] H3 Q := fun D H3 s3 eD => by
      refine ⟨D, _, rfl, SqL.of eD, ?_⟩
      have e : (List.replicate rs.length true).all id = true := by
        refine List.all_eq_true.mpr fun x hx => ?_
        rw [List.eq_of_mem_replicate hx]
        rfl
      rw [e]
      exact k H3 (s12.trans s3)
    have st0 : ∀ D, H2 D = none → Same H2 (upd H2 D (.lst [])) ∧ upd H2 D (.lst []) D = some (.lst ((List.replicate 0 true).map V.bl)) := fun D hD => ⟨same_new hD, upd_same⟩
    refine ⟨_, rfl, a, rfl, ?_⟩
    rcases hxs s12 with h | h
    · exact .inl ⟨⟨_, h⟩, fun D hD => lc_list (K := K) (a := a) (xs := rs) (fun i H3 => Same H2 H3 ∧ H3 D = some (.lst ((List.replicate i true).map V.bl))) (st0 D hD) (fun i H3 _ z => sqL_same h z.1)
        (fun i y H3 hi z => ⟨rfl, turn D hD i y H3 hi z⟩) (fun H3 z => fin D H3 z.1 z.2)⟩
    · exact .inr ⟨⟨_, h⟩, fun D hD => lc_tup (K := K) (a := a) (xs := rs) (fun i H3 => Same H2 H3 ∧ H3 D = some (.lst ((List.replicate i true).map V.bl))) (st0 D hD) (fun i H3 _ z => sqT_same h z.1)
        (fun i y H3 hi z => ⟨rfl, turn D hD i y H3 hi z⟩) (fun H3 z => fin D H3 z.1 z.2)⟩
end
end WU

set_option maxRecDepth 100000
set_option maxHeartbeats 8000000
namespace WU
open PySem PySem.Spec PyProof.Rows L2
/-- the attributes of a Library -/
def lf (p : Int) (a : Addr) (nb nl : Int) (tl : Addr) : List (Str × V) :=
  putF "letters" (.ref tl) (putF "book_length" (.int nl) (putF "book_count" (.int nb) (putF "books" (.ref a) (putF "p" (.int p) []))))
theorem lf_p {p : Int} {a : Addr} {nb nl : Int} {tl : Addr} : (lf p a nb nl tl).lookup ("p" : Str) = some (.int p) := by
  unfold lf
  rw [lookup_putF, if_neg (by decide +kernel), lookup_putF, if_neg (by decide +kernel), lookup_putF, if_neg (by decide +kernel), lookup_putF, if_neg (by decide +kernel), lookup_putF, if_pos rfl]
theorem lf_books {p : Int} {a : Addr} {nb nl : Int} {tl : Addr} : (lf p a nb nl tl).lookup ("books" : Str) = some (.ref a) := by
  unfold lf
  rw [lookup_putF, if_neg (by decide +kernel), lookup_putF, if_neg (by decide +kernel), lookup_putF, if_neg (by decide +kernel), lookup_putF, if_pos rfl]
theorem lf_count {p : Int} {a : Addr} {nb nl : Int} {tl : Addr} : (lf p a nb nl tl).lookup ("book_count" : Str) = some (.int nb) := by
  unfold lf
  rw [lookup_putF, if_neg (by decide +kernel), lookup_putF, if_neg (by decide +kernel), lookup_putF, if_pos rfl]
theorem lf_length {p : Int} {a : Addr} {nb nl : Int} {tl : Addr} : (lf p a nb nl tl).lookup ("book_length" : Str) = some (.int nl) := by
  unfold lf
  rw [lookup_putF, if_neg (by decide +kernel), lookup_putF, if_pos rfl]
theorem lf_letters {p : Int} {a : Addr} {nb nl : Int} {tl : Addr} : (lf p a nb nl tl).lookup ("letters" : Str) = some (.ref tl) := by
  unfold lf
  rw [lookup_putF, if_pos rfl]
theorem lf_no {p : Int} {a : Addr} {nb nl : Int} {tl : Addr} {m : Str} (h1 : ¬ m = "letters") (h2 : ¬ m = "book_length") (h3 : ¬ m = "book_count") (h4 : ¬ m = "books") (h5 : ¬ m = "p") : (lf p a nb nl tl).lookup m = none := by
  unfold lf
  rw [lookup_putF, if_neg h1, lookup_putF, if_neg h2, lookup_putF, if_neg h3, lookup_putF, if_neg h4, lookup_putF, if_neg h5]
  rfl
/-- a Library stands at x -/
def LibAt (L : Addr) (H : Hp) (x : Addr) (p : Int) (n : Nat) (bs : List (List Int)) : Prop := ∃ (dx a tl : Addr) (rs : List V), H x = some (.ins L dx (lf p a bs.length n tl)) ∧ H a = some (.tup rs) ∧ Paired (TB H) rs bs ∧ H tl = some (.tup (bs.flatten.map V.int))
theorem LibAt.same {L : Addr} {H H' : Hp} {x : Addr} {p : Int} {n : Nat} {bs : List (List Int)} (h : LibAt L H x p n bs) (s : Same H H') : LibAt L H' x p n bs := by
  obtain ⟨dx, a, tl, rs, h1, h2, h3, h4⟩ := h
  exact ⟨dx, a, tl, rs, s _ _ h1, s _ _ h2, paired_mono (fun _ _ h => h.same s) h3, s _ _ h4⟩
theorem SB.keep {H H' : Hp} {x : Addr} {L dx : Addr} {fs : List (Str × V)} {r : V} {b : List Int} (hx : H x = some (.ins L dx fs)) (h : SB H r b) (k : Keep x H H') : SB H' r b := by
  obtain ⟨c, e, h | h⟩ := h
  · exact ⟨c, e, .inl (k _ _ (ne_of h hx (by intro z; cases z)) h)⟩
  · exact ⟨c, e, .inr (k _ _ (ne_of h hx (by intro z; cases z)) h)⟩
theorem TB.keep {H H' : Hp} {x : Addr} {L dx : Addr} {fs : List (Str × V)} {r : V} {b : List Int} (hx : H x = some (.ins L dx fs)) (h : TB H r b) (k : Keep x H H') : TB H' r b := by
  obtain ⟨c, e, h⟩ := h
  exact ⟨c, e, k _ _ (ne_of h hx (by intro z; cases z)) h⟩
theorem keep_upd {x : Addr} {o : HO} {H : Hp} : Keep x H (upd H x o) := fun b u hb e => by rw [upd_ne hb]; exact e
section
variable {P : Program} {w : World} {K : PySem.W.Frag} {mg : Str → Option Value} {base : Heap} {L : Addr}
/-- what is asked of the class Library, at L -/
structure LibC (K : PySem.W.Frag) (mg : Str → Option Value) (L : Addr) : Prop where
  g : mg "Library" = some (.ref L)
  cl : Cls K L
  nP : NoAttr K L "p"
  nB : NoAttr K L "books"
  nC : NoAttr K L "book_count"
  nL : NoAttr K L "book_length"
  nT : NoAttr K L "letters"
  ha : PySem.W.findIn K (.ref L) "__class__" = some (some (.builtin "object.__class__"))
  hn : PySem.W.specialIn K (.builtin "object.__class__") "__get__" = some (some (.builtin "getset_descriptor.__get__"))
  htk : PySem.W.takesIn K (.builtin "object.__class__") = some true
  hm : PySem.W.mroIn K L (.type "object") = some true
  kS : PySem.W.kitOne K (.ref L) (.ref L) = some true
def rTupOf (K : PySem.W.Frag) : List V → Hp → VK → Prop := fun xs H Q => ∃ p ys, xs = [V.ref p] ∧ ((SqL K H p ys ∧ ∀ l, H l = none → Q (.ref l) (upd H l (.tup ys))) ∨ (SqT K H p ys ∧ Q (.ref p) H))
def spLbI (K : PySem.W.Frag) (L : Addr) : Sp := fun vs H Q _ => ∃ (x dx a : Addr) (p : Int) (rs : List V) (bs : List (List Int)) (n : Nat), vs = [.ref x, .int p, .ref a] ∧ H x = some (.ins L dx []) ∧ p ∈ primes ∧ (H a = some (.lst rs) ∨ H a = some (.tup rs)) ∧ Paired (SB H) rs bs ∧ LGood p n bs ∧
  ∀ H', LibAt L H' x p n bs → Keep x H H' → Q .non H'
theorem scLI : FnScope ["self", "p", "books", "book"] ["self", "p", "books"] (defScope sLibrary_init) := ⟨rfl, rfl, rfl, by decide +kernel, rfl, by decide +kernel, by decide +kernel⟩
theorem ok_LI {f f1 f2 f3 : Addr} {fd fd1 fd2 fd3 : FuncData} (F : FunD K "__init__" "Library.__init__" (defArgs sLibrary_init) (defBody sLibrary_init) (defScope sLibrary_init) [] [] f fd) (B : Blt3 mg) (C : LibC K mg L) (CF : Cal P w K mg base 3 "check_field" f1 fd1 ["p"] (spCheck K))
    (CB : Cal P w K mg base 5 "are_books" f2 fd2 ["p", "value"] (spAB K)) (CO : Cal P w K mg base 1 "letters_of" f3 fd3 ["books"] (spLet K)) : FnOk P w K mg base (L2.CX P w) 6 f fd ["self", "p", "books"] (spLbI K L) := by
  refine F.ok scLI (fun vs H Q E h => ?_) (fun cdv A outer s H vs Q E hr h => ?_)
  · obtain ⟨x, dx, a, p, rs, bs, n, rfl, _⟩ := h
    rfl
  · obtain ⟨x, dx, a, p, rs, bs, n, rfl, hx0, hp, hx, hP, g, k⟩ := h
    have nd := scLI.nd
    have hr1 := hr.mono (show 1 ≤ 5 by decide)
    have hr3 := hr.mono (show 3 ≤ 5 by decide)
    refine ⟨_, (pss_cons (ps_expr (pe_cal CF hr3 (pa_cons (pv 1) pa_nil) passU))
      (pss_cons (ps_if (pt_not (pt_val (pe_cal CB hr (pa_cons (pv 1) (pa_cons (pv 2) pa_nil)) passU))) (pss_one ps_never) pss_nil)
      (pss_cons (ps_fld (pv 0) (pv 1) rfl)
      (pss_cons (ps_fld (pv 0) (pe_callTy call_tuple_of (by rfl) B.tuple (by decide +kernel) (pa_cons (pe_lc (te := tCB (rTupOf K) (tCons (tVar 3) tNil)) (own := [("book", 3)]) (g := gName 3) (by rfl) nd (pi_seq (pv 2)) (blkOk_by (own := [("book", 3)]) (N := ["self", "p", "books", "book"]) (sc := defScope sLibrary_init) (by decide +kernel)) (fun _ _ _ _ _ => pg_name (i := 3) nd rfl (Or.inl rfl)) (fun _ _ _ _ _ => pts_nil) (fun _ _ _ _ _ => (pe_callTy call_tuple_of (by rfl) B.tuple (by decide +kernel) (pa_cons (pv 3) pa_nil)))) pa_nil)) rfl)
      (pss_cons (ps_fld (pv 0) (pe_callB call_len_seq (by rfl) B.len (by decide +kernel) (pa_cons (pe_fld (pv 0) rfl) pa_nil)) rfl)
      (pss_cons (ps_fld (pv 0) (pe_callB call_len_seq (by rfl) B.len (by decide +kernel) (pa_cons (pe_ix ix_tup (pe_fld (pv 0) rfl) pe_int (fun _ _ => rfl)) pa_nil)) rfl)
      (pss_one (ps_fld (pv 0) (pe_cal CO hr1 (pa_cons (pe_fld (pv 0) rfl) pa_nil) passU) rfl)))))))), ?_⟩
    refine ⟨_, rfl, .int p, rfl, ty3_int p, fun _ => ⟨_, rfl, _, rfl, p, a, rs, bs, n, rfl, hx.imp SqL.of SqT.of, hP, g, fun H1 s1 => ⟨_, rfl, iteF ?_⟩⟩, fun e => by rw [mem_fld hp] at e; cases e⟩
    have hx1 := s1 _ _ hx0
    refine ⟨_, rfl, _, rfl, x, L, dx, [], rfl, hx1, C.cl, C.nP, (by show 0 < 1000; decide), ?_⟩
    generalize h2 : upd H1 x (.ins L dx (putF "p" (.int p) [])) = H2
    have k2 : Keep x H1 H2 := by rw [← h2]; exact keep_upd
    have e2 : H2 x = some (.ins L dx (putF "p" (.int p) [])) := by rw [← h2]; exact upd_same
    have nax : a ≠ x := by
      rcases hx with h | h
      · exact ne_of h hx0 (by intro z; cases z)
      · exact ne_of h hx0 (by intro z; cases z)
    have ha2 : H2 a = some (.lst rs) ∨ H2 a = some (.tup rs) := hx.imp (fun h => k2 _ _ nax (s1 _ _ h)) fun h => k2 _ _ nax (s1 _ _ h)
    have hP2 : Paired (SB H2) rs bs := paired_mono (fun _ _ h => (h.same s1).keep hx1 k2) hP
    have cnt := g.cnt
    have turn : ∀ (D : Addr), H2 D = none → ∀ (i : Nat) (y : V) (H3 : Hp), rs[i]? = some y → (Same H2 H3 ∧ ∃ ts, H3 D = some (.lst ts) ∧ Paired (TB H3) ts (bs.take i)) →
        (tCB (rTupOf K) (tCons (tVar 3) tNil)) [some (.ref x), some (.int p), some (.ref a), some y] H3
          fun z H4 => ∃ acc, H4 D = some (.lst acc) ∧ acc.length < sizeLine ∧ Same H2 (upd H4 D (.lst (acc ++ [z]))) ∧ ∃ ts, upd H4 D (.lst (acc ++ [z])) D = some (.lst ts) ∧ Paired (TB (upd H4 D (.lst (acc ++ [z])))) ts (bs.take (i + 1)) := by
      rintro D hD i y H3 hi ⟨s3, ts, eD, hts⟩
      obtain ⟨b, hb, sb⟩ := paired_at hP2 hi
      have hi2 : i < bs.length := (List.getElem?_eq_some_iff.mp hb).1
      have tl : ts.length < sizeLine := by
        rw [paired_len hts, List.length_take]
        exact small1000 (by omega)
      have et : bs.take (i + 1) = bs.take i ++ [b] := by rw [List.take_succ, hb]; rfl
      have tbD : ∀ {H' : Hp} {o : HO} {r : V} {b : List Int} {ts0 : List V}, H' D = some (.lst ts0) → TB H' r b → TB (upd H' D o) r b := fun hl h => by
        obtain ⟨c, e, h⟩ := h
        exact ⟨c, e, by rw [upd_ne (ne_of h hl (by intro z; cases z))]; exact h⟩
      obtain ⟨c, rfl, h | h⟩ := sb.same s3
      · refine ⟨_, rfl, c, _, rfl, .inl ⟨SqL.of h, fun l hl => ?_⟩⟩
        have eD4 : upd H3 l (.tup (b.map V.int)) D = some (.lst ts) := by rw [upd_ne (ne_of_none eD hl)]; exact eD
        refine ⟨_, eD4, tl, fun d o hd => ?_, ts ++ [.ref l], upd_same, ?_⟩
        · rw [upd_ne (ne_of_none hd hD), upd_ne (ne_of_none (s3 _ _ hd) hl)]
          exact s3 _ _ hd
        · rw [et]
          exact paired_app (paired_mono (fun _ _ q => tbD eD4 (q.same (same_new hl))) hts) (.cons (tbD eD4 ⟨l, rfl, upd_same⟩) .nil)
      · refine ⟨_, rfl, c, _, rfl, .inr ⟨SqT.of h, ?_⟩⟩
        refine ⟨_, eD, tl, fun d o hd => ?_, ts ++ [.ref c], upd_same, ?_⟩
        · rw [upd_ne (ne_of_none hd hD)]
          exact s3 _ _ hd
        · rw [et]
          exact paired_app (paired_mono (fun _ _ q => tbD eD q) hts) (.cons (tbD eD ⟨c, rfl, h⟩) .nil)
    have st0 : ∀ D, H2 D = none → Same H2 (upd H2 D (.lst [])) ∧ ∃ ts, upd H2 D (.lst []) D = some (.lst ts) ∧ Paired (TB (upd H2 D (.lst []))) ts (bs.take 0) := fun D hD => ⟨same_new hD, [], upd_same, .nil⟩
    have eln := paired_len hP
    refine ⟨_, rfl, a, rfl, ?_⟩
    rcases ha2 with h | h
    refine .inl ⟨⟨_, SqL.of h⟩, fun D hD => lc_list (K := K) (a := a) (xs := rs) (fun i H3 => Same H2 H3 ∧ ∃ ts, H3 D = some (.lst ts) ∧ Paired (TB H3) ts (bs.take i)) (st0 D hD) (fun i H3 _ z => SqL.of (z.1 _ _ h))
        (fun i y H3 hi z => ⟨rfl, turn D hD i y H3 hi z⟩) ?_⟩
    rotate_left
    refine .inr ⟨⟨_, SqT.of h⟩, fun D hD => lc_tup (K := K) (a := a) (xs := rs) (fun i H3 => Same H2 H3 ∧ ∃ ts, H3 D = some (.lst ts) ∧ Paired (TB H3) ts (bs.take i)) (st0 D hD) (fun i H3 _ z => SqT.of (z.1 _ _ h))
        (fun i y H3 hi z => ⟨rfl, turn D hD i y H3 hi z⟩) ?_⟩
    all_goals
      rintro H3 ⟨s3, ts, eD, hts⟩
      rw [eln, List.take_length] at hts
      refine ⟨D, ts, rfl, .inl ⟨SqL.of eD, fun T hT => ?_⟩⟩
      have e3 := s3 _ _ e2
      have eT4 : upd H3 T (.tup ts) T = some (.tup ts) := upd_same
      have e4 : upd H3 T (.tup ts) x = some (.ins L dx (putF "p" (.int p) [])) := same_new hT _ _ e3
      have hts4 : Paired (TB (upd H3 T (.tup ts))) ts bs := paired_mono (fun _ _ q => q.same (same_new hT)) hts
      have k4 : Keep x H2 (upd H3 T (.tup ts)) := Keep.of (s3.trans (same_new hT))
      generalize h4 : upd H3 T (.tup ts) = H4 at eT4 e4 hts4 k4 ⊢
      have nTx : T ≠ x := ne_of eT4 e4 (by intro z; cases z)
      refine ⟨_, rfl, x, L, dx, _, rfl, e4, C.cl, C.nB, (by show 1 < 1000; decide), ?_⟩
      have k5 : Keep x H4 (upd H4 x (.ins L dx (putF "books" (.ref T) (putF "p" (.int p) [])))) := keep_upd
      have e5 : upd H4 x (.ins L dx (putF "books" (.ref T) (putF "p" (.int p) []))) x = some (.ins L dx (putF "books" (.ref T) (putF "p" (.int p) []))) := upd_same
      generalize upd H4 x (.ins L dx (putF "books" (.ref T) (putF "p" (.int p) []))) = H5 at k5 e5 ⊢
      have eT5 := k5 _ _ nTx eT4
      have lb5 : (putF "books" (.ref T) (putF "p" (.int p) []) : List (Str × V)).lookup ("books" : Str) = some (.ref T) := by rw [lookup_putF, if_pos rfl]
      refine ⟨_, rfl, x, L, dx, _, _, rfl, e5, C.cl, C.nB, lb5, T, ts, rfl, .inr (SqT.of eT5), _, rfl, x, L, dx, _, rfl, e5, C.cl, C.nC, (by show 2 < 1000; decide), ?_⟩
      rw [paired_len hts4]
      have k6 : Keep x H5 (upd H5 x (.ins L dx (putF "book_count" (.int (bs.length : Int)) (putF "books" (.ref T) (putF "p" (.int p) []))))) := keep_upd
      have e6 : upd H5 x (.ins L dx (putF "book_count" (.int (bs.length : Int)) (putF "books" (.ref T) (putF "p" (.int p) [])))) x = some (.ins L dx (putF "book_count" (.int (bs.length : Int)) (putF "books" (.ref T) (putF "p" (.int p) [])))) := upd_same
      generalize upd H5 x (.ins L dx (putF "book_count" (.int (bs.length : Int)) (putF "books" (.ref T) (putF "p" (.int p) [])))) = H6 at k6 e6 ⊢
      have eT6 := k6 _ _ nTx eT5
      have lb6 : (putF "book_count" (.int (bs.length : Int)) (putF "books" (.ref T) (putF "p" (.int p) [])) : List (Str × V)).lookup ("books" : Str) = some (.ref T) := by rw [lookup_putF, if_neg (by decide +kernel), lb5]
      have k46 : Keep x H4 H6 := k5.trans k6
      have hts6 : Paired (TB H6) ts bs := paired_mono (fun _ _ q => q.keep e4 k46) hts4
      obtain ⟨b0, hb0⟩ : ∃ b0, bs[0]? = some b0 := by
        cases e : bs with
        | nil => exact absurd e g.ne
        | cons b0 _ => exact ⟨b0, rfl⟩
      obtain ⟨r0, hr0, c0, er0, ec0⟩ := paired_of hts6 hb0
      have g0 := g.all b0 (List.mem_of_getElem? hb0)
      refine ⟨_, rfl, x, L, dx, _, _, rfl, e6, C.cl, C.nB, lb6, T, ts, 0, r0, rfl, rfl, SqT.of eT6, atI_nat (j := 0) hr0, c0, _, by rw [er0], .inr (SqT.of ec0), _, rfl, x, L, dx, _, rfl, e6, C.cl, C.nL, (by show 3 < 1000; decide), ?_⟩
      rw [List.length_map, g0.1]
      have k7 : Keep x H6 (upd H6 x (.ins L dx (putF "book_length" (.int (n : Int)) (putF "book_count" (.int (bs.length : Int)) (putF "books" (.ref T) (putF "p" (.int p) [])))))) := keep_upd
      have e7 : upd H6 x (.ins L dx (putF "book_length" (.int (n : Int)) (putF "book_count" (.int (bs.length : Int)) (putF "books" (.ref T) (putF "p" (.int p) []))))) x = some (.ins L dx (putF "book_length" (.int (n : Int)) (putF "book_count" (.int (bs.length : Int)) (putF "books" (.ref T) (putF "p" (.int p) []))))) := upd_same
      generalize upd H6 x (.ins L dx (putF "book_length" (.int (n : Int)) (putF "book_count" (.int (bs.length : Int)) (putF "books" (.ref T) (putF "p" (.int p) []))))) = H7 at k7 e7 ⊢
      have eT7 := k7 _ _ nTx eT6
      have hts7 : Paired (TB H7) ts bs := paired_mono (fun _ _ q => q.keep e6 k7) hts6
      have lb7 : (putF "book_length" (.int (n : Int)) (putF "book_count" (.int (bs.length : Int)) (putF "books" (.ref T) (putF "p" (.int p) []))) : List (Str × V)).lookup ("books" : Str) = some (.ref T) := by rw [lookup_putF, if_neg (by decide +kernel), lb6]
      refine ⟨_, rfl, x, L, dx, _, _, rfl, e7, C.cl, C.nB, lb7, T, ts, bs, n, rfl, SqT.of eT7, hts7, cnt, fun b hb => (g.all b hb).1, g.le, fun tl H8 s8 etl => ?_⟩
      have e8 := s8 _ _ e7
      have ntx : tl ≠ x := ne_of etl e8 (by intro z; cases z)
      refine ⟨_, rfl, x, L, dx, _, rfl, e8, C.cl, C.nT, (by show 4 < 1000; decide), ?_⟩
      have k9 : Keep x H8 (upd H8 x (.ins L dx (lf p T bs.length n tl))) := keep_upd
      refine k _ ⟨dx, T, tl, ts, upd_same, ?_, ?_, ?_⟩ ?_
      · exact k9 _ _ nTx (s8 _ _ eT7)
      · exact paired_mono (fun _ _ q => (q.same s8).keep e8 k9) hts7
      · exact k9 _ _ ntx etl
      · exact (Keep.of s1).trans (k2.trans (k4.trans (k46.trans (k7.trans ((Keep.of s8).trans k9)))))
end
end WU

set_option maxRecDepth 100000
set_option maxHeartbeats 8000000
namespace WU
open PySem PySem.Spec PyProof.Rows L2
/-! ### data of tuples alone, and frames that keep all tuples -/
def TK (H H' : Hp) : Prop := ∀ c xs, H c = some (.tup xs) → H' c = some (.tup xs)
theorem TK.refl {H : Hp} : TK H H := fun _ _ h => h
theorem TK.trans {H H1 H2 : Hp} (x : TK H H1) (y : TK H1 H2) : TK H H2 := fun c xs h => y c xs (x c xs h)
theorem TK.of {H H' : Hp} (s : Same H H') : TK H H' := fun c xs h => s _ _ h
theorem TK.keep {H H' : Hp} {a : Addr} {o : HO} (k : Keep a H H') (e : H a = some o) (n : ∀ xs, o ≠ .tup xs) : TK H H' := fun c xs h => k c _ (fun z => by rw [z, e] at h; exact n xs (Option.some.inj h)) h
theorem TK.put {H : Hp} {a : Addr} {o u : HO} (e : H a = some o) (n : ∀ xs, o ≠ .tup xs) : TK H (upd H a u) := fun c xs h => by
  rw [upd_ne fun z => by rw [z, e] at h; exact n xs (Option.some.inj h)]
  exact h
theorem TK.new {H : Hp} {a : Addr} {u : HO} (e : H a = none) : TK H (upd H a u) := .of (same_new e)
def Stb {α : Type} (F : Hp → V → α → Prop) : Prop := ∀ (H H' : Hp) (v : V) (z : α), TK H H' → F H v z → F H' v z
def TF {α : Type} (F : Hp → V → α → Prop) : Hp → V → List α → Prop := fun H v l => ∃ c xs, v = .ref c ∧ H c = some (.tup xs) ∧ Paired (F H) xs l
theorem stb_TF {α : Type} {F : Hp → V → α → Prop} (st : Stb F) : Stb (TF F) := fun H H' v z k ⟨c, xs, e, h, p⟩ => ⟨c, xs, e, k _ _ h, paired_mono (fun _ _ q => st _ _ _ _ k q) p⟩
theorem stb_FI : Stb FI := fun _ _ _ _ _ h => h
/-- rows, matrices, rows of matrices, .. -/
abbrev T1 := TF FI
abbrev T2 := TF T1
abbrev T3 := TF T2
abbrev T4 := TF T3
theorem stb1 : Stb T1 := stb_TF stb_FI
theorem stb2 : Stb T2 := stb_TF stb1
theorem stb3 : Stb T3 := stb_TF stb2
theorem stb4 : Stb T4 := stb_TF stb3
theorem T1.ft {H : Hp} {v : V} {r : List Int} (h : T1 H v r) : FT H v r := by
  obtain ⟨c, xs, e, h, p⟩ := h
  rw [fi_map p] at h
  exact ⟨c, e, .inl h⟩
theorem T1.mk {H : Hp} {c : Addr} {r : List Int} (h : H c = some (.tup (r.map V.int))) : T1 H (.ref c) r := ⟨c, _, rfl, h, by
  clear h
  induction r with
  | nil => exact .nil
  | cons x r ih => exact .cons rfl ih⟩
theorem T2.mt {H : Hp} {v : V} {m : List (List Int)} (h : T2 H v m) : MT H v m := by
  obtain ⟨c, xs, e, h, p⟩ := h
  exact ⟨c, xs, e, h, paired_mono (fun _ _ q => q.ft) p⟩
/-- the data of such -/
def Dt (K : PySem.W.Frag) {α : Type} (F : Hp → V → α → Prop) (d : α → PyData) : Prop := ∀ H v z, F H v z → Dp K H v (d z)
theorem dt_all {K : PySem.W.Frag} {α : Type} {F : Hp → V → α → Prop} {d : α → PyData} (h : Dt K F d) {H : Hp} : ∀ {xs : List V} {l : List α}, Paired (F H) xs l → DpAll K H xs (l.map d)
  | _, _, .nil => .nil
  | _, _, .cons x t => .cons (h _ _ _ x) (dt_all h t)
theorem dt_TF {K : PySem.W.Frag} {α : Type} {F : Hp → V → α → Prop} {d : α → PyData} (h : Dt K F d) : Dt K (TF F) fun l => .tuple (l.map d) := fun H v l ⟨c, xs, e, hc, p⟩ => e ▸ .tup (SqT.of hc) (dt_all h p)
theorem dt_FI {K : PySem.W.Frag} : Dt K FI PyData.int := fun H v z e => by
  have e : v = .int z := e
  rw [e]
  exact .int z
def d1 (r : List Int) : PyData := .tuple (r.map PyData.int)
def d2 (m : List (List Int)) : PyData := .tuple (m.map d1)
def d3 (q : List (List (List Int))) : PyData := .tuple (q.map d2)
theorem dt1 {K : PySem.W.Frag} : Dt K T1 d1 := dt_TF dt_FI
theorem dt2 {K : PySem.W.Frag} : Dt K T2 d2 := dt_TF dt1
theorem dt3 {K : PySem.W.Frag} : Dt K T3 d3 := dt_TF dt2
/-- a list that is built of such, whatever else changes -/
def Bd {α : Type} (F : Hp → V → α → Prop) (D : Addr) (zs : List α) (H : Hp) : Prop := ∃ ys, H D = some (.lst ys) ∧ Paired (F H) ys zs
theorem Bd.start {α : Type} {F : Hp → V → α → Prop} {D : Addr} {H : Hp} : Bd F D [] (upd H D (.lst [])) := ⟨[], upd_same, .nil⟩
theorem Bd.skip {α : Type} {F : Hp → V → α → Prop} {D : Addr} {zs : List α} {H H' : Hp} (b : Bd F D zs H) (st : Stb F) (k : TK H H') (e : ∀ ys, H D = some (.lst ys) → H' D = some (.lst ys)) : Bd F D zs H' := by
  obtain ⟨ys, h, p⟩ := b
  exact ⟨ys, e _ h, paired_mono (fun _ _ q => st _ _ _ _ k q) p⟩
theorem Bd.put {α : Type} {F : Hp → V → α → Prop} {D : Addr} {zs : List α} {z : α} {y : V} {H : Hp} (b : Bd F D zs H) (st : Stb F) (f : F H y z) (hl : zs.length < sizeLine) :
    ∃ acc, H D = some (.lst acc) ∧ acc.length < sizeLine ∧ Bd F D (zs ++ [z]) (upd H D (.lst (acc ++ [y]))) ∧ TK H (upd H D (.lst (acc ++ [y]))) := by
  obtain ⟨ys, h, p⟩ := b
  have k : TK H (upd H D (.lst (ys ++ [y]))) := TK.put h fun xs z => nomatch z
  exact ⟨ys, h, by rw [paired_len p]; exact hl, ⟨ys ++ [y], upd_same, paired_app (paired_mono (fun _ _ q => st _ _ _ _ k q) p) (.cons (st _ _ _ _ k f) .nil)⟩, k⟩
/-- what was built, as a tuple -/
theorem Bd.tup {α : Type} {F : Hp → V → α → Prop} {D : Addr} {zs : List α} {H : Hp} (b : Bd F D zs H) (st : Stb F) : ∃ ys, H D = some (.lst ys) ∧ ∀ T, H T = none → TF F (upd H T (.tup ys)) (.ref T) zs := by
  obtain ⟨ys, h, p⟩ := b
  exact ⟨ys, h, fun T hT => ⟨T, ys, rfl, upd_same, paired_mono (fun _ _ q => st _ _ _ _ (TK.new hT) q) p⟩⟩
/-! ### < of data -/
def rLtD (K : PySem.W.Frag) : R2 := fun x y H Q => ∃ d e, Dp K H x d ∧ Dp K H y e ∧ PySem.W.alike d e = true ∧ d ≠ .none ∧ d.depth ≤ 60 ∧ Q (.bl (PySem.W.dataLt d e)) H
section
variable {X : Cx} {K : PySem.W.Frag}
theorem op_ltD0 (hu : X.A.units + 64 < cLine) : OpR X (compareOp .Lt) (rLtD X.K) := by
  intro pins s σ H x y v u Q I rx ry h
  obtain ⟨d, e, hd, he, al, nn, dp, q⟩ := h
  obtain ⟨as, r1⟩ := Dp.reads I d x v hd rx
  obtain ⟨bs, r2⟩ := Dp.reads I e y u he ry
  exact PySem.W.lt_data r1 r2 al nn (by omega) ⟨.bl _, H, I, rfl, q⟩
theorem op_ltD (hu : X.A.units + 64 < cLine) (hK : X.K = K := by rfl) : OpR X (compareOp .Lt) (rLtD K) := hK ▸ op_ltD0 hu
end
end WU

set_option maxRecDepth 100000
set_option maxHeartbeats 8000000
namespace WU
open PySem PySem.Spec PyProof.Rows L2
/-! ### the order of matrices -/
theorem eqvAll_ints : ∀ a b : List Int, PyData.eqvAll (a.map PyData.int) (b.map PyData.int) = true → a = b
  | [], [], _ => rfl
  | [], _ :: _, h => by simp [PyData.eqvAll] at h
  | _ :: _, [], h => by simp [PyData.eqvAll] at h
  | x :: a, y :: b, h => by
    simp only [List.map_cons, PyData.eqvAll, PyData.eqv, Bool.and_eq_true] at h
    have := eqvAll_ints a b h.2
    simp_all
theorem eqvAll_rows : ∀ a b : List (List Int), PyData.eqvAll (a.map d1) (b.map d1) = true → a = b
  | [], [], _ => rfl
  | [], _ :: _, h => by simp [PyData.eqvAll] at h
  | _ :: _, [], h => by simp [PyData.eqvAll] at h
  | x :: a, y :: b, h => by
    simp only [List.map_cons, PyData.eqvAll, d1, PyData.eqv, Bool.and_eq_true] at h
    rw [eqvAll_ints x y h.1, eqvAll_rows a b h.2]
theorem eqv_d2 {a b : List (List Int)} (h : PyData.eqv (d2 a) (d2 b) = true) : a = b := eqvAll_rows a b (by simpa [d2, PyData.eqv] using h)
theorem alikeI : ∀ a b : List Int, PySem.W.alikeAll (a.map PyData.int) (b.map PyData.int) = true
  | [], _ => by simp [PySem.W.alikeAll]
  | _ :: _, [] => by simp [PySem.W.alikeAll]
  | x :: a, y :: b => by
    simp only [List.map_cons, PySem.W.alikeAll, PySem.W.alike, Bool.true_and]
    exact alikeI a b
theorem alikeR : ∀ a b : List (List Int), PySem.W.alikeAll (a.map d1) (b.map d1) = true
  | [], _ => by simp [PySem.W.alikeAll]
  | _ :: _, [] => by simp [PySem.W.alikeAll]
  | x :: a, y :: b => by
    simp only [List.map_cons, PySem.W.alikeAll, d1, PySem.W.alike, Bool.and_eq_true]
    exact ⟨alikeI x y, alikeR a b⟩
theorem alike2 (a b : List (List Int)) : PySem.W.alike (d2 a) (d2 b) = true := by
  show PySem.W.alike (.tuple _) (.tuple _) = true
  rw [PySem.W.alike]
  exact alikeR a b
theorem depthI : ∀ a : List Int, PyData.depthAll (a.map PyData.int) ≤ 1
  | [] => by simp [PyData.depthAll]
  | x :: a => by
    have := depthI a
    simp only [List.map_cons, PyData.depthAll, PyData.depth]
    omega
theorem depthR : ∀ a : List (List Int), PyData.depthAll (a.map d1) ≤ 3
  | [] => by simp [PyData.depthAll]
  | x :: a => by
    have := depthR a
    have := depthI x
    simp only [List.map_cons, PyData.depthAll, d1, PyData.depth]
    omega
theorem depth2 (a : List (List Int)) : (d2 a).depth ≤ 60 := by
  have := depthR a
  show (PyData.tuple _).depth ≤ 60
  rw [PyData.depth]
  omega
/-- below, as Python says -/
def ltM (a b : List (List Int)) : Bool := PySem.W.dataLt (d2 a) (d2 b)
theorem ltM_irr (a : List (List Int)) : ltM a a = false := PyProof.Rows.lex_irrefl _
theorem ltM_tr {a b c : List (List Int)} (h : ltM a b = true) (k : ltM b c = true) : ltM a c = true := PyProof.Rows.lex_trans _ _ _ h k
theorem ltM_tot {a b : List (List Int)} (h : ltM a b = false) (k : ltM b a = false) : a = b := by
  have e := PyProof.Rows.lex_total (O := PyProof.Rows.itemOrd) _ _ h k
  refine eqv_d2 ?_
  cases q : PyData.eqv (d2 a) (d2 b) with
  | true => rfl
  | false =>
    exfalso
    have z := (PySem.W.toks_eqv (d2 a) (d2 b) (alike2 a b)).2 q [Sum.inl 0] [Sum.inl 1]
    rw [e, PySem.W.lex_pre] at z
    rw [PyProof.Rows.lex_irrefl] at z
    revert z
    decide
/-- rising, one by one -/
def Ris : List (List (List Int)) → Prop
  | [] => True
  | [_] => True
  | a :: b :: r => ltM a b = true ∧ Ris (b :: r)
theorem ris_at : ∀ {l : List (List (List Int))} {i : Nat} {a b : List (List Int)}, Ris l → l[i]? = some a → l[i + 1]? = some b → ltM a b = true
  | [], i, _, _, _, h, _ => by simp at h
  | [x], i, _, _, _, _, h => by simp at h
  | x :: y :: r, 0, a, b, h, h1, h2 => by
    cases h1
    cases h2
    exact h.1
  | x :: y :: r, i + 1, a, b, h, h1, h2 => ris_at (l := y :: r) (i := i) h.2 h1 h2
theorem cut1 (xs : List V) : cutV xs (some 1) none = xs.drop 1 := by
  cases xs with
  | nil => rfl
  | cons x t =>
    have e1 : HT.sIx (x :: t).length 0 (some 1) = 1 := by
      show min (1 : Int).toNat (t.length + 1) = 1
      show min 1 (t.length + 1) = 1
      omega
    unfold cutV
    rw [e1, HT.sIx_none]
    show t.take (t.length + 1 - 1) = t
    rw [Nat.add_sub_cancel, List.take_length]
section
variable {X : Cx} {K : PySem.W.Frag}
theorem zipAK {e e2 : Expr} {ta : TA} {p pos tpos : Pos} {elts : List Expr} {kk : Nat} (hg : Gl X "zip") (hm : X.mg "zip" = none) (ha : PA X [e, e2] ta)
    (hs : starEach [e, e2] X.env = (false, eval e X.env) :: starEach [e2] X.env := by rfl) (hpl : (backTo pos (starEach [e2] X.env)).any (·.1) = false := by rfl) (hK : X.K = K := by rfl) :
    PI X (.Tuple elts kk tpos) (.Call (.Name "zip" p) [e, e2] [] pos) (RZ.iZipA K ta) := hK ▸ RZ.pi_zipA hg hm ha hs hpl
end
section
variable {P : Program} {w : World} {K : PySem.W.Frag} {mg : Str → Option Value} {base : Heap} {S : Addr}
/-- is_rising(numbers): matrices that rise -/
def spRi : Sp := fun vs H Q _ => ∃ v qs, vs = [v] ∧ T3 H v qs ∧ Ris qs ∧ qs.length ≤ 900 ∧ ∀ H', Same H H' → Q (.bl true) H'
theorem scRi : FnScope ["numbers", "one", "other"] ["numbers"] (defScope s_is_rising) := ⟨rfl, rfl, rfl, by decide +kernel, rfl, by decide +kernel, by decide +kernel⟩
theorem ok_Ri {f : Addr} {fd : FuncData} (F : FnS K "is_rising" s_is_rising f fd) (B : Blt4 mg) : FnOk P w K mg base (L2.CX P w) 1 f fd ["numbers"] spRi := by
  refine F.ok scRi (fun vs H Q E h => ?_) (fun cdv A outer s H vs Q E hr h => ?_)
  · obtain ⟨v, qs, rfl, _⟩ := h
    rfl
  · obtain ⟨v, qs, rfl, ⟨a, xs, rfl, ha, hP⟩, hR, hl, kk⟩ := h
    have nd := scRi.nd
    have hu := hr.units
    have el := paired_len hP
    refine ⟨_, (pss_one (ps_ret (pe_callB (cr_allK (K := K) rfl) (by rfl) B.all (by decide +kernel) (pa_cons (pe_lc (own := [("one", 1), ("other", 2)]) (g := (gTup K 2 (gCons (gName 1) (gCons (gName 2) gNil)))) (by rfl) nd (zipAK (K := K) (by rfl) B.zip (pa_cons (pv 0) (pa_cons (pe_slice (sl_tupAK (K := K)) (pv 0) (po_some pe_int) po_none) pa_nil))) (blkOk_by (own := [("one", 1), ("other", 2)]) (N := ["numbers", "one", "other"]) (sc := defScope s_is_rising) (by decide +kernel)) (fun _ _ _ _ _ => (pg_tup rfl (pgs_cons (pg_name (i := 1) nd rfl (Or.inl rfl)) (pgs_cons (pg_name (i := 2) nd rfl (Or.inl rfl)) pgs_nil)))) (fun _ _ _ _ _ => pts_nil) (fun _ _ _ _ _ => (pe_cmpR (op_ltD (K := K) hu) (pv 1) (pv 2) (nomark _)))) pa_nil)))), ?_⟩
    refine ⟨_, rfl, _, rfl, 1, rfl, ?_⟩
    dsimp only [tNoPart]
    refine slA_is ha fun b H1 s1 hb => ?_
    rw [cut1] at hb
    refine ⟨a, b, xs, xs.drop 1, rfl, .inr ⟨SqT.of (s1 _ _ ha), SqT.of hb, fun D hD => lc_it (walk_zipT (n := xs.length - 1) (by rw [List.length_drop]; omega)) (fun i H' => Same H1 H' ∧ H' D = some (.lst ((List.replicate i true).map V.bl))) ⟨same_new hD, upd_same⟩ (fun i H' _ z => ⟨SqT.of (z.1 _ _ (s1 _ _ ha)), SqT.of (z.1 _ _ hb)⟩) ?_ ?_⟩⟩
    · rintro i x H2 H3 hi ⟨z1, z2⟩ ⟨T, x1, x2, rfl, hT, rfl, g1, g2⟩
      obtain ⟨y1, e1, f1⟩ := paired_at hP g1
      have g2 : (xs.drop 1)[i]? = some x2 := g2
      rw [List.getElem?_drop, Nat.add_comm 1 i] at g2
      obtain ⟨y2, e2, f2⟩ := paired_at hP g2
      have k3 : TK H (upd H2 T (.tup [x1, x2])) := (TK.of (s1.trans z1)).trans (TK.new hT)
      refine ⟨T, _, rfl, SqT.of upd_same, rfl, _, _, rfl, _, _, rfl, rfl, rfl, _, rfl, _, rfl, d2 y1, d2 y2, dt2 _ _ _ (stb2 _ _ _ _ k3 f1), dt2 _ _ _ (stb2 _ _ _ _ k3 f2), alike2 _ _, (by intro z; cases z), depth2 _, ?_⟩
      have elt : PySem.W.dataLt (d2 y1) (d2 y2) = true := ris_at hR e1 e2
      rw [elt]
      have nD : ∀ (c : Addr) (u : HO), H1 c = some u → c ≠ D := fun c u z => ne_of_none z hD
      have z2' : upd H2 T (.tup [x1, x2]) D = some (.lst ((List.replicate i true).map V.bl)) := same_new hT _ _ z2
      refine ⟨_, z2', by rw [List.length_map, List.length_replicate]; exact small1000 (by omega), fun c u z => ?_, ?_⟩
      · rw [upd_ne (nD c u z)]
        exact same_new hT _ _ (z1 _ _ z)
      · rw [upd_same, List.replicate_succ', List.map_append]
        rfl
    · rintro H2 ⟨z1, z2⟩
      refine ⟨D, _, rfl, SqL.of z2, ?_⟩
      rw [show ((List.replicate (xs.length - 1) true).all id) = true by simp]
      exact kk _ (s1.trans z1)
/-- is_positive(value) -/
def isPos : V → Bool
  | .int i => decide (0 < i)
  | _ => false
def spPo : Sp := fun vs H Q _ => ∃ i : Int, vs = [.int i] ∧ 0 < i ∧ Q (.bl true) H
theorem scPo : FnScope ["value"] ["value"] (defScope s_is_positive) := ⟨rfl, rfl, rfl, by decide +kernel, rfl, by decide +kernel, by decide +kernel⟩
theorem ok_Po {f f1 : Addr} {fd fd1 : FuncData} (F : FnS K "is_positive" s_is_positive f fd) (C0 : Cal P w K mg base 1 "is_integer" f1 fd1 ["value"] (spIsInt K)) : FnOk P w K mg base (L2.CX P w) 2 f fd ["value"] spPo := by
  refine F.ok scPo (fun vs H Q E h => ?_) (fun cdv A outer s H vs Q E hr h => ?_)
  · obtain ⟨i, rfl, _⟩ := h
    rfl
  · obtain ⟨i, rfl, hi, kk⟩ := h
    have nd := scPo.nd
    refine ⟨_, (pss_one (ps_ret (pe_and (pe_cal C0 (hr.mono (by decide)) (pa_cons (pv 0) pa_nil) passU) (pe_one (pe_cmpR op_gt (pv 0) pe_int (nomark _)))))), ?_⟩
    refine ⟨_, rfl, _, rfl, ty3_int i, _, rfl, iteT ⟨_, rfl, _, _, rfl, rfl, ?_⟩⟩
    show Q (.bl (decide (0 < i))) H
    rw [decide_eq_true hi]
    exact kk
end
end WU

set_option maxRecDepth 100000
set_option maxHeartbeats 8000000
namespace WU
open PySem PySem.Spec PyProof.Rows L2
section
variable {P : Program} {w : World} {K : PySem.W.Frag} {mg : Str → Option Value} {base : Heap} {S : Addr}
/-- check_sizes(p, book_length, book_count) that are right -/
def spSz : Sp := fun vs H Q _ => ∃ p n c : Int, vs = [.int p, .int n, .int c] ∧ p ∈ primes ∧ 0 < n ∧ 0 < c ∧ Q .non H
theorem sccheck_sizes : FnScope ["p", "book_length", "book_count"] ["p", "book_length", "book_count"] (defScope s_check_sizes) := ⟨rfl, rfl, rfl, by decide +kernel, rfl, by decide +kernel, by decide +kernel⟩
theorem ok_Sz {f f1 f2 : Addr} {fd fd1 fd2 : FuncData} (F : FnS K "check_sizes" s_check_sizes f fd) (C3 : Cal P w K mg base 2 "is_field" f1 fd1 ["p"] (spIsFld K)) (CPo : Cal P w K mg base 2 "is_positive" f2 fd2 ["value"] spPo) : FnOk P w K mg base (L2.CX P w) 3 f fd ["p", "book_length", "book_count"] spSz := by
  refine F.ok sccheck_sizes (fun vs H Q E h => ?_) (fun cdv A outer s H vs Q E hr h => ?_)
  · obtain ⟨p, n, c, rfl, _⟩ := h
    rfl
  · obtain ⟨p, n, c, rfl, hp, hn, hc, kk⟩ := h
    have nd := sccheck_sizes.nd
    refine ⟨_, (pss_cons (ps_if (pt_not (pt_val (pe_cal C3 (hr.mono (by decide)) (pa_cons (pv 0) pa_nil) passU))) (pss_one ps_never) pss_nil)
      (pss_cons (ps_if (pt_not (pt_val (pe_cal CPo (hr.mono (by decide)) (pa_cons (pv 1) pa_nil) passU))) (pss_one ps_never) pss_nil)
      (pss_one (ps_if (pt_not (pt_val (pe_cal CPo (hr.mono (by decide)) (pa_cons (pv 2) pa_nil) passU))) (pss_one ps_never) pss_nil)))), ?_⟩
    refine ⟨_, rfl, _, rfl, ty3_int p, _, rfl, ?_⟩
    rw [mem_fld hp]
    exact iteF ⟨_, rfl, n, rfl, hn, _, rfl, iteF ⟨_, rfl, c, rfl, hc, _, rfl, iteF kk⟩⟩
/-- members_of(value): of a tuple that is not empty -/
def spMe : Sp := fun vs H Q _ => ∃ (a : Addr) (xs : List V) (ds : List PyData) (K0 : PySem.W.Frag), vs = [.ref a] ∧ H a = some (.tup xs) ∧ Dp K0 H (.ref a) (.tuple ds) ∧ xs ≠ [] ∧ xs.length ≤ 900 ∧ ∀ l H', H' l = some (.lst xs) → Same H H' → Q (.ref l) H'
def spPs : Sp := fun vs H Q _ => ∃ (z : Str) (l : Addr) (n : Nat), vs = [.str z, .ref l] ∧ H l = some (.lst ((List.replicate n true).map V.bl)) ∧ Q .non H
theorem sccheck_places : FnScope ["part", "rights"] ["part", "rights"] (defScope s_check_places) := ⟨rfl, rfl, rfl, by decide +kernel, rfl, by decide +kernel, by decide +kernel⟩
theorem ok_Ps {f : Addr} {fd : FuncData} (F : FnS K "check_places" s_check_places f fd) : FnOk P w K mg base (L2.CX P w) 1 f fd ["part", "rights"] spPs := by
  refine F.ok sccheck_places (fun vs H Q E h => ?_) (fun cdv A outer s H vs Q E hr h => ?_)
  · obtain ⟨z, l, n, rfl, _⟩ := h
    rfl
  · obtain ⟨z, l, n, rfl, hl, kk⟩ := h
    have nd := sccheck_places.nd
    refine ⟨_, (pss_one (ps_if (pt_cmpR (op_inK (K := K)) pe_bl (pv 1) rfl) (pss_one ps_never) pss_nil)), ?_⟩
    refine ⟨_, rfl, l, _, rfl, .inl (SqL.of hl), rfl, by simp [flatV], _, rfl, ?_⟩
    rw [show (if false = true then !inV (.bl false) ((List.replicate n true).map V.bl) else inV (.bl false) ((List.replicate n true).map V.bl)) = false by
      rw [if_neg Bool.false_ne_true]
      clear hl
      induction n with
      | zero => rfl
      | succ n ih =>
        rw [List.replicate_succ, List.map_cons]
        unfold inV at ih ⊢
        rw [List.any_cons, ih]
        rfl]
    exact iteF kk
/-- kept_questions(questions): of tuples of tuples -/
def spKq {α : Type} (F : Hp → V → α → Prop) : Sp := fun vs H Q _ => ∃ v l, vs = [v] ∧ TF (TF F) H v l ∧ l.length ≤ 900 ∧ ∀ y H', Same H H' → TF (TF F) H' y l → Q y H'
theorem sckept_questions : FnScope ["questions", "asked"] ["questions"] (defScope s_kept_questions) := ⟨rfl, rfl, rfl, by decide +kernel, rfl, by decide +kernel, by decide +kernel⟩
theorem ok_Kq {α : Type} {G : Hp → V → α → Prop} (st : Stb G) {f : Addr} {fd : FuncData} (F : FnS K "kept_questions" s_kept_questions f fd) (B : Blt4 mg) : FnOk P w K mg base (L2.CX P w) 1 f fd ["questions"] (spKq G) := by
  refine F.ok sckept_questions (fun vs H Q E h => ?_) (fun cdv A outer s H vs Q E hr h => ?_)
  · obtain ⟨v, l, rfl, _⟩ := h
    rfl
  · obtain ⟨v, l, rfl, ⟨a, xs, rfl, ha, hP⟩, hl, kk⟩ := h
    have nd := sckept_questions.nd
    have el := paired_len hP
    refine ⟨_, (pss_one (ps_ret (pe_callTy (tup_ofK (K := K)) (by rfl) B.tuple (by decide +kernel) (pa_cons (pe_lc (own := [("asked", 1)]) (g := gName 1) (by rfl) nd (pi_tupK (K := K) (pv 0)) (blkOk_by (own := [("asked", 1)]) (N := ["questions", "asked"]) (sc := defScope s_kept_questions) (by decide +kernel)) (fun _ _ _ _ _ => (pg_name (i := 1) nd rfl (Or.inl rfl))) (fun _ _ _ _ _ => pts_nil) (fun _ _ _ _ _ => (pe_callTy (tup_ofK (K := K)) (by rfl) B.tuple (by decide +kernel) (pa_cons (pv 1) pa_nil)))) pa_nil)))), ?_⟩
    refine ⟨_, rfl, a, rfl, ⟨_, SqT.of ha⟩, fun D hD => lc_tup (K := K) (a := a) (xs := xs) (fun i H' => Same H H' ∧ Bd (TF G) D (l.take i) H') ⟨same_new hD, Bd.start⟩ (fun i H' _ z => SqT.of (z.1 _ _ ha)) ?_ ?_⟩
    · rintro i x H1 hx ⟨s1, b⟩
      obtain ⟨z, hz, c, ys, rfl, hc, hp⟩ := paired_at hP hx
      have s1c := s1 _ _ hc
      refine ⟨rfl, _, rfl, c, _, rfl, .inr ⟨SqT.of s1c, ?_⟩⟩
      obtain ⟨acc, ea, la, bb, kt⟩ := b.put (stb_TF st) (z := z) (y := .ref c) ⟨c, ys, rfl, s1c, paired_mono (fun _ _ q => st _ _ _ _ (TK.of s1) q) hp⟩ (by rw [List.length_take]; exact small1000 (by omega))
      refine ⟨acc, ea, la, fun b u hb => ?_, ?_⟩
      · rw [upd_ne (ne_of_none hb hD)]
        exact s1 _ _ hb
      · rw [List.take_succ, hz]
        exact bb
    · rintro H1 ⟨s1, b⟩
      rw [el, List.take_length] at b
      obtain ⟨ys, e, ft⟩ := b.tup (stb_TF st)
      exact ⟨D, _, rfl, .inl ⟨SqL.of e, fun T hT => kk _ _ (s1.trans (same_new hT)) (ft T hT)⟩⟩
/-- draws: pairs of a weight and asks -/
def TD : Hp → V → Int × List (List Int) → Prop := fun H v d => ∃ c y, v = .ref c ∧ H c = some (.tup [.int d.1, y]) ∧ T2 H y d.2
theorem stb_TD : Stb TD := fun H H' v d k ⟨c, y, e, h, t⟩ => ⟨c, y, e, k _ _ h, stb2 _ _ _ _ k t⟩
def spWt : Sp := fun vs H Q _ => ∃ v l, vs = [v] ∧ TF TD H v l ∧ l.length ≤ 900 ∧ ∀ H', Same H H' → Q (.int (l.map (·.1)).sum) H'
theorem scweight_of : FnScope ["draws", "weight", "_"] ["draws"] (defScope s_weight_of) := ⟨rfl, rfl, rfl, by decide +kernel, rfl, by decide +kernel, by decide +kernel⟩
theorem ok_Wt {f : Addr} {fd : FuncData} (F : FnS K "weight_of" s_weight_of f fd) (B : Blt5 mg) : FnOk P w K mg base (L2.CX P w) 1 f fd ["draws"] spWt := by
  refine F.ok scweight_of (fun vs H Q E h => ?_) (fun cdv A outer s H vs Q E hr h => ?_)
  · obtain ⟨v, l, rfl, _⟩ := h
    rfl
  · obtain ⟨v, l, rfl, ⟨a, xs, rfl, ha, hP⟩, hl, kk⟩ := h
    have nd := scweight_of.nd
    have el := paired_len hP
    refine ⟨_, (pss_one (ps_ret (pe_callB (cr_sumK (K := K) rfl) (by rfl) B.sum (by decide +kernel) (pa_cons (pe_lc (own := [("weight", 1), ("_", 2)]) (g := (gTup K 2 (gCons (gName 1) (gCons (gName 2) gNil)))) (by rfl) nd (pi_tupK (K := K) (pv 0)) (blkOk_by (own := [("weight", 1), ("_", 2)]) (N := ["draws", "weight", "_"]) (sc := defScope s_weight_of) (by decide +kernel)) (fun _ _ _ _ _ => (pg_tup rfl (pgs_cons (pg_name (i := 1) nd rfl (Or.inl rfl)) (pgs_cons (pg_name (i := 2) nd rfl (Or.inl rfl)) pgs_nil)))) (fun _ _ _ _ _ => pts_nil) (fun _ _ _ _ _ => (pv 1))) pa_nil)))), ?_⟩
    refine ⟨_, rfl, a, rfl, ⟨_, SqT.of ha⟩, fun D hD => lc_tup (K := K) (a := a) (xs := xs) (fun i H' => Same H H' ∧ H' D = some (.lst (((l.map (·.1)).take i).map V.int))) ⟨same_new hD, upd_same⟩ (fun i H' _ z => SqT.of (z.1 _ _ ha)) ?_ ?_⟩
    · rintro i x H1 hx ⟨s1, e1⟩
      obtain ⟨⟨wt, ak⟩, hz, c, y, rfl, hc, hy⟩ := paired_at hP hx
      refine ⟨c, _, rfl, SqT.of (s1 _ _ hc), rfl, _, _, rfl, _, _, rfl, rfl, rfl, _, rfl, _, e1, ?_, fun b u hb => ?_, ?_⟩
      · rw [List.length_map, List.length_take, List.length_map]
        exact small1000 (by omega)
      · rw [upd_ne (ne_of_none hb hD)]
        exact s1 _ _ hb
      · rw [upd_same, List.take_succ, List.getElem?_map, hz, List.map_append]
        rfl
    · rintro H1 ⟨s1, e1⟩
      rw [el, show l.length = (l.map (·.1)).length by rw [List.length_map], List.take_length] at e1
      exact ⟨D, _, rfl, SqL.of e1, kk _ s1⟩
end
end WU

set_option maxRecDepth 100000
set_option maxHeartbeats 8000000
namespace WU
open PySem PySem.Spec PyProof.Rows L2
theorem bl_put {H H' : Hp} {D : Addr} {i : Nat} (s : Same H H') (e : H' D = some (.lst ((List.replicate i true).map V.bl))) (hD : H D = none) (hi : i ≤ 1000) :
    ∃ acc, H' D = some (.lst acc) ∧ acc.length < sizeLine ∧ Same H (upd H' D (.lst (acc ++ [.bl true]))) ∧ upd H' D (.lst (acc ++ [.bl true])) D = some (.lst ((List.replicate (i + 1) true).map V.bl)) := by
  refine ⟨_, e, by rw [List.length_map, List.length_replicate]; exact small1000 hi, fun b u hb => ?_, ?_⟩
  · rw [upd_ne (ne_of_none hb hD)]
    exact s _ _ hb
  · rw [upd_same, List.replicate_succ', List.map_append]
    rfl
theorem bl_all (n : Nat) : ((List.replicate n true).all id) = true := by simp
theorem tup_at {K : PySem.W.Frag} {H : Hp} {c : Addr} {xs : List V} {i : Nat} {v : V} {Q : VK} (h : H c = some (.tup xs)) (e : xs[i]? = some v) (q : Q v H) : rIxT K (.ref c) (.int (i : Int)) H Q := ⟨c, xs, (i : Int), v, rfl, rfl, SqT.of h, atI_nat e, q⟩
def dD (d : Int × List (List Int)) : PyData := .tuple [.int d.1, d2 d.2]
theorem dtD {K : PySem.W.Frag} : Dt K TD dD := fun H v d ⟨c, y, e, h, t⟩ => e ▸ .tup (SqT.of h) (.cons (.int d.1) (.cons (dt2 _ _ _ t) .nil))
section
variable {P : Program} {w : World} {K : PySem.W.Frag} {mg : Str → Option Value} {base : Heap} {S : Addr}
/-- members_of(value): of a tuple that is not empty -/
def spMb (K : PySem.W.Frag) : Sp := fun vs H Q _ => ∃ (a : Addr) (xs : List V) (ds : List PyData), vs = [.ref a] ∧ H a = some (.tup xs) ∧ Dp K H (.ref a) (.tuple ds) ∧ 0 < xs.length ∧ ∀ l H', H' l = some (.lst xs) → Same H H' → Q (.ref l) H'
theorem scmembers_of : FnScope ["value"] ["value"] (defScope s_members_of) := ⟨rfl, rfl, rfl, by decide +kernel, rfl, by decide +kernel, by decide +kernel⟩
theorem ok_Mb {f f1 : Addr} {fd fd1 : FuncData} (F : FnS K "members_of" s_members_of f fd) (B : Blt4 mg) (CSq : Cal P w K mg base 1 "is_sequence" f1 fd1 ["value"] (spSeq K)) : FnOk P w K mg base (L2.CX P w) 2 f fd ["value"] (spMb K) := by
  refine F.ok scmembers_of (fun vs H Q E h => ?_) (fun cdv A outer s H vs Q E hr h => ?_)
  · obtain ⟨a, xs, ds, rfl, _⟩ := h
    rfl
  · obtain ⟨a, xs, ds, rfl, ha, hd, hl, kk⟩ := h
    have nd := scmembers_of.nd
    refine ⟨_, (pss_one (ps_ret (pe_ifExp (PW.pt (pw_and (pt_val (pe_cal CSq (hr.mono (by decide)) (pa_cons (pv 0) pa_nil) passU)) (pw_and1 (pt_cmpR op_gt (pe_callB (len_seqK (K := K)) (by rfl) B.len (by decide +kernel) (pa_cons (pv 0) pa_nil)) pe_int (nomark _))))) (pe_callTy (list_ofK (K := K)) (by rfl) B.lst (by decide +kernel) (pa_cons (pv 0) pa_nil)) (pe_lst (pa_cons pe_non pa_nil))))), ?_⟩
    refine ⟨_, rfl, _, _, rfl, hd, fun H1 s1 => ⟨_, rfl, iteT ?_⟩⟩
    refine ⟨_, rfl, a, _, rfl, .inr (SqT.of (s1 _ _ ha)), _, _, rfl, rfl, _, rfl, iteTb (decide_eq_true (by omega)) ?_⟩
    exact ⟨_, rfl, a, _, rfl, .inr (SqT.of (s1 _ _ ha)), fun l hq => kk l _ upd_same (s1.trans (same_new hq))⟩
/-- the questions of a house are right -/
def Qok (p : Int) (n : Nat) (qs : List (List (List Int))) : Prop := Ris qs ∧ qs.length ≤ 900 ∧ n ≤ 200 ∧ ∀ m ∈ qs, m.length ≤ 200 ∧ ∀ r ∈ m, Ltr p n r
def spQu : Sp := fun vs H Q _ => ∃ (p : Int) (n : Nat) (v : V) (qs : List (List (List Int))), vs = [.int p, .int n, v] ∧ T3 H v qs ∧ Qok p n qs ∧ ∀ H', Same H H' → Q (.bl true) H'
theorem scare_questions : FnScope ["p", "columns", "value", "question"] ["p", "columns", "value"] (defScope s_are_questions) := ⟨rfl, rfl, rfl, by decide +kernel, rfl, by decide +kernel, by decide +kernel⟩
theorem ok_Qu {f f1 f2 f3 : Addr} {fd fd1 fd2 fd3 : FuncData} (F : FnS K "_are_questions" s_are_questions f fd) (B : Blt4 mg) (CSq : Cal P w K mg base 1 "is_sequence" f1 fd1 ["value"] (spSeq K)) (CMt : Cal P w K mg base 6 "is_matrix" f2 fd2 ["value", "p", "columns"] (spMat K)) (CRi : Cal P w K mg base 1 "is_rising" f3 fd3 ["numbers"] spRi) :
    FnOk P w K mg base (L2.CX P w) 7 f fd ["p", "columns", "value"] spQu := by
  refine F.ok scare_questions (fun vs H Q E h => ?_) (fun cdv A outer s H vs Q E hr h => ?_)
  · obtain ⟨p, n, v, qs, rfl, _⟩ := h
    rfl
  · obtain ⟨p, n, v, qs, rfl, hT, ⟨hR, hl, hn, hq⟩, kk⟩ := h
    have nd := scare_questions.nd
    obtain ⟨a, xs, rfl, ha, hP⟩ := id hT
    have el := paired_len hP
    refine ⟨_, (pss_one (ps_ret (pe_and (pe_cal CSq (hr.mono (by decide)) (pa_cons (pv 2) pa_nil) passU) (pe_and (pe_callB (cr_allK (K := K) rfl) (by rfl) B.all (by decide +kernel) (pa_cons (pe_lc (own := [("question", 3)]) (g := gName 3) (by rfl) nd (pi_tupK (K := K) (pv 2)) (blkOk_by (own := [("question", 3)]) (N := ["p", "columns", "value", "question"]) (sc := defScope s_are_questions) (by decide +kernel)) (fun _ _ _ _ _ => (pg_name (i := 3) nd rfl (Or.inl rfl))) (fun _ _ _ _ _ => pts_nil) (fun _ _ _ _ _ => (pe_cal CMt (hr.mono (by decide)) (pa_cons (pv 3) (pa_cons (pv 0) (pa_cons (pv 1) pa_nil))) passU))) pa_nil)) (pe_one (pe_cal CRi (hr.mono (by decide)) (pa_cons (pv 2) pa_nil) passU)))))), ?_⟩
    refine ⟨_, rfl, _, d3 qs, rfl, dt3 _ _ _ hT, fun H1 s1 => ⟨_, rfl, iteT ?_⟩⟩
    refine ⟨_, rfl, a, rfl, ⟨_, SqT.of (s1 _ _ ha)⟩, fun D hD => lc_tup (K := K) (a := a) (xs := xs) (fun i H' => Same H1 H' ∧ H' D = some (.lst ((List.replicate i true).map V.bl))) ⟨same_new hD, upd_same⟩ (fun i H' _ z => SqT.of (z.1 _ _ (s1 _ _ ha))) ?_ ?_⟩
    · rintro i x H2 hx ⟨z1, z2⟩
      obtain ⟨m, hm, fm⟩ := paired_at hP hx
      have mo := hq m (List.mem_of_getElem? hm)
      have fm2 : T2 H2 x m := stb2 _ _ _ _ (TK.of (s1.trans z1)) fm
      refine ⟨rfl, _, rfl, _, rfl, _, rfl, p, n, x, MD m, rfl, fm2.mt.dp, small_rows mo.2 hn mo.1, fun H3 s3 => ?_⟩
      rw [mat_rows mo.2]
      have hil : i < xs.length := (List.getElem?_eq_some_iff.mp hx).1
      exact bl_put (z1.trans s3) (s3 _ _ z2) hD (by omega)
    · rintro H2 ⟨z1, z2⟩
      refine ⟨D, _, rfl, SqL.of z2, ?_⟩
      rw [bl_all]
      exact ⟨_, rfl, iteT ⟨_, rfl, _, qs, rfl, stb3 _ _ _ _ (TK.of (s1.trans z1)) hT, hR, hl, fun H3 s3 => kk _ ((s1.trans z1).trans s3)⟩⟩
/-- _is_framed(value, book_count, house_count) of a draw that is -/
def spFr : Sp := fun vs H Q _ => ∃ (v : V) (wt : Int) (ak : List (List Int)) (n m : Nat), vs = [v, .int n, .int m] ∧ TD H v (wt, ak) ∧ 0 < wt ∧ ak.length = n ∧ (∀ r ∈ ak, r.length = m) ∧ n ≤ 900 ∧ ∀ H', Same H H' → Q (.bl true) H'
theorem scis_framed : FnScope ["value", "book_count", "house_count", "asks", "asked"] ["value", "book_count", "house_count"] (defScope s_is_framed) := ⟨rfl, rfl, rfl, by decide +kernel, rfl, by decide +kernel, by decide +kernel⟩
theorem ok_Fr {f f1 f2 : Addr} {fd fd1 fd2 : FuncData} (F : FnS K "_is_framed" s_is_framed f fd) (B : Blt4 mg) (CSq : Cal P w K mg base 1 "is_sequence" f1 fd1 ["value"] (spSeq K)) (CPo : Cal P w K mg base 2 "is_positive" f2 fd2 ["value"] spPo) :
    FnOk P w K mg base (L2.CX P w) 3 f fd ["value", "book_count", "house_count"] spFr := by
  refine F.ok scis_framed (fun vs H Q E h => ?_) (fun cdv A outer s H vs Q E hr h => ?_)
  · obtain ⟨v, wt, ak, n, m, rfl, _⟩ := h
    rfl
  · obtain ⟨v, wt, ak, n, m, rfl, hT, hw, hn, hm, hl, kk⟩ := h
    have nd := scis_framed.nd
    obtain ⟨c, y, rfl, hc, hy⟩ := id hT
    obtain ⟨b, xs, rfl, hb, hP⟩ := id hy
    have el : xs.length = ak.length := paired_len hP
    refine ⟨_, (pss_cons (ps_if (PW.pt (pw_or (pt_not (pt_val (pe_cal CSq (hr.mono (by decide)) (pa_cons (pv 0) pa_nil) passU))) (pw_or (pt_cmpR op_ne (pe_callB (len_seqK (K := K)) (by rfl) B.len (by decide +kernel) (pa_cons (pv 0) pa_nil)) pe_int (nomark _)) (pw_or1 (pt_not (pt_val (pe_cal CPo (hr.mono (by decide)) (pa_cons (pe_ix (ix_tupK (K := K)) (pv 0) pe_int (fun _ _ => rfl)) pa_nil) passU))))))) (pss_one (ps_ret pe_bl)) pss_nil)
      (pss_cons (ps_set (i := 3) nd rfl (Or.inl rfl) (pe_ix (ix_tupK (K := K)) (pv 0) pe_int (fun _ _ => rfl)))
      (pss_cons (ps_if (PW.pt (pw_or (pt_not (pt_val (pe_cal CSq (hr.mono (by decide)) (pa_cons (pv 3) pa_nil) passU))) (pw_or1 (pt_cmpR op_ne (pe_callB (len_seqK (K := K)) (by rfl) B.len (by decide +kernel) (pa_cons (pv 3) pa_nil)) (pv 1) (nomark _))))) (pss_one (ps_ret pe_bl)) pss_nil)
      (pss_one (ps_ret (pe_callB (cr_allK (K := K) rfl) (by rfl) B.all (by decide +kernel) (pa_cons (pe_lc (own := [("asked", 4)]) (g := gName 4) (by rfl) nd (pi_tupK (K := K) (pv 3)) (blkOk_by (own := [("asked", 4)]) (N := ["value", "book_count", "house_count", "asks", "asked"]) (sc := defScope s_is_framed) (by decide +kernel)) (fun _ _ _ _ _ => (pg_name (i := 4) nd rfl (Or.inl rfl))) (fun _ _ _ _ _ => pts_nil) (fun _ _ _ _ _ => (pe_and (pe_cal CSq (hr.mono (by decide)) (pa_cons (pv 4) pa_nil) passU) (pe_one (pe_cmpR op_eq (pe_callB (len_seqK (K := K)) (by rfl) B.len (by decide +kernel) (pa_cons (pv 4) pa_nil)) (pv 2) (nomark _)))))) pa_nil))))))), ?_⟩
    refine ⟨_, rfl, _, _, rfl, dtD _ _ _ hT, fun H1 s1 => ⟨_, rfl, iteF ?_⟩⟩
    refine ⟨_, rfl, c, _, rfl, .inr (SqT.of (s1 _ _ hc)), rfl, _, rfl, iteFb rfl ?_⟩
    refine ⟨_, rfl, tup_at (i := 0) (s1 _ _ hc) rfl ⟨wt, rfl, hw, _, rfl, iteF ?_⟩⟩
    refine ⟨_, rfl, tup_at (i := 1) (s1 _ _ hc) rfl ?_⟩
    refine ⟨_, rfl, _, d2 ak, rfl, dt2 _ _ _ (stb2 _ _ _ _ (TK.of s1) hy), fun H2 s2 => ⟨_, rfl, iteF ?_⟩⟩
    have s2 := s1.trans s2
    refine ⟨_, rfl, b, _, rfl, .inr (SqT.of (s2 _ _ hb)), _, rfl, rfl, _, rfl, iteFb (by rw [decide_eq_true (congrArg (fun k : Nat => V.int k) (el.trans hn))]; rfl) ?_⟩
    refine ⟨_, rfl, b, rfl, ⟨_, SqT.of (s2 _ _ hb)⟩, fun D hD => lc_tup (K := K) (a := b) (xs := xs) (fun i H' => Same H2 H' ∧ H' D = some (.lst ((List.replicate i true).map V.bl))) ⟨same_new hD, upd_same⟩ (fun i H' _ z => SqT.of (z.1 _ _ (s2 _ _ hb))) ?_ ?_⟩
    · rintro i x H3 hx ⟨z1, z2⟩
      obtain ⟨r, hr1, fr⟩ := paired_at hP hx
      have fr3 : T1 H3 x r := stb1 _ _ _ _ (TK.of (s2.trans z1)) fr
      have rl := hm r (List.mem_of_getElem? hr1)
      have hil : i < xs.length := (List.getElem?_eq_some_iff.mp hx).1
      refine ⟨rfl, _, rfl, x, d1 r, rfl, dt1 _ _ _ fr3, fun H4 s4 => ⟨_, rfl, iteT ?_⟩⟩
      obtain ⟨e, ys, rfl, he, hp⟩ := stb1 _ _ _ _ (TK.of s4) fr3
      refine ⟨_, rfl, e, _, rfl, .inr (SqT.of he), _, rfl, rfl, ?_⟩
      rw [paired_len hp, rl, decide_eq_true rfl]
      exact bl_put (z1.trans s4) (s4 _ _ z2) hD (by omega)
    · rintro H3 ⟨z1, z2⟩
      refine ⟨D, _, rfl, SqL.of z2, ?_⟩
      rw [bl_all]
      exact kk _ (s2.trans z1)
end
end WU

set_option maxRecDepth 100000
set_option maxHeartbeats 8000000
namespace WU
open PySem PySem.Spec PyProof.Rows L2
/-- the inner walk of a comprehension -/
theorem wIt {J : It} {n : Nat} {G : Hp → Prop} {Y : Nat → Hp → V → Hp → Prop} (w : Walk J n G Y) {H0 : Hp} {Qd : Hp → Prop} {B : V → Hp → (Hp → Prop) → Prop} (Pv : Nat → Hp → Prop) (h0 : Pv 0 H0) (hG : ∀ i H, i ≤ n → Pv i H → G H)
    (hs : ∀ i x H H', i < n → Pv i H → Y i H x H' → B x H' (Pv (i + 1))) (hd : ∀ H, Pv n H → Qd H) :
    ∃ W : Nat → Nat → Hp → Prop, (∃ m, W 0 m H0) ∧ ∀ i m H, W i m H → (J.stop i H ∧ Qd H) ∨ (J.go i H ∧ ∃ Nx : Hp → Prop, (∀ H', Nx H' → ∃ m', m' < m ∧ W (i + 1) m' H') ∧ ∀ x H', J.yld i H x H' → B x H' Nx) := by
  refine ⟨fun i m H => m = n - i ∧ i ≤ n ∧ Pv i H, ⟨n, by simp, Nat.zero_le _, h0⟩, ?_⟩
  rintro i m H ⟨rfl, hi, p⟩
  have q := hG i H hi p
  by_cases hlt : i < n
  · exact .inr ⟨w.goes i H hlt q, Pv (i + 1), fun H' p' => ⟨n - (i + 1), by omega, rfl, hlt, p'⟩, fun x H' y => hs i x H H' hlt p (w.yields i H x H' hlt q y)⟩
  · have e : i = n := by omega
    subst e
    exact .inl ⟨w.stops H q, hd H p⟩
/-- a right draw -/
def Dok (n : Nat) (counts : List Int) (d : Int × List (List Int)) : Prop := 0 < d.1 ∧ d.2.length = n ∧ n * counts.length ≤ 900 ∧ n ≤ 900 ∧ ∀ r ∈ d.2, r.length = counts.length ∧ ∀ j, j < counts.length → 0 ≤ at0 r j ∧ at0 r j < at0 counts j
section
variable {P : Program} {w : World} {K : PySem.W.Frag} {mg : Str → Option Value} {base : Heap} {S : Addr}
/-- is_draw(value, book_count, counts) of one -/
def spIdr : Sp := fun vs H Q _ => ∃ (v : V) (d : Int × List (List Int)) (n : Nat) (cl : Addr) (counts : List Int), vs = [v, .int n, .ref cl] ∧ TD H v d ∧ H cl = some (.lst (counts.map V.int)) ∧ Dok n counts d ∧ ∀ H', Same H H' → Q (.bl true) H'
theorem scIdr : FnScope ["value", "book_count", "counts", "asked", "number", "count"] ["value", "book_count", "counts"] (defScope s_is_draw) := ⟨rfl, rfl, rfl, by decide +kernel, rfl, by decide +kernel, by decide +kernel⟩
theorem ok_Idr {f f1 f2 : Addr} {fd fd1 fd2 : FuncData} (F : FnS K "is_draw" s_is_draw f fd) (B : Blt4 mg) (CFr : Cal P w K mg base 3 "_is_framed" f1 fd1 ["value", "book_count", "house_count"] spFr) (C2 : Cal P w K mg base 3 "is_below" f2 fd2 ["value", "limit"] (spIsBel K)) :
    FnOk P w K mg base (L2.CX P w) 4 f fd ["value", "book_count", "counts"] spIdr := by
  refine F.ok scIdr (fun vs H Q E h => ?_) (fun cdv A outer s H vs Q E hr h => ?_)
  · obtain ⟨v, d, n, cl, counts, rfl, _⟩ := h
    rfl
  · obtain ⟨v, ⟨wt, ak⟩, n, cl, counts, rfl, hT, hcl, ⟨hw, hn, hnm, hn9, hr1⟩, kk⟩ := h
    have nd := scIdr.nd
    obtain ⟨c, y, rfl, hc, hy⟩ := id hT
    obtain ⟨b, xs, rfl, hb, hP⟩ := id hy
    have el : xs.length = ak.length := paired_len hP
    have hn : ak.length = n := hn
    have lc : (counts.map V.int).length = counts.length := List.length_map _
    refine ⟨_, (pss_cons (ps_if (pt_not (pt_val (pe_cal CFr (hr.mono (by decide)) (pa_cons (pv 0) (pa_cons (pv 1) (pa_cons (pe_callB (len_seqK (K := K)) (by rfl) B.len (by decide +kernel) (pa_cons (pv 2) pa_nil)) pa_nil))) passU))) (pss_one (ps_ret pe_bl)) pss_nil)
      (pss_one (ps_ret (pe_callB (cr_allK (K := K) rfl) (by rfl) B.all (by decide +kernel) (pa_cons (pe_lc2 (wi1 := iZipM K (tCons (tVar 3) (tCons (tVar 2) tNil))) (te := tCall (spIsBel K) [] E0 (tCons (tVar 4) (tCons (tVar 5) tNil))) (own := [("asked", 3), ("number", 4), ("count", 5)]) (vs1 := [4, 5]) (g := gName 3) (g1 := gTup K 2 (gCons (gName 4) (gCons (gName 5) gNil))) (by rfl) nd (pi_tupK (K := K) (pe_ix (ix_tupK (K := K)) (pv 0) pe_int (fun _ _ => rfl))) (blkOk_by (own := [("asked", 3), ("number", 4), ("count", 5)]) (N := ["value", "book_count", "counts", "asked", "number", "count"]) (sc := defScope s_is_draw) (by decide +kernel)) (by decide) (fun _ _ _ _ _ => pg_name (i := 3) nd rfl (Or.inl rfl)) (fun _ _ _ _ _ => pts_nil) (fun _ _ _ _ _ => pi_zipMK (K := K) (by rfl) B.zip (pa_cons (pv 3) (pa_cons (pv 2) pa_nil))) (fun _ _ _ _ _ => pg_tupK (K := K) (pg_tup rfl (pgs_cons (pg_name (i := 4) nd rfl (Or.inl rfl)) (pgs_cons (pg_name (i := 5) nd rfl (Or.inl rfl)) pgs_nil)))) (fun _ _ _ _ _ => pts_nil) (fun _ _ _ _ _ => (pe_cal C2 (hr.mono (by decide)) (pa_cons (pv 4) (pa_cons (pv 5) pa_nil)) passU))) pa_nil))))), ?_⟩
    refine ⟨_, rfl, _, rfl, _, rfl, cl, _, rfl, .inl (SqL.of hcl), _, wt, ak, n, (counts.map V.int).length, rfl, hT, hw, hn, fun r hr => by rw [lc]; exact (hr1 r hr).1, hn9, fun H1 s1 => ⟨_, rfl, iteF ?_⟩⟩
    have hb1 := s1 _ _ hb
    refine ⟨_, rfl, c, _, (1 : Int), .ref b, rfl, rfl, SqT.of (s1 _ _ hc), rfl, b, rfl, ⟨_, SqT.of hb1⟩, fun D hD => wTup (K := K) (a := b) (xs := xs) (fun i H' => Same H1 H' ∧ H' D = some (.lst ((List.replicate (i * counts.length) true).map V.bl))) ⟨same_new hD, by rw [Nat.zero_mul]; exact upd_same⟩ (fun i H' z => SqT.of (z.1 _ _ hb1)) ?_ ?_⟩
    · rintro i x H2 hx ⟨z1, z2⟩
      obtain ⟨r, hri, fr⟩ := paired_at hP hx
      obtain ⟨rl, rb⟩ := hr1 r (List.mem_of_getElem? hri)
      have hil : i < ak.length := (List.getElem?_eq_some_iff.mp hri).1
      have mul : i * counts.length + counts.length ≤ n * counts.length := by
        have := Nat.mul_le_mul_right counts.length (show i + 1 ≤ n by omega)
        rw [Nat.succ_mul] at this
        exact this
      obtain ⟨e, ys, rfl, he, hp⟩ := fr
      have eys := fi_map hp
      subst eys
      refine ⟨rfl, _, rfl, _, rfl, e, cl, _, _, rfl, .inl ⟨SqT.of ((s1.trans z1) _ _ he), SqL.of ((s1.trans z1) _ _ hcl), wIt (walk_zipM (n := counts.length) (by rw [List.length_map]; exact rl) (by rw [List.length_map])) (fun j H' => Same H1 H' ∧ H' D = some (.lst ((List.replicate (i * counts.length + j) true).map V.bl))) ⟨z1, z2⟩ (fun j H' _ z => ⟨SqT.of ((s1.trans z.1) _ _ he), SqL.of ((s1.trans z.1) _ _ hcl)⟩) ?_ ?_⟩⟩
      · rintro j x H3 H4 hj ⟨q1, q3⟩ ⟨T, x1, x2, rfl, hT4, rfl, g1, g2⟩
        cases (take_map_at counts.length (r := r) (i := j) (by omega)).symm.trans g1
        cases (take_map_at counts.length (r := counts) (i := j) hj).symm.trans g2
        have bb := rb j hj
        refine ⟨T, _, rfl, SqT.of upd_same, rfl, _, _, rfl, _, _, rfl, rfl, rfl, _, rfl, _, rfl, _, _, rfl, ty3_int _, ?_⟩
        rw [show isBel (at0 counts j) (.int (at0 r j)) = true by
          show (decide (0 ≤ at0 r j) && decide (at0 r j < at0 counts j)) = true
          rw [decide_eq_true bb.1, decide_eq_true bb.2]
          rfl]
        exact bl_put (i := i * counts.length + j) (q1.trans (same_new hT4)) (same_new hT4 _ _ q3) hD (by omega)
      · rintro H3 ⟨q1, q3⟩
        rw [← Nat.succ_mul] at q3
        exact ⟨q1, q3⟩
    · rintro H2 ⟨z1, z2⟩
      refine ⟨D, _, rfl, SqL.of z2, ?_⟩
      rw [bl_all]
      exact kk _ (s1.trans z1)
end
end WU

set_option maxRecDepth 100000
set_option maxHeartbeats 8000000
namespace WU
open PySem PySem.Spec PyProof.Rows L2
def lens {α : Type} (l : List (List α)) : List Int := l.map fun q => (q.length : Int)
theorem lens_len {α : Type} (l : List (List α)) : (lens l).length = l.length := List.length_map _
section
variable {P : Program} {w : World} {K : PySem.W.Frag} {mg : Str → Option Value} {base : Heap} {S : Addr}
/-- check_draws(book_count, questions, draws) of right ones -/
def spCd : Sp := fun vs H Q _ => ∃ (n : Nat) (qv dv : V) (qss : List (List (List (List Int)))) (ds : List (Int × List (List Int))), vs = [.int n, qv, dv] ∧ T4 H qv qss ∧ TF TD H dv ds ∧ 0 < ds.length ∧ ds.length ≤ 900 ∧ qss.length ≤ 900 ∧ (∀ d ∈ ds, Dok n (lens qss) d) ∧ ∀ H', Same H H' → Q .non H'
theorem sccheck_draws : FnScope ["book_count", "questions", "draws", "counts", "asked", "draw"] ["book_count", "questions", "draws"] (defScope s_check_draws) := ⟨rfl, rfl, rfl, by decide +kernel, rfl, by decide +kernel, by decide +kernel⟩
theorem ok_Cd {f f1 f2 f3 : Addr} {fd fd1 fd2 fd3 : FuncData} (F : FnS K "check_draws" s_check_draws f fd) (B : Blt4 mg) (CPl : Cal P w K mg base 1 "check_places" f1 fd1 ["part", "rights"] spPs) (CMe : Cal P w K mg base 2 "members_of" f2 fd2 ["value"] (spMb K)) (CDr : Cal P w K mg base 4 "is_draw" f3 fd3 ["value", "book_count", "counts"] spIdr) :
    FnOk P w K mg base (L2.CX P w) 5 f fd ["book_count", "questions", "draws"] spCd := by
  refine F.ok sccheck_draws (fun vs H Q E h => ?_) (fun cdv A outer s H vs Q E hr h => ?_)
  · obtain ⟨n, qv, dv, qss, ds, rfl, _⟩ := h
    rfl
  · obtain ⟨n, qv, dv, qss, ds, rfl, hQ, hD0, d0, d9, q9, ok, kk⟩ := h
    have nd := sccheck_draws.nd
    obtain ⟨a, xs, rfl, ha, hP⟩ := id hQ
    obtain ⟨b, ys, rfl, hb, hP2⟩ := id hD0
    have el := paired_len hP
    have el2 := paired_len hP2
    refine ⟨_, (pss_cons (ps_set (i := 3) nd rfl (Or.inr rfl) (pe_lc (own := [("asked", 4)]) (g := gName 4) (by rfl) nd (pi_tupK (K := K) (pv 1)) (blkOk_by (own := [("asked", 4)]) (N := ["book_count", "questions", "draws", "counts", "asked", "draw"]) (sc := defScope s_check_draws) (by decide +kernel)) (fun _ _ _ _ _ => (pg_name (i := 4) nd rfl (Or.inl rfl))) (fun _ _ _ _ _ => pts_nil) (fun _ _ _ _ _ => (pe_callB (len_seqK (K := K)) (by rfl) B.len (by decide +kernel) (pa_cons (pv 4) pa_nil)))))
      (pss_one (ps_expr (pe_cal CPl (hr.mono (by decide)) (pa_cons pe_str (pa_cons (pe_lc (own := [("draw", 5)]) (g := gName 5) (by rfl) nd (pi_listK (K := K) (pe_cal CMe (hr.mono (by decide)) (pa_cons (pv 2) pa_nil) passU)) (blkOk_by (own := [("draw", 5)]) (N := ["book_count", "questions", "draws", "counts", "asked", "draw"]) (sc := defScope s_check_draws) (by decide +kernel)) (fun _ _ _ _ _ => (pg_name (i := 5) nd rfl (Or.inl rfl))) (fun _ _ _ _ _ => pts_nil) (fun _ _ _ _ _ => (pe_cal CDr (hr.mono (by decide)) (pa_cons (pv 5) (pa_cons (pv 0) (pa_cons (pv 3) pa_nil))) passU))) pa_nil)) passU)))), ?_⟩
    refine ⟨_, rfl, a, rfl, ⟨_, SqT.of ha⟩, fun D hD => lc_tup (K := K) (a := a) (xs := xs) (fun i H' => Same H H' ∧ H' D = some (.lst (((lens qss).take i).map V.int))) ⟨same_new hD, upd_same⟩ (fun i H' _ z => SqT.of (z.1 _ _ ha)) ?_ ?_⟩
    · rintro i x H1 hx ⟨s1, e1⟩
      obtain ⟨q, hq, c, zs, rfl, hc, hp⟩ := paired_at hP hx
      refine ⟨rfl, _, rfl, c, _, rfl, .inr (SqT.of (s1 _ _ hc)), _, e1, ?_, fun bq u hbq => ?_, ?_⟩
      · rw [List.length_map, List.length_take, lens_len]
        exact small1000 (by omega)
      · rw [upd_ne (ne_of_none hbq hD)]
        exact s1 _ _ hbq
      · rw [upd_same, List.take_succ, show (lens qss)[i]? = some (q.length : Int) by unfold lens; rw [List.getElem?_map, hq]; rfl, List.map_append, paired_len hp]
        rfl
    · rintro H1 ⟨s1, e1⟩
      rw [el, show qss.length = (lens qss).length by rw [lens_len], List.take_length] at e1
      refine ⟨_, rfl, b, ys, _, rfl, s1 _ _ hb, dt_TF dtD _ _ _ (stb_TF stb_TD _ _ _ _ (TK.of s1) hD0), by omega, fun l H2 hl s2 => ?_⟩
      have s12 := s1.trans s2
      refine ⟨l, rfl, ⟨_, SqL.of hl⟩, fun D2 hD2 => lc_list (K := K) (a := l) (xs := ys) (fun i H' => Same H2 H' ∧ H' D2 = some (.lst ((List.replicate i true).map V.bl))) ⟨same_new hD2, upd_same⟩ (fun i H' _ z => SqL.of (z.1 _ _ hl)) ?_ ?_⟩
      · rintro i x H3 hx ⟨z1, z2⟩
        obtain ⟨d, hd, fd'⟩ := paired_at hP2 hx
        have hil : i < ys.length := (List.getElem?_eq_some_iff.mp hx).1
        exact ⟨rfl, _, rfl, _, rfl, _, rfl, x, d, n, D, lens qss, rfl, stb_TD _ _ _ _ (TK.of (s12.trans z1)) fd', z1 _ _ (s2 _ _ e1), ok d (List.mem_of_getElem? hd), fun H4 s4 => bl_put (z1.trans s4) (s4 _ _ z2) hD2 (by omega)⟩
      · rintro H3 ⟨z1, z2⟩
        exact ⟨_, D2, _, rfl, z2, kk _ (s12.trans z1)⟩
/-- kept_draws(draws) -/
def spKd2 : Sp := fun vs H Q _ => ∃ v ds, vs = [v] ∧ TF TD H v ds ∧ ds.length ≤ 900 ∧ (∀ d ∈ ds, d.2.length ≤ 900) ∧ ∀ y H', Same H H' → TF TD H' y ds → Q y H'
theorem sckept_draws : FnScope ["draws", "weight", "asks", "asked"] ["draws"] (defScope s_kept_draws) := ⟨rfl, rfl, rfl, by decide +kernel, rfl, by decide +kernel, by decide +kernel⟩
theorem ok_Kd2 {f : Addr} {fd : FuncData} (F : FnS K "kept_draws" s_kept_draws f fd) (B : Blt4 mg) : FnOk P w K mg base (L2.CX P w) 1 f fd ["draws"] spKd2 := by
  refine F.ok sckept_draws (fun vs H Q E h => ?_) (fun cdv A outer s H vs Q E hr h => ?_)
  · obtain ⟨v, ds, rfl, _⟩ := h
    rfl
  · obtain ⟨v, ds, rfl, ⟨a, xs, rfl, ha, hP⟩, hl, ha9, kk⟩ := h
    have nd := sckept_draws.nd
    have el := paired_len hP
    refine ⟨_, (pss_one (ps_ret (pe_callTy (tup_ofK (K := K)) (by rfl) B.tuple (by decide +kernel) (pa_cons (pe_lc (own := [("weight", 1), ("asks", 2)]) (g := (gTup K 2 (gCons (gName 1) (gCons (gName 2) gNil)))) (by rfl) nd (pi_tupK (K := K) (pv 0)) (blkOk_by (own := [("weight", 1), ("asks", 2)]) (N := ["draws", "weight", "asks", "asked"]) (sc := defScope s_kept_draws) (by decide +kernel)) (fun _ _ _ _ _ => (pg_tup rfl (pgs_cons (pg_name (i := 1) nd rfl (Or.inl rfl)) (pgs_cons (pg_name (i := 2) nd rfl (Or.inl rfl)) pgs_nil)))) (fun _ _ _ _ _ => pts_nil) (fun _ _ _ _ _ => (pe_tup (pa_cons (pv 1) (pa_cons (pe_callTy (tup_ofK (K := K)) (by rfl) B.tuple (by decide +kernel) (pa_cons (pe_lc (own := [("asked", 3)]) (g := gName 3) (by rfl) nd (pi_tupK (K := K) (pv 2)) (blkOk_by (own := [("asked", 3)]) (N := ["draws", "weight", "asks", "asked"]) (sc := relS (retLc ((defBody s_kept_draws).getD 0 (.Pass ⟨0, 0, 0, 0⟩))) (defScope s_kept_draws)) (by decide +kernel)) (fun _ _ _ _ _ => (pg_name (i := 3) nd rfl (Or.inl rfl))) (fun _ _ _ _ _ => pts_nil) (fun _ _ _ _ _ => (pe_callTy (tup_ofK (K := K)) (by rfl) B.tuple (by decide +kernel) (pa_cons (pv 3) pa_nil)))) pa_nil)) pa_nil))))) pa_nil)))), ?_⟩
    refine ⟨_, rfl, a, rfl, ⟨_, SqT.of ha⟩, fun D hD => lc_tup (K := K) (a := a) (xs := xs) (fun i H' => Same H H' ∧ Bd TD D (ds.take i) H') ⟨same_new hD, Bd.start⟩ (fun i H' _ z => SqT.of (z.1 _ _ ha)) ?_ ?_⟩
    · rintro i x H1 hx ⟨s1, b⟩
      obtain ⟨⟨wt, ak⟩, hd, c, y, rfl, hc, hy⟩ := paired_at hP hx
      have a9 := ha9 _ (List.mem_of_getElem? hd)
      obtain ⟨e, ys, rfl, he, hp⟩ := id hy
      have el2 : ys.length = ak.length := paired_len hp
      have hil : i < xs.length := (List.getElem?_eq_some_iff.mp hx).1
      refine ⟨c, _, rfl, SqT.of (s1 _ _ hc), rfl, _, _, rfl, _, _, rfl, rfl, rfl, _, rfl, ?_⟩
      refine ⟨_, rfl, e, rfl, ⟨_, SqT.of (s1 _ _ he)⟩, fun D2 hD2 => lc_tup (K := K) (a := e) (xs := ys) (fun j H' => Same H1 H' ∧ Bd T1 D2 (ak.take j) H') ⟨same_new hD2, Bd.start⟩ (fun j H' _ z => SqT.of (z.1 _ _ (s1 _ _ he))) ?_ ?_⟩
      · rintro j x H2 hx2 ⟨s2, b2⟩
        obtain ⟨r, hr2, g, zs, rfl, hg, hpz⟩ := paired_at hp hx2
        have hjl : j < ys.length := (List.getElem?_eq_some_iff.mp hx2).1
        have hg2 := (s1.trans s2) _ _ hg
        refine ⟨rfl, _, rfl, g, _, rfl, .inr ⟨SqT.of hg2, ?_⟩⟩
        obtain ⟨acc, e1, e2, e3, e4⟩ := b2.put stb1 (z := r) (y := .ref g) ⟨g, zs, rfl, hg2, paired_mono (fun _ _ q => q) hpz⟩ (by rw [List.length_take]; exact small1000 (by show min j ak.length ≤ 1000; have : ak.length ≤ 900 := a9; omega))
        refine ⟨acc, e1, e2, fun bq u hbq => ?_, ?_⟩
        · rw [upd_ne (ne_of_none hbq hD2)]
          exact s2 _ _ hbq
        · rw [List.take_succ, hr2]
          exact e3
      · rintro H2 ⟨s2, b2⟩
        rw [el2, List.take_length] at b2
        obtain ⟨zs, ez, ft⟩ := b2.tup stb1
        refine ⟨D2, _, rfl, .inl ⟨SqL.of ez, fun T hT => ?_⟩⟩
        have t2 := ft T hT
        have s3 := s2.trans (same_new (o := .tup zs) hT)
        generalize upd H2 T (.tup zs) = H3 at t2 s3 ⊢
        refine ⟨(by show 2 ≤ sizeLine; decide), fun p hp3 => ?_⟩
        have s4 := s3.trans (same_new (o := .tup [.int wt, .ref T]) hp3)
        have fp : TD (upd H3 p (.tup [.int wt, .ref T])) (.ref p) (wt, ak) := ⟨p, _, rfl, upd_same, stb2 _ _ _ _ (TK.new hp3) t2⟩
        have b4 : Bd TD D (ds.take i) (upd H3 p (.tup [.int wt, .ref T])) := b.skip stb_TD (TK.of s4) fun ys h => s4 _ _ h
        obtain ⟨acc, e1, e2, e3, e4⟩ := b4.put stb_TD fp (by rw [List.length_take]; exact small1000 (by omega))
        refine ⟨acc, e1, e2, fun bq u hbq => ?_, ?_⟩
        · rw [upd_ne (ne_of_none hbq hD)]
          exact s4 _ _ (s1 _ _ hbq)
        · rw [List.take_succ, hd]
          exact e3
    · rintro H1 ⟨s1, b⟩
      rw [el, List.take_length] at b
      obtain ⟨ys, e, ft⟩ := b.tup stb_TD
      exact ⟨D, _, rfl, .inl ⟨SqL.of e, fun T hT => kk _ _ (s1.trans (same_new hT)) (ft T hT)⟩⟩
end
end WU

set_option maxRecDepth 100000
set_option maxHeartbeats 8000000
namespace WU
open PySem PySem.Spec PyProof.Rows L2
/-- the attributes of a Plan -/
def pf (p n c h : Int) (qv dv : V) (wt : Int) : List (Str × V) :=
  putF "weight" (.int wt) (putF "draws" dv (putF "questions" qv (putF "house_count" (.int h) (putF "book_count" (.int c) (putF "book_length" (.int n) (putF "p" (.int p) []))))))
theorem pf_p {p n c h : Int} {qv dv : V} {wt : Int} : (pf p n c h qv dv wt).lookup ("p" : Str) = some (.int p) := by
  unfold pf
  rw [lookup_putF, if_neg (by decide +kernel), lookup_putF, if_neg (by decide +kernel), lookup_putF, if_neg (by decide +kernel), lookup_putF, if_neg (by decide +kernel), lookup_putF, if_neg (by decide +kernel), lookup_putF, if_neg (by decide +kernel), lookup_putF, if_pos rfl]
theorem pf_book_length {p n c h : Int} {qv dv : V} {wt : Int} : (pf p n c h qv dv wt).lookup ("book_length" : Str) = some (.int n) := by
  unfold pf
  rw [lookup_putF, if_neg (by decide +kernel), lookup_putF, if_neg (by decide +kernel), lookup_putF, if_neg (by decide +kernel), lookup_putF, if_neg (by decide +kernel), lookup_putF, if_neg (by decide +kernel), lookup_putF, if_pos rfl]
theorem pf_book_count {p n c h : Int} {qv dv : V} {wt : Int} : (pf p n c h qv dv wt).lookup ("book_count" : Str) = some (.int c) := by
  unfold pf
  rw [lookup_putF, if_neg (by decide +kernel), lookup_putF, if_neg (by decide +kernel), lookup_putF, if_neg (by decide +kernel), lookup_putF, if_neg (by decide +kernel), lookup_putF, if_pos rfl]
theorem pf_house_count {p n c h : Int} {qv dv : V} {wt : Int} : (pf p n c h qv dv wt).lookup ("house_count" : Str) = some (.int h) := by
  unfold pf
  rw [lookup_putF, if_neg (by decide +kernel), lookup_putF, if_neg (by decide +kernel), lookup_putF, if_neg (by decide +kernel), lookup_putF, if_pos rfl]
theorem pf_questions {p n c h : Int} {qv dv : V} {wt : Int} : (pf p n c h qv dv wt).lookup ("questions" : Str) = some qv := by
  unfold pf
  rw [lookup_putF, if_neg (by decide +kernel), lookup_putF, if_neg (by decide +kernel), lookup_putF, if_pos rfl]
theorem pf_draws {p n c h : Int} {qv dv : V} {wt : Int} : (pf p n c h qv dv wt).lookup ("draws" : Str) = some dv := by
  unfold pf
  rw [lookup_putF, if_neg (by decide +kernel), lookup_putF, if_pos rfl]
theorem pf_weight {p n c h : Int} {qv dv : V} {wt : Int} : (pf p n c h qv dv wt).lookup ("weight" : Str) = some (.int wt) := by
  unfold pf
  rw [lookup_putF, if_pos rfl]
/-- a Plan stands at x -/
def PlAt (L : Addr) (H : Hp) (x : Addr) (p : Int) (n c : Nat) (qss : List (List (List (List Int)))) (ds : List (Int × List (List Int))) : Prop := ∃ (dx : Addr) (qv dv : V), H x = some (.ins L dx (pf p n c qss.length qv dv (ds.map (·.1)).sum)) ∧ T4 H qv qss ∧ TF TD H dv ds
/-- what is asked of the class Plan, at L -/
structure PlC (K : PySem.W.Frag) (mg : Str → Option Value) (L : Addr) : Prop where
  g : mg "Plan" = some (.ref L)
  cl : Cls K L
  nP : NoAttr K L "p"
  nL : NoAttr K L "book_length"
  nC : NoAttr K L "book_count"
  nH : NoAttr K L "house_count"
  nQ : NoAttr K L "questions"
  nD : NoAttr K L "draws"
  nW : NoAttr K L "weight"
/-- the parts of a right plan -/
structure Pok (p : Int) (n c : Nat) (qss : List (List (List (List Int)))) (ds : List (Int × List (List Int))) : Prop where
  hp : p ∈ primes
  n0 : 0 < n
  c0 : 0 < c
  nc : n * c ≤ 200
  q0 : 0 < qss.length
  q9 : qss.length ≤ 900
  qok : ∀ qs ∈ qss, Qok p (n * c) qs
  d0 : 0 < ds.length
  d9 : ds.length ≤ 900
  dok : ∀ d ∈ ds, Dok c (lens qss) d
section
variable {P : Program} {w : World} {K : PySem.W.Frag} {mg : Str → Option Value} {base : Heap} {L : Addr}
def spPI (L : Addr) : Sp := fun vs H Q _ => ∃ (x dx : Addr) (p : Int) (n c : Nat) (qv dv : V) (qss : List (List (List (List Int)))) (ds : List (Int × List (List Int))), vs = [.ref x, .int p, .int n, .int c, qv, dv] ∧ H x = some (.ins L dx []) ∧ T4 H qv qss ∧ TF TD H dv ds ∧ Pok p n c qss ds ∧
  ∀ H', PlAt L H' x p n c qss ds → Keep x H H' → Q .non H'
theorem scPlan_init : FnScope ["self", "p", "book_length", "book_count", "questions", "draws", "columns", "asked"] ["self", "p", "book_length", "book_count", "questions", "draws"] (defScope sPlan_init) := ⟨rfl, rfl, rfl, by decide +kernel, rfl, by decide +kernel, by decide +kernel⟩
theorem ok_PI {f f1 f2 f3 f4 f5 f6 f7 f8 : Addr} {fd fd1 fd2 fd3 fd4 fd5 fd6 fd7 fd8 : FuncData} (F : FunD K "__init__" "Plan.__init__" (defArgs sPlan_init) (defBody sPlan_init) (defScope sPlan_init) [] [] f fd) (B : Blt5 mg) (C : PlC K mg L)
    (CSz : Cal P w K mg base 3 "check_sizes" f1 fd1 ["p", "book_length", "book_count"] spSz) (CPs : Cal P w K mg base 1 "check_places" f2 fd2 ["part", "rights"] spPs) (CMe : Cal P w K mg base 2 "members_of" f3 fd3 ["value"] (spMb K)) (CQu : Cal P w K mg base 7 "are_questions_plans" f4 fd4 ["p", "columns", "value"] spQu)
    (CCd : Cal P w K mg base 5 "check_draws" f5 fd5 ["book_count", "questions", "draws"] spCd) (CKq : Cal P w K mg base 1 "kept_questions" f6 fd6 ["questions"] (spKq T2)) (CKd : Cal P w K mg base 1 "kept_draws" f7 fd7 ["draws"] spKd2) (CWt : Cal P w K mg base 1 "weight_of" f8 fd8 ["draws"] spWt) :
    FnOk P w K mg base (L2.CX P w) 8 f fd ["self", "p", "book_length", "book_count", "questions", "draws"] (spPI L) := by
  refine F.ok scPlan_init (fun vs H Q E h => ?_) (fun cdv A outer s H vs Q E hr h => ?_)
  · obtain ⟨x, dx, p, n, c, qv, dv, qss, ds, rfl, _⟩ := h
    rfl
  · obtain ⟨x, dx, p, n, c, qv, dv, qss, ds, rfl, hx0, hQ, hDs, ⟨hp, n0, c0, nc, q0, q9, qok, d0, d9, dok⟩, kk⟩ := h
    have nd := scPlan_init.nd
    have n2 : n ≤ 200 := Nat.le_trans (Nat.le_mul_of_pos_right n c0) nc
    have c2 : c ≤ 200 := Nat.le_trans (Nat.le_mul_of_pos_left c n0) nc
    obtain ⟨a, xs, eqv, ha, hP⟩ := id hQ
    have el := paired_len hP
    subst eqv
    refine ⟨_, (pss_cons (ps_expr (pe_cal CSz (hr.mono (by decide)) (pa_cons (pv 1) (pa_cons (pv 2) (pa_cons (pv 3) pa_nil))) passU))
      (pss_cons (ps_set (i := 6) nd rfl (Or.inr rfl) (pe_op op_mul (pv 2) (pv 3)))
      (pss_cons (ps_expr (pe_cal CPs (hr.mono (by decide)) (pa_cons pe_str (pa_cons (pe_lc (own := [("asked", 7)]) (g := gName 7) (by rfl) nd (pi_listK (K := K) (pe_cal CMe (hr.mono (by decide)) (pa_cons (pv 4) pa_nil) passU)) (blkOk_by (own := [("asked", 7)]) (N := ["self", "p", "book_length", "book_count", "questions", "draws", "columns", "asked"]) (sc := defScope sPlan_init) (by decide +kernel)) (fun _ _ _ _ _ => (pg_name (i := 7) nd rfl (Or.inl rfl))) (fun _ _ _ _ _ => pts_nil) (fun _ _ _ _ _ => (pe_cal CQu (hr.mono (by decide)) (pa_cons (pv 1) (pa_cons (pv 6) (pa_cons (pv 7) pa_nil))) passU))) pa_nil)) passU))
      (pss_cons (ps_expr (pe_cal CCd (hr.mono (by decide)) (pa_cons (pv 3) (pa_cons (pv 4) (pa_cons (pv 5) pa_nil))) passU))
      (pss_cons (ps_fld (pv 0) (pv 1) rfl)
      (pss_cons (ps_fld (pv 0) (pv 2) rfl)
      (pss_cons (ps_fld (pv 0) (pv 3) rfl)
      (pss_cons (ps_fld (pv 0) (pe_callB (len_seqK (K := K)) (by rfl) B.len (by decide +kernel) (pa_cons (pv 4) pa_nil)) rfl)
      (pss_cons (ps_fld (pv 0) (pe_cal CKq (hr.mono (by decide)) (pa_cons (pv 4) pa_nil) passU) rfl)
      (pss_cons (ps_fld (pv 0) (pe_cal CKd (hr.mono (by decide)) (pa_cons (pv 5) pa_nil) passU) rfl)
      (pss_one (ps_fld (pv 0) (pe_cal CWt (hr.mono (by decide)) (pa_cons (pv 5) pa_nil) passU) rfl)))))))))))), ?_⟩
    refine ⟨_, rfl, _, rfl, _, rfl, p, n, c, rfl, hp, by omega, by omega, ?_⟩
    refine ⟨_, rfl, _, rfl, _, _, rfl, rfl, .inl ⟨by omega, by omega⟩, ?_⟩
    dsimp only
    rw [show ((n : Int) * (c : Int)) = ((n * c : Nat) : Int) from (Int.natCast_mul n c).symm]
    refine ⟨_, rfl, a, xs, _, rfl, ha, dt_TF dt3 _ _ _ hQ, by omega, fun l H1 hl s1 => ?_⟩
    refine ⟨l, rfl, ⟨_, SqL.of hl⟩, fun D hD => lc_list (K := K) (a := l) (xs := xs) (fun i H' => Same H1 H' ∧ H' D = some (.lst ((List.replicate i true).map V.bl))) ⟨same_new hD, upd_same⟩ (fun i H' _ z => SqL.of (z.1 _ _ hl)) ?_ ?_⟩
    · rintro i y H2 hy ⟨z1, z2⟩
      obtain ⟨qs, hqs, fq⟩ := paired_at hP hy
      have hil : i < xs.length := (List.getElem?_eq_some_iff.mp hy).1
      exact ⟨rfl, _, rfl, _, rfl, _, rfl, p, n * c, y, qs, rfl, stb3 _ _ _ _ (TK.of (s1.trans z1)) fq, qok qs (List.mem_of_getElem? hqs), fun H3 s3 => bl_put (z1.trans s3) (s3 _ _ z2) hD (by omega)⟩
    · rintro H2 ⟨z1, z2⟩
      have s2 := s1.trans z1
      refine ⟨_, D, _, rfl, z2, ?_⟩
      refine ⟨_, rfl, _, rfl, _, rfl, c, .ref a, dv, qss, ds, rfl, stb4 _ _ _ _ (TK.of s2) hQ, stb_TF stb_TD _ _ _ _ (TK.of s2) hDs, d0, d9, q9, dok, fun G0 s3 => ?_⟩
      have s3 := s2.trans s3
      have kp : Keep x H G0 := Keep.of s3
      have tk : TK H G0 := TK.of s3
      have hx := s3 _ _ hx0
      refine ⟨_, rfl, _, rfl, x, L, dx, _, rfl, hx, C.cl, C.nP, (by show 0 < 1000; decide), ?_⟩
      have kp := kp.trans (keep_upd (x := x) (o := .ins L dx (putF "p" (.int p) [])) (H := G0))
      have tk := tk.trans (TK.put (u := .ins L dx (putF "p" (.int p) [])) hx fun xs z => nomatch z)
      have hx : upd G0 x (.ins L dx (putF "p" (.int p) [])) x = some (.ins L dx (putF "p" (.int p) [])) := upd_same
      generalize upd G0 x (.ins L dx (putF "p" (.int p) [])) = G1 at kp tk hx ⊢
      refine ⟨_, rfl, _, rfl, x, L, dx, _, rfl, hx, C.cl, C.nL, (by show 1 < 1000; decide), ?_⟩
      have kp := kp.trans (keep_upd (x := x) (o := .ins L dx (putF "book_length" (.int (n : Int)) (putF "p" (.int p) []))) (H := G1))
      have tk := tk.trans (TK.put (u := .ins L dx (putF "book_length" (.int (n : Int)) (putF "p" (.int p) []))) hx fun xs z => nomatch z)
      have hx : upd G1 x (.ins L dx (putF "book_length" (.int (n : Int)) (putF "p" (.int p) []))) x = some (.ins L dx (putF "book_length" (.int (n : Int)) (putF "p" (.int p) []))) := upd_same
      generalize upd G1 x (.ins L dx (putF "book_length" (.int (n : Int)) (putF "p" (.int p) []))) = G2 at kp tk hx ⊢
      refine ⟨_, rfl, _, rfl, x, L, dx, _, rfl, hx, C.cl, C.nC, (by show 2 < 1000; decide), ?_⟩
      have kp := kp.trans (keep_upd (x := x) (o := .ins L dx (putF "book_count" (.int (c : Int)) (putF "book_length" (.int (n : Int)) (putF "p" (.int p) [])))) (H := G2))
      have tk := tk.trans (TK.put (u := .ins L dx (putF "book_count" (.int (c : Int)) (putF "book_length" (.int (n : Int)) (putF "p" (.int p) [])))) hx fun xs z => nomatch z)
      have hx : upd G2 x (.ins L dx (putF "book_count" (.int (c : Int)) (putF "book_length" (.int (n : Int)) (putF "p" (.int p) [])))) x = some (.ins L dx (putF "book_count" (.int (c : Int)) (putF "book_length" (.int (n : Int)) (putF "p" (.int p) [])))) := upd_same
      generalize upd G2 x (.ins L dx (putF "book_count" (.int (c : Int)) (putF "book_length" (.int (n : Int)) (putF "p" (.int p) [])))) = G3 at kp tk hx ⊢
      refine ⟨_, rfl, a, _, rfl, .inr (SqT.of (tk _ _ ha)), _, rfl, x, L, dx, _, rfl, hx, C.cl, C.nH, (by show 3 < 1000; decide), ?_⟩
      rw [el]
      have kp := kp.trans (keep_upd (x := x) (o := .ins L dx (putF "house_count" (.int (qss.length : Int)) (putF "book_count" (.int (c : Int)) (putF "book_length" (.int (n : Int)) (putF "p" (.int p) []))))) (H := G3))
      have tk := tk.trans (TK.put (u := .ins L dx (putF "house_count" (.int (qss.length : Int)) (putF "book_count" (.int (c : Int)) (putF "book_length" (.int (n : Int)) (putF "p" (.int p) []))))) hx fun xs z => nomatch z)
      have hx : upd G3 x (.ins L dx (putF "house_count" (.int (qss.length : Int)) (putF "book_count" (.int (c : Int)) (putF "book_length" (.int (n : Int)) (putF "p" (.int p) []))))) x = some (.ins L dx (putF "house_count" (.int (qss.length : Int)) (putF "book_count" (.int (c : Int)) (putF "book_length" (.int (n : Int)) (putF "p" (.int p) []))))) := upd_same
      generalize upd G3 x (.ins L dx (putF "house_count" (.int (qss.length : Int)) (putF "book_count" (.int (c : Int)) (putF "book_length" (.int (n : Int)) (putF "p" (.int p) []))))) = G4 at kp tk hx ⊢
      refine ⟨_, rfl, .ref a, qss, rfl, stb4 _ _ _ _ tk hQ, by omega, fun qv2 I1 si hq2 => ?_⟩
      have hx := si _ _ hx
      have tk := tk.trans (TK.of si)
      have kp := kp.trans (Keep.of si)
      refine ⟨_, rfl, x, L, dx, _, rfl, hx, C.cl, C.nQ, (by show 4 < 1000; decide), ?_⟩
      have kp := kp.trans (keep_upd (x := x) (o := .ins L dx (putF "questions" qv2 (putF "house_count" (.int (qss.length : Int)) (putF "book_count" (.int (c : Int)) (putF "book_length" (.int (n : Int)) (putF "p" (.int p) [])))))) (H := I1))
      have tk := tk.trans (TK.put (u := .ins L dx (putF "questions" qv2 (putF "house_count" (.int (qss.length : Int)) (putF "book_count" (.int (c : Int)) (putF "book_length" (.int (n : Int)) (putF "p" (.int p) [])))))) hx fun xs z => nomatch z)
      have hq2 := stb4 _ _ _ _ (TK.put (u := .ins L dx (putF "questions" qv2 (putF "house_count" (.int (qss.length : Int)) (putF "book_count" (.int (c : Int)) (putF "book_length" (.int (n : Int)) (putF "p" (.int p) [])))))) hx fun xs z => nomatch z) hq2
      have hx : upd I1 x (.ins L dx (putF "questions" qv2 (putF "house_count" (.int (qss.length : Int)) (putF "book_count" (.int (c : Int)) (putF "book_length" (.int (n : Int)) (putF "p" (.int p) [])))))) x = some (.ins L dx (putF "questions" qv2 (putF "house_count" (.int (qss.length : Int)) (putF "book_count" (.int (c : Int)) (putF "book_length" (.int (n : Int)) (putF "p" (.int p) [])))))) := upd_same
      generalize upd I1 x (.ins L dx (putF "questions" qv2 (putF "house_count" (.int (qss.length : Int)) (putF "book_count" (.int (c : Int)) (putF "book_length" (.int (n : Int)) (putF "p" (.int p) [])))))) = G5 at kp tk hx hq2 ⊢
      refine ⟨_, rfl, dv, ds, rfl, stb_TF stb_TD _ _ _ _ tk hDs, by omega, fun d hd => by have := (dok d hd).2.2.2.1; have := (dok d hd).2.1; omega, fun dv2 I2 si hd2 => ?_⟩
      have hx := si _ _ hx
      have tk := tk.trans (TK.of si)
      have kp := kp.trans (Keep.of si)
      have hq2 := stb4 _ _ _ _ (TK.of si) hq2
      refine ⟨_, rfl, x, L, dx, _, rfl, hx, C.cl, C.nD, (by show 5 < 1000; decide), ?_⟩
      have kp := kp.trans (keep_upd (x := x) (o := .ins L dx (putF "draws" dv2 (putF "questions" qv2 (putF "house_count" (.int (qss.length : Int)) (putF "book_count" (.int (c : Int)) (putF "book_length" (.int (n : Int)) (putF "p" (.int p) []))))))) (H := I2))
      have tk := tk.trans (TK.put (u := .ins L dx (putF "draws" dv2 (putF "questions" qv2 (putF "house_count" (.int (qss.length : Int)) (putF "book_count" (.int (c : Int)) (putF "book_length" (.int (n : Int)) (putF "p" (.int p) []))))))) hx fun xs z => nomatch z)
      have hq2 := stb4 _ _ _ _ (TK.put (u := .ins L dx (putF "draws" dv2 (putF "questions" qv2 (putF "house_count" (.int (qss.length : Int)) (putF "book_count" (.int (c : Int)) (putF "book_length" (.int (n : Int)) (putF "p" (.int p) []))))))) hx fun xs z => nomatch z) hq2
      have hd2 := stb_TF stb_TD _ _ _ _ (TK.put (u := .ins L dx (putF "draws" dv2 (putF "questions" qv2 (putF "house_count" (.int (qss.length : Int)) (putF "book_count" (.int (c : Int)) (putF "book_length" (.int (n : Int)) (putF "p" (.int p) []))))))) hx fun xs z => nomatch z) hd2
      have hx : upd I2 x (.ins L dx (putF "draws" dv2 (putF "questions" qv2 (putF "house_count" (.int (qss.length : Int)) (putF "book_count" (.int (c : Int)) (putF "book_length" (.int (n : Int)) (putF "p" (.int p) []))))))) x = some (.ins L dx (putF "draws" dv2 (putF "questions" qv2 (putF "house_count" (.int (qss.length : Int)) (putF "book_count" (.int (c : Int)) (putF "book_length" (.int (n : Int)) (putF "p" (.int p) []))))))) := upd_same
      generalize upd I2 x (.ins L dx (putF "draws" dv2 (putF "questions" qv2 (putF "house_count" (.int (qss.length : Int)) (putF "book_count" (.int (c : Int)) (putF "book_length" (.int (n : Int)) (putF "p" (.int p) []))))))) = G6 at kp tk hx hq2 hd2 ⊢
      refine ⟨_, rfl, dv, ds, rfl, stb_TF stb_TD _ _ _ _ tk hDs, by omega, fun I3 si => ?_⟩
      have hx := si _ _ hx
      have kp := kp.trans (Keep.of si)
      have hq2 := stb4 _ _ _ _ (TK.of si) hq2
      have hd2 := stb_TF stb_TD _ _ _ _ (TK.of si) hd2
      refine ⟨_, rfl, x, L, dx, _, rfl, hx, C.cl, C.nW, (by show 6 < 1000; decide), ?_⟩
      exact kk _ ⟨dx, qv2, dv2, upd_same, stb4 _ _ _ _ (TK.put hx fun xs z => nomatch z) hq2, stb_TF stb_TD _ _ _ _ (TK.put hx fun xs z => nomatch z) hd2⟩ (kp.trans keep_upd)
end
end WU

set_option maxRecDepth 100000
set_option maxHeartbeats 8000000
namespace WU
open PySem PySem.Spec PyProof.Rows L2
theorem bel_at {n : Int} {v : V} (h : isBel n v = true) : ∃ i : Nat, v = .int (i : Int) ∧ (i : Int) < n := by
  cases v with
  | int i =>
    have h : (decide (0 ≤ i) && decide (i < n)) = true := h
    rw [Bool.and_eq_true] at h
    have h1 := of_decide_eq_true h.1
    have h2 := of_decide_eq_true h.2
    exact ⟨i.toNat, by rw [Int.toNat_of_nonneg h1], by omega⟩
  | _ => cases h
section
variable {P : Program} {w : World} {K : PySem.W.Frag} {mg : Str → Option Value} {base : Heap} {L LL : Addr}
/-- check_wish(plan, wish) -/
def spCW (K : PySem.W.Frag) (L : Addr) : Sp := fun vs H Q E => ∃ (x : Addr) (u : V) (p : Int) (n c : Nat) (qss : List (List (List (List Int)))) (ds : List (Int × List (List Int))), vs = [.ref x, u] ∧ PlAt L H x p n c qss ds ∧ Ty3 K H u ∧ (isBel (c : Int) u = true → Q .non H) ∧ (isBel (c : Int) u = false → Errs (He.ga K "InvalidNumber") "value" u H E)
theorem sccheck_wish : FnScope ["plan", "wish"] ["plan", "wish"] (defScope s_check_wish) := ⟨rfl, rfl, rfl, by decide +kernel, rfl, by decide +kernel, by decide +kernel⟩
theorem ok_CW {f f1 : Addr} {fd fd1 fdI : FuncData} (F : FnS K "check_wish" s_check_wish f fd) (C : PlC K mg L) (C2 : Cal P w K mg base 3 "is_below" f1 fd1 ["value", "limit"] (spIsBel K)) (T : Exc1 K mg "InvalidNumber" "value")
    (FI : FnOk P w K mg base (L2.CX P w) 1 (He.ma K (He.ga K "InvalidNumber") "__init__") fdI ["self", "value"] (spInit1 K (He.ga K "InvalidNumber") "value")) (bI : Binds K fdI ["self", "value"] []) : FnOk P w K mg base (L2.CX P w) 4 f fd ["plan", "wish"] (spCW K L) := by
  refine F.ok sccheck_wish (fun vs H Q E h => ?_) (fun cdv A outer s H vs Q E hr h => ?_)
  · obtain ⟨x, u, p, n, c, qss, ds, rfl, _⟩ := h
    rfl
  · obtain ⟨x, u, p, n, c, qss, ds, rfl, ⟨dx, qv, dv, hx, hq, hd⟩, hu, kY, kN⟩ := h
    have nd := sccheck_wish.nd
    refine ⟨_, (pss_one (ps_if (pt_not (pt_val (pe_cal C2 (hr.mono (by decide)) (pa_cons (pv 1) (pa_cons (pe_fld (pv 0) rfl) pa_nil)) passU))) (pss_one (ps_raise1 rfl (takes_of rfl rfl rfl rfl) T FI bI (hr.mono (by decide)) (pa_cons (pv 1) pa_nil))) pss_nil)), ?_⟩
    refine ⟨_, rfl, _, rfl, x, L, dx, _, _, rfl, hx, C.cl, C.nC, pf_book_count, _, _, rfl, hu, _, rfl, ?_⟩
    cases e : isBel (c : Int) u with
    | true => exact iteF (kY e)
    | false => exact iteT ⟨_, rfl, u, rfl, kN e⟩
/-- check_ask(plan, wish, draw) -/
def spCAs (K : PySem.W.Frag) (L : Addr) : Sp := fun vs H Q E => ∃ (x : Addr) (u t : V) (p : Int) (n c : Nat) (qss : List (List (List (List Int)))) (ds : List (Int × List (List Int))), vs = [.ref x, u, t] ∧ PlAt L H x p n c qss ds ∧ Ty3 K H u ∧ Ty3 K H t ∧
  (isBel (c : Int) u = false → Errs (He.ga K "InvalidNumber") "value" u H E) ∧ (isBel (c : Int) u = true → (isBel (ds.length : Int) t = false → Errs (He.ga K "InvalidNumber") "value" t H E) ∧ (isBel (ds.length : Int) t = true → Q .non H))
theorem sccheck_ask : FnScope ["plan", "wish", "draw"] ["plan", "wish", "draw"] (defScope s_check_ask) := ⟨rfl, rfl, rfl, by decide +kernel, rfl, by decide +kernel, by decide +kernel⟩
theorem ok_CA {f f1 f2 : Addr} {fd fd1 fd2 fdI : FuncData} (F : FnS K "check_ask" s_check_ask f fd) (B : Blt4 mg) (C : PlC K mg L) (C2 : Cal P w K mg base 3 "is_below" f1 fd1 ["value", "limit"] (spIsBel K)) (CWi : Cal P w K mg base 4 "check_wish" f2 fd2 ["plan", "wish"] (spCW K L)) (T : Exc1 K mg "InvalidNumber" "value")
    (FI : FnOk P w K mg base (L2.CX P w) 1 (He.ma K (He.ga K "InvalidNumber") "__init__") fdI ["self", "value"] (spInit1 K (He.ga K "InvalidNumber") "value")) (bI : Binds K fdI ["self", "value"] []) : FnOk P w K mg base (L2.CX P w) 5 f fd ["plan", "wish", "draw"] (spCAs K L) := by
  refine F.ok sccheck_ask (fun vs H Q E h => ?_) (fun cdv A outer s H vs Q E hr h => ?_)
  · obtain ⟨x, u, t, p, n, c, qss, ds, rfl, _⟩ := h
    rfl
  · obtain ⟨x, u, t, p, n, c, qss, ds, rfl, hpl, hu, ht, kU, kT⟩ := h
    have nd := sccheck_ask.nd
    refine ⟨_, (pss_cons (ps_expr (pe_cal (E := E) CWi (hr.mono (by decide)) (pa_cons (pv 0) (pa_cons (pv 1) pa_nil)) (passes_call (takes_of rfl rfl rfl rfl) (fun _ _ _ _ h => h))))
      (pss_one (ps_if (pt_not (pt_val (pe_cal C2 (hr.mono (by decide)) (pa_cons (pv 2) (pa_cons (pe_callB (len_seqK (K := K)) (by rfl) B.len (by decide +kernel) (pa_cons (pe_fld (pv 0) rfl) pa_nil)) pa_nil)) passU))) (pss_one (ps_raise1 rfl (takes_of rfl rfl rfl rfl) T FI bI (hr.mono (by decide)) (pa_cons (pv 2) pa_nil))) pss_nil))), ?_⟩
    refine ⟨_, rfl, _, rfl, x, u, p, n, c, qss, ds, rfl, hpl, hu, fun eu => ?_, kU⟩
    obtain ⟨dx, qv, dv, hx, hq, dc, dxs, rfl, hdc, hdp⟩ := hpl
    refine ⟨_, rfl, _, rfl, x, L, dx, _, _, rfl, hx, C.cl, C.nD, pf_draws, dc, _, rfl, .inr (SqT.of hdc), _, _, rfl, ht, _, rfl, ?_⟩
    rw [paired_len hdp]
    cases e : isBel (ds.length : Int) t with
    | true => exact iteF ((kT eu).2 e)
    | false => exact iteT ⟨_, rfl, t, rfl, (kT eu).1 e⟩
/-- check_question(plan, house, question) -/
def spCQ (K : PySem.W.Frag) (L : Addr) : Sp := fun vs H Q E => ∃ (x : Addr) (u t : V) (p : Int) (n c : Nat) (qss : List (List (List (List Int)))) (ds : List (Int × List (List Int))), vs = [.ref x, u, t] ∧ PlAt L H x p n c qss ds ∧ Ty3 K H u ∧ Ty3 K H t ∧
  (isBel (qss.length : Int) u = false → Errs (He.ga K "InvalidNumber") "value" u H E) ∧ ∀ (h : Nat) (qs : List (List (List Int))), u = .int (h : Int) → qss[h]? = some qs → (isBel (qs.length : Int) t = false → Errs (He.ga K "InvalidNumber") "value" t H E) ∧ (isBel (qs.length : Int) t = true → Q .non H)
theorem sccheck_question : FnScope ["plan", "house", "question"] ["plan", "house", "question"] (defScope s_check_question) := ⟨rfl, rfl, rfl, by decide +kernel, rfl, by decide +kernel, by decide +kernel⟩
theorem ok_CQ {f f1 : Addr} {fd fd1 fdI : FuncData} (F : FnS K "check_question" s_check_question f fd) (B : Blt4 mg) (C : PlC K mg L) (C2 : Cal P w K mg base 3 "is_below" f1 fd1 ["value", "limit"] (spIsBel K)) (T : Exc1 K mg "InvalidNumber" "value")
    (FI : FnOk P w K mg base (L2.CX P w) 1 (He.ma K (He.ga K "InvalidNumber") "__init__") fdI ["self", "value"] (spInit1 K (He.ga K "InvalidNumber") "value")) (bI : Binds K fdI ["self", "value"] []) : FnOk P w K mg base (L2.CX P w) 4 f fd ["plan", "house", "question"] (spCQ K L) := by
  refine F.ok sccheck_question (fun vs H Q E h => ?_) (fun cdv A outer s H vs Q E hr h => ?_)
  · obtain ⟨x, u, t, p, n, c, qss, ds, rfl, _⟩ := h
    rfl
  · obtain ⟨x, u, t, p, n, c, qss, ds, rfl, ⟨dx, qv, dv, hx, ⟨qa, qxs, rfl, hqa, hqp⟩, hd⟩, hu, ht, kU, kT⟩ := h
    have nd := sccheck_question.nd
    refine ⟨_, (pss_cons (ps_if (pt_not (pt_val (pe_cal C2 (hr.mono (by decide)) (pa_cons (pv 1) (pa_cons (pe_fld (pv 0) rfl) pa_nil)) passU))) (pss_one (ps_raise1 rfl (takes_of rfl rfl rfl rfl) T FI bI (hr.mono (by decide)) (pa_cons (pv 1) pa_nil))) pss_nil)
      (pss_one (ps_if (pt_not (pt_val (pe_cal C2 (hr.mono (by decide)) (pa_cons (pv 2) (pa_cons (pe_callB (len_seqK (K := K)) (by rfl) B.len (by decide +kernel) (pa_cons (pe_ix (ix_tupK (K := K)) (pe_fld (pv 0) rfl) (pv 1) (fun _ _ => rfl)) pa_nil)) pa_nil)) passU))) (pss_one (ps_raise1 rfl (takes_of rfl rfl rfl rfl) T FI bI (hr.mono (by decide)) (pa_cons (pv 2) pa_nil))) pss_nil))), ?_⟩
    refine ⟨_, rfl, _, rfl, x, L, dx, _, _, rfl, hx, C.cl, C.nH, pf_house_count, _, _, rfl, hu, _, rfl, ?_⟩
    cases e : isBel (qss.length : Int) u with
    | false => exact iteT ⟨_, rfl, u, rfl, kU e⟩
    | true =>
      obtain ⟨h, rfl, hl⟩ := bel_at e
      have hl : h < qss.length := by omega
      have eq := List.getElem?_eq_getElem hl
      obtain ⟨y, hy, qc, zs, rfl, hqc, hz⟩ := paired_of hqp eq
      refine iteF ⟨_, rfl, _, rfl, x, L, dx, _, _, rfl, hx, C.cl, C.nQ, pf_questions, _, rfl, qa, _, _, _, rfl, rfl, SqT.of hqa, atI_nat hy, qc, _, rfl, .inr (SqT.of hqc), _, _, rfl, ht, _, rfl, ?_⟩
      rw [paired_len hz]
      cases e2 : isBel ((qss[h]).length : Int) t with
      | true => exact iteF ((kT h _ rfl eq).2 e2)
      | false => exact iteT ⟨_, rfl, t, rfl, (kT h _ rfl eq).1 e2⟩
/-- check_library(plan, library) -/
def spCL (K : PySem.W.Frag) (L LL : Addr) : Sp := fun vs H Q E => ∃ (x : Addr) (u : V) (p : Int) (n c : Nat) (qss : List (List (List (List Int)))) (ds : List (Int × List (List Int))), vs = [.ref x, u] ∧ PlAt L H x p n c qss ds ∧
  ((∃ t, TyX K H u t ∧ PySem.W.kitOne K t (.ref LL) = some false ∧ Errs (He.ga K "InvalidLibrary") "value" u H E) ∨
   ∃ (a : Addr) (p' : Int) (n' : Nat) (bs : List (List Int)), u = .ref a ∧ LibAt LL H a p' n' bs ∧ (p' = p ∧ bs.length = c ∧ n' = n → Q .non H) ∧ (¬ (p' = p ∧ bs.length = c ∧ n' = n) → Errs (He.ga K "InvalidLibrary") "value" u H E))
theorem sccheck_library : FnScope ["plan", "library"] ["plan", "library"] (defScope s_check_library) := ⟨rfl, rfl, rfl, by decide +kernel, rfl, by decide +kernel, by decide +kernel⟩
theorem ok_CL {f : Addr} {fd fdI : FuncData} (F : FnS K "check_library" s_check_library f fd) (B : Blt4 mg) (C : PlC K mg L) (CL : LibC K mg LL) (TL : Exc1 K mg "InvalidLibrary" "value")
    (FL : FnOk P w K mg base (L2.CX P w) 1 (He.ma K (He.ga K "InvalidLibrary") "__init__") fdI ["self", "value"] (spInit1 K (He.ga K "InvalidLibrary") "value")) (bL : Binds K fdI ["self", "value"] []) : FnOk P w K mg base (L2.CX P w) 3 f fd ["plan", "library"] (spCL K L LL) := by
  refine F.ok sccheck_library (fun vs H Q E h => ?_) (fun cdv A outer s H vs Q E hr h => ?_)
  · obtain ⟨x, u, p, n, c, qss, ds, rfl, _⟩ := h
    rfl
  · obtain ⟨x, u, p, n, c, qss, ds, rfl, ⟨dx, qv, dv, hx, hq, hd⟩, hu⟩ := h
    have nd := sccheck_library.nd
    refine ⟨_, (pss_cons (ps_if (PW.pt (pw_or (pt_not (pt_val (pe_callB (isiK (K := K)) (by rfl) B.isi (by decide +kernel) (pa_cons (pv 1) (pa_cons (pe_glob (v := .ref LL) rfl CL.g rfl) pa_nil))))) (pw_or1 (pt_cmpR op_ne (pe_fld (pv 1) rfl) (pe_fld (pv 0) rfl) (nomark _))))) (pss_one (ps_raise1 rfl (takes_of rfl rfl rfl rfl) TL FL bL (hr.mono (by decide)) (pa_cons (pv 1) pa_nil))) pss_nil)
      (pss_one (ps_if (PW.pt (pw_or (pt_cmpR op_ne (pe_fld (pv 1) rfl) (pe_fld (pv 0) rfl) (nomark _)) (pw_or1 (pt_cmpR op_ne (pe_fld (pv 1) rfl) (pe_fld (pv 0) rfl) (nomark _))))) (pss_one (ps_raise1 rfl (takes_of rfl rfl rfl rfl) TL FL bL (hr.mono (by decide)) (pa_cons (pv 1) pa_nil))) pss_nil))), ?_⟩
    rcases hu with ⟨t, ty, kf, kE⟩ | ⟨a, p', n', bs, rfl, ⟨dl, ba, tl, rs, ha, hba, hbp, htl⟩, kY, kN⟩
    · exact ⟨_, rfl, _, _, _, _, _, rfl, .own LL, ty, kf, _, rfl, iteT ⟨_, rfl, u, rfl, kE⟩⟩
    · refine ⟨_, rfl, _, _, _, _, _, rfl, .own LL, .base (.ins ha CL.cl CL.ha CL.hn CL.htk CL.hm), CL.kS, _, rfl, iteF ?_⟩
      by_cases h1 : p' = p
      · subst h1
        refine ⟨_, rfl, a, LL, dl, _, _, rfl, ha, CL.cl, CL.nP, lf_p, _, rfl, x, L, dx, _, _, rfl, hx, C.cl, C.nP, pf_p, rfl, _, rfl, iteFb (by rw [decide_eq_true rfl]; rfl) ?_⟩
        by_cases h2 : bs.length = c
        · subst h2
          refine ⟨_, rfl, a, LL, dl, _, _, rfl, ha, CL.cl, CL.nC, lf_count, _, rfl, x, L, dx, _, _, rfl, hx, C.cl, C.nC, pf_book_count, rfl, _, rfl, iteFb (by rw [decide_eq_true rfl]; rfl) ?_⟩
          by_cases h3 : n' = n
          · subst h3
            exact ⟨_, rfl, a, LL, dl, _, _, rfl, ha, CL.cl, CL.nL, lf_length, _, rfl, x, L, dx, _, _, rfl, hx, C.cl, C.nL, pf_book_length, rfl, _, rfl, iteFb (by rw [decide_eq_true rfl]; rfl) (kY ⟨rfl, rfl, rfl⟩)⟩
          · exact ⟨_, rfl, a, LL, dl, _, _, rfl, ha, CL.cl, CL.nL, lf_length, _, rfl, x, L, dx, _, _, rfl, hx, C.cl, C.nL, pf_book_length, rfl, _, rfl, iteTb (by rw [decide_eq_false fun z => h3 (Int.natCast_inj.mp (V.int.inj z))]; rfl) ⟨_, rfl, _, rfl, kN fun z => h3 z.2.2⟩⟩
        · exact ⟨_, rfl, a, LL, dl, _, _, rfl, ha, CL.cl, CL.nC, lf_count, _, rfl, x, L, dx, _, _, rfl, hx, C.cl, C.nC, pf_book_count, rfl, _, rfl, iteTb (by rw [decide_eq_false fun z => h2 (Int.natCast_inj.mp (V.int.inj z))]; rfl) ⟨_, rfl, _, rfl, kN fun z => h2 z.2.1⟩⟩
      · exact ⟨_, rfl, a, LL, dl, _, _, rfl, ha, CL.cl, CL.nP, lf_p, _, rfl, x, L, dx, _, _, rfl, hx, C.cl, C.nP, pf_p, rfl, _, rfl, iteTb (by rw [decide_eq_false fun z => h1 (V.int.inj z)]; rfl) ⟨_, rfl, _, rfl, kN fun z => h1 z.1⟩⟩
end
end WU

set_option maxRecDepth 100000
set_option maxHeartbeats 8000000
namespace WU
open PySem PySem.Spec PyProof.Rows L2
section
variable {P : Program} {w : World} {K : PySem.W.Frag} {mg : Str → Option Value} {base : Heap} {S : Addr}
/-- _products(p, rows, letters) -/
def spPr1 : Sp := fun vs H Q _ => ∃ (p : Int) (n : Nat) (v : V) (u : Addr) (rows : List (List Int)) (ls : List Int), vs = [.int p, v, .ref u] ∧ MT H v rows ∧ SqO H u (ls.map V.int) ∧ p ∈ primes ∧ (∀ r ∈ rows, Ltr p n r) ∧ ls.length = n ∧ n ≤ 200 ∧ rows.length ≤ 200 ∧
  ∀ y H', Same H H' → T1 H' y (rows.map fun r => (dotn n r ls).fmod p) → Q y H'
theorem ok_Pr1 {f : Addr} {fd : FuncData} (F : FnS K "_products" s_u_products f fd) (B : Blt5 mg) : FnOk P w K mg base (L2.CX P w) 1 f fd ["p", "rows", "letters"] spPr1 := by
  refine F.ok scPr (fun vs H Q E h => ?_) (fun cdv A outer s H vs Q E hr h => ?_)
  · obtain ⟨p, n, v, u, rows, ls, rfl, _⟩ := h
    rfl
  · obtain ⟨p, n, v, u, rows, ls, rfl, ⟨a, ts, rfl, ha, hts⟩, hu, hp, hR, hl, hn, hm, k⟩ := h
    have nd := scPr.nd
    have hb := fld_le hp
    refine ⟨_, (pss_one (ps_ret (pe_callTy (tup_ofK (K := K)) (by rfl) B.tuple (by decide +kernel) (pa_cons (pe_lc (own := [("row", 3)]) (g := gName 3) (by rfl) nd (pi_tupK (K := K) (pv 1)) (blkOk_by (own := [("row", 3)]) (N := ["p", "rows", "letters", "row", "a", "b"]) (sc := defScope s_u_products) (by decide +kernel)) (fun _ _ _ _ _ => (pg_name (i := 3) nd rfl (Or.inl rfl))) (fun _ _ _ _ _ => pts_nil) (fun _ _ _ _ _ => (pe_op op_modN (pe_callB (cr_sumK (K := K) rfl) (by rfl) B.sum (by decide +kernel) (pa_cons (pe_lc (own := [("a", 4), ("b", 5)]) (g := gTup K 2 (gCons (gName 4) (gCons (gName 5) gNil))) (by rfl) nd (pi_zipMK (K := K) (by rfl) B.zip (pa_cons (pv 3) (pa_cons (pv 2) pa_nil))) (blkOk_by (own := [("a", 4), ("b", 5)]) (N := ["p", "rows", "letters", "row", "a", "b"]) (sc := relS (retLc ((defBody s_u_products).getD 0 (.Pass ⟨0, 0, 0, 0⟩))) (defScope s_u_products)) (by decide +kernel)) (fun _ _ _ _ _ => (pg_tupK (K := K) <| pg_tup rfl (pgs_cons (pg_name (i := 4) nd rfl (Or.inl rfl)) (pgs_cons (pg_name (i := 5) nd rfl (Or.inl rfl)) pgs_nil)))) (fun _ _ _ _ _ => pts_nil) (fun _ _ _ _ _ => (pe_op op_mul (pv 4) (pv 5)))) pa_nil)) (pv 0)))) pa_nil)))), ?_⟩
    refine ⟨_, rfl, a, rfl, ⟨_, SqT.of ha⟩, fun D hD => lc_tup (K := K) (a := a) (xs := ts) (fun i H' => Bld FI H D ((rows.take i).map fun r => (dotn n r ls).fmod p) H') (Bld.start hD) (fun i H' _ b => SqT.of (b.same _ _ ha)) ?_ ?_⟩
    · intro i x H1 hx b
      obtain ⟨r, hr0, hxr⟩ := paired_at hts hx
      obtain ⟨c, rfl, hc⟩ := hxr.same b.same
      have hrL := hR r (List.mem_of_getElem? hr0)
      have lr : (r.map V.int).length = n := by rw [List.length_map, hrL.1]
      have ll : (ls.map V.int).length = n := by rw [List.length_map, hl]
      refine ⟨rfl, _, rfl, _, rfl, c, u, r.map V.int, ls.map V.int, rfl, ?_⟩
      rcases hu.same b.same with hu1 | hu1
      · refine .inl ⟨sqT hc, SqL.of hu1, fun D2 hD2 => lc_it (walk_zipM lr ll) (fun j H' => Bld FI H1 D2 ((List.range j).map fun k => at0 r k * at0 ls k) H') (Bld.start hD2) (fun j H' _ b2 => ⟨sqT (rd_same b2.same hc), SqL.of (b2.same _ _ hu1)⟩) ?_ ?_⟩
        · rintro j x H2 H3 hj b2 ⟨T, x1, x2, rfl, hT, rfl, g1, g2⟩
          cases (take_map_at n (r := r) (i := j) (by rw [hrL.1]; exact hj)).symm.trans g1
          cases (take_map_at n (r := ls) (i := j) (by rw [hl]; exact hj)).symm.trans g2
          have bj := hrL.bd hj
          refine ⟨T, _, rfl, SqT.of upd_same, rfl, _, _, rfl, _, _, rfl, rfl, rfl, ?_⟩
          refine ⟨_, rfl, _, rfl, _, _, rfl, rfl, .inl ⟨by omega, by omega⟩, ?_⟩
          rw [map_range_succ]
          exact b2.put (y := .int (at0 r j * at0 ls j)) (z := at0 r j * at0 ls j) stab_FI hD2 (same_new hT) rfl (by intro z; cases z) (by rw [List.length_map, List.length_range]; exact small1000 (by omega))
        · intro H2 b2
          obtain ⟨s2, ys, eD, py⟩ := b2.fin
          rw [fi_map py] at eD
          refine ⟨D2, _, rfl, SqL.of eD, _, rfl, _, p, rfl, rfl, by omega, ?_⟩
          rw [sum_dotn, map_take_succ hr0]
          exact b.put (y := .int ((dotn n r ls).fmod p)) (z := (dotn n r ls).fmod p) stab_FI hD s2 rfl (by intro z; cases z) (by rw [List.length_map, List.length_take]; exact small1000 (by omega))
      · refine .inr ⟨sqT hc, sqT hu1, fun D2 hD2 => lc_it (walk_zipT (n := n) (by rw [lr, ll]; exact (Nat.min_self n).symm)) (fun j H' => Bld FI H1 D2 ((List.range j).map fun k => at0 r k * at0 ls k) H') (Bld.start hD2) (fun j H' _ b2 => ⟨sqT (rd_same b2.same hc), sqT (rd_same b2.same hu1)⟩) ?_ ?_⟩
        · rintro j x H2 H3 hj b2 ⟨T, x1, x2, rfl, hT, rfl, g1, g2⟩
          cases (take_map_at n (r := r) (i := j) (by rw [hrL.1]; exact hj)).symm.trans g1
          cases (take_map_at n (r := ls) (i := j) (by rw [hl]; exact hj)).symm.trans g2
          have bj := hrL.bd hj
          refine ⟨T, _, rfl, SqT.of upd_same, rfl, _, _, rfl, _, _, rfl, rfl, rfl, ?_⟩
          refine ⟨_, rfl, _, rfl, _, _, rfl, rfl, .inl ⟨by omega, by omega⟩, ?_⟩
          rw [map_range_succ]
          exact b2.put (y := .int (at0 r j * at0 ls j)) (z := at0 r j * at0 ls j) stab_FI hD2 (same_new hT) rfl (by intro z; cases z) (by rw [List.length_map, List.length_range]; exact small1000 (by omega))
        · intro H2 b2
          obtain ⟨s2, ys, eD, py⟩ := b2.fin
          rw [fi_map py] at eD
          refine ⟨D2, _, rfl, SqL.of eD, _, rfl, _, p, rfl, rfl, by omega, ?_⟩
          rw [sum_dotn, map_take_succ hr0]
          exact b.put (y := .int ((dotn n r ls).fmod p)) (z := (dotn n r ls).fmod p) stab_FI hD s2 rfl (by intro z; cases z) (by rw [List.length_map, List.length_take]; exact small1000 (by omega))
    · intro H1 b
      obtain ⟨s1, ys, eD, py⟩ := b.fin
      rw [paired_len hts, List.take_length] at py
      rw [fi_map py] at eD
      exact ⟨D, _, rfl, .inl ⟨SqL.of eD, fun q hq => k _ _ (s1.trans (same_new hq)) (T1.mk upd_same)⟩⟩
end
section
variable {P : Program} {w : World} {K : PySem.W.Frag} {mg : Str → Option Value} {base : Heap} {L LL : Addr}
/-- products(p, rows, letters), all right -/
def spPx : Sp := fun vs H Q _ => ∃ (p : Int) (n : Nat) (v : V) (u : Addr) (rows : List (List Int)) (ls : List Int), vs = [.int p, v, .ref u] ∧ T2 H v rows ∧ H u = some (.tup (ls.map V.int)) ∧ p ∈ primes ∧ (∀ r ∈ rows, Ltr p n r) ∧ ls.length = n ∧ n ≤ 200 ∧ rows.length ≤ 200 ∧
  ∀ y H', Same H H' → T1 H' y (rows.map fun r => (dotn n r ls).fmod p) → Q y H'
theorem scPx : FnScope ["p", "rows", "letters"] ["p", "rows", "letters"] (defScope s_products) := ⟨rfl, rfl, rfl, by decide +kernel, rfl, by decide +kernel, by decide +kernel⟩
theorem ok_Px {f f1 f2 : Addr} {fd fd1 fd2 : FuncData} (F : FnS K "products" s_products f fd) (CM : Cal P w K mg base 7 "check_matrix" f1 fd1 ["p", "rows"] (spChk K)) (CP : Cal P w K mg base 1 "_products" f2 fd2 ["p", "rows", "letters"] spPr1) :
    FnOk P w K mg base (L2.CX P w) 8 f fd ["p", "rows", "letters"] spPx := by
  refine F.ok scPx (fun vs H Q E h => ?_) (fun cdv A outer s H vs Q E hr h => ?_)
  · obtain ⟨p, n, v, u, rows, ls, rfl, _⟩ := h
    rfl
  · obtain ⟨p, n, v, u, rows, ls, rfl, hT, hu, hp, hR, hl, hn, hm, kk⟩ := h
    refine ⟨_, (pss_cons (ps_expr (pe_cal CM (hr.mono (by decide)) (pa_cons (pv 0) (pa_cons (pv 1) pa_nil)) passU))
      (pss_one (ps_ret (pe_cal CP (hr.mono (by decide)) (pa_cons (pv 0) (pa_cons (pv 1) (pa_cons (pv 2) pa_nil))) passU)))), ?_⟩
    refine ⟨_, rfl, _, rfl, .int p, v, rfl, ty3_int p, (fun z => by rw [mem_fld hp] at z; cases z), fun p' ep _ => ?_⟩
    cases ep
    refine ⟨MD rows, hT.mt.dp, small_rows hR hn hm, fun e2 => (by rw [wid_rows hR] at e2; cases e2), fun _ H1 s1 => ?_⟩
    exact ⟨_, rfl, _, rfl, _, rfl, p, n, v, u, rows, ls, rfl, hT.mt.same s1, .inr (.inl (s1 _ _ hu)), hp, hR, hl, hn, hm, fun y H2 s2 hy => kk y H2 (s1.trans s2) hy⟩
/-- plan.asked(wish, draw) -/
def spAd (K : PySem.W.Frag) (L : Addr) : Sp := fun vs H Q E => ∃ (x : Addr) (u t : V) (p : Int) (n c : Nat) (qss : List (List (List (List Int)))) (ds : List (Int × List (List Int))), vs = [.ref x, u, t] ∧ PlAt L H x p n c qss ds ∧ Pok p n c qss ds ∧ Ty3 K H u ∧ Ty3 K H t ∧
  (isBel (c : Int) u = false → Errs (He.ga K "InvalidNumber") "value" u H E) ∧ (isBel (c : Int) u = true → (isBel (ds.length : Int) t = false → Errs (He.ga K "InvalidNumber") "value" t H E)) ∧
  ∀ (i j : Nat) (d : Int × List (List Int)) (r : List Int), u = .int (i : Int) → t = .int (j : Int) → ds[j]? = some d → d.2[i]? = some r → ∀ y, T1 H y r → Q y H
theorem scPlan_asked : FnScope ["self", "wish", "draw"] ["self", "wish", "draw"] (defScope sPlan_asked) := ⟨rfl, rfl, rfl, by decide +kernel, rfl, by decide +kernel, by decide +kernel⟩
theorem ok_Ad {f f1 : Addr} {fd fd1 : FuncData} (F : FunD K "asked" "Plan.asked" (defArgs sPlan_asked) (defBody sPlan_asked) (defScope sPlan_asked) [] [] f fd) (C : PlC K mg L) (CAs : Cal P w K mg base 5 "check_ask" f1 fd1 ["plan", "wish", "draw"] (spCAs K L)) :
    FnOk P w K mg base (L2.CX P w) 6 f fd ["self", "wish", "draw"] (spAd K L) := by
  refine F.ok scPlan_asked (fun vs H Q E h => ?_) (fun cdv A outer s H vs Q E hr h => ?_)
  · obtain ⟨x, u, t, p, n, c, qss, ds, rfl, _⟩ := h
    rfl
  · obtain ⟨x, u, t, p, n, c, qss, ds, rfl, hpl, ok, hu, ht, kU, kT, kk⟩ := h
    have nd := scPlan_asked.nd
    refine ⟨_, (pss_cons (ps_expr (pe_cal (E := E) CAs (hr.mono (by decide)) (pa_cons (pv 0) (pa_cons (pv 1) (pa_cons (pv 2) pa_nil))) (passes_call (takes_of rfl rfl rfl rfl) (fun _ _ _ _ h => h))))
      (pss_one (ps_ret (pe_ix (ix_tupK (K := K)) (pe_ix (ix_tupK (K := K)) (pe_ix (ix_tupK (K := K)) (pe_fld (pv 0) rfl) (pv 2) (fun _ _ => rfl)) pe_int (fun _ _ => rfl)) (pv 1) (fun _ _ => rfl))))), ?_⟩
    refine ⟨_, rfl, _, rfl, _, rfl, x, u, t, p, n, c, qss, ds, rfl, hpl, hu, ht, kU, fun eu => ⟨kT eu, fun et => ?_⟩⟩
    obtain ⟨i, rfl, hi⟩ := bel_at eu
    obtain ⟨j, rfl, hj⟩ := bel_at et
    obtain ⟨dx, qv, dv, hx, hq, da, dxs, rfl, hda, hdp⟩ := hpl
    have hj : j < ds.length := by omega
    have ed := List.getElem?_eq_getElem hj
    have dk := ok.dok _ (List.mem_of_getElem? ed)
    have hi : i < (ds[j]).2.length := by have := dk.2.1; omega
    have er := List.getElem?_eq_getElem hi
    obtain ⟨y, hy, dc, yv, rfl, hdc, ba, ys, rfl, hba, hbp⟩ := paired_of hdp ed
    obtain ⟨z, hz, fz⟩ := paired_of hbp er
    refine ⟨_, rfl, x, L, dx, _, _, rfl, hx, C.cl, C.nD, pf_draws, _, rfl, da, _, _, _, rfl, rfl, SqT.of hda, atI_nat hy, dc, _, (1 : Int), _, rfl, rfl, SqT.of hdc, rfl, _, rfl, ba, _, _, _, rfl, rfl, SqT.of hba, atI_nat hz, ?_⟩
    exact kk i j _ _ rfl rfl ed er z fz
end
end WU

set_option maxRecDepth 100000
set_option maxHeartbeats 8000000
namespace WU
open PySem PySem.Spec PyProof.Rows L2
section
variable {P : Program} {w : World} {K : PySem.W.Frag} {mg : Str → Option Value} {base : Heap} {L LL : Addr}
/-- the question of a house at k, where u and t name it -/
def QAt (qss : List (List (List (List Int)))) (u t : V) (m : List (List Int)) : Prop := ∃ (h k : Nat) (qs : List (List (List Int))), u = .int (h : Int) ∧ t = .int (k : Int) ∧ qss[h]? = some qs ∧ qs[k]? = some m
/-- where the numbers of a house and a question are wrong -/
def QErr (K : PySem.W.Frag) (qss : List (List (List (List Int)))) (u t : V) (H : Hp) (E : XK) : Prop :=
  (isBel (qss.length : Int) u = false → Errs (He.ga K "InvalidNumber") "value" u H E) ∧ ∀ (h : Nat) (qs : List (List (List Int))), u = .int (h : Int) → qss[h]? = some qs → isBel (qs.length : Int) t = false → Errs (He.ga K "InvalidNumber") "value" t H E
/-- plan.answer_size(house, question) -/
def spAz (K : PySem.W.Frag) (L : Addr) : Sp := fun vs H Q E => ∃ (x : Addr) (u t : V) (p : Int) (n c : Nat) (qss : List (List (List (List Int)))) (ds : List (Int × List (List Int))), vs = [.ref x, u, t] ∧ PlAt L H x p n c qss ds ∧ Ty3 K H u ∧ Ty3 K H t ∧ QErr K qss u t H E ∧ ∀ m, QAt qss u t m → Q (.int (m.length : Int)) H
/-- the answer of a question -/
def ans (p : Int) (k : Nat) (ls : List Int) (m : List (List Int)) : List Int := m.map fun r => (dotn k r ls).fmod p
/-- plan.answer(house, question, library) -/
def spAw (K : PySem.W.Frag) (L LL : Addr) : Sp := fun vs H Q E => ∃ (x : Addr) (u t l : V) (p : Int) (n c : Nat) (qss : List (List (List (List Int)))) (ds : List (Int × List (List Int))), vs = [.ref x, u, t, l] ∧ PlAt L H x p n c qss ds ∧ Pok p n c qss ds ∧ Ty3 K H u ∧ Ty3 K H t ∧ QErr K qss u t H E ∧ ∀ m, QAt qss u t m →
  ((∃ ty, TyX K H l ty ∧ PySem.W.kitOne K ty (.ref LL) = some false ∧ Errs (He.ga K "InvalidLibrary") "value" l H E) ∨
   ∃ (a : Addr) (p' : Int) (n' : Nat) (bs : List (List Int)), l = .ref a ∧ LibAt LL H a p' n' bs ∧ (∀ b ∈ bs, b.length = n') ∧ (¬ (p' = p ∧ bs.length = c ∧ n' = n) → Errs (He.ga K "InvalidLibrary") "value" l H E) ∧
     (p' = p ∧ bs.length = c ∧ n' = n → ∀ y H', Same H H' → T1 H' y (ans p (n * c) bs.flatten m) → Q y H'))
theorem scPlan_answer : FnScope ["self", "house", "question", "library"] ["self", "house", "question", "library"] (defScope sPlan_answer) := ⟨rfl, rfl, rfl, by decide +kernel, rfl, by decide +kernel, by decide +kernel⟩
theorem ok_Aw {f f1 f2 f3 : Addr} {fd fd1 fd2 fd3 : FuncData} (F : FunD K "answer" "Plan.answer" (defArgs sPlan_answer) (defBody sPlan_answer) (defScope sPlan_answer) [] [] f fd) (B : Blt4 mg) (C : PlC K mg L) (CL : LibC K mg LL) (CQs : Cal P w K mg base 4 "check_question" f1 fd1 ["plan", "house", "question"] (spCQ K L))
    (CLb : Cal P w K mg base 3 "check_library" f2 fd2 ["plan", "library"] (spCL K L LL)) (CPr : Cal P w K mg base 8 "products" f3 fd3 ["p", "rows", "letters"] spPx) : FnOk P w K mg base (L2.CX P w) 9 f fd ["self", "house", "question", "library"] (spAw K L LL) := by
  refine F.ok scPlan_answer (fun vs H Q E h => ?_) (fun cdv A outer s H vs Q E hr h => ?_)
  · obtain ⟨x, u, t, l, p, n, c, qss, ds, rfl, _⟩ := h
    rfl
  · obtain ⟨x, u, t, l, p, n, c, qss, ds, rfl, hpl, ok, hu, ht, ⟨kU, kT⟩, kk⟩ := h
    have nd := scPlan_answer.nd
    refine ⟨_, (pss_cons (ps_expr (pe_cal (E := E) CQs (hr.mono (by decide)) (pa_cons (pv 0) (pa_cons (pv 1) (pa_cons (pv 2) pa_nil))) (passes_call (takes_of rfl rfl rfl rfl) (fun _ _ _ _ h => h))))
      (pss_cons (ps_expr (pe_cal (E := E) CLb (hr.mono (by decide)) (pa_cons (pv 0) (pa_cons (pv 3) pa_nil)) (passes_call (takes_of rfl rfl rfl rfl) (fun _ _ _ _ h => h))))
      (pss_one (ps_ret (pe_cal CPr (hr.mono (by decide)) (pa_cons (pe_fld (pv 0) rfl) (pa_cons (pe_ix (ix_tupK (K := K)) (pe_ix (ix_tupK (K := K)) (pe_fld (pv 0) rfl) (pv 1) (fun _ _ => rfl)) (pv 2) (fun _ _ => rfl)) (pa_cons (pe_fld (pv 3) rfl) pa_nil))) passU))))), ?_⟩
    refine ⟨_, rfl, _, rfl, _, rfl, x, u, t, p, n, c, qss, ds, rfl, hpl, hu, ht, kU, fun h qs eu eq => ⟨kT h qs eu eq, fun et => ?_⟩⟩
    subst eu
    obtain ⟨j, rfl, hj⟩ := bel_at et
    have hj : j < qs.length := by omega
    have em := List.getElem?_eq_getElem hj
    have qo := ok.qok qs (List.mem_of_getElem? eq)
    have mo := qo.2.2.2 _ (List.mem_of_getElem? em)
    refine ⟨_, rfl, _, rfl, x, l, p, n, c, qss, ds, rfl, hpl, ?_⟩
    obtain ⟨dx, qv, dv, hx, ⟨qa, qxs, rfl, hqa, hqp⟩, hd⟩ := hpl
    obtain ⟨y, hy, qc, zs, rfl, hqc, hz⟩ := paired_of hqp eq
    obtain ⟨z, hz1, fz⟩ := paired_of hz em
    rcases kk _ ⟨h, j, qs, rfl, rfl, eq, em⟩ with ⟨ty, e1, e2, e3⟩ | ⟨a, p', n', bs, rfl, hl, hbn, kN, kY⟩
    · exact .inl ⟨ty, e1, e2, e3⟩
    · refine .inr ⟨a, p', n', bs, rfl, hl, fun hsame => ?_, kN⟩
      have kY := kY hsame
      obtain ⟨rfl, rfl, rfl⟩ := hsame
      obtain ⟨dl, ba, tl, rs, ha, hba, hbp, htl⟩ := hl
      refine ⟨_, rfl, x, L, dx, _, _, rfl, hx, C.cl, C.nP, pf_p, _, rfl, x, L, dx, _, _, rfl, hx, C.cl, C.nQ, pf_questions, _, rfl, qa, _, _, _, rfl, rfl, SqT.of hqa, atI_nat hy, _, rfl, qc, _, _, _, rfl, rfl, SqT.of hqc, atI_nat hz1, _, rfl, a, LL, dl, _, _, rfl, ha, CL.cl, CL.nT, lf_letters, ?_⟩
      refine ⟨p', n' * bs.length, _, tl, _, bs.flatten, rfl, fz, htl, ok.hp, mo.2, ?_, ok.nc, mo.1, fun y2 H2 s2 hy2 => kY y2 H2 s2 hy2⟩
      rw [flat_len hbn, Nat.mul_comm]
end
end WU

set_option maxRecDepth 100000
set_option maxHeartbeats 8000000
namespace WU
open PySem PySem.Spec PyProof.Rows L2
theorem big100k {n : Nat} (h : n ≤ 100000) : n < sizeLine := Nat.lt_of_le_of_lt h (by decide)
theorem flat_le {α : Type} {b : Nat} : ∀ {l : List (List α)}, (∀ m ∈ l, m.length ≤ b) → l.flatten.length ≤ l.length * b
  | [], _ => by simp
  | m :: l, h => by
    have h1 := h m List.mem_cons_self
    have h2 := flat_le (l := l) fun q hq => h q (List.mem_cons_of_mem _ hq)
    rw [List.flatten_cons, List.length_append, List.length_cons, Nat.succ_mul]
    omega
section
variable {P : Program} {w : World} {K : PySem.W.Frag} {mg : Str → Option Value} {base : Heap} {L LL : Addr}
/-- the houses as a tuple -/
def spHs (L : Addr) : Sp := fun vs H Q _ => ∃ (x : Addr) (p : Int) (n c : Nat) (qss : List (List (List (List Int)))) (ds : List (Int × List (List Int))), vs = [.ref x] ∧ PlAt L H x p n c qss ds ∧ qss.length ≤ 900 ∧ ∀ y H', Same H H' → T1 H' y ((List.range qss.length).map fun (k : Nat) => (k : Int)) → Q y H'
/-- rows_asked(plan, houses, numbers): the rows of the questions ms -/
def Asks (qss : List (List (List (List Int)))) (hs ns : List Int) (ms : List (List (List Int))) : Prop := hs.length = ms.length ∧ ns.length = ms.length ∧ ms.length ≤ 400 ∧ (∀ m ∈ ms, m.length ≤ 200) ∧
  ∀ j m, ms[j]? = some m → ∃ (a b : Nat) (qs : List (List (List Int))), at0 hs j = (a : Int) ∧ at0 ns j = (b : Int) ∧ qss[a]? = some qs ∧ qs[b]? = some m
def spRo (L : Addr) : Sp := fun vs H Q _ => ∃ (x : Addr) (hv nv : V) (p : Int) (n c : Nat) (qss : List (List (List (List Int)))) (ds : List (Int × List (List Int))) (hs ns : List Int) (ms : List (List (List Int))), vs = [.ref x, hv, nv] ∧ PlAt L H x p n c qss ds ∧ T1 H hv hs ∧ T1 H nv ns ∧ Asks qss hs ns ms ∧
  ∀ y H', Same H H' → T2 H' y ms.flatten → Q y H'
end
end WU

set_option maxRecDepth 100000
set_option maxHeartbeats 8000000
namespace WU
open PySem PySem.Spec PyProof.Rows L2
theorem pf_no {p n c h : Int} {qv dv : V} {wt : Int} {m : Str} (h1 : ¬ m = "weight") (h2 : ¬ m = "draws") (h3 : ¬ m = "questions") (h4 : ¬ m = "house_count") (h5 : ¬ m = "book_count") (h6 : ¬ m = "book_length") (h7 : ¬ m = "p") : (pf p n c h qv dv wt).lookup m = none := by
  unfold pf
  rw [lookup_putF, if_neg h1, lookup_putF, if_neg h2, lookup_putF, if_neg h3, lookup_putF, if_neg h4, lookup_putF, if_neg h5, lookup_putF, if_neg h6, lookup_putF, if_neg h7]
  rfl
theorem PlAt.same {L : Addr} {H H' : Hp} {x : Addr} {p : Int} {n c : Nat} {qss : List (List (List (List Int)))} {ds : List (Int × List (List Int))} (h : PlAt L H x p n c qss ds) (s : Same H H') : PlAt L H' x p n c qss ds := by
  obtain ⟨dx, qv, dv, hx, hq, hd⟩ := h
  exact ⟨dx, qv, dv, s _ _ hx, stb4 _ _ _ _ (TK.of s) hq, stb_TF stb_TD _ _ _ _ (TK.of s) hd⟩
theorem ty3_same {K : PySem.W.Frag} {H H' : Hp} {v : V} (h : Ty3 K H v) (s : Same H H') : Ty3 K H' v := by
  obtain ⟨t, ht, h1, h2⟩ := h
  refine ⟨t, ?_, h1, h2⟩
  cases ht with
  | base b =>
    cases b with
    | non => exact .base .non
    | bl y => exact .base (.bl y)
    | int i => exact .base (.int i)
    | str y => exact .base (.str y)
    | flt y => exact .base (.flt y)
    | lst e => exact .base (.lst (s _ _ e))
    | frz e => exact .base (.frz (s _ _ e))
    | tup e => exact .base (.tup (s _ _ e))
    | dK e => exact .base (.dK (s _ _ e))
    | dT e => exact .base (.dT (s _ _ e))
    | ins e a b c d f => exact .base (.ins (s _ _ e) a b c d f)
  | byt b => exact .byt b
  | set e => exact .set (s _ _ e)
  | kList e c => exact .kList e c
  | kTuple e c => exact .kTuple e c
  | kDict e c => exact .kDict e c
  | fTuple e => exact .fTuple (s _ _ e)
  | fDict e => exact .fDict (s _ _ e)
theorem errs_sameN {C : Addr} {f : Str} {v : V} {H H' : Hp} {E : XK} (h : Errs C f v H E) (s : Same H H') : Errs C f v H' E := errs_same h s
section
variable {P : Program} {w : World} {K : PySem.W.Frag} {mg : Str → Option Value} {base : Heap} {L LL : Addr}
def hsL (k : Nat) : List Int := (List.range k).map fun (k : Nat) => (k : Int)
/-- plan.asked_rows(wish, draw) -/
def spAr (K : PySem.W.Frag) (L : Addr) : Sp := fun vs H Q E => ∃ (x : Addr) (u t : V) (p : Int) (n c : Nat) (qss : List (List (List (List Int)))) (ds : List (Int × List (List Int))), vs = [.ref x, u, t] ∧ PlAt L H x p n c qss ds ∧ Pok p n c qss ds ∧ (∀ H', Same H H' → Ty3 K H' u ∧ Ty3 K H' t) ∧
  (isBel (c : Int) u = false → Errs (He.ga K "InvalidNumber") "value" u H E) ∧ (isBel (c : Int) u = true → (isBel (ds.length : Int) t = false → Errs (He.ga K "InvalidNumber") "value" t H E)) ∧
  ∀ (i j : Nat) (d : Int × List (List Int)) (r : List Int), u = .int (i : Int) → t = .int (j : Int) → ds[j]? = some d → d.2[i]? = some r → ∃ ms, Asks qss (hsL qss.length) r ms ∧ ∀ y H', Same H H' → T2 H' y ms.flatten → Q y H'
end
end WU

set_option maxRecDepth 100000
set_option maxHeartbeats 4000000
namespace WU
open PySem PySem.Spec PyProof.Rows L2
open AutoSeq1 (wpAny_loadPart')
/-! ### enumerate of a tuple -/
theorem enum_newT (l : Addr) (items : Array Value) (n : Nat) (dct : Option Addr) (sl : Array (Option Value)) :
    Meets (Builtin.«enumerate.__new__» ⟨[.type "enumerate", .ref l], []⟩) (fun _ R s => s.heap.get? l = some { cls := .type "tuple", dict := dct, data := .seq items n, slots := sl } ∧
      R (.ok (.ret (.ref (s.heap.push { cls := .type "tuple_iterator", data := .fields #[.ref l, .int 0 0] }).objs.size)))
        { s with heap := (s.heap.push { cls := .type "tuple_iterator", data := .fields #[.ref l, .int 0 0] }).push { cls := .type "enumerate", data := .fields #[.none, .bool false, .ref s.heap.objs.size, rawInt 0, .none, .none] } }) :=
  .of_wp fun prog w A R s z => by
    obtain ⟨hp, g, d, tk, os⟩ := s
    obtain ⟨at_, fin⟩ := z
    have sub := sub_enumerate
    have tp : Heap.IsTuple (Shared.heap ⟨hp, g, d, tk, os⟩) l items := ⟨_, at_, rfl, n, rfl⟩
    wp_walk using wpAny_loadPart' at_
    refine wpAny_stack_any fun q => wpAny_pure ?_
    split
    · rename_i cl _ _ _ _ _
      cases (cl == Value.type "enumerate") <;> (wp_walk using wpAny_loadPart' at_, wpAny_pyIter_tuple tp; exact ⟨_, rfl, fin⟩)
    · wp_walk using wpAny_loadPart' at_, wpAny_pyIter_tuple tp
      exact ⟨_, rfl, fin⟩
end WU

set_option maxRecDepth 100000
set_option maxHeartbeats 4000000
namespace WU
open PySem PySem.Spec PyProof.Rows L2
section
variable {prog : Program} {w : World} {A : Around} {E : Value → Shared → Prop} {s : Shared}
theorem call_enumT {l : Addr} {items : Array Value} {Q : Value → Shared → Prop} (tp : s.heap.IsTuple l items)
    (go : ∀ h', IsEnum h' (s.heap.objs.size + 1) s.heap.objs.size 0 .none ∧ h'.IsTupleIter s.heap.objs.size l 0 ∧ (∀ b o, s.heap.get? b = some o → h'.get? b = some o) → Q (.ref (s.heap.objs.size + 1)) { s with heap := h' }) :
    wpAny (model prog w) A (call (.type "enumerate") [.ref l]) Q E s := by
  obtain ⟨⟨c, dct, dt, sl⟩, at_, hc, n, hd⟩ := tp
  obtain rfl : c = .type "tuple" := hc
  obtain rfl : dt = .seq items n := hd
  refine callType_new F.called_enumerate (by decide) (F.typeCall_enumerate_1 _) (F.newCall_enumerate_1 _) (fun ob => F.args_object_init_2 ob _) F.entry_enumerate_new (enum_newT l items n dct sl) ⟨at_, ?_⟩
  have z : (s.heap.push { cls := .type "tuple_iterator", data := .fields #[.ref l, .int 0 0] }).objs.size = s.heap.objs.size + 1 := Heap.size_push ..
  show _ ∧ _
  rw [z]
  have en : IsEnum ((s.heap.push { cls := .type "tuple_iterator", data := .fields #[.ref l, .int 0 0] }).push
      { cls := .type "enumerate", data := .fields #[.none, .bool false, .ref s.heap.objs.size, rawInt 0, .none, .none] }) (s.heap.objs.size + 1) s.heap.objs.size 0 .none := by
    have q := Heap.get?_push_size (s.heap.push { cls := .type "tuple_iterator", data := .fields #[.ref l, .int 0 0] })
      (o := { cls := .type "enumerate", data := .fields #[.none, .bool false, .ref s.heap.objs.size, rawInt 0, .none, .none] }) rfl
    rw [z] at q
    exact q
  exact ⟨⟨_, en, rfl⟩, go _ ⟨en, ⟨_, Heap.get?_push_of_some _ (Heap.get?_push_size _ rfl), rfl, rfl⟩, fun b o x => Heap.get?_push_of_some _ (Heap.get?_push_of_some _ x)⟩⟩
/-- what a tuple's iterator draws -/
theorem drawsT (hh : A.handled = none) {it t : Addr} {items : Array Value} (ne : it ≠ t) : Draws prog w A it [it, t] items.size (fun i x => items[i]? = some x) (fun i h => h.IsTupleIter it t i ∧ h.IsTuple t items) where
  live := fun i h ⟨⟨o, e, _⟩, _⟩ => ⟨o, e⟩
  frame := fun i h h' ⟨⟨o, e, r⟩, u, e2, r2⟩ k => ⟨⟨o, k it (by simp) o e, r⟩, u, k t (by simp) u e2, r2⟩
  item := fun i s Q E hi ⟨a, b⟩ q => PySem.wpAny_nextOf_tuple_item a b (x := items[i]) (Array.getElem?_eq_getElem hi) fun h' a' sb => q _ h' s.toks (Array.getElem?_eq_getElem hi) ⟨a', b.extBut sb.extBut ne.symm⟩ sb
  done := fun s Q E ⟨a, b⟩ q => PySem.wpAny_nextOf_tuple_end hh a b (Array.getElem?_eq_none (Nat.le_refl _)) q
end
/-- the tuple at a as it stands at each turn, each item in a new pair -/
def Itet (K : PySem.W.Frag) (a : Addr) : It :=
  ⟨fun i H => ∃ (xs : List V) (x : V), SqT K H a xs ∧ xs[i]? = some x, fun i H v H' => ∃ T x, v = .ref T ∧ H T = none ∧ H' = upd H T (.tup [.int (i : Nat), x]) ∧ ∀ xs, SqT K H a xs → xs[i]? = some x, fun i H => ∃ xs : List V, SqT K H a xs ∧ xs.length ≤ i⟩
end WU

set_option maxRecDepth 100000
set_option maxHeartbeats 4000000
namespace WU
open PySem PySem.Spec PyProof.Rows L2
theorem pyNext_enumT_end {prog : Program} {w : World} {A : Around} {E : Value → Shared → Prop} {s : Shared} {e it l : Addr} {i : Nat} {items : Array Value} {old : Value} {Q : Option Value → Shared → Prop} (hh : A.handled = none)
    (en : IsEnum s.heap e it i old) (hit : s.heap.IsTupleIter it l i) (tp : s.heap.IsTuple l items) (past : items[i]? = none) (q : ∀ h', Heap.ExtBut it s.heap h' → Q none { s with heap := h' }) : wpAny (model prog w) A (pyNext (.ref e)) Q E s := by
  have ty : s.TypeIs (.ref e) "enumerate" := ⟨_, en, rfl⟩
  unfold pyNext
  refine wpAny_bind (wpAny_attempt (wpAny_callSpecial?_slot (name := Str.ofString "__next__") ty F.slot_enumerate_next (wpAny_call_entry F.slot_enumerate_next ty F.entry_enumerate_next ?_ (F.args_enumerate_next_1 _))))
  show wpAny _ _ (field (.ref e) 2 >>= _) _ _ _
  refine wpAny_bind (wpAny_field en rfl (x := .ref it) rfl (wpAny_bind (PySem.wpAny_nextOf_tuple_end hh hit tp past fun h' x a b => ?_)))
  obtain ⟨o, ho, hc⟩ := b
  exact wpAny_bind (wpAny_isInstance (T := "StopIteration") (b := true) ⟨o, ho, hc⟩ isSubtype_stop (wpAny_pure (q _ a)))
theorem turn_enumT {P : Program} {w : World} {K : PySem.W.Frag} {elts : List Expr} {kk : Nat} {tpos : Pos} (a e it : Addr) :
    Turn P w K (.Tuple elts kk tpos) (Itet K a) [e, it] e (fun i h => (∃ old, IsEnum h e it ((i : Nat) : Int) old) ∧ h.IsTupleIter it a i ∧ e ≠ it) where
  mem := by simp
  obj := fun i h st b hb => by
    obtain ⟨⟨old, en⟩, ⟨o, ho, _, hd⟩, _⟩ := st
    rcases List.mem_cons.mp hb with z | z
    · rw [z]
      exact ⟨_, en, fun v q => nomatch q⟩
    · rw [List.mem_singleton.mp z]
      exact ⟨o, ho, fun v q => by rw [hd] at q; cases q⟩
  keep := fun i h h' ⟨⟨old, en⟩, hi, ne⟩ k => ⟨⟨old, k e (by simp) _ en⟩, hi.at fun o q => k it (by simp) o q, ne⟩
  item := by
    intro Y eP ew eK hc i pn st sg G E inv hf ⟨⟨old, en⟩, hit, ne⟩ ⟨xs, x, sq, gx⟩
    subst eP ew eK
    obtain ⟨us, rus, pus, _⟩ := inv.tuple sq
    obtain ⟨u, hu, ru⟩ := rus.get gx
    obtain ⟨ot, et, ct, nt, dt⟩ := id pus
    obtain ⟨oi, ei, ci, di⟩ := id hit
    have n1 : it ≠ a := fun z => by
      rw [z] at ei
      rw [Option.some.inj (ei.symm.trans et), ct] at ci
      exact absurd (Value.type.inj ci) (by decide)
    have n2 : e ≠ a := fun z => by
      rw [z] at en
      rw [Option.some.inj (et.symm.trans en)] at ct
      exact absurd (Value.type.inj ct) (by decide)
    have le : e < st.heap.objs.size := Heap.lt_size en
    have li : it < st.heap.objs.size := Heap.lt_size ei
    have hil : i < us.toArray.size := by
      have := (List.getElem?_eq_some_iff.mp hu).1
      simpa using this
    refine wpAny_pyNext_enum_itemD (drawsT (prog := Y.prog) (w := Y.w) (A := Y.A.in1) (items := us.toArray) (show Y.A.in1.handled = none from inv.ok.hd hc) n1) en ⟨hit, ot, et, ct, nt, dt⟩ hil ne (by simp [ne, n2]) fun y h' tk py ho hst hT hsz hk => ?_
    obtain rfl : y = u := by
      have q : us[i]? = some y := by simpa using py
      exact Option.some.inj (q.symm.trans hu)
    refine ⟨_, rfl, wpAny_letOwnedTupleGo_enum (s := { st with heap := h', toks := tk + 1 }) ho fun h2 he2 sb => ?_⟩
    have hT2 : h2.get? st.heap.objs.size = some { cls := .type "tuple", data := .seq #[.int i tk, y] } := (sb.2 _ (Nat.ne_of_gt le)).trans hT
    have nw : ObjOk Y.prog Y.w (upd G st.heap.objs.size (.tup [.int (i : Nat), x])) h2 st.heap.objs.size (.tup [.int (i : Nat), x]) := ⟨by show 2 ≤ sizeLine; decide, [.int i tk, y], .cons ⟨_, rfl⟩ (.cons ru .nil), ⟨_, hT2, rfl, _, rfl⟩⟩
    have J : Inv Y pn sg (upd G st.heap.objs.size (.tup [.int (i : Nat), x])) { st with heap := h2, toks := tk + 1 } :=
      inv.turnedNew (ch := [e, it]) (fun b ob hb q => (sb.2 b (fun z => hb (by simp [z]))).trans (hk b ob (fun z => hb (by simp [z])) (fun z => hb (by simp [z])) q)) hf (Nat.le_refl _) nw
    refine ⟨.ref st.heap.objs.size, _, J, rfl, ⟨_, x, rfl, inv.hok.fresh (Nat.le_refl _), rfl, fun ys hy => by rw [inv.tuple_inj hy sq]; exact gx⟩, ⟨⟨y, ?_⟩, hst.1.at fun o q => (sb.2 it (Ne.symm ne)).trans q, ne⟩, fun b hb => ?_⟩
    · rw [show ((i + 1 : Nat) : Int) = (i : Int) + 1 by omega]
      exact he2
    · have lb : b < st.heap.objs.size := by
        rcases List.mem_cons.mp hb with z | z
        · rw [z]; exact le
        · rw [List.mem_singleton.mp z]; exact li
      rw [upd_ne (Nat.ne_of_lt lb)]
      exact (hf b hb).1
  done := by
    intro Y eP ew eK hc i pn st sg G E inv hf ⟨⟨old, en⟩, hit, ne⟩ ⟨xs, sq, le⟩
    subst eP ew eK
    obtain ⟨us, rus, pus, _⟩ := inv.tuple sq
    obtain ⟨ot, et, ct, nt, dt⟩ := id pus
    obtain ⟨oi, ei, ci, di⟩ := id hit
    obtain ⟨f0, f1, f2, f3, f4, f5⟩ := hf it (by simp)
    have ln := rus.length
    refine pyNext_enumT_end (inv.ok.hd hc) en hit ⟨ot, et, ct, nt, dt⟩ (by simp; omega) fun h' eb => ⟨rfl, inv.turned (t' := st.toks) (fun b o hb q => eb b o hb q) f0 f1 f3 f4 f5⟩
  self := fun A i s Q E ⟨⟨_, en⟩, _⟩ q => wpAny_pyIter_enum en q
end WU

set_option maxRecDepth 100000
set_option maxHeartbeats 8000000
namespace WU
open PySem PySem.Spec PyProof.Rows L2
def iEnumT (K : PySem.W.Frag) (ta : TA) : TI := fun σ H R => ta σ H fun vs H1 => ∃ a xs, vs = [.ref a] ∧ SqT K H1 a xs ∧ R (Itet K a) H1
theorem pi_enumT {X : Cx} {e : Expr} {ta : TA} {p pos tpos : Pos} {elts : List Expr} {kk : Nat} (hg : Gl X "enumerate") (hm : X.mg "enumerate" = none) (ha : PA X [e] ta) (hs : starEach [e] X.env = [(false, eval e X.env)] := by rfl) :
    PI X (.Tuple elts kk tpos) (.Call (.Name "enumerate" p) [e] [] pos) (iEnumT X.K ta) := by
  constructor
  intro pn st sg G R inv h
  refine Call_ (ld_blt inv hg hm boot_enumerate (PyProof.Rows.callWith_type1 (thn (ha.run pos pn st sg G _ inv h) fun us s1 ⟨vs, G1, J1, r1, a, xs, ex, sq, q⟩ => ?_) hs rfl))
  subst ex
  cases r1 with
  | cons r rr =>
    cases rr
    cases r
    obtain ⟨us, rus, pus, _⟩ := J1.tuple sq
    obtain ⟨ot, et, ct, nt, dt⟩ := id pus
    refine call_enumT ⟨ot, et, ct, nt, dt⟩ fun h' ⟨en, hit, hk⟩ => wpAny_pyIter_enum en ?_
    have J2 : Inv X pn sg G1 { s1 with heap := h' } := J1.kept (t' := s1.toks) hk
    refine ⟨s1.heap.objs.size + 1, [s1.heap.objs.size + 1, s1.heap.objs.size], _, _, G1, rfl, J2, turn_enumT a (s1.heap.objs.size + 1) s1.heap.objs.size, ⟨⟨.none, en⟩, hit, Nat.succ_ne_self _⟩, fun b hb => ?_, q⟩
    have le : s1.heap.objs.size ≤ b := by
      rcases List.mem_cons.mp hb with z | z
      · rw [z]
        exact Nat.le_add_right _ _
      · rw [List.mem_singleton.mp z]
        exact Nat.le_refl _
    exact J1.fpOk le (J1.hok.fresh le)
theorem pi_enumTK {X : Cx} {K : PySem.W.Frag} {e : Expr} {ta : TA} {p pos tpos : Pos} {elts : List Expr} {kk : Nat} (hg : Gl X "enumerate") (hm : X.mg "enumerate" = none) (ha : PA X [e] ta) (hs : starEach [e] X.env = [(false, eval e X.env)] := by rfl) (hK : X.K = K := by rfl) :
    PI X (.Tuple elts kk tpos) (.Call (.Name "enumerate" p) [e] [] pos) (iEnumT K ta) := hK ▸ pi_enumT hg hm ha hs
theorem walk_enumT {K : PySem.W.Frag} {a : Addr} {xs : List V} : Walk (Itet K a) xs.length (fun H => SqT K H a xs) (YPair (fun i => some (.int (i : Nat))) (fun i => xs[i]?)) where
  goes := fun i H hi h => ⟨xs, xs[i], h, List.getElem?_eq_getElem hi⟩
  stops := fun H h => ⟨xs, h, Nat.le_refl _⟩
  yields := fun i H x H' hi h ⟨T, y, e, n, eH, f⟩ => ⟨T, _, y, e, n, eH, rfl, f xs h⟩
section
variable {P : Program} {w : World} {K : PySem.W.Frag} {mg : Str → Option Value} {base : Heap} {L LL : Addr}
/-- plan.answers(wish, draw, library) -/
def spAn (K : PySem.W.Frag) (L LL : Addr) : Sp := fun vs H Q E => ∃ (x : Addr) (u t l : V) (p : Int) (n c : Nat) (qss : List (List (List (List Int)))) (ds : List (Int × List (List Int))), vs = [.ref x, u, t, l] ∧ PlAt L H x p n c qss ds ∧ Pok p n c qss ds ∧ Ty3 K H u ∧ Ty3 K H t ∧
  (isBel (c : Int) u = false → Errs (He.ga K "InvalidNumber") "value" u H E) ∧ (isBel (c : Int) u = true → (isBel (ds.length : Int) t = false → Errs (He.ga K "InvalidNumber") "value" t H E)) ∧
  ∀ (i j : Nat) (d : Int × List (List Int)) (r : List Int), u = .int (i : Int) → t = .int (j : Int) → ds[j]? = some d → d.2[i]? = some r →
  ((∃ ty, TyX K H l ty ∧ PySem.W.kitOne K ty (.ref LL) = some false ∧ Errs (He.ga K "InvalidLibrary") "value" l H E) ∨
   ∃ (a : Addr) (p' : Int) (n' : Nat) (bs : List (List Int)), l = .ref a ∧ LibAt LL H a p' n' bs ∧ (∀ b ∈ bs, b.length = n') ∧ (¬ (p' = p ∧ bs.length = c ∧ n' = n) → Errs (He.ga K "InvalidLibrary") "value" l H E) ∧
     (p' = p ∧ bs.length = c ∧ n' = n → ∃ ms, Asks qss (hsL qss.length) r ms ∧ r.length = ms.length ∧ ∀ y H', Same H H' → T2 H' y (ms.map (ans p (n * c) bs.flatten)) → Q y H'))
theorem scPlan_answers : FnScope ["self", "wish", "draw", "library", "asked", "house", "question"] ["self", "wish", "draw", "library"] (defScope sPlan_answers) := ⟨rfl, rfl, rfl, by decide +kernel, rfl, by decide +kernel, by decide +kernel⟩
theorem ok_An {f f1 f2 f3 : Addr} {fd fd1 fd2 fd3 : FuncData} (F : FunD K "answers" "Plan.answers" (defArgs sPlan_answers) (defBody sPlan_answers) (defScope sPlan_answers) [] [] f fd) (B : Blt4 mg) (be : mg "enumerate" = none) (C : PlC K mg L) (CLb : Cal P w K mg base 3 "check_library" f1 fd1 ["plan", "library"] (spCL K L LL))
    (mA : Meth K L "asked" f2) (gA : FnOk P w K mg base (L2.CX P w) 6 f2 fd2 ["self", "wish", "draw"] (spAd K L)) (bA : L2.Binds K fd2 ["self", "wish", "draw"] [])
    (mW : Meth K L "answer" f3) (gW : FnOk P w K mg base (L2.CX P w) 9 f3 fd3 ["self", "house", "question", "library"] (spAw K L LL)) (bW : L2.Binds K fd3 ["self", "house", "question", "library"] []) : FnOk P w K mg base (L2.CX P w) 10 f fd ["self", "wish", "draw", "library"] (spAn K L LL) := by
  refine F.ok scPlan_answers (fun vs H Q E h => ?_) (fun cdv A outer s H vs Q E hr h => ?_)
  · obtain ⟨x, u, t, l, p, n, c, qss, ds, rfl, _⟩ := h
    rfl
  · obtain ⟨x, u, t, l, p, n, c, qss, ds, rfl, hpl, ok, hu, ht, kU, kT, kk⟩ := h
    have nd := scPlan_answers.nd
    refine ⟨_, (pss_cons (ps_set (i := 4) nd rfl (Or.inl rfl) (pe_meth (E := E) (pv 0) C.cl mA gA (hr.mono (by decide)) bA .nil (passes_call (takes_of rfl rfl rfl rfl) (fun _ _ _ _ h => h)) (pa_cons (pv 1) (pa_cons (pv 2) pa_nil))))
      (pss_cons (ps_expr (pe_cal (E := E) CLb (hr.mono (by decide)) (pa_cons (pv 0) (pa_cons (pv 3) pa_nil)) (passes_call (takes_of rfl rfl rfl rfl) (fun _ _ _ _ h => h))))
      (pss_one (ps_ret (pe_callTy (tup_ofK (K := K)) (by rfl) B.tuple (by decide +kernel) (pa_cons (pe_lc (own := [("house", 5), ("question", 6)]) (g := gTup K 2 (gCons (gName 5) (gCons (gName 6) gNil))) (by rfl) nd (pi_enumTK (K := K) (by rfl) be (pa_cons (pv 4) pa_nil)) (blkOk_by (own := [("house", 5), ("question", 6)]) (N := ["self", "wish", "draw", "library", "asked", "house", "question"]) (sc := defScope sPlan_answers) (by decide +kernel)) (fun _ _ _ _ _ => pg_tupK (K := K) (pg_tup rfl (pgs_cons (pg_name (i := 5) nd rfl (Or.inl rfl)) (pgs_cons (pg_name (i := 6) nd rfl (Or.inl rfl)) pgs_nil)))) (fun _ _ _ _ _ => pts_nil) (fun _ _ _ _ _ => (pe_meth (E := E0) (pv 0) C.cl mW gW (hr.mono (by decide)) bW .nil passU (pa_cons (pv 5) (pa_cons (pv 6) (pa_cons (pv 3) pa_nil)))))) pa_nil)))))), ?_⟩
    obtain ⟨dx, qv, dv, hx, hq, hd⟩ := id hpl
    refine ⟨_, rfl, x, dx, _, rfl, hx, pf_no (by decide +kernel) (by decide +kernel) (by decide +kernel) (by decide +kernel) (by decide +kernel) (by decide +kernel) (by decide +kernel), _, rfl, _, rfl, ?_⟩
    refine ⟨x, u, t, p, n, c, qss, ds, rfl, hpl, ok, hu, ht, kU, kT, fun i j d r e1 e2 e3 e4 y hy => ?_⟩
    refine ⟨_, rfl, _, rfl, x, l, p, n, c, qss, ds, rfl, hpl, ?_⟩
    rcases kk i j d r e1 e2 e3 e4 with ⟨ty, f1, f2, f3⟩ | ⟨a, p', n', bs, rfl, hl, hbn, kN, kY⟩
    · exact .inl ⟨ty, f1, f2, f3⟩
    refine .inr ⟨a, p', n', bs, rfl, hl, fun hsame => ?_, kN⟩
    obtain ⟨ms, ⟨l1, l2, l4, m2, ak⟩, lr, kQ⟩ := kY hsame
    obtain ⟨ya, yxs, rfl, hya, hyp⟩ := hy
    have ey := fi_map hyp
    subst ey
    have lq : qss.length = ms.length := by
      rw [← l1]
      unfold hsL
      rw [List.length_map, List.length_range]
    refine ⟨_, rfl, ya, _, rfl, SqT.of hya, fun D hD => lc_it walk_enumT (fun i H' => Same H H' ∧ Bd T1 D ((ms.take i).map (ans p (n * c) bs.flatten)) H') ⟨same_new hD, Bd.start⟩ (fun i H' _ z => SqT.of (z.1 _ _ hya)) ?_ ?_⟩
    · rintro k y H1 H2 hk ⟨s1, b1⟩ ⟨T, x1, x2, rfl, hT, rfl, g1, g2⟩
      rw [List.length_map] at hk
      have hkm : k < ms.length := by omega
      cases g1
      cases (take_map_at r.length (r := r) (i := k) hk).symm.trans g2
      have em := List.getElem?_eq_getElem hkm
      obtain ⟨a0, b0, qs, f1, f2, f3, f4⟩ := ak k _ em
      have ea : a0 = k := by
        have z : at0 (hsL qss.length) k = (k : Int) := by
          unfold hsL
          rw [at0_lt (by rw [List.length_map, List.length_range]; omega), List.getElem_map, List.getElem_range]
        omega
      subst ea
      rw [f2]
      have s2 : Same H (upd H1 T (.tup [.int (a0 : Int), .int (b0 : Int)])) := s1.trans (same_new hT)
      have b2 : Bd T1 D ((ms.take a0).map (ans p (n * c) bs.flatten)) (upd H1 T (.tup [.int (a0 : Int), .int (b0 : Int)])) := b1.skip stb1 (TK.new hT) fun ys h => same_new hT _ _ h
      have eT : upd H1 T (.tup [.int (a0 : Int), .int (b0 : Int)]) T = some (.tup [.int (a0 : Int), .int (b0 : Int)]) := upd_same
      generalize upd H1 T (.tup [.int (a0 : Int), .int (b0 : Int)]) = H2 at s2 b2 eT ⊢
      have bel : ∀ {i m : Nat}, i < m → isBel (m : Int) (.int (i : Int)) = true := fun {i m} h => by
        show (decide (0 ≤ (i : Int)) && decide ((i : Int) < (m : Int))) = true
        rw [decide_eq_true (by omega), decide_eq_true (by omega)]
        rfl
      have hb0 : b0 < qs.length := (List.getElem?_eq_some_iff.mp f4).1
      refine ⟨T, _, rfl, SqT.of eT, rfl, _, _, rfl, _, _, rfl, rfl, rfl, ?_⟩
      refine ⟨_, rfl, x, dx, _, rfl, s2 _ _ hx, pf_no (by decide +kernel) (by decide +kernel) (by decide +kernel) (by decide +kernel) (by decide +kernel) (by decide +kernel) (by decide +kernel), _, rfl, _, rfl, _, rfl, ?_⟩
      refine ⟨x, _, _, _, p, n, c, qss, ds, rfl, hpl.same s2, ok, ty3_int _, ty3_int _, ⟨fun z => ?_, fun h qs' z1 z2 z3 => ?_⟩, fun m ⟨h, k', qs', z1, z2, z3, z4⟩ => .inr ⟨a, p', n', bs, rfl, hl.same s2, hbn, fun z => absurd hsame z, fun _ y' H3 s3 hy' => ?_⟩⟩
      · rw [bel (by omega)] at z
        cases z
      · have e : a0 = h := Int.natCast_inj.mp (V.int.inj z1)
        subst e
        rw [f3] at z2
        cases z2
        rw [bel hb0] at z3
        cases z3
      · have e : a0 = h := Int.natCast_inj.mp (V.int.inj z1)
        subst e
        have e2' : b0 = k' := Int.natCast_inj.mp (V.int.inj z2)
        subst e2'
        rw [f3] at z3
        cases z3
        have em2 := f4.symm.trans z4
        have b3 := b2.skip stb1 (TK.of s3) fun ys h => s3 _ _ h
        obtain ⟨acc, a1, a2, a3, a4⟩ := b3.put stb1 hy' (by rw [List.length_map, List.length_take]; exact small1000 (by omega))
        refine ⟨acc, a1, a2, fun bq u hbq => ?_, ?_⟩
        · rw [upd_ne (ne_of_none hbq hD)]
          exact s3 _ _ (s2 _ _ hbq)
        · rw [List.take_succ, em, List.map_append]
          rw [← Option.some.inj em2] at a3
          exact a3
    · rintro H1 ⟨s1, b1⟩
      rw [List.length_map, lr, List.take_length] at b1
      obtain ⟨ys, e, ft⟩ := b1.tup stb1
      exact ⟨D, _, rfl, .inl ⟨SqL.of e, fun T hT => kQ _ _ (s1.trans (same_new hT)) (ft T hT)⟩⟩
end
end WU

set_option maxRecDepth 100000
set_option maxHeartbeats 8000000
namespace WU
open PySem PySem.Spec PyProof.Rows L2
section
variable {P : Program} {w : World} {K : PySem.W.Frag} {mg : Str → Option Value} {base : Heap} {S : Addr}
/-- _law_product(first, second, p) -/
def spLP : Sp := fun vs H Q _ => ∃ (p : Int) (n : Nat) (u v : V) (r l : List Int), vs = [u, v, .int p] ∧ FT H u r ∧ FT H v l ∧ p ∈ primes ∧ Ltr p n r ∧ l.length = n ∧ n ≤ 200 ∧ ∀ H', Same H H' → Q (.int ((dotn n r l).fmod p)) H'
theorem scLP : FnScope ["first", "second", "p", "k"] ["first", "second", "p"] (defScope s_law_product) := ⟨rfl, rfl, rfl, by decide +kernel, rfl, by decide +kernel, by decide +kernel⟩
theorem ok_LP {f : Addr} {fd : FuncData} (F : FnS K "_law_product" s_law_product f fd) (B : Blt5 mg) : FnOk P w K mg base (L2.CX P w) 1 f fd ["first", "second", "p"] spLP := by
  refine F.ok scLP (fun vs H Q E h => ?_) (fun cdv A outer s H vs Q E hr h => ?_)
  · obtain ⟨p, n, u, v, r, l, rfl, _⟩ := h
    rfl
  · obtain ⟨p, n, u, v, r, l, rfl, ⟨c, rfl, hc⟩, ⟨d, rfl, hd⟩, hp, hr1, hl, hn, k⟩ := h
    have nd := scLP.nd
    have hb := fld_le hp
    refine ⟨_, (pss_one (ps_ret (pe_op op_modN (pe_callTy call_int1 (by rfl) B.int (by decide +kernel) (pa_cons (pe_callB (cr_sumK (K := K) rfl) (by rfl) B.sum (by decide +kernel) (pa_cons (pe_lc (own := [("k", 3)]) (g := gName 3) (by rfl) nd (pi_range1 rfl B.range (pa_cons (pe_callB (len_seqK (K := K)) (by rfl) B.len (by decide +kernel) (pa_cons (pv 0) pa_nil)) pa_nil)) (blkOk_by (own := [("k", 3)]) (N := ["first", "second", "p", "k"]) (sc := defScope s_law_product) (by decide +kernel)) (fun _ _ _ _ _ => (pg_name (i := 3) nd rfl (Or.inl rfl))) (fun _ _ _ _ _ => pts_nil) (fun _ _ _ _ _ => (pe_callTy call_int1 (by rfl) B.int (by decide +kernel) (pa_cons (pe_op op_mul (pe_ix (ix_tupK (K := K)) (pv 0) (pv 3) (fun _ _ => rfl)) (pe_ix (ix_tupK (K := K)) (pv 1) (pv 3) (fun _ _ => rfl))) pa_nil)))) pa_nil)) pa_nil)) (pv 2)))), ?_⟩
    refine ⟨_, rfl, c, _, rfl, .inr (sqT hc), ?_⟩
    rw [List.length_map, hr1.1]
    refine ⟨(n : Int), rfl, by omega, by omega, fun D hD => lc_range (lo := 0) (n := n) (fun i H' => Bld FI H D ((List.range i).map fun k => at0 r k * at0 l k) H') (Bld.start hD) ?_ ?_⟩
    · intro i H1 hi b
      rw [Int.zero_add]
      have bi := hr1.bd hi
      refine ⟨rfl, _, rfl, _, rfl, c, _, _, _, rfl, rfl, sqT (rd_same b.same hc), atI_nat (take_map_at n (r := r) (i := i) (by rw [hr1.1]; exact hi)), ?_⟩
      refine ⟨_, rfl, _, rfl, d, _, _, _, rfl, rfl, sqT (rd_same b.same hd), atI_nat (take_map_at n (r := l) (i := i) (by rw [hl]; exact hi)), _, _, rfl, rfl, .inl ⟨by omega, by omega⟩, .inl ⟨_, rfl, ?_⟩⟩
      rw [map_range_succ]
      exact b.put (y := .int (at0 r i * at0 l i)) (z := at0 r i * at0 l i) stab_FI hD (Same.refl _) rfl (by intro z; cases z) (by rw [List.length_map, List.length_range]; exact small1000 (by omega))
    · intro H1 b
      obtain ⟨s1, ys, eD, py⟩ := b.fin
      rw [fi_map py] at eD
      refine ⟨D, _, rfl, SqL.of eD, .inl ⟨_, rfl, _, rfl, _, p, rfl, rfl, by omega, ?_⟩⟩
      rw [sum_dotn]
      exact k H1 s1
/-- _law_answer(p, question, letters) -/
def spLA : Sp := fun vs H Q _ => ∃ (p : Int) (n : Nat) (u v : V) (m : List (List Int)) (l : List Int), vs = [.int p, u, v] ∧ T2 H u m ∧ T1 H v l ∧ p ∈ primes ∧ (∀ r ∈ m, Ltr p n r) ∧ l.length = n ∧ n ≤ 200 ∧ m.length ≤ 200 ∧ ∀ y H', Same H H' → T1 H' y (ans p n l m) → Q y H'
theorem sclaw_answer : FnScope ["p", "question", "letters", "row"] ["p", "question", "letters"] (defScope s_law_answer) := ⟨rfl, rfl, rfl, by decide +kernel, rfl, by decide +kernel, by decide +kernel⟩
theorem ok_LA {f f1 : Addr} {fd fd1 : FuncData} (F : FnS K "_law_answer" s_law_answer f fd) (B : Blt5 mg) (CLP : Cal P w K mg base 1 "_law_product" f1 fd1 ["first", "second", "p"] spLP) : FnOk P w K mg base (L2.CX P w) 2 f fd ["p", "question", "letters"] spLA := by
  refine F.ok sclaw_answer (fun vs H Q E h => ?_) (fun cdv A outer s H vs Q E hr h => ?_)
  · obtain ⟨p, n, u, v, m, l, rfl, _⟩ := h
    rfl
  · obtain ⟨p, n, u, v, m, l, rfl, ⟨c, xs, rfl, hc, hP⟩, hv, hp, hm, hl, hn, h2, kk⟩ := h
    have nd := sclaw_answer.nd
    have el := paired_len hP
    refine ⟨_, (pss_one (ps_ret (pe_callTy (tup_ofK (K := K)) (by rfl) B.tuple (by decide +kernel) (pa_cons (pe_lc (own := [("row", 3)]) (g := gName 3) (by rfl) nd (pi_tupK (K := K) (pv 1)) (blkOk_by (own := [("row", 3)]) (N := ["p", "question", "letters", "row"]) (sc := defScope s_law_answer) (by decide +kernel)) (fun _ _ _ _ _ => (pg_name (i := 3) nd rfl (Or.inl rfl))) (fun _ _ _ _ _ => pts_nil) (fun _ _ _ _ _ => (pe_cal CLP (hr.mono (by decide)) (pa_cons (pv 3) (pa_cons (pv 2) (pa_cons (pv 0) pa_nil))) passU))) pa_nil)))), ?_⟩
    refine ⟨_, rfl, c, rfl, ⟨_, SqT.of hc⟩, fun D hD => lc_tup (K := K) (a := c) (xs := xs) (fun i H' => Same H H' ∧ H' D = some (.lst ((ans p n l (m.take i)).map V.int))) ⟨same_new hD, upd_same⟩ (fun i H' _ z => SqT.of (z.1 _ _ hc)) ?_ ?_⟩
    · rintro i x H1 hx ⟨s1, e1⟩
      obtain ⟨r, hr1, fr⟩ := paired_at hP hx
      refine ⟨rfl, _, rfl, _, rfl, _, rfl, p, n, x, v, r, l, rfl, (stb1 _ _ _ _ (TK.of s1) fr).ft, (stb1 _ _ _ _ (TK.of s1) hv).ft, hp, hm r (List.mem_of_getElem? hr1), hl, hn, fun H2 s2 => ⟨_, s2 _ _ e1, ?_, fun b o hb => ?_, ?_⟩⟩
      · unfold ans
        rw [List.length_map, List.length_map, List.length_take]
        exact small1000 (by omega)
      · rw [upd_ne (ne_of_none hb hD)]
        exact s2 _ _ (s1 _ _ hb)
      · unfold ans
        rw [upd_same, List.take_succ, hr1, List.map_append, List.map_append]
        rfl
    · rintro H1 ⟨s1, e1⟩
      rw [el, List.take_length] at e1
      exact ⟨D, _, rfl, .inl ⟨SqL.of e1, fun T hT => kk _ _ (s1.trans (same_new hT)) (T1.mk upd_same)⟩⟩
end
end WU

set_option maxRecDepth 100000
set_option maxHeartbeats 8000000
namespace WU
open PySem PySem.Spec PyProof.Rows L2
theorem erP {α : Type} : ∀ (l : List α) (j : Nat) (h : j < l.length), (l[j] :: l.eraseIdx j).Perm l
  | [], j, h => absurd h (Nat.not_lt_zero j)
  | x :: l, 0, h => .refl _
  | x :: l, j + 1, h => (List.Perm.swap x (l[j]'(Nat.lt_of_succ_lt_succ h)) (l.eraseIdx j)).trans ((erP l j (Nat.lt_of_succ_lt_succ h)).cons x)
theorem paired_er {α β : Type} {F : α → β → Prop} : ∀ {l : List α} {m : List β} (j : Nat), Paired F l m → Paired F (l.eraseIdx j) (m.eraseIdx j)
  | _, _, _, .nil => .nil
  | _, _, 0, .cons _ t => t
  | _, _, j + 1, .cons h t => .cons h (paired_er j t)
theorem ris_app : ∀ {l : List (List (List Int))} {m : List (List Int)}, Ris l → (∀ x ∈ l, ltM x m = true) → Ris (l ++ [m])
  | [], _, _, _ => trivial
  | [x], m, _, h => ⟨h x (by simp), trivial⟩
  | x :: y :: r, m, hr, h => ⟨hr.1, ris_app (l := y :: r) hr.2 fun z hz => h z (List.mem_cons_of_mem _ hz)⟩
section
variable {P : Program} {w : World} {K : PySem.W.Frag} {mg : Str → Option Value} {base : Heap} {S : Addr}
/-- _law_rising(rows): unlike matrices in a list -/
def spRs : Sp := fun vs H Q _ => ∃ (a : Addr) (xs : List V) (ms : List (List (List Int))), vs = [.ref a] ∧ H a = some (.lst xs) ∧ Paired (T2 H) xs ms ∧ ms.Nodup ∧ ms.length ≤ 100 ∧ ∀ y qs H', Same H H' → T3 H' y qs → Ris qs → qs.Perm ms → Q y H'
theorem sclaw_rising : FnScope ["rows", "left", "found", "step", "least", "k"] ["rows"] (defScope s_law_rising) := ⟨rfl, rfl, rfl, by decide +kernel, rfl, by decide +kernel, by decide +kernel⟩
theorem ok_Rs {f : Addr} {fd : FuncData} (F : FnS K "_law_rising" s_law_rising f fd) (B : Blt4 mg) : FnOk P w K mg base (L2.CX P w) 1 f fd ["rows"] spRs := by
  refine F.ok sclaw_rising (fun vs H Q E h => ?_) (fun cdv A outer s H vs Q E hr h => ?_)
  · obtain ⟨a, xs, ms, rfl, _⟩ := h
    rfl
  · obtain ⟨a, xs, ms, rfl, ha, hP, hnd, hl, kk⟩ := h
    have nd := sclaw_rising.nd
    have hu := hr.units
    have el := paired_len hP
    refine ⟨_, (pss_cons (ps_set (i := 1) nd rfl (Or.inl rfl) (pe_callTy (list_ofK (K := K)) (by rfl) B.lst (by decide +kernel) (pa_cons (pv 0) pa_nil)))
      (pss_cons (ps_set (i := 2) nd rfl (Or.inl rfl) (pe_lst pa_nil))
      (pss_cons (ps_for (passes_of rfl) rfl (pi_range1 rfl B.range (pa_cons (pe_callB (len_seqK (K := K)) (by rfl) B.len (by decide +kernel) (pa_cons (pv 0) pa_nil)) pa_nil)) (pg_name (i := 3) nd rfl (Or.inl rfl)) (pss_cons (ps_set (i := 4) nd rfl (Or.inl rfl) pe_int)
      (pss_cons (ps_for (passes_of rfl) rfl (pi_range2 rfl B.range (pa_cons pe_int (pa_cons (pe_callB (len_seqK (K := K)) (by rfl) B.len (by decide +kernel) (pa_cons (pv 1) pa_nil)) pa_nil))) (pg_name (i := 5) nd rfl (Or.inl rfl)) (pss_one (ps_if (pt_cmpR (op_ltD (K := K) hu) (pe_ix (ix_listK (K := K)) (pv 1) (pv 5) (fun _ _ => rfl)) (pe_ix (ix_listK (K := K)) (pv 1) (pv 4) (fun _ _ => rfl)) (nomark _)) (pss_one (ps_set (i := 4) nd rfl (Or.inl rfl) (pv 5))) pss_nil)))
      (pss_one (ps_expr (pe_bm PySem.F.plainAttrs_list PySem.F.slot_list_append PySem.F.type_list_append mt_append (pv 2) (pa_cons (pe_bm PySem.F.plainAttrs_list PySem.F.slot_list_pop PySem.F.type_list_pop mt_popAt (pv 1) (pa_cons (pv 4) pa_nil)) pa_nil)))))))
      (pss_one (ps_ret (pe_callTy (tup_ofK (K := K)) (by rfl) B.tuple (by decide +kernel) (pa_cons (pv 2) pa_nil))))))), ?_⟩
    refine ⟨_, rfl, a, xs, rfl, .inl (SqL.of ha), fun L hL => ?_⟩
    have s1 := same_new (o := .lst xs) hL
    have eL : upd H L (.lst xs) L = some (.lst xs) := upd_same
    generalize upd H L (.lst xs) = H1 at s1 eL ⊢
    refine ⟨(by show 0 ≤ sizeLine; decide), fun R hR => ?_⟩
    have s2 := s1.trans (same_new (o := .lst []) hR)
    have LR : L ≠ R := ne_of_none eL hR
    have nR : H R = none := by
      cases e : H R with
      | none => rfl
      | some o => rw [s1 _ _ e] at hR; cases hR
    have eL := same_new (o := .lst []) hR _ _ eL
    have eR : upd H1 R (.lst []) R = some (.lst []) := upd_same
    generalize upd H1 R (.lst []) = H2 at s2 eL eR ⊢
    refine ⟨_, rfl, a, xs, rfl, .inl (SqL.of (s2 _ _ ha)), (xs.length : Int), rfl, by omega, by omega, for_range (lo := 0) (n := xs.length) (fun i σ H' => ∃ (ls fs : List V) (ml mf : List (List (List Int))) (v3 v4 v5 : Option V), σ = [some (.ref a), some (.ref L), some (.ref R), v3, v4, v5] ∧ Same H H' ∧
      H' L = some (.lst ls) ∧ Paired (T2 H) ls ml ∧ H' R = some (.lst fs) ∧ Paired (T2 H) fs mf ∧ (mf ++ ml).Perm ms ∧ mf.length = i ∧ Ris mf ∧ ∀ x ∈ mf, ∀ y ∈ ml, ltM x y = true) ⟨xs, [], ms, [], none, none, none, rfl, s2, eL, hP, eR, .nil, .refl _, rfl, trivial, fun x hx => nomatch hx⟩ ?_ ?_⟩
    · rintro i σ H3 hi ⟨ls, fs, ml, mf, v3, v4, v5, rfl, s3, gL, pL, gR, pR, pm, lf, ri, lt⟩
      have ll := paired_len pL
      have lfs := paired_len pR
      have tot : mf.length + ml.length = ms.length := by rw [← List.length_append, pm.length_eq]
      have hml : 0 < ml.length := by omega
      refine ⟨_, rfl, L, ls, rfl, .inl (SqL.of gL), 1, (ls.length : Int), rfl, ⟨by decide, by decide, by omega, by omega⟩, for_range (lo := 1) (n := ((ls.length : Int) - 1).toNat) (fun k σ H' => ∃ (b : Nat) (v5 : Option V), σ = [some (.ref a), some (.ref L), some (.ref R), some (.int (0 + (i : Int))), some (.int (b : Int)), v5] ∧ H3 = H' ∧ b < ml.length ∧
        ∀ j mj mb, j ≤ k → ml[j]? = some mj → ml[b]? = some mb → ltM mj mb = false) ⟨0, v5, rfl, rfl, hml, fun j mj mb hj e1 e2 => by
          have : j = 0 := by omega
          subst this
          rw [e1] at e2
          cases e2
          exact ltM_irr _⟩ ?_ ?_⟩
      · rintro k σ H4 hk ⟨b, v5, rfl, rfl, hb, hmin⟩
        have hk2 : k + 1 < ml.length := by omega
        have e1 := List.getElem?_eq_getElem hk2
        have e2 := List.getElem?_eq_getElem hb
        obtain ⟨y1, hy1, f1⟩ := paired_of pL e1
        obtain ⟨y2, hy2, f2⟩ := paired_of pL e2
        rw [show (1 : Int) + (k : Int) = ((k + 1 : Nat) : Int) by omega]
        refine ⟨_, rfl, _, rfl, L, _, _, _, rfl, rfl, SqL.of gL, atI_nat hy1, _, rfl, _, rfl, L, _, _, _, rfl, rfl, SqL.of gL, atI_nat hy2, d2 _, d2 _, dt2 _ _ _ (stb2 _ _ _ _ (TK.of s3) f1), dt2 _ _ _ (stb2 _ _ _ _ (TK.of s3) f2), alike2 _ _, (by intro z; cases z), depth2 _, _, rfl, ?_⟩
        cases e : PySem.W.dataLt (d2 ml[k + 1]) (d2 ml[b]) with
        | true =>
          refine iteT ⟨_, rfl, k + 1, _, rfl, rfl, hk2, fun j mj mb hj g1 g2 => ?_⟩
          rw [e1] at g2
          cases g2
          by_cases hjk : j = k + 1
          · subst hjk
            rw [e1] at g1
            cases g1
            exact ltM_irr _
          · have q := hmin j mj _ (by omega) g1 e2
            cases z : ltM mj ml[k + 1] with
            | false => rfl
            | true => rw [ltM_tr z e] at q; cases q
        | false =>
          refine iteF ⟨b, _, rfl, rfl, hb, fun j mj mb hj g1 g2 => ?_⟩
          by_cases hjk : j = k + 1
          · subst hjk
            rw [e1] at g1
            cases g1
            rw [e2] at g2
            cases g2
            exact e
          · exact hmin j mj mb (by omega) g1 g2
      · rintro σ H4 ⟨b, v5, rfl, rfl, hb, hmin⟩
        have e2 := List.getElem?_eq_getElem hb
        obtain ⟨y2, hy2, f2⟩ := paired_of pL e2
        have hbl : b < ls.length := by omega
        refine ⟨_, rfl, .inl ⟨rfl, _, SqL.of gR⟩, _, rfl, .inl ⟨rfl, _, SqL.of gL⟩, _, rfl, L, ls, _, b, y2, rfl, rfl, gL, by omega, by omega, ?_, hy2, ?_⟩
        · have z := PySem.StrLaws.seqIndex_nonneg (i := (b : Int)) (n := ls.length) (by omega) (by omega)
          rw [z]
          rfl
        have gR2 : upd H3 L (.lst (ls.eraseIdx b)) R = some (.lst fs) := by rw [upd_ne LR.symm]; exact gR
        have pm1 := erP ml b hb
        have ndl : ml.Nodup := (List.nodup_append.mp (pm.nodup_iff.mpr hnd)).2.1
        have nd1 := pm1.nodup_iff.mpr ndl
        have sub : ∀ y ∈ ml.eraseIdx b, y ∈ ml := fun y hy => pm1.mem_iff.mp (List.mem_cons_of_mem _ hy)
        have mbm : ml[b] ∈ ml := List.getElem_mem hb
        refine ⟨R, fs, _, rfl, rfl, gR2, small1000 (by omega), ls.eraseIdx b, fs ++ [y2], ml.eraseIdx b, mf ++ [ml[b]], _, _, _, rfl, ?_, by rw [upd_ne LR]; exact upd_same, paired_er b pL, upd_same, paired_app pR (.cons f2 .nil), ?_, by rw [List.length_append, lf]; rfl, ris_app ri fun x hx => lt x hx _ mbm, ?_⟩
        · intro c o hc
          rw [upd_ne (ne_of_none hc nR), upd_ne (ne_of_none hc hL)]
          exact s3 _ _ hc
        · rw [List.append_assoc]
          exact ((pm1.append_left mf)).trans pm
        · intro x hx y hy
          rcases List.mem_append.mp hx with h | h
          · exact lt x h y (sub y hy)
          · rw [List.mem_singleton.mp h]
            obtain ⟨j, hj, ej⟩ := List.mem_iff_getElem.mp (sub y hy)
            have q := hmin j _ _ (by omega) (List.getElem?_eq_getElem hj) e2
            rw [ej] at q
            cases z : ltM ml[b] y with
            | true => rfl
            | false =>
              have := ltM_tot q z
              subst this
              exact absurd hy (List.nodup_cons.mp nd1).1
    · rintro σ H3 ⟨ls, fs, ml, mf, v3, v4, v5, rfl, s3, gL, pL, gR, pR, pm, lf, ri, lt⟩
      have tot : mf.length + ml.length = ms.length := by rw [← List.length_append, pm.length_eq]
      have e0 : ml = [] := List.length_eq_zero_iff.mp (by omega)
      subst e0
      rw [List.append_nil] at pm
      exact ⟨_, rfl, R, fs, rfl, .inl ⟨SqL.of gR, fun T hT => kk _ mf _ (s3.trans (same_new hT)) ⟨T, fs, rfl, upd_same, paired_mono (fun _ _ q => stb2 _ _ _ _ (TK.of (s3.trans (same_new hT))) q) pR⟩ ri pm⟩⟩
end
end WU

set_option maxRecDepth 100000
set_option maxHeartbeats 8000000
namespace WU
open PySem PySem.Spec PyProof.Rows L2
section
variable {P : Program} {w : World} {K : PySem.W.Frag} {mg : Str → Option Value} {base : Heap}
/-- the scope of the comprehension that is returned as a tuple -/
def lcScopeOf : Stmt → Scope
  | .FunctionDef _ _ [.Return (some (.Call _ [.ListComp _ _ sc _] _ _)) _] _ _ _ _ _ _ _ => sc
  | st => defScope st
theorem scBk : FnScope ["hand", "p", "count", "size", "k", "j"] ["hand", "p", "count", "size"] (defScope s_law_books) := ⟨rfl, rfl, rfl, by decide +kernel, rfl, by decide +kernel, by decide +kernel⟩
/-- r is a tuple of the books bs, each a tuple -/
def BkAt (H : Hp) (r : Addr) (bs : List (List Int)) : Prop := ∃ rs, H r = some (.tup rs) ∧ Paired (TB H) rs bs
def spBk : Sp := fun vs H Q _ => ∃ (a d : Addr) (p : Int) (c n : Nat), vs = [.ref a, .int p, .int c, .int n] ∧ HandAt H a d ∧ 0 < p ∧ c ≤ 100 ∧ n ≤ 100 ∧
  ∀ r bs H', BkAt H' r bs → bs.length = c → (∀ b ∈ bs, Ltr p n b) → HandAt H' a d → Keep a H H' → Q (.ref r) H'
theorem ok_Bk {f fT : Addr} {fd fdT : FuncData} (F : FnS K "_law_books" s_law_books f fd) (B : Blt3 mg) (CT : Cal P w K mg base 1 "_law_take" fT fdT ["hand", "many"] spTake) :
    FnOk P w K mg base (L2.CX P w) 2 f fd ["hand", "p", "count", "size"] spBk := by
  refine F.ok scBk (fun vs H Q E h => ?_) (fun cdv A outer s H vs Q E hr h => ?_)
  · obtain ⟨a, d, p, c, n, rfl, _⟩ := h
    rfl
  · obtain ⟨a, d, p, c, n, rfl, hH, hp, hc, hn, kk⟩ := h
    have nd := scBk.nd
    refine ⟨_, (pss_one (ps_ret (pe_callTy call_tuple_of (by rfl) B.tuple (by decide +kernel) (pa_cons
      (pe_lc (te := tCB (rTupOf K) (tCons (tLc (iRng1 (tCons (tVar 3) tNil)) (gName 5) tYes (tCall spTake [] E0 (tCons (tVar 0) (tCons (tVar 1) tNil))) [5]) tNil)) (own := [("k", 4)]) (g := gName 4) (by rfl) nd (pi_range1 rfl B.range (pa_cons (pv 2) pa_nil)) (blkOk_by (own := [("k", 4)]) (N := ["hand", "p", "count", "size", "k", "j"]) (sc := defScope s_law_books) (by decide +kernel)) (fun _ _ _ _ _ => pg_name (i := 4) nd rfl (Or.inl rfl)) (fun _ _ _ _ _ => pts_nil)
        (fun _ _ _ _ _ => (pe_callTy call_tuple_of (by rfl) B.tuple (by decide +kernel) (pa_cons
          (pe_lc (te := tCall spTake [] E0 (tCons (tVar 0) (tCons (tVar 1) tNil))) (own := [("j", 5)]) (g := gName 5) (by rfl) nd (pi_range1 rfl B.range (pa_cons (pv 3) pa_nil)) (blkOk_by (own := [("j", 5)]) (N := ["hand", "p", "count", "size", "k", "j"]) (sc := relS (lcScopeOf s_law_books) (defScope s_law_books)) (by decide +kernel)) (fun _ _ _ _ _ => pg_name (i := 5) nd rfl (Or.inl rfl)) (fun _ _ _ _ _ => pts_nil)
            (fun _ _ _ _ _ => (pe_cal CT hr (pa_cons (pv 0) (pa_cons (pv 1) pa_nil)) passU))) pa_nil)))) pa_nil)))), ?_⟩
    refine ⟨_, rfl, (c : Int), rfl, by omega, by omega, fun D hD => lc_range (lo := 0) (n := c)
      (fun i H' => HandAt H' a d ∧ Keep a H H' ∧ ∃ ts bs, H' D = some (.lst ts) ∧ Paired (TB H') ts bs ∧ bs.length = i ∧ ∀ b ∈ bs, Ltr p n b)
      ⟨hH.new hD, Keep.new hD, [], [], upd_same, .nil, rfl, fun b hb => by cases hb⟩ ?_ ?_⟩
    · rintro i H1 hi ⟨hH1, k1, ts, bs, eD, hts, el, all⟩
      refine ⟨rfl, _, rfl, (n : Int), rfl, by omega, by omega, fun D2 hD2 => lc_range (lo := 0) (n := n)
        (fun j H' => HandAt H' a d ∧ Keep a H1 H' ∧ ∃ ls : List Int, H' D2 = some (.lst (ls.map V.int)) ∧ ls.length = j ∧ ∀ l ∈ ls, 0 ≤ l ∧ l < p)
        ⟨hH1.new hD2, Keep.new hD2, [], upd_same, rfl, fun l hl => by cases hl⟩ ?_ ?_⟩
      · rintro j H2 hj ⟨hH2, k2, ls, e2, l2, a2⟩
        refine ⟨rfl, _, rfl, _, rfl, a, d, p, rfl, hp, hH2, fun r H3 r0 r1 hH3 k3 => ?_⟩
        have na2 : a ≠ D2 := (hH1.ne hD2).1
        have nd2 : d ≠ D2 := (hH1.ne hD2).2
        refine ⟨_, k3 _ _ na2.symm e2, by rw [List.length_map]; exact small1000 (by omega), hH3.put na2 nd2, fun b o hb e => ?_, ls ++ [r], by rw [upd_same, List.map_append]; rfl, by rw [List.length_append, l2]; rfl, fun l hl => ?_⟩
        · rw [upd_ne (ne_of_none e hD2)]
          exact k3 _ _ hb (k2 _ _ hb e)
        · rcases List.mem_append.mp hl with h | h
          · exact a2 l h
          · rw [List.mem_singleton.mp h]
            exact ⟨r0, r1⟩
      · rintro H2 ⟨hH2, k2, ls, e2, l2, a2⟩
        refine ⟨D2, _, rfl, .inl ⟨SqL.of e2, fun l hl => ?_⟩⟩
        have naD : a ≠ D := (hH.ne hD).1
        have ndD : d ≠ D := (hH.ne hD).2
        have e3 : H2 D = some (.lst ts) := k2 _ _ naD.symm eD
        have e4 := same_new (o := .tup (ls.map V.int)) hl _ _ e3
        have h4 := hH2.new (o := .tup (ls.map V.int)) hl
        have k4 : Keep a H1 (upd H2 l (.tup (ls.map V.int))) := k2.trans (Keep.new hl)
        have el4 : upd H2 l (.tup (ls.map V.int)) l = some (.tup (ls.map V.int)) := upd_same
        generalize upd H2 l (.tup (ls.map V.int)) = H4 at e4 h4 k4 el4 ⊢
        have tbs : ∀ {b ts0}, TB H4 b ts0 → TB (upd H4 D (.lst (ts ++ [.ref l]))) b ts0 := fun {b ts0} h => by
          obtain ⟨c, e, h⟩ := h
          exact ⟨c, e, by rw [upd_ne (ne_of h e4 (by intro z; cases z))]; exact h⟩
        have tb1 : ∀ {b ts0}, TB H1 b ts0 → TB H4 b ts0 := fun {b ts0} h => by
          obtain ⟨c, e, h⟩ := h
          obtain ⟨ds, i0, z1, _⟩ := hH1
          exact ⟨c, e, k4 _ _ (ne_of h z1 (by intro z; cases z)) h⟩
        have lt : ts.length < sizeLine := by
          rw [paired_len hts]
          exact small1000 (by omega)
        refine ⟨ts, e4, lt, h4.put naD ndD, fun b o hb e => ?_, ts ++ [.ref l], bs ++ [ls], upd_same, paired_app (paired_mono (fun _ _ q => tbs (tb1 q)) hts) (.cons (tbs ⟨l, rfl, el4⟩) .nil), by rw [List.length_append, el]; rfl, fun b hb => ?_⟩
        · rw [upd_ne (ne_of_none e hD)]
          exact k4 _ _ hb (k1 _ _ hb e)
        · rcases List.mem_append.mp hb with h | h
          · exact all b h
          · rw [List.mem_singleton.mp h]
            exact ⟨l2, a2⟩
    · rintro H1 ⟨hH1, k1, ts, bs, eD, hts, el, all⟩
      refine ⟨D, _, rfl, .inl ⟨SqL.of eD, fun r hr => ?_⟩⟩
      exact kk r bs _ ⟨ts, upd_same, paired_mono (fun _ _ q => q.same (same_new hr)) hts⟩ el all (hH1.new hr) (k1.trans (Keep.new hr))
end
end WU

set_option maxRecDepth 100000
set_option maxHeartbeats 8000000
namespace WU
open PySem PySem.Spec PyProof.Rows L2
/-- u and v: the same number, or tuples alike (to the depth n) -/
def EqV : Nat → Hp → V → V → Prop
  | 0, _, u, v => ∃ i, u = .int i ∧ v = .int i
  | n + 1, H, u, v => (∃ i, u = .int i ∧ v = .int i) ∨ ∃ a b xs ys, u = .ref a ∧ v = .ref b ∧ H a = some (.tup xs) ∧ H b = some (.tup ys) ∧ Paired (EqV n H) xs ys ∧ ys.length ≤ 10000
section
variable {P : Program} {w : World} {K : PySem.W.Frag} {mg : Str → Option Value} {base : Heap}
theorem scSm : FnScope ["found", "due", "at"] ["found", "due"] (defScope s_law_same) := ⟨rfl, rfl, rfl, by decide +kernel, rfl, by decide +kernel, by decide +kernel⟩
def spSmP (R : Hp → V → V → Prop) : Sp := fun vs H Q _ => ∃ u v, vs = [u, v] ∧ R H u v ∧ Q (.bl true) H
def spSm (n : Nat) : Sp := spSmP (EqV n)
/-- one step: where parts are told by R, numbers and tuples of such parts are -/
theorem ok_Sm1 {R : Hp → V → V → Prop} {k : Nat} {f : Addr} {fd : FuncData} (F : FnS K "_law_same" s_law_same f fd) (B : Blt3 mg) (C0 : Cal P w K mg base k "_law_same" f fd ["found", "due"] (spSmP R)) :
    FnOk P w K mg base (L2.CX P w) (k + 1) f fd ["found", "due"] (spSmP fun H u v => (∃ i, u = .int i ∧ v = .int i) ∨ ∃ a b xs ys, u = .ref a ∧ v = .ref b ∧ H a = some (.tup xs) ∧ H b = some (.tup ys) ∧ Paired (R H) xs ys ∧ ys.length ≤ 10000) := by
  refine F.ok scSm (fun vs H Q E h => ?_) (fun cdv A outer s H vs Q E hr h => ?_)
  · obtain ⟨u, v, rfl, _⟩ := h
    rfl
  · obtain ⟨u, v, rfl, he, kk⟩ := h
    have nd := scSm.nd
    refine ⟨_, (pss_cons (ps_if (pt_val (pe_callB call_isi (by rfl) B.isi (by decide +kernel) (pa_cons (pv 1) (pa_cons (pe_bltn (v := .ty "tuple") (by rfl) B.tuple (by decide +kernel) rfl) pa_nil)))) (pss_cons (ps_if (PW.pt (pw_or (pt_not (pt_val (pe_callB call_isi (by rfl) B.isi (by decide +kernel) (pa_cons (pv 0) (pa_cons (pe_bltn (v := .ty "tuple") (by rfl) B.tuple (by decide +kernel) rfl) pa_nil))))) (pw_or1 (pt_cmpR op_ne (pe_callB call_len_seq (by rfl) B.len (by decide +kernel) (pa_cons (pv 0) pa_nil)) (pe_callB call_len_seq (by rfl) B.len (by decide +kernel) (pa_cons (pv 1) pa_nil)) (nomark _))))) (pss_one (ps_ret pe_bl)) pss_nil)
      (pss_cons (ps_for (passes_of rfl) rfl (pi_range1 rfl B.range (pa_cons (pe_callB call_len_seq (by rfl) B.len (by decide +kernel) (pa_cons (pv 1) pa_nil)) pa_nil)) (pg_name (i := 2) nd rfl (Or.inl rfl)) (pss_one (ps_if (pt_not (pt_val (pe_cal C0 hr (pa_cons (pe_ix ix_tup (pv 0) (pv 2) (fun _ _ => rfl)) (pa_cons (pe_ix ix_tup (pv 1) (pv 2) (fun _ _ => rfl)) pa_nil)) passU))) (pss_one (ps_ret pe_bl)) pss_nil)))
      (pss_one (ps_ret pe_bl)))) pss_nil)
      (pss_one (ps_ret (pe_and (pe_callB call_isi (by rfl) B.isi (by decide +kernel) (pa_cons (pv 0) (pa_cons (pe_bltn (v := .ty "int") (by rfl) B.int (by decide +kernel) rfl) pa_nil))) (pe_and (pe_not (pe_callB call_isi (by rfl) B.isi (by decide +kernel) (pa_cons (pv 0) (pa_cons (pe_bltn (v := .ty "bool") (by rfl) B.bool (by decide +kernel) rfl) pa_nil)))) (pe_one (pe_cmpR op_eq (pv 0) (pv 1) (nomark _)))))))), ?_⟩
    rcases he with ⟨i, rfl, rfl⟩ | ⟨a, b, xs, ys, rfl, rfl, ha, hb, hP, hl⟩
    · refine ⟨_, rfl, _, _, _, _, _, rfl, .ty "tuple", .base (.int i), kit_ty (show kitB "int" "tuple" = some false by decide +kernel), _, rfl, iteF ?_⟩
      refine ⟨_, rfl, _, _, _, _, _, rfl, .ty "int", .base (.int i), kit_ty (show kitB "int" "int" = some true by decide +kernel), _, rfl, iteT ?_⟩
      refine ⟨_, rfl, _, _, _, _, _, rfl, .ty "bool", .base (.int i), kit_ty (show kitB "int" "bool" = some false by decide +kernel), _, rfl, _, rfl, iteT ⟨_, rfl, _, rfl, rfl, ?_⟩⟩
      rw [decide_eq_true rfl]
      exact kk
    · have el := paired_len hP
      refine ⟨_, rfl, _, _, _, _, _, rfl, .ty "tuple", .base (.tup hb), kit_ty (show kitB "tuple" "tuple" = some true by decide +kernel), _, rfl, iteT ?_⟩
      refine ⟨_, rfl, _, _, _, _, _, rfl, .ty "tuple", .base (.tup ha), kit_ty (show kitB "tuple" "tuple" = some true by decide +kernel), _, rfl, iteF ?_⟩
      refine ⟨_, rfl, a, _, rfl, .inr (SqT.of ha), _, rfl, b, _, rfl, .inr (SqT.of hb), rfl, _, rfl, iteFb (by rw [decide_eq_true (congrArg (fun n : Nat => V.int n) el)]; rfl) ?_⟩
      refine ⟨_, rfl, b, _, rfl, .inr (SqT.of hb), (ys.length : Int), rfl, by omega, by omega, for_range (lo := 0) (n := ys.length) (fun i σ H' => ∃ x, σ = [some (.ref a), some (.ref b), x] ∧ H' = H) ⟨none, rfl, rfl⟩ ?_ ?_⟩
      · rintro i σ H' hi ⟨x, rfl, rfl⟩
        have hy : ys[i]? = some ys[i] := List.getElem?_eq_getElem hi
        obtain ⟨u, hx, r⟩ := paired_of hP hy
        rw [show ((0 : Int) + (i : Int)) = ((i : Nat) : Int) from Int.zero_add _]
        refine ⟨_, rfl, _, rfl, a, xs, (i : Int), u, rfl, rfl, SqT.of ha, atI_nat hx, _, rfl, _, rfl, b, ys, (i : Int), _, rfl, rfl, SqT.of hb, atI_nat hy, u, _, rfl, r, _, rfl, iteF ⟨_, rfl, rfl⟩⟩
      · rintro σ H' ⟨x, rfl, rfl⟩
        exact kk
/-- whole values, to the depth n -/
theorem ok_Sm {f : Addr} {fd : FuncData} (F : FnS K "_law_same" s_law_same f fd) (B : Blt3 mg) (g : mg "_law_same" = some (.ref f)) (hb : L2.Binds K fd ["found", "due"] []) : ∀ n, FnOk P w K mg base (L2.CX P w) (n + 1) f fd ["found", "due"] (spSm n)
  | 0 => by
    have e : FnOk P w K mg base (L2.CX P w) 0 f fd ["found", "due"] (spSmP fun _ _ _ => False) := ⟨fun vs H Q E ⟨_, _, _, z, _⟩ => z.elim, fun A outer s H args us vs Q E _ _ _ _ ⟨_, _, _, z, _⟩ => z.elim⟩
    exact (ok_Sm1 F B ⟨g, F.kp, hb, e⟩).imp fun vs H Q E ⟨u, v, e, h, q⟩ => ⟨u, v, e, .inl h, q⟩
  | n + 1 => ok_Sm1 F B ⟨g, F.kp, hb, ok_Sm F B g hb n⟩
end
end WU

set_option maxRecDepth 100000
set_option maxHeartbeats 8000000
namespace WU
open PySem PySem.Spec PyProof.Rows L2
theorem eqv_FI {H : Hp} {u v : V} {z : Int} (a : FI H u z) (b : FI H v z) : EqV 0 H u v := ⟨z, a, b⟩
theorem eqv_TF {α : Type} {F : Hp → V → α → Prop} {B : α → Prop} {n : Nat} {H : Hp} (hF : ∀ u v z, B z → F H u z → F H v z → EqV n H u v) {u v : V} {l : List α} (a : TF F H u l) (b : TF F H v l) (hB : ∀ z ∈ l, B z) (hl : l.length ≤ 10000) : EqV (n + 1) H u v := by
  obtain ⟨c, xs, rfl, hc, hp⟩ := a
  obtain ⟨d, ys, rfl, hd, hq⟩ := b
  have pr : ∀ {xs ys : List V} {l : List α}, Paired (F H) xs l → Paired (F H) ys l → (∀ z ∈ l, B z) → Paired (EqV n H) xs ys := by
    intro xs ys l h
    induction h generalizing ys with
    | nil => intro k _; cases k; exact .nil
    | cons h t ih =>
      intro k hb
      cases k with
      | cons h2 t2 => exact .cons (hF _ _ _ (hb _ List.mem_cons_self) h h2) (ih t2 fun z hz => hb z (List.mem_cons_of_mem _ hz))
  exact .inr ⟨c, d, xs, ys, rfl, rfl, hc, hd, pr hp hq hB, by rw [paired_len hq]; exact hl⟩
theorem eqv1 {H : Hp} {u v : V} {r : List Int} (a : T1 H u r) (b : T1 H v r) (h : r.length ≤ 10000) : EqV 1 H u v := eqv_TF (B := fun _ => True) (fun _ _ _ _ => eqv_FI) a b (fun _ _ => True.intro) h
theorem eqv2 {H : Hp} {u v : V} {m : List (List Int)} (a : T2 H u m) (b : T2 H v m) (hr : ∀ r ∈ m, r.length ≤ 10000) (h : m.length ≤ 10000) : EqV 2 H u v := eqv_TF (B := fun r => r.length ≤ 10000) (fun _ _ _ hb x y => eqv1 x y hb) a b hr h
theorem eqv3 {H : Hp} {u v : V} {q : List (List (List Int))} (a : T3 H u q) (b : T3 H v q) (hm : ∀ m ∈ q, m.length ≤ 10000 ∧ ∀ r ∈ m, r.length ≤ 10000) (h : q.length ≤ 10000) : EqV 3 H u v :=
  eqv_TF (B := fun m => m.length ≤ 10000 ∧ ∀ r ∈ m, r.length ≤ 10000) (fun _ _ _ hb x y => eqv2 x y hb.2 hb.1) a b hm h
end WU

set_option maxRecDepth 100000
set_option maxHeartbeats 8000000
namespace WU
open PySem PySem.Spec PyProof.Rows L2
theorem op_notInDK {X : Cx} {K : PySem.W.Frag} (hu : X.A.units + 65 < cLine) (hK : X.K = K := by rfl) : OpR X (compareOp .NotIn) (rNotInD K) := hK ▸ op_notInD hu
def asgLc : Stmt → Scope
  | .For _ _ (.Assign _ (.ListComp _ _ sc _) _ :: _) _ _ => sc
  | st => defScope st
/-- numbers drawn into the list at D, from the hand -/
def Drh (a d : Addr) (p : Int) (H1 : Hp) (D : Addr) (i : Nat) (H' : Hp) : Prop := ∃ ys : List Int, H' D = some (.lst (ys.map V.int)) ∧ Ltr p i ys ∧ HandAt H' a d ∧ Keep a H1 H'
theorem Drh.start {a d D : Addr} {p : Int} {H1 : Hp} (hh : HandAt H1 a d) (hD : H1 D = none) : Drh a d p H1 D 0 (upd H1 D (.lst [])) := ⟨[], upd_same, ⟨rfl, (fun y h => nomatch h)⟩, hh.new hD, Keep.new hD⟩
theorem Drh.put {a d D : Addr} {p r : Int} {i : Nat} {H1 H' H'' : Hp} (x : Drh a d p H1 D i H') (hD : H1 D = none) (hh1 : HandAt H1 a d) (hi : i ≤ 1000) (hh : HandAt H'' a d) (k : Keep a H' H'') (r0 : 0 ≤ r) (r1 : r < p) :
    ∃ acc, H'' D = some (.lst acc) ∧ acc.length < sizeLine ∧ Drh a d p H1 D (i + 1) (upd H'' D (.lst (acc ++ [.int r]))) := by
  obtain ⟨ys, e, ⟨l, b⟩, _, k1⟩ := x
  have ne := hh1.ne hD
  refine ⟨_, k D _ ne.1.symm e, by rw [List.length_map]; exact small1000 (by omega), ys ++ [r], by rw [upd_same, List.map_append]; rfl, ⟨by rw [List.length_append, l]; rfl, fun y hy => ?_⟩, hh.put ne.1 ne.2, fun c u hc ec => ?_⟩
  · rcases List.mem_append.mp hy with h | h
    · exact b y h
    · rw [List.mem_singleton.mp h]
      exact ⟨r0, r1⟩
  · rw [upd_ne (ne_of_none ec hD)]
    exact k c u hc (k1 c u hc ec)
end WU

set_option maxRecDepth 100000
set_option maxHeartbeats 8000000
namespace WU
open PySem PySem.Spec PyProof.Rows L2
theorem canI : ∀ r : List Int, PyData.canLayAll0 (r.map PyData.int) = true
  | [] => rfl
  | x :: r => by
    rw [List.map_cons, PyData.canLayAll0, canI r]
    rfl
theorem canR : ∀ m : List (List Int), PyData.canLayAll0 (m.map d1) = true
  | [] => rfl
  | r :: m => by
    rw [List.map_cons, PyData.canLayAll0, canR m, Bool.and_true]
    show PyData.canLay0 (.tuple _) = true
    rw [PyData.canLay0]
    exact canI r
theorem canM : ∀ q : List (List (List Int)), PyData.canLayAll0 (q.map d2) = true
  | [] => rfl
  | m :: q => by
    rw [List.map_cons, PyData.canLayAll0, canM q, Bool.and_true]
    show PyData.canLay0 (.tuple _) = true
    rw [PyData.canLay0]
    exact canR m
theorem depthM : ∀ q : List (List (List Int)), PyData.depthAll (q.map d2) ≤ 60
  | [] => by simp [PyData.depthAll]
  | m :: q => by
    have h1 := depthM q
    have h2 := depth2 m
    simp only [List.map_cons, PyData.depthAll]
    omega
theorem shaped2 (m : List (List Int)) : SeqAt.shaped (d2 m) = true := by
  show ((PyData.tuple _).canLay0 && decide ((d2 m).depth ≤ 64)) = true
  rw [PyData.canLay0, canR, decide_eq_true (Nat.le_trans (depth2 m) (by decide))]
  rfl
theorem shapedL (q : List (List (List Int))) : SeqAt.shaped (.list (q.map d2)) = true := by
  show ((PyData.list _).canLay0 && decide ((PyData.list _).depth ≤ 64)) = true
  rw [PyData.canLay0, canM, PyData.depth, decide_eq_true (by have := depthM q; omega)]
  rfl
theorem eqvI : ∀ r : List Int, PyData.eqvAll (r.map PyData.int) (r.map PyData.int) = true
  | [] => by simp [PyData.eqvAll]
  | x :: r => by simp [PyData.eqvAll, PyData.eqv, eqvI r]
theorem eqvR : ∀ m : List (List Int), PyData.eqvAll (m.map d1) (m.map d1) = true
  | [] => by simp [PyData.eqvAll]
  | r :: m => by simp [PyData.eqvAll, d1, PyData.eqv, eqvI r, eqvR m]
theorem eqv2r (m : List (List Int)) : PyData.eqv (d2 m) (d2 m) = true := by simp [d2, PyData.eqv, eqvR m]
section
variable {P : Program} {w : World} {K : PySem.W.Frag} {mg : Str → Option Value} {base : Heap} {S : Addr}
/-- _law_questions(hand, p, columns) -/
def spLQ : Sp := fun vs H Q _ => ∃ (a d : Addr) (p : Int) (n : Nat), vs = [.ref a, .int p, .int n] ∧ HandAt H a d ∧ 0 < p ∧ n ≤ 100 ∧ ∀ y qs H', T3 H' y qs → Ris qs → 0 < qs.length → qs.length ≤ 14 → (∀ m ∈ qs, m.length ≤ 2 ∧ ∀ r ∈ m, Ltr p n r) → HandAt H' a d → Keep a H H' → Q y H'
theorem sclaw_questions : FnScope ["hand", "p", "columns", "found", "many", "k", "rows", "one", "j"] ["hand", "p", "columns"] (defScope s_law_questions) := ⟨rfl, rfl, rfl, by decide +kernel, rfl, by decide +kernel, by decide +kernel⟩
theorem ok_LQ {f f1 f2 : Addr} {fd fd1 fd2 : FuncData} (F : FnS K "_law_questions" s_law_questions f fd) (B : Blt4 mg) (CT : Cal P w K mg base 1 "_law_take" f1 fd1 ["hand", "many"] spTake) (CRs : Cal P w K mg base 1 "_law_rising" f2 fd2 ["rows"] spRs) : FnOk P w K mg base (L2.CX P w) 2 f fd ["hand", "p", "columns"] spLQ := by
  refine F.ok sclaw_questions (fun vs H Q E h => ?_) (fun cdv A outer s H vs Q E hr h => ?_)
  · obtain ⟨a, d, p, n, rfl, _⟩ := h
    rfl
  · obtain ⟨a, d, p, n, rfl, hh, hp, hn, kk⟩ := h
    have nd := sclaw_questions.nd
    have hu : (A.deeper (envOfC "_law_questions" (defScope s_law_questions) s.heap.objs.size f cdv)).units + 65 < cLine := by have := hr.un; omega
    refine ⟨_, (pss_cons (ps_set (i := 3) nd rfl (Or.inl rfl) (pe_lst pa_nil))
      (pss_cons (ps_set (i := 4) nd rfl (Or.inl rfl) (pe_ix (ix_listK (K := K)) (pe_lst (pa_cons (pe_op op_add pe_int (pe_cal CT (hr.mono (by decide)) (pa_cons (pv 0) (pa_cons pe_int pa_nil)) passU)) (pa_cons (pe_op op_add pe_int (pe_cal CT (hr.mono (by decide)) (pa_cons (pv 0) (pa_cons pe_int pa_nil)) passU)) pa_nil))) (pe_op op_fdivN (pe_cal CT (hr.mono (by decide)) (pa_cons (pv 0) (pa_cons pe_int pa_nil)) passU) pe_int) (fun _ _ => rfl)))
      (pss_cons (ps_for (passes_of rfl) rfl (pi_range1 rfl B.range (pa_cons (pv 4) pa_nil)) (pg_name (i := 5) nd rfl (Or.inl rfl)) (pss_cons (ps_setLc (i := 6) (own := [("one", 7)]) (g := gName 7) (by rfl) nd rfl rfl (sw_true rfl rfl rfl (by decide +kernel)) (pi_range1 rfl B.range (pa_cons (pe_cal CT (hr.mono (by decide)) (pa_cons (pv 0) (pa_cons pe_int pa_nil)) passU) pa_nil)) (blkOk_by (own := [("one", 7)]) (N := ["hand", "p", "columns", "found", "many", "k", "rows", "one", "j"]) (sc := defScope s_law_questions) (by decide +kernel)) (fun _ _ _ _ _ => (pg_name (i := 7) nd rfl (Or.inl rfl))) (fun _ _ _ _ _ => pts_nil) (fun _ _ _ _ _ => (pe_callTy (tup_ofK (K := K)) (by rfl) B.tuple (by decide +kernel) (pa_cons (pe_lc (own := [("j", 8)]) (g := gName 8) (by rfl) nd (pi_range1 rfl B.range (pa_cons (pv 2) pa_nil)) (blkOk_by (own := [("j", 8)]) (N := ["hand", "p", "columns", "found", "many", "k", "rows", "one", "j"]) (sc := relS (asgLc ((defBody s_law_questions).getD 2 (.Pass ⟨0, 0, 0, 0⟩))) (defScope s_law_questions)) (by decide +kernel)) (fun _ _ _ _ _ => (pg_name (i := 8) nd rfl (Or.inl rfl))) (fun _ _ _ _ _ => pts_nil) (fun _ _ _ _ _ => (pe_cal CT (hr.mono (by decide)) (pa_cons (pv 0) (pa_cons (pv 1) pa_nil)) passU))) pa_nil))))
      (pss_one (ps_if (pt_cmpR (op_notInDK (K := K) hu) (pe_callTy (tup_ofK (K := K)) (by rfl) B.tuple (by decide +kernel) (pa_cons (pv 6) pa_nil)) (pv 3) rfl) (pss_one (ps_expr (pe_bm PySem.F.plainAttrs_list PySem.F.slot_list_append PySem.F.type_list_append mt_append (pv 3) (pa_cons (pe_callTy (tup_ofK (K := K)) (by rfl) B.tuple (by decide +kernel) (pa_cons (pv 6) pa_nil)) pa_nil)))) pss_nil))))
      (pss_one (ps_ret (pe_cal CRs (hr.mono (by decide)) (pa_cons (pv 3) pa_nil) passU)))))), ?_⟩
    refine ⟨(by show 0 ≤ sizeLine; decide), fun R hR => ?_⟩
    have na := hh.ne hR
    have hh1 := hh.new (o := .lst []) hR
    have k1 : Keep a H (upd H R (.lst [])) := Keep.new hR
    have eR : upd H R (.lst []) R = some (.lst []) := upd_same
    generalize upd H R (.lst []) = H1 at hh1 k1 eR ⊢
    refine ⟨_, rfl, a, d, 3, rfl, by decide, hh1, fun r1 H2 r10 r11 hh2 k2 => ?_⟩
    refine ⟨_, _, rfl, rfl, _, rfl, a, d, 3, rfl, by decide, hh2, fun r2 H3 r20 r21 hh3 k3 => ?_⟩
    refine ⟨_, _, rfl, rfl, (by show 2 ≤ sizeLine; decide), fun q nq => ?_⟩
    have eR := same_new (o := .lst [.int (1 + r1), .int (11 + r2)]) nq _ _ (k3 _ _ na.1.symm (k2 _ _ na.1.symm eR))
    have nqa := hh3.ne nq
    have hh4 := hh3.new (o := .lst [.int (1 + r1), .int (11 + r2)]) nq
    have k4 : Keep a H1 (upd H3 q (.lst [.int (1 + r1), .int (11 + r2)])) := (k2.trans k3).trans (Keep.new nq)
    have eq : upd H3 q (.lst [.int (1 + r1), .int (11 + r2)]) q = some (.lst [.int (1 + r1), .int (11 + r2)]) := upd_same
    generalize upd H3 q (.lst [.int (1 + r1), .int (11 + r2)]) = H4 at eR hh4 k4 eq ⊢
    refine ⟨_, rfl, a, d, 8, rfl, by decide, hh4, fun r3 H5 r30 r31 hh5 k5 => ?_⟩
    have eR := k5 _ _ na.1.symm eR
    have eq := k5 _ _ nqa.1.symm eq
    have k5 := k1.trans (k4.trans k5)
    refine ⟨_, _, rfl, rfl, ⟨by decide, by decide⟩, ?_⟩
    obtain ⟨g, g0, g14, hg⟩ : ∃ g : Nat, 0 < g ∧ g ≤ 14 ∧ ∀ Q' : VK, Q' (.int (g : Int)) H5 → rIxL K (.ref q) (.int (r3.fdiv 7)) H5 Q' := by
      have hd : r3.fdiv 7 = 0 ∨ r3.fdiv 7 = 1 := by
        have := Int.fdiv_eq_ediv_of_nonneg r3 (show (0 : Int) ≤ 7 by decide)
        omega
      rcases hd with e | e
      · rw [e]
        exact ⟨(1 + r1).toNat, by omega, by omega, fun Q' h => ⟨q, _, 0, _, rfl, rfl, SqL.of eq, rfl, by rw [show (((1 + r1).toNat : Nat) : Int) = 1 + r1 by omega] at h; exact h⟩⟩
      · rw [e]
        exact ⟨(11 + r2).toNat, by omega, by omega, fun Q' h => ⟨q, _, 1, _, rfl, rfl, SqL.of eq, rfl, by rw [show (((11 + r2).toNat : Nat) : Int) = 11 + r2 by omega] at h; exact h⟩⟩
    refine hg _ ?_
    refine ⟨_, rfl, (g : Int), rfl, by omega, by omega, for_range (lo := 0) (n := g) (fun i σ H' => ∃ (fs : List V) (ms : List (List (List Int))) (v5 v6 : Option V), σ = [some (.ref a), some (.int p), some (.int (n : Int)), some (.ref R), some (.int (g : Int)), v5, v6, none, none] ∧ H' R = some (.lst fs) ∧ Paired (T2 H') fs ms ∧
      ms.Nodup ∧ ms.length ≤ i ∧ (0 < i → 0 < ms.length) ∧ (∀ m ∈ ms, m.length ≤ 2 ∧ ∀ r ∈ m, Ltr p n r) ∧ HandAt H' a d ∧ Keep a H H') ⟨[], [], none, none, rfl, eR, .nil, List.nodup_nil, Nat.le_refl _, fun z => absurd z (by decide), (fun m z => nomatch z), hh5, k5⟩ ?_ ?_⟩
    · rintro i σ H6 hi ⟨fs, ms, v5, v6, rfl, gR, pR, nd6, l6, z6, ok6, hh6, k6⟩
      refine ⟨_, rfl, a, d, 3, rfl, by decide, hh6, fun c H7 c0 c1 hh7 k7 => ?_⟩
      obtain ⟨c, rfl⟩ : ∃ c' : Nat, c = (c' : Int) := ⟨c.toNat, by omega⟩
      have lh : ∃ ds i0, H6 a = some (.lst [.ref d, .int i0]) ∧ H6 d = some (.lst ds) := by obtain ⟨ds, i0, x1, x2, _⟩ := id hh6; exact ⟨_, _, x1, x2⟩
      obtain ⟨_, i0, ha6, _⟩ := lh
      have tk7 : TK H6 H7 := TK.keep k7 ha6 fun xs z => nomatch z
      have gR := k7 _ _ na.1.symm gR
      have pR := paired_mono (fun _ _ x => stb2 _ _ _ _ tk7 x) pR
      refine ⟨(c : Int), rfl, by omega, by omega, fun D hD => lc_range (lo := 0) (n := c) (fun j H' => ∃ ys rows, H' D = some (.lst ys) ∧ Paired (T1 H') ys rows ∧ rows.length = j ∧ (∀ r ∈ rows, Ltr p n r) ∧ HandAt H' a d ∧ Keep a H7 H') ⟨[], [], upd_same, .nil, rfl, (fun r z => nomatch z), hh7.new hD, Keep.new hD⟩ ?_ ?_⟩
      · rintro j H8 hj ⟨ys, rows, eD, pD, lr, okr, hh8, k8⟩
        have nD := hh7.ne hD
        refine ⟨rfl, _, rfl, (n : Int), rfl, by omega, by omega, fun D2 hD2 => lc_range (lo := 0) (n := n) (fun m H' => Drh a d p H8 D2 m H') (Drh.start hh8 hD2) ?_ ?_⟩
        · intro m H9 hm dr
          obtain ⟨_, _, _, hq9, _⟩ := id dr
          exact ⟨rfl, _, rfl, _, rfl, a, d, p, rfl, hp, hq9, fun r H10 r0 r1 hh10 k10 => dr.put hD2 hh8 (by omega) hh10 k10 r0 r1⟩
        · rintro H9 ⟨ys2, e2, ltr, hh9, k9⟩
          refine ⟨D2, _, rfl, .inl ⟨SqL.of e2, fun T hT => ?_⟩⟩
          obtain ⟨ds8, i8, ha8, _⟩ := id hh8
          have eD9 := k9 _ _ nD.1.symm eD
          have tk9 : TK H8 (upd H9 T (.tup (ys2.map V.int))) := (TK.keep k9 ha8 fun xs z => nomatch z).trans (TK.new hT)
          have eD10 := same_new (o := .tup (ys2.map V.int)) hT _ _ eD9
          have hh10 := hh9.new (o := .tup (ys2.map V.int)) hT
          have t1 : T1 (upd H9 T (.tup (ys2.map V.int))) (.ref T) ys2 := T1.mk upd_same
          have k10 : Keep a H8 (upd H9 T (.tup (ys2.map V.int))) := k9.trans (Keep.new hT)
          generalize upd H9 T (.tup (ys2.map V.int)) = H10 at tk9 eD10 hh10 t1 k10 ⊢
          have tkp : TK H10 (upd H10 D (.lst (ys ++ [.ref T]))) := TK.put eD10 fun xs z => nomatch z
          refine ⟨ys, eD10, by rw [paired_len pD, lr]; exact small1000 (by omega), ys ++ [.ref T], rows ++ [ys2], upd_same, paired_app (paired_mono (fun _ _ x => stb1 _ _ _ _ (tk9.trans tkp) x) pD) (.cons (stb1 _ _ _ _ tkp t1) .nil), by rw [List.length_append, lr]; rfl, fun r hr2 => ?_, hh10.put nD.1 nD.2, fun b u hb eb => ?_⟩
          · rcases List.mem_append.mp hr2 with h | h
            · exact okr r h
            · rw [List.mem_singleton.mp h]
              exact ltr
          · rw [upd_ne (ne_of_none eb hD)]
            exact k10 b u hb (k8 b u hb eb)
      · rintro H8 ⟨ys, rows, eD, pD, lr, okr, hh8, k8⟩
        have lh8 : ∃ o, H7 a = some (.lst o) := by obtain ⟨ds8, i8, x1, _⟩ := id hh7; exact ⟨_, x1⟩
        obtain ⟨_, ha7⟩ := lh8
        have gR := k8 _ _ na.1.symm gR
        have pR := paired_mono (fun _ _ x => stb2 _ _ _ _ (TK.keep k8 ha7 fun xs z => nomatch z) x) pR
        have k8 := k6.trans (k7.trans k8)
        refine ⟨_, rfl, D, _, rfl, .inl ⟨SqL.of eD, fun T hT => ?_⟩⟩
        have t2 : T2 (upd H8 T (.tup ys)) (.ref T) rows := ⟨T, ys, rfl, upd_same, paired_mono (fun _ _ x => stb1 _ _ _ _ (TK.new hT) x) pD⟩
        have sT := same_new (o := .tup ys) hT
        generalize upd H8 T (.tup ys) = H9 at t2 sT ⊢
        have gR := sT _ _ gR
        have eD := sT _ _ eD
        have pR := paired_mono (fun _ _ x => stb2 _ _ _ _ (TK.of sT) x) pR
        have pD := paired_mono (fun _ _ x => stb1 _ _ _ _ (TK.of sT) x) pD
        have hh9 := hh8.same sT
        have k9 := k8.trans (Keep.of sT)
        refine ⟨_, rfl, d2 rows, ms.map d2, dt2 _ _ _ t2, .lst (SqL.of gR) (dt_all dt2 pR), shaped2 _, shapedL _, _, rfl, ?_⟩
        cases e : (ms.map d2).any fun z => PyData.eqv z (d2 rows) with
        | true =>
          refine iteF ⟨fs, ms, _, _, rfl, gR, pR, nd6, by omega, fun _ => ?_, ok6, hh9, k9⟩
          cases ms with
          | nil => cases e
          | cons m r => exact Nat.succ_pos _
        | false =>
          have nin : rows ∉ ms := fun hm => by
            have z := List.any_eq_false.mp e (d2 rows) (List.mem_map_of_mem hm)
            exact z (eqv2r rows)
          refine iteT ⟨_, rfl, .inl ⟨rfl, _, SqL.of gR⟩, _, rfl, D, _, rfl, .inl ⟨SqL.of eD, fun T2' hT2 => ?_⟩⟩
          have gR2 := same_new (o := .tup ys) hT2 _ _ gR
          have pR2 := paired_mono (fun _ _ x => stb2 _ _ _ _ (TK.new (u := .tup ys) hT2) x) pR
          have t3 : T2 (upd H9 T2' (.tup ys)) (.ref T2') rows := ⟨T2', ys, rfl, upd_same, paired_mono (fun _ _ x => stb1 _ _ _ _ (TK.new hT2) x) pD⟩
          have hh10 := hh9.new (o := .tup ys) hT2
          have k10 := k9.trans (Keep.new (o := .tup ys) hT2)
          generalize upd H9 T2' (.tup ys) = H10 at gR2 pR2 t3 hh10 k10 ⊢
          have tkp : TK H10 (upd H10 R (.lst (fs ++ [.ref T2']))) := TK.put gR2 fun xs z => nomatch z
          refine ⟨R, fs, _, rfl, rfl, gR2, by rw [paired_len pR2]; exact small1000 (by omega), fs ++ [.ref T2'], ms ++ [rows], _, _, rfl, upd_same, paired_app (paired_mono (fun _ _ x => stb2 _ _ _ _ tkp x) pR2) (.cons (stb2 _ _ _ _ tkp t3) .nil), ?_, by rw [List.length_append]; show ms.length + 1 ≤ i + 1; omega, fun _ => by rw [List.length_append]; exact Nat.succ_pos _, fun m hm => ?_, hh10.put na.1 na.2, fun b u hb eb => ?_⟩
          · refine List.nodup_append.mpr ⟨nd6, by simp, fun x hx y hy => ?_⟩
            rw [List.mem_singleton.mp hy]
            exact fun z => nin (z ▸ hx)
          · rcases List.mem_append.mp hm with h | h
            · exact ok6 m h
            · rw [List.mem_singleton.mp h]
              exact ⟨by omega, okr⟩
          · rw [upd_ne (ne_of_none eb hR)]
            exact k10 b u hb eb
    · rintro σ H6 ⟨fs, ms, v5, v6, rfl, gR, pR, nd6, l6, z6, ok6, hh6, k6⟩
      refine ⟨_, rfl, R, fs, ms, rfl, gR, pR, nd6, by omega, fun y qs H7 s7 t7 ri pm => ?_⟩
      exact kk y qs H7 t7 ri (by rw [pm.length_eq]; exact z6 g0) (by rw [pm.length_eq]; omega) (fun m hm => ok6 m (pm.mem_iff.mp hm)) (hh6.same s7) (k6.trans (Keep.of s7))
end
end WU

set_option maxRecDepth 100000
set_option maxHeartbeats 8000000
/-! (a, b, ..) = a list of that length -/
namespace WU
open PySem PySem.Spec PyProof.Rows L2
section
variable {pg : Program} {wo : World} {Ar : Around} {Ex : Value → Shared → Prop} {st : Shared}
theorem drawn_of_list {it l : Addr} {ys : Array Value} (ne : l ≠ it) : ∀ (n i : Nat) (st : Shared) (Q : List Value → Shared → Prop), st.heap.IsListIter it l i → st.heap.IsList l ys → i + n ≤ ys.size →
    (∀ g, g.IsListIter it l (i + n) → Heap.SameBut it st.heap g → Q ((ys.toList.drop i).take n) { st with heap := g }) → wpAny (model pg wo) Ar (draw (.ref it) n) Q Ex st
  | 0, i, st, Q, hi, _, _, k => wpAny_pure (by simpa using k st.heap hi (Heap.SameBut.refl ..))
  | n + 1, i, st, Q, hi, hl, le, k => by
    have lt : i < ys.size := by omega
    refine wpAny_bind (wpAny_pyNext_list_item hi hl (x := ys[i]) (by simp [lt]) fun g1 hi1 sb1 => wpAny_bind (wpAny_holding ?_))
    refine drawn_of_list ne n (i + 1) _ _ hi1 (hl.extBut sb1.extBut ne) (by omega) fun g2 hi2 sb2 => wpAny_pure ?_
    have z := k g2 (by rw [show i + (n + 1) = i + 1 + n by omega]; exact hi2) (sb1.trans sb2)
    rw [show ys.toList.drop i = ys[i] :: ys.toList.drop (i + 1) by simp [List.drop_eq_getElem_cons, lt], List.take_succ_cons] at z
    exact z
theorem unpackItems_of_list {l : Addr} {ys : Array Value} {Q : List Value → Shared → Prop} (nh : Ar.handled = none) (hl : st.heap.IsList l ys)
    (k : ∀ g, Heap.ExtBut st.heap.objs.size st.heap g → Q ys.toList { st with heap := g }) : wpAny (model pg wo) Ar (unpackItems (.ref l) ys.size none) Q Ex st := by
  have lt : l ≠ st.heap.objs.size := by
    obtain ⟨o, ho, _⟩ := hl
    exact Nat.ne_of_lt (Heap.lt_size ho)
  unfold unpackItems
  refine wpAny_bind ?_
  unfold notIterableAtAll
  refine wpAny_bind (wpAny_specialOf hl.typeIs slot_list_iter.lookup (wpAny_pure ?_))
  simp only [Bool.false_eq_true, if_false]
  refine wpAny_bind (wpAny_holding (wpAny_pyIter_list hl (wpAny_bind (wpAny_holding ?_))))
  refine drawn_of_list lt ys.size 0 _ _ ⟨_, Heap.get?_push_size _ rfl, rfl, rfl⟩ (hl.push _) (by omega) fun g1 hi1 sb1 => ?_
  rw [show List.take ys.size (List.drop 0 ys.toList) = ys.toList by rw [List.drop_zero]; exact List.take_of_length_le (by simp), if_neg (by simp)]
  refine wpAny_bind (wpAny_holding (wpAny_pyNext_list_end nh hi1 ((hl.push _).extBut sb1.extBut lt) (by simp) fun g2 eb2 => ?_))
  simp only [Option.isSome_none, Bool.false_eq_true, if_false]
  exact wpAny_pure (k g2 fun b o hb e => eb2 b o hb (sb1.extBut b o hb (Heap.get?_push_of_some _ e)))
theorem assign_of_list {en : Env} {es : List Expr} {x1} {pos : Pos} {l : Addr} {ys : Array Value} {Q : Unit → Shared → Prop} (nh : Ar.handled = none) (hl : st.heap.IsList l ys)
    (hn : (assignEach es en).length = ys.size) (hst : (assignEach es en).findIdx? (·.1) = none)
    (k : ∀ g, Heap.ExtBut st.heap.objs.size st.heap g → wpAny (model pg wo) Ar (assignInOrder ((assignEach es en).map (·.2)) ys.toList) Q Ex { st with heap := g }) :
    wpAny (model pg wo) Ar (assign (.Tuple es x1 pos) en (.ref l)) Q Ex st := by
  rw [PyProof.Rows.assign_Tuple]
  refine wpAny_bind (wpAny_standAt ?_)
  unfold unpack
  rw [hn, hst]
  exact wpAny_bind (wpAny_holding (unpackItems_of_list nh hl k))
end
section
variable {X : Cx} {K : PySem.W.Frag} {pos : Pos}
def gUnl (K : PySem.W.Frag) (n : Nat) (t : TGs) : TG := fun v σ H Q => ∃ a xs, v = .ref a ∧ SqL K H a xs ∧ xs.length = n ∧ t xs σ H Q
theorem pg_unl0 {es : List Expr} {j : Nat} {t : TGs} {n : Nat} (hc : X.calm = true) (h : PGs X es t)
    (hn : (assignEach es X.env).length = n := by rfl) (hst : (assignEach es X.env).findIdx? (·.1) = none := by rfl) : PG X (.Tuple es j pos) (gUnl X.K n t) := by
  refine ⟨fun pins s σ H v u Q I r hw => ?_⟩
  obtain ⟨a, xs, rfl, hq, hl, hw⟩ := hw
  cases r
  obtain ⟨its, rv, hpl, hz⟩ := I.list hq
  refine assign_of_list (I.ok.hd hc) hpl.isList (by simp [hn, ← hl, rv.length]) hst fun g hx => ?_
  have I1 : Inv X pins σ H { s with heap := g } := I.kept (t' := s.toks) fun b o e => hx b o (Nat.ne_of_lt (Heap.lt_size e)) e
  exact h.run pins _ σ H xs _ Q I1 (by simpa using rv) hw
theorem pg_unl {es : List Expr} {j : Nat} {t : TGs} {n : Nat} (hc : X.calm = true) (h : PGs X es t) (hK : X.K = K := by rfl)
    (hn : (assignEach es X.env).length = n := by rfl) (hst : (assignEach es X.env).findIdx? (·.1) = none := by rfl) : PG X (.Tuple es j pos) (gUnl K n t) := hK ▸ pg_unl0 hc h hn hst
end
end WU

set_option maxRecDepth 100000
set_option maxHeartbeats 8000000
/-! a class made where the wish depends on the slots, or by a local name; a classmethod where the wish depends on the slots -/
namespace WU
open PySem PySem.Spec PyProof.Rows L2
section
variable {X : Cx} {CX : CXT} {k i : Nat} {f C : Addr} {fd : FuncData} {ps : List Str} {sp : Sp} {x : Str} {p pos : Pos} {e : Expr} {es : List Expr} {t : TA}
theorem run_makeS {E : XK} {pins : List (Addr × Obj)} {σ : L2.St} {H : Hp} {s : Shared} {Q : VK} {us : List Value} {vs : List V} (M : Mk X.K C f) (F : FnOk X.prog X.w X.K X.mg X.base CX k f fd ps sp) (hr : Room (k + 1) X.A) (hb : L2.Binds X.K fd ps [])
    (hx : PassesAt CX X σ E) (I : Inv X pins σ H s) (r : Vals vs us)
    (h : ∀ x dx, H x = none → H dx = none → dx ≠ x → sp (.ref x :: vs) (upd (upd H dx (.own x)) x (.ins C dx [])) (fun v H2 => v = .non ∧ Q (.ref x) H2) E) :
    wpAny (model X.prog X.w) X.A (call (.ref C) us) (EP X pins σ Q) X.xe s := by
  have hq := h (s.heap.objs.size + 1) s.heap.objs.size (I.hok.fresh (Nat.le_succ _)) (I.hok.fresh (Nat.le_refl _)) (Nat.ne_of_lt (Nat.lt_succ_self _))
  have I2 := Inv.made (C := C) I
  have r2 : Vals (V.ref (s.heap.objs.size + 1) :: vs) (Value.ref (s.heap.objs.size + 1) :: us) := .cons rfl r
  have hl : (Value.ref (s.heap.objs.size + 1) :: us ++ []).length = ps.length := by
    have e := r2.length
    rw [F.len _ _ _ _ hq] at e
    rw [List.append_nil]
    exact e.symm
  refine wpAny_call (make_map (f := f) I.kIn M.makes M.init (beq_iff_eq.mp M.fn) (codeAny_mono (F.run _ X.stack _ _ ⟨Value.ref (s.heap.objs.size + 1) :: us, []⟩ (Value.ref (s.heap.objs.size + 1) :: us ++ []) _ _ E (hr.make C us [])
    (I2.env0.make C us []) (hb _ (Value.ref (s.heap.objs.size + 1) :: us) I2.kIn hl) (by rw [List.append_nil]; exact r2) hq) fun r s' hq' => ?_))
  cases r with
  | error e => exact hx pins _ _ e s' I2 hq'
  | ok fl =>
    cases fl with
    | ret u =>
      obtain ⟨v, H', I3, rv, ev, q3⟩ := I2.after hq'
      subst ev
      exact ⟨rv, ⟨V.ref (s.heap.objs.size + 1), H', I3, rfl, q3⟩⟩
    | next => exact False.elim hq'
    | brk => exact False.elim hq'
    | cont => exact False.elim hq'
/-- C(..): a new instance and its dict, then __init__ -/
def tMakeS (C : Addr) (sp : Sp) (E : L2.St → XK) (t : TA) : TE := fun σ H Q => t σ H fun vs H1 => ∀ x dx, H1 x = none → H1 dx = none → dx ≠ x →
  sp (.ref x :: vs) (upd (upd H1 dx (.own x)) x (.ins C dx [])) (fun v H2 => v = .non ∧ Q (.ref x) H2) (E σ)
theorem pe_makeS {E : L2.St → XK} (M : Mk X.K C f) (F : FnOk X.prog X.w X.K X.mg X.base CX k f fd ps sp) (hr : Room (k + 1) X.A) (hg : Gl X x) (hm : X.mg x = some (.ref C)) (hb : L2.Binds X.K fd ps []) (hx : ∀ σ, PassesAt CX X σ (E σ))
    (ha : PA X (e :: es) t) (hdb : (x == ("__debug__" : Str)) = false := by decide) (he : starEach (e :: es) X.env = (false, eval e X.env) :: starEach es X.env := by rfl) (hpl : (backTo pos (starEach es X.env)).any (·.1) = false := by rfl) :
    PE X (.Call (.Name x p) (e :: es) [] pos) (tMakeS C sp E t) := by
  refine ⟨fun pins s σ H Q I h => ?_⟩
  refine wpAny_Call_Name_kw (ld_glob I hg hm ?_ hdb)
  refine PySem.W.callWith_K (h₀ := X.base) I.ok.mod.kin M.kp (thn (ha.run pos pins s σ H _ I h) fun us s1 ⟨vs, H1, I1, r, q⟩ => ⟨I1.kIn, ?_⟩) he hpl
  exact run_makeS M F hr hb (hx σ) I1 r q
/-- the i-th slot holds the class -/
def tMakeL (i : Nat) (C : Addr) (sp : Sp) (E : L2.St → XK) (t : TA) : TE := fun σ H Q => σ[i]? = some (some (.ref C)) ∧ tMakeS C sp E t σ H Q
theorem pe_makeL {E : L2.St → XK} (M : Mk X.K C f) (F : FnOk X.prog X.w X.K X.mg X.base CX k f fd ps sp) (hr : Room (k + 1) X.A) (hN : X.N[i]? = some x) (hv : Vis X.env.scope x) (hb : L2.Binds X.K fd ps []) (hx : ∀ σ, PassesAt CX X σ (E σ))
    (ha : PA X (e :: es) t) (hdb : (x == ("__debug__" : Str)) = false := by decide) (hcd : (x == ("__classdict__" : Str)) = false := by decide) (he : starEach (e :: es) X.env = (false, eval e X.env) :: starEach es X.env := by rfl) (hpl : (backTo pos (starEach es X.env)).any (·.1) = false := by rfl) :
    PE X (.Call (.Name x p) (e :: es) [] pos) (tMakeL i C sp E t) := by
  refine ⟨fun pins s σ H Q I h => ?_⟩
  obtain ⟨hs, ht⟩ := h
  refine wpAny_Call_Name_kw (thn ((pe_var (pos := p) hN hv hdb hcd).run pins s σ H (fun v H1 => v = .ref C ∧ H1 = H) I ⟨.ref C, hs, rfl, rfl⟩) fun u s1 ⟨v, H1, I1, r1, q1⟩ => ?_)
  obtain ⟨rfl, rfl⟩ := q1
  cases r1
  refine PySem.W.callWith_K (h₀ := X.base) I.ok.mod.kin M.kp (thn (ha.run pos pins s1 σ _ _ I1 ht) fun us s2 ⟨vs, H2, I2, r, q⟩ => ⟨I2.kIn, ?_⟩) he hpl
  exact run_makeS M F hr hb (hx σ) I2 r q
end
section
variable {X : Cx} {CX : CXT} {k : Nat} {C p g : Addr} {mc : Value} {sp : Sp} {o e : Expr} {es : List Expr} {m : Str} {pos apos : Pos} {ta : TE} {t : TA} {pl : Sem Bool}
theorem run_fnRS {pins : List (Addr × Obj)} {σ : L2.St} {H : Hp} {s : Shared} {f : Addr} {E : XK} {Q : VK} {us : List Value} {vs : List V} (F : FnR X.prog X.w X.K X.mg X.base CX k f sp) (hr : Room k X.A) (hx : PassesAt CX X σ E) (I : Inv X pins σ H s) (r : Vals vs us) (h : sp vs H Q E) :
    codeAny (model X.prog X.w) X.A (.call (.ref f) ⟨us, []⟩) (fun r s' => match r with | .ok (.ret v) => EP X pins σ Q v s' | .ok _ => False | .error e => X.xe e s') s := by
  refine codeAny_mono (F X.A X.stack s H us vs Q E hr I.env0 r h) fun r s' hq => ?_
  cases r with
  | error e => exact hx pins H s e s' I hq
  | ok fl =>
    cases fl with
    | ret u => exact I.after hq
    | next => exact False.elim hq
    | brk => exact False.elim hq
    | cont => exact False.elim hq
def tCMethS (C : Addr) (sp : Sp) (E : L2.St → XK) (ta : TE) (t : TA) : TE := fun σ H Q => ta σ H fun x H1 => x = .ref C ∧ t σ H1 fun vs H2 => sp (.ref C :: vs) H2 Q (E σ)
theorem pe_cmethS {E : L2.St → XK} (he : PE X o ta) (r : ClX.CRead X.K C mc) (c : ClX.CMet X.K C mc m p g) (F : FnR X.prog X.w X.K X.mg X.base CX k g sp) (hr : Room k X.A) (hx : ∀ σ, PassesAt CX X σ (E σ)) (ha : PA X (e :: es) t)
    (hst : starEach (e :: es) X.env = (false, eval e X.env) :: starEach es X.env := by rfl) (hpl : (backTo pos (starEach es X.env)).any (·.1) = false := by rfl)
    (ht : eval (.Call (.Attribute o m apos) (e :: es) [] pos) X.env = (do
      let ov ← eval o X.env
      standAt apos.atName
      let (f, first) ← holding [ov] (getMethod ov m pl)
      callWith pos f first (backTo pos (starEach (e :: es) X.env)) (backToKw pos (keywordEach [] X.env))) := by rfl) :
    PE X (.Call (.Attribute o m apos) (e :: es) [] pos) (tCMethS C sp E ta t) := by
  refine ⟨fun pins s σ H Q I h => ?_⟩
  refine PySem.W.methodCall_KW (pl := pl) (thn (he.run pins s σ H _ I h) fun u s1 ⟨x, H1, I1, rx, ex, q⟩ => ?_) ht
  subst ex
  obtain rfl : u = Value.ref C := rx
  refine ClX.getmethcm_ok I1 r c fun s2 I2 => ?_
  refine ClX.callwith_cm I2 (ClX.base_none I1 (Nat.le_refl _)) c.fi (thn (ha.run pos _ s2 σ H1 _ I2 q) fun us s3 ⟨vs, H2, I3, rv, q2⟩ => ⟨⟨ClX.pin_at I3, I3.kIn⟩, ?_⟩) hst hpl
  have z : wpAny (model X.prog X.w) X.A (call (.ref s1.heap.objs.size) us) (EP X ((s1.heap.objs.size, PySem.W.methodObj (.ref g) (.ref C)) :: pins) σ Q) X.xe s3 := wpAny_call (PySem.W.method_call (ClX.pin_at I3) (run_fnRS (us := .ref C :: us) (vs := .ref C :: vs) F hr (hx σ) I3 (.cons rfl rv) q2))
  exact thn z fun _ _ y => ClX.unpinE y
end
end WU

set_option maxRecDepth 100000
set_option maxHeartbeats 8000000
namespace WU
open PySem PySem.Spec PyProof.Rows L2
/-- the letters, cut into m books of n letters -/
def cuts (n m : Nat) (ls : List Int) : List (List Int) := (List.range m).map fun i => (ls.drop (i * n)).take n
theorem cuts_len {n m : Nat} {ls : List Int} : (cuts n m ls).length = m := by
  unfold cuts
  rw [List.length_map, List.length_range]
theorem cuts_succ {n m : Nat} {ls : List Int} : cuts n (m + 1) ls = cuts n m ls ++ [(ls.drop (m * n)).take n] := by
  unfold cuts
  rw [List.range_succ, List.map_append]
  rfl
theorem cuts_cons {n m : Nat} {b ls : List Int} (h : b.length = n) : cuts n (m + 1) (b ++ ls) = b :: cuts n m ls := by
  unfold cuts
  rw [List.range_succ_eq_map, List.map_cons, List.map_map]
  congr 1
  · rw [Nat.zero_mul, List.drop_zero, ← h, List.take_left]
  · apply List.map_congr_left
    intro i _
    show ((b ++ ls).drop ((i + 1) * n)).take n = _
    rw [Nat.succ_mul, Nat.add_comm, ← h, List.drop_append, List.drop_eq_nil_of_le (by omega), List.nil_append]
    congr 2
    omega
theorem cuts_flat {n : Nat} : ∀ {bs : List (List Int)}, (∀ b ∈ bs, b.length = n) → cuts n bs.length bs.flatten = bs
  | [], _ => rfl
  | b :: bs, h => by
    rw [List.flatten_cons, List.length_cons, cuts_cons (h b (List.mem_cons_self ..)), cuts_flat fun c hc => h c (List.mem_cons_of_mem _ hc)]
theorem cut_mid {xs : List V} {k n : Nat} (h : k + n ≤ xs.length) : cutV xs (some (k : Int)) (some ((k : Int) + (n : Int))) = (xs.drop k).take n := by
  unfold cutV
  rw [show ((k : Int) + (n : Int)) = ((k + n : Nat) : Int) from rfl, HT.sIx_nat, HT.sIx_nat, Nat.min_eq_left h, Nat.min_eq_left (by omega)]
  congr 1
  omega
theorem rg_all : ∀ n ∈ List.range 5, ∀ m ∈ List.range 17, n ≠ 0 → Builtin.Range.small 0 ((n * m : Nat) : Int) (n : Int) = true ∧ Builtin.Range.rangeSize 0 ((n * m : Nat) : Int) (n : Int) = m := by decide +kernel
theorem rg_of {n m : Nat} (h1 : 1 ≤ n) (h2 : n ≤ 4) (h3 : m ≤ 16) : RgC 0 ((n * m : Nat) : Int) (n : Int) m := by
  obtain ⟨a, b⟩ := rg_all n (List.mem_range.mpr (by omega)) m (List.mem_range.mpr (by omega)) (by omega)
  exact ⟨by omega, by omega, a, b⟩
section
variable {P : Program} {w : World} {K : PySem.W.Frag} {mg : Str → Option Value} {base : Heap} {L : Addr}
theorem scCut : FnScope ["book_length", "letters", "at"] ["book_length", "letters"] (defScope s_cut_in_books) := ⟨rfl, rfl, rfl, by decide +kernel, rfl, by decide +kernel, by decide +kernel⟩
def spCut : Sp := fun vs H Q _ => ∃ (a : Addr) (ls : List Int) (n m : Nat), vs = [.int n, .ref a] ∧ (H a = some (.lst (ls.map V.int)) ∨ H a = some (.tup (ls.map V.int))) ∧ ls.length = n * m ∧ 1 ≤ n ∧ n ≤ 4 ∧ m ≤ 16 ∧
  ∀ r H', Same H H' → BkAt H' r (cuts n m ls) → Q (.ref r) H'
theorem ok_Cut {f : Addr} {fd : FuncData} (F : FnS K "cut_in_books" s_cut_in_books f fd) (B : Blt3 mg) : FnOk P w K mg base (L2.CX P w) 1 f fd ["book_length", "letters"] spCut := by
  refine F.ok scCut (fun vs H Q E h => ?_) (fun cdv A outer s H vs Q E hr h => ?_)
  · obtain ⟨a, ls, n, m, rfl, _⟩ := h
    rfl
  · obtain ⟨a, ls, n, m, rfl, ha, hl, h1, h2, h3, kk⟩ := h
    have nd := scCut.nd
    refine ⟨_, (pss_one (ps_ret (pe_callTy call_tuple_of (by rfl) B.tuple (by decide +kernel) (pa_cons
      (pe_lc (te := tCB (rTupOf K) (tCons (tSl (fun x lo hi H Q => rSlL K x lo hi H Q ∨ rSlA K x lo hi H Q) (tVar 1) (tPart (tVar 2)) (tPart (tOp rAd (tVar 2) (tVar 0)))) tNil)) (own := [("at", 2)]) (g := gName 2) (by rfl) nd (pi_range3 rfl B.range (pa_cons pe_int (pa_cons (pe_callB call_len_seq (by rfl) B.len (by decide +kernel) (pa_cons (pv 1) pa_nil)) (pa_cons (pv 0) pa_nil)))) (blkOk_by (own := [("at", 2)]) (N := ["book_length", "letters", "at"]) (sc := defScope s_cut_in_books) (by decide +kernel)) (fun _ _ _ _ _ => pg_name (i := 2) nd rfl (Or.inl rfl)) (fun _ _ _ _ _ => pts_nil)
        (fun _ _ _ _ _ => (pe_callTy call_tuple_of (by rfl) B.tuple (by decide +kernel) (pa_cons (pe_slice (sl_list.or sl_tupA) (pv 1) (po_some (pv 2)) (po_some (pe_op op_add (pv 2) (pv 0)))) pa_nil)))) pa_nil)))), ?_⟩
    have hx : SqL K H a (ls.map V.int) ∨ SqT K H a (ls.map V.int) := ha.imp SqL.of SqT.of
    refine ⟨_, rfl, a, _, rfl, hx, _, rfl, 0, _, n, m, rfl, ?_, fun D hD => lc_it walk_rangeC (fun i H' => Same H H' ∧ ∃ ts, H' D = some (.lst ts) ∧ Paired (TB H') ts (cuts n i ls)) ⟨same_new hD, [], upd_same, .nil⟩ (fun _ _ _ _ => trivial) ?_ ?_⟩
    · rw [List.length_map, hl]
      exact rg_of h1 h2 h3
    · rintro i x H1 H1' hi ⟨s1, ts, eD, hts⟩ ⟨rfl, rfl⟩
      have hin : i * n + n ≤ ls.length := by
        rw [hl, Nat.mul_comm n m, ← Nat.succ_mul]
        exact Nat.mul_le_mul_right n hi
      have ei : (0 : Int) + (i : Int) * (n : Int) = ((i * n : Nat) : Int) := by rw [Int.zero_add]; simp
      show gName 2 (V.int ((0 : Int) + (i : Int) * (n : Int))) _ _ _
      rw [ei]
      have tl : ts.length < sizeLine := by
        rw [paired_len hts, cuts_len]
        exact small1000 (by omega)
      have ec : cutV (ls.map V.int) (some ((i * n : Nat) : Int)) (some (((i * n : Nat) : Int) + (n : Int))) = ((ls.drop (i * n)).take n).map V.int := by
        rw [cut_mid (by rw [List.length_map]; exact hin), List.map_take, List.map_drop]
      have tbD : ∀ {H' : Hp} {o : HO} {r : V} {b : List Int} {ts0 : List V}, H' D = some (.lst ts0) → TB H' r b → TB (upd H' D o) r b := fun hl h => by
        obtain ⟨c, e, h⟩ := h
        exact ⟨c, e, by rw [upd_ne (ne_of h hl (by intro z; cases z))]; exact h⟩
      have fin : ∀ (c : Addr) (H4 : Hp), Same H1' H4 → H4 c = some (.tup (((ls.drop (i * n)).take n).map V.int)) → ∃ acc, H4 D = some (.lst acc) ∧ acc.length < sizeLine ∧ Same H (upd H4 D (.lst (acc ++ [.ref c]))) ∧ ∃ ts, upd H4 D (.lst (acc ++ [.ref c])) D = some (.lst ts) ∧ Paired (TB (upd H4 D (.lst (acc ++ [.ref c])))) ts (cuts n (i + 1) ls) := by
        intro c H4 s4 ec4
        have eD4 := s4 _ _ eD
        refine ⟨ts, eD4, tl, fun d o hd => ?_, ts ++ [.ref c], upd_same, ?_⟩
        · rw [upd_ne (ne_of_none hd hD)]
          exact s4 _ _ (s1 _ _ hd)
        · rw [cuts_succ]
          exact paired_app (paired_mono (fun _ _ q => tbD eD4 (q.same s4)) hts) (.cons (tbD eD4 ⟨c, rfl, ec4⟩) .nil)
      refine ⟨rfl, _, rfl, _, rfl, _, rfl, _, rfl, _, rfl, _, _, rfl, rfl, _, rfl, ?_⟩
      rcases ha with h | h
      · refine .inl ⟨a, _, rfl, SqL.of (s1 _ _ h), fun c hc => ?_⟩
        rw [ec]
        have sc := same_new (o := .lst (((ls.drop (i * n)).take n).map V.int)) hc
        have ecc : upd H1' c (.lst (((ls.drop (i * n)).take n).map V.int)) c = some (.lst (((ls.drop (i * n)).take n).map V.int)) := upd_same
        exact ⟨c, _, rfl, .inl ⟨SqL.of ecc, fun q hq => fin q _ (sc.trans (same_new hq)) upd_same⟩⟩
      · refine .inr (slA_is (s1 _ _ h) fun r H3 s3 e3 => ?_)
        rw [ec] at e3
        exact ⟨r, _, rfl, .inr ⟨SqT.of e3, fin r H3 s3 e3⟩⟩
    · rintro H1 ⟨s1, ts, eD, hts⟩
      exact ⟨D, ts, rfl, .inl ⟨SqL.of eD, fun T hT => kk T _ (s1.trans (same_new hT)) ⟨ts, upd_same, paired_mono (fun _ _ q => q.same (same_new hT)) hts⟩⟩⟩
end
end WU

set_option maxRecDepth 100000
set_option maxHeartbeats 8000000
namespace WU
open PySem PySem.Spec PyProof.Rows L2
theorem lgood_cuts {p : Int} {n m : Nat} {ls : List Int} (hl : ls.length = n * m) (h1 : 1 ≤ n) (h2 : n ≤ 4) (h0 : 1 ≤ m) (h3 : m ≤ 16) (ha : ∀ l ∈ ls, 0 ≤ l ∧ l < p) : LGood p n (cuts n m ls) := by
  refine ⟨fun z => ?_, h1, by omega, by rw [cuts_len]; omega, fun b hb => ?_⟩
  · have := congrArg List.length z
    rw [cuts_len, List.length_nil] at this
    omega
  · unfold cuts at hb
    obtain ⟨i, hi, rfl⟩ := List.mem_map.mp hb
    have hi2 := List.mem_range.mp hi
    have hin : i * n + n ≤ ls.length := by
      rw [hl, Nat.mul_comm n m, ← Nat.succ_mul]
      exact Nat.mul_le_mul_right n hi2
    refine ⟨?_, fun l hl => ha l (List.mem_of_mem_drop (List.mem_of_mem_take hl))⟩
    rw [List.length_take, List.length_drop]
    omega
theorem BkAt.same {H H' : Hp} {b : Addr} {bs : List (List Int)} (h : BkAt H b bs) (s : Same H H') : BkAt H' b bs := by
  obtain ⟨rs, e, h⟩ := h
  exact ⟨rs, s _ _ e, paired_mono (fun _ _ q => q.same s) h⟩
theorem passV {X : Cx} (σ : L2.St) : PassesAt (L2.CX X.prog X.w) X σ E0 := fun pins H s e s' I c => passU pins σ H s e s' I c
section
variable {P : Program} {w : World} {K : PySem.W.Frag} {mg : Str → Option Value} {base : Heap} {L : Addr}
theorem scOL : FnScope ["cls", "p", "book_length", "letters"] ["cls", "p", "book_length", "letters"] (defScope sLibrary_of_letters) := ⟨rfl, rfl, rfl, by decide +kernel, rfl, by decide +kernel, by decide +kernel⟩
/-- Library.of_letters(p, n, letters) -/
def spOL (K : PySem.W.Frag) (L : Addr) : Sp := fun vs H Q E => ∃ (qv nv lv : V), vs = [.ref L, qv, nv, lv] ∧ Ty3 K H qv ∧ (isFld qv = false → Errs (He.ga K "InvalidNumber") "value" qv H E) ∧
  (isFld qv = true → ∃ (p : Int) (a : Addr) (ls : List Int) (n m : Nat), qv = .int p ∧ nv = .int n ∧ lv = .ref a ∧ (H a = some (.lst (ls.map V.int)) ∨ H a = some (.tup (ls.map V.int))) ∧ ls.length = n * m ∧ 1 ≤ n ∧ n ≤ 4 ∧ 1 ≤ m ∧ m ≤ 16 ∧ (∀ l ∈ ls, 0 ≤ l ∧ l < p) ∧
    ∀ y H', Same H H' → LibAt L H' y p n (cuts n m ls) → LGood p n (cuts n m ls) → Q (.ref y) H')
theorem ok_OL {f f1 f2 fL : Addr} {fd fd1 fd2 fdL : FuncData} (F : FunD K "of_letters" "Library.of_letters" (defArgs sLibrary_of_letters) (defBody sLibrary_of_letters) (defScope sLibrary_of_letters) [] [] f fd) (CF : Cal P w K mg base 3 "check_field" f1 fd1 ["p"] (spCheck K))
    (CC : Cal P w K mg base 1 "cut_in_books" f2 fd2 ["book_length", "letters"] spCut) (MK : Mk K L fL) (GI : FnOk P w K mg base (L2.CX P w) 6 fL fdL ["self", "p", "books"] (spLbI K L)) (bI : L2.Binds K fdL ["self", "p", "books"] []) :
    FnOk P w K mg base (L2.CX P w) 8 f fd ["cls", "p", "book_length", "letters"] (spOL K L) := by
  refine F.ok scOL (fun vs H Q E h => ?_) (fun cdv A outer s H vs Q E hr h => ?_)
  · obtain ⟨qv, nv, lv, rfl, _⟩ := h
    rfl
  · obtain ⟨qv, nv, lv, rfl, ht, kN, kk⟩ := h
    have nd := scOL.nd
    have hr1 := hr.mono (show 1 ≤ 7 by decide)
    have hr3 := hr.mono (show 3 ≤ 7 by decide)
    refine ⟨_, (pss_cons (ps_expr (pe_cal (E := E) CF hr3 (pa_cons (pv 1) pa_nil) (passes_call (takes_of rfl rfl rfl rfl) (fun _ _ _ _ h => h))))
      (pss_one (ps_ret (pe_makeL (i := 0) (E := fun _ => E0) MK GI hr rfl (Or.inl rfl) bI passV (pa_cons (pv 1) (pa_cons (pe_cal CC hr1 (pa_cons (pv 2) (pa_cons (pv 3) pa_nil)) passU) pa_nil)))))), ?_⟩
    refine ⟨_, rfl, qv, rfl, ht, fun e => ?_, fun e => kN e⟩
    obtain ⟨p, a, ls, n, m, rfl, rfl, rfl, ha, hl, h1, h2, h0, h3, hb, q⟩ := kk e
    have g := lgood_cuts hl h1 h2 h0 h3 hb
    refine ⟨rfl, _, rfl, _, rfl, _, rfl, a, ls, n, m, rfl, ha, hl, h1, h2, h3, fun r H1 s1 hB => ?_⟩
    intro y dy hy hdy hne
    obtain ⟨rs, er, hrs⟩ := hB
    have s5 : Same H1 (upd H1 dy (.own y)) := same_new hdy
    have ey5 : upd H1 dy (.own y) y = none := by rw [upd_ne (Ne.symm hne)]; exact hy
    generalize upd H1 dy (.own y) = H5 at s5 ey5 ⊢
    have s6 := same_new (o := .ins L dy []) ey5
    have e6 : upd H5 y (.ins L dy []) y = some (.ins L dy []) := upd_same
    generalize upd H5 y (.ins L dy []) = H6 at s6 e6 ⊢
    have s16 := s5.trans s6
    refine ⟨y, dy, r, p, rs, cuts n m ls, n, rfl, e6, fld_mem e, .inr (s16 _ _ er), paired_mono (fun _ _ q => (q.same s16).sb) hrs, g, fun H7 hL7 k7 => ⟨rfl, q y H7 (fun d o hd => ?_) hL7 g⟩⟩
    exact k7 _ _ (ne_of_none (s1 _ _ hd) hy) (s16 _ _ (s1 _ _ hd))
end
end WU

set_option maxRecDepth 100000
set_option maxHeartbeats 8000000
namespace WU
open PySem PySem.Spec PyProof.Rows L2
/-- a row and one more letter -/
def ext (q : Nat) (r : List Int) : List (List Int) := (List.range q).map fun (l : Nat) => r ++ [(l : Int)]
def rowsN (q : Nat) : Nat → List (List Int)
  | 0 => [[]]
  | t + 1 => (rowsN q t).flatMap (ext q)
theorem ext_len {q : Nat} : ∀ xs : List (List Int), (xs.flatMap (ext q)).length = xs.length * q
  | [] => by simp
  | x :: xs => by
    rw [List.flatMap_cons, List.length_append, ext_len xs, List.length_cons, Nat.succ_mul]
    unfold ext
    rw [List.length_map, List.length_range]
    omega
theorem rowsN_len {q : Nat} : ∀ t, (rowsN q t).length = q ^ t
  | 0 => rfl
  | t + 1 => by
    show ((rowsN q t).flatMap (ext q)).length = _
    rw [ext_len, rowsN_len t, Nat.pow_succ]
theorem rowsN_of {q : Nat} : ∀ t, ∀ r ∈ rowsN q t, r.length = t ∧ ∀ l ∈ r, 0 ≤ l ∧ l < (q : Int)
  | 0, r, h => by
    rw [List.mem_singleton.mp h]
    exact ⟨rfl, fun l hl => nomatch hl⟩
  | t + 1, r, h => by
    obtain ⟨s, hs, hr⟩ := List.mem_flatMap.mp h
    obtain ⟨e1, e2⟩ := rowsN_of t s hs
    obtain ⟨l, hl, rfl⟩ := List.mem_map.mp hr
    have hl2 := List.mem_range.mp hl
    refine ⟨by rw [List.length_append, e1]; rfl, fun x hx => ?_⟩
    rcases List.mem_append.mp hx with h | h
    · exact e2 x h
    · rw [List.mem_singleton.mp h]
      omega
section
variable {P : Program} {w : World} {K : PySem.W.Frag} {mg : Str → Option Value} {base : Heap} {L : Addr}
theorem FnOk.raw0 {CX : CXT} {k : Nat} {f : Addr} {fd : FuncData} {ps : List Str} {sp : Sp} (F : FnOk P w K mg base CX k f fd ps sp) (hb : L2.Binds K fd ps []) : FnR P w K mg base CX k f sp :=
  FnR.imp (F.raw hb .nil) fun vs H Q E h => by
    rw [List.append_nil]
    exact h
/-- the classmethod Library.of_letters -/
structure OLM (P : Program) (w : World) (K : PySem.W.Frag) (mg : Str → Option Value) (base : Heap) (L p g : Addr) : Prop where
  r : ClX.CRead K L (.type "type")
  c : ClX.CMet K L (.type "type") "of_letters" p g
  F : FnR P w K mg base (L2.CX P w) 8 g (spOL K L)
/-- x stands for a library of n-letter books -/
def LR (L : Addr) (p : Int) (n c : Nat) (H : Hp) (x : V) (ls : List Int) : Prop := ∃ y, x = .ref y ∧ LibAt L H y p n (cuts n c ls) ∧ LGood p n (cuts n c ls)
theorem LR.same {p : Int} {n c : Nat} {H H' : Hp} {x : V} {ls : List Int} (h : LR L p n c H x ls) (s : Same H H') : LR L p n c H' x ls := by
  obtain ⟨y, e, h, g⟩ := h
  exact ⟨y, e, h.same s, g⟩
theorem scRb : FnScope ["limit", "length", "rows", "_", "row", "number"] ["limit", "length"] (defScope s_rows_below) := ⟨rfl, rfl, rfl, by decide +kernel, rfl, by decide +kernel, by decide +kernel⟩
/-- rows_below(limit, length) -/
def spRb : Sp := fun vs H Q _ => ∃ (q t : Nat), vs = [.int q, .int t] ∧ 1 ≤ q ∧ q ≤ 31 ∧ t ≤ 6 ∧ q ^ t ≤ 64 ∧ ∀ r rs H', Same H H' → H' r = some (.lst rs) → Paired (TB H') rs (rowsN q t) → Q (.ref r) H'
theorem ok_Rb {f : Addr} {fd : FuncData} (F : FnS K "rows_below" s_rows_below f fd) (B : Blt3 mg) : FnOk P w K mg base (L2.CX P w) 1 f fd ["limit", "length"] spRb := by
  refine F.ok scRb (fun vs H Q E h => ?_) (fun cdv A outer s H vs Q E hr h => ?_)
  · obtain ⟨q, t, rfl, _⟩ := h
    rfl
  · obtain ⟨q, t, rfl, hq1, hq, ht, hqt, kk⟩ := h
    have nd := scRb.nd
    refine ⟨_, (pss_cons (ps_set (i := 2) nd rfl (Or.inl rfl) (pe_lst (pa_cons (pe_tup pa_nil) pa_nil)))
      (pss_cons (ps_for (passes_of rfl) rfl (pi_range1 rfl B.range (pa_cons (pv 1) pa_nil)) (pg_name (i := 3) nd rfl (Or.inl rfl)) (pss_one
        (ps_setLc2 (i := 2) (wi1 := iRng1 (tCons (tVar 0) tNil)) (te := tTup (StX.tStar K (tVar 4) (tCons (tVar 5) tNil))) (own := [("row", 4), ("number", 5)]) (vs1 := [5]) (g := gName 4) (g1 := gName 5) (by rfl) nd rfl rfl (sw_true rfl rfl rfl (by decide +kernel)) (pi_list (pv 2)) (blkOk_by (own := [("row", 4), ("number", 5)]) (N := ["limit", "length", "rows", "_", "row", "number"]) (sc := defScope s_rows_below) (by decide +kernel)) (by decide) (fun _ _ _ _ _ => pg_name (i := 4) nd rfl (Or.inl rfl)) (fun _ _ _ _ _ => pts_nil) (fun _ _ _ _ _ => pi_range1 rfl B.range (pa_cons (pv 0) pa_nil)) (fun _ _ _ _ _ => pg_name (i := 5) nd rfl (Or.inl rfl)) (fun _ _ _ _ _ => pts_nil) (fun _ _ _ _ _ => pe_tup (StX.pa_star (pv 4) (pa_cons (pv 5) pa_nil))))))
      (pss_one (ps_ret (pv 2))))), ?_⟩
    have small : ∀ {i}, i ≤ t → q ^ i ≤ 64 := fun {i} h => Nat.le_trans (Nat.pow_le_pow_right hq1 h) hqt
    refine ⟨(by show 0 ≤ sizeLine; decide), fun T hT => ⟨(by show 1 ≤ sizeLine; decide), fun R hR => ?_⟩⟩
    have s0 := same_new (o := .tup []) hT
    have sR := same_new (o := .lst [.ref T]) hR
    have eT := sR _ _ (show upd H T (.tup []) T = some (.tup []) from upd_same)
    have eR : upd (upd H T (.tup [])) R (.lst [.ref T]) R = some (.lst [.ref T]) := upd_same
    have s00 := s0.trans sR
    generalize upd (upd H T (.tup [])) R (.lst [.ref T]) = H0 at eT eR s00 ⊢
    refine ⟨_, rfl, (t : Int), rfl, by omega, by omega,
      for_range (lo := 0) (n := t) (fun i σ H' => ∃ r y rs, σ = [some (.int q), some (.int t), some (.ref r), y, none, none] ∧ Same H H' ∧ H' r = some (.lst rs) ∧ Paired (TB H') rs (rowsN q i)) ⟨R, none, [.ref T], rfl, s00, eR, .cons ⟨T, rfl, eT⟩ .nil⟩ ?_ ?_⟩
    · rintro i σ H1 hi ⟨r, y, rs, rfl, s1, er, hrs⟩
      have hi4 : i + 1 ≤ t := by omega
      have elen : rs.length = q ^ i := by rw [paired_len hrs, rowsN_len]
      refine ⟨_, rfl, r, rfl, ⟨_, SqL.of er⟩, fun D hD => wIt walk_list (fun j H' => Same H1 H' ∧ ∃ ts, H' D = some (.lst ts) ∧ Paired (TB H') ts (((rowsN q i).take j).flatMap (ext q))) ⟨same_new hD, [], upd_same, .nil⟩ (fun j H' _ z => SqL.of (z.1 _ _ er)) ?_ ?_⟩
      · rintro j x H2 H2' hj ⟨s2, ts, eD, hts⟩ ⟨rfl, hx⟩
        obtain ⟨b, hb, cb, rfl, ecb⟩ := paired_at hrs hx
        have hb2 := (rowsN_of i b (List.mem_of_getElem? hb)).1
        refine ⟨rfl, _, rfl, _, rfl, by omega, by omega, wIt walk_range (fun l H' => Same H1 H' ∧ ∃ ts, H' D = some (.lst ts) ∧ Paired (TB H') ts (((rowsN q i).take j).flatMap (ext q) ++ (List.range l).map fun (l : Nat) => b ++ [(l : Int)])) ⟨s2, ts, eD, by rw [List.range_zero, List.map_nil, List.append_nil]; exact hts⟩ (fun _ _ _ _ => trivial) ?_ ?_⟩
        · rintro l x H3 H3' hl ⟨s3, us, eD3, hus⟩ ⟨rfl, rfl⟩
          show gName 5 (V.int ((0 : Int) + (l : Int))) _ _ _
          rw [Int.zero_add]
          refine ⟨rfl, _, rfl, cb, b.map V.int, rfl, .inl (SqT.of (s3 _ _ ecb)), _, rfl, ?_, fun Z hZ => ?_⟩
          · rw [List.length_append, List.length_map]
            exact Nat.le_of_lt (small1000 (by show b.length + 1 ≤ _; omega))
          · have eb : b.map V.int ++ [V.int (l : Int)] = (b ++ [(l : Int)]).map V.int := by rw [List.map_append]; rfl
            have sZ := same_new (o := .tup (b.map V.int ++ [V.int (l : Int)])) hZ
            have eZ : upd H3' Z (.tup (b.map V.int ++ [V.int (l : Int)])) Z = some (.tup ((b ++ [(l : Int)]).map V.int)) := by rw [upd_same, eb]
            have eD4 := sZ _ _ eD3
            have hus4 : Paired (TB (upd H3' Z (.tup (b.map V.int ++ [V.int (l : Int)])))) us _ := paired_mono (fun _ _ q => q.same sZ) hus
            have s4 : Same H1 (upd H3' Z (.tup (b.map V.int ++ [V.int (l : Int)]))) := s3.trans sZ
            show ∃ acc, upd H3' Z (.tup (b.map V.int ++ [V.int (l : Int)])) D = some (.lst acc) ∧ _
            generalize upd H3' Z (.tup (b.map V.int ++ [V.int (l : Int)])) = H4 at eZ eD4 hus4 s4 ⊢
            have tbD : ∀ {o : HO} {r : V} {b : List Int}, TB H4 r b → TB (upd H4 D o) r b := fun h => by
              obtain ⟨c, e, h⟩ := h
              exact ⟨c, e, by rw [upd_ne (ne_of h eD4 (by intro z; cases z))]; exact h⟩
            refine ⟨us, eD4, ?_, fun d o hd => ?_, us ++ [.ref Z], upd_same, ?_⟩
            · rw [paired_len hus, List.length_append, ext_len, List.length_map, List.length_range, List.length_take]
              have h1 : min j (rowsN q i).length * q ≤ 64 := Nat.le_trans (Nat.mul_le_mul_right q (Nat.min_le_right _ _)) (by rw [rowsN_len, ← Nat.pow_succ]; exact small hi4)
              exact small1000 (by omega)
            · rw [upd_ne (ne_of_none hd hD)]
              exact s4 _ _ hd
            · rw [List.range_succ, List.map_append, ← List.append_assoc]
              exact paired_app (paired_mono (fun _ _ q => tbD q) hus4) (.cons (tbD ⟨Z, rfl, eZ⟩) .nil)
        · rintro H3 ⟨s3, us, eD3, hus⟩
          refine ⟨s3, us, eD3, ?_⟩
          rw [List.take_succ, hb, List.flatMap_append]
          simpa [ext] using hus
      · rintro H2 ⟨s2, ts, eD, hts⟩
        rw [paired_len hrs, List.take_length] at hts
        exact ⟨D, _, ts, rfl, s1.trans s2, eD, hts⟩
    · rintro σ H1 ⟨r, y, rs, rfl, s1, er, hrs⟩
      exact ⟨_, rfl, kk r rs H1 s1 er hrs⟩
theorem scEv : FnScope ["p", "book_count", "book_length", "row"] ["p", "book_count", "book_length"] (defScope s_every_library) := ⟨rfl, rfl, rfl, by decide +kernel, rfl, by decide +kernel, by decide +kernel⟩
def spEv (K : PySem.W.Frag) (L : Addr) : Sp := fun vs H Q E => ∃ (qv cv nv : V), vs = [qv, cv, nv] ∧ Ty3 K H qv ∧ (isFld qv = false → Errs (He.ga K "InvalidNumber") "value" qv H E) ∧
  (isFld qv = true → ∃ (q c n : Nat), qv = .int q ∧ cv = .int c ∧ nv = .int n ∧ 1 ≤ c ∧ 1 ≤ n ∧ c * n ≤ 6 ∧ 1 ≤ q ∧ q ≤ 31 ∧ q ^ (c * n) ≤ 64 ∧ n ≤ 4 ∧ ∀ r xs H', Same H H' → H' r = some (.tup xs) → Paired (LR L q n c H') xs (rowsN q (c * n)) → Q (.ref r) H')
theorem ok_Ev {f f1 pO gO : Addr} {fd fd1 : FuncData} (F : FnS K "every_library" s_every_library f fd) (B : Blt3 mg) (C : LibC K mg L) (CF : Cal P w K mg base 3 "check_field" f1 fd1 ["p"] (spCheck K)) (O : OLM P w K mg base L pO gO)
    {fR : Addr} {fdR : FuncData} (CR : Cal P w K mg base 1 "rows_below" fR fdR ["limit", "length"] spRb) :
    FnOk P w K mg base (L2.CX P w) 9 f fd ["p", "book_count", "book_length"] (spEv K L) := by
  refine F.ok scEv (fun vs H Q E h => ?_) (fun cdv A outer s H vs Q E hr h => ?_)
  · obtain ⟨qv, cv, nv, rfl, _⟩ := h
    rfl
  · obtain ⟨qv, cv, nv, rfl, ht, kN, kk⟩ := h
    have nd := scEv.nd
    have hr3 := hr.mono (show 3 ≤ 8 by decide)
    refine ⟨_, (pss_cons (ps_expr (pe_cal (E := E) CF hr3 (pa_cons (pv 0) pa_nil) (passes_call (takes_of rfl rfl rfl rfl) (fun _ _ _ _ h => h))))
      (pss_one (ps_ret (pe_callTy call_tuple_of (by rfl) B.tuple (by decide +kernel) (pa_cons
        (pe_lc (te := tCMethS L (spOL K L) (fun _ => E0) (tC (.ref L)) (tCons (tVar 0) (tCons (tVar 2) (tCons (tVar 3) tNil)))) (own := [("row", 3)]) (g := gName 3) (by rfl) nd (pi_list (pe_cal CR (hr.mono (by decide)) (pa_cons (pv 0) (pa_cons (pe_op op_mul (pv 1) (pv 2)) pa_nil)) passU)) (blkOk_by (own := [("row", 3)]) (N := ["p", "book_count", "book_length", "row"]) (sc := defScope s_every_library) (by decide +kernel)) (fun _ _ _ _ _ => pg_name (i := 3) nd rfl (Or.inl rfl)) (fun _ _ _ _ _ => pts_nil)
          (fun _ _ _ _ _ => pe_cmethS (E := fun _ => E0) (pe_glob (v := .ref L) rfl C.g rfl) O.r O.c O.F hr passV (pa_cons (pv 0) (pa_cons (pv 2) (pa_cons (pv 3) pa_nil))))) pa_nil))))), ?_⟩
    refine ⟨_, rfl, qv, rfl, ht, fun e => ?_, fun e => kN e⟩
    obtain ⟨q, c, n, rfl, rfl, rfl, hc, hn, hcn, hq1, hq, hqt, hn4, kk⟩ := kk e
    have small : ∀ {i}, i ≤ c * n → q ^ i ≤ 64 := fun {i} h => Nat.le_trans (Nat.pow_le_pow_right hq1 h) hqt
    have hc4' : c ≤ 6 := Nat.le_trans (Nat.le_mul_of_pos_right c hn) hcn
    refine ⟨_, rfl, _, rfl, _, rfl, _, _, rfl, rfl, .inl ⟨by omega, by omega⟩, q, c * n, (by rw [show (((c * n : Nat)) : Int) = (c : Int) * (n : Int) by simp]; rfl), hq1, hq, hcn, hqt, fun r rs H1 s1 er hrs => ?_⟩
    · refine ⟨r, rfl, ⟨_, SqL.of er⟩, fun D hD => lc_it walk_list (fun j H' => Same H1 H' ∧ ∃ ts, H' D = some (.lst ts) ∧ Paired (LR L q n c H') ts ((rowsN q (c * n)).take j)) ⟨same_new hD, [], upd_same, .nil⟩ (fun j H' _ z => SqL.of (z.1 _ _ er)) ?_ ?_⟩
      · rintro j x H2 H2' hj ⟨s2, ts, eD, hts⟩ ⟨rfl, hx⟩
        obtain ⟨b, hb, cb, rfl, ecb⟩ := paired_at hrs hx
        obtain ⟨b1, b2⟩ := rowsN_of (c * n) b (List.mem_of_getElem? hb)
        have hc4 : c ≤ 6 := Nat.le_trans (Nat.le_mul_of_pos_right c hn) hcn
        refine ⟨rfl, rfl, _, rfl, _, rfl, _, rfl, _, _, _, rfl, ty3_int _, fun e' => absurd e (by rw [e']; decide), fun _ => ⟨q, cb, b, n, c, rfl, rfl, rfl, .inr (s2 _ _ ecb), by rw [b1, Nat.mul_comm], hn, hn4, hc, by omega, b2, fun y H3 s3 hL g => ?_⟩⟩
        have eD3 := s3 _ _ eD
        have hts3 : Paired (LR L q n c H3) ts _ := paired_mono (fun _ _ q => q.same s3) hts
        have lrD : ∀ {o : HO} {r : V} {b : List Int}, LR L q n c H3 r b → LR L q n c (upd H3 D o) r b := fun h => by
          obtain ⟨y, e, ⟨dx, a, tl, zs, h1, h2, h3, h4⟩, g⟩ := h
          have ne : ∀ {z : Addr} {o' : HO}, H3 z = some o' → (∀ xs, o' ≠ .lst xs) → z ≠ D := fun hz hn => ne_of hz eD3 (hn _)
          refine ⟨y, e, ⟨dx, a, tl, zs, by rw [upd_ne (ne h1 (fun _ z => nomatch z))]; exact h1, by rw [upd_ne (ne h2 (fun _ z => nomatch z))]; exact h2, paired_mono (fun _ _ q => ?_) h3, by rw [upd_ne (ne h4 (fun _ z => nomatch z))]; exact h4⟩, g⟩
          obtain ⟨c, e, h⟩ := q
          exact ⟨c, e, by rw [upd_ne (ne h (fun _ z => nomatch z))]; exact h⟩
        refine ⟨ts, eD3, ?_, fun d o hd => ?_, ts ++ [.ref y], upd_same, ?_⟩
        · rw [paired_len hts, List.length_take, rowsN_len]
          exact small1000 (Nat.le_trans (Nat.min_le_right _ _) (Nat.le_trans (small (by omega)) (by decide)))
        · rw [upd_ne (ne_of_none hd hD)]
          exact s3 _ _ (s2 _ _ hd)
        · rw [List.take_succ, hb]
          exact paired_app (paired_mono (fun _ _ q => lrD q) hts3) (.cons (lrD ⟨y, rfl, hL, g⟩) .nil)
      · rintro H2 ⟨s2, ts, eD, hts⟩
        rw [paired_len hrs, List.take_length] at hts
        exact ⟨D, ts, rfl, .inl ⟨SqL.of eD, fun T hT => kk T ts _ (s1.trans (s2.trans (same_new hT))) upd_same (paired_mono (fun _ _ q => q.same (same_new hT)) hts)⟩⟩
end
end WU

set_option maxRecDepth 100000
set_option maxHeartbeats 4000000
/-! t[::-1] of a tuple, and of what is a list or a tuple -/
namespace WU
open PySem PySem.Spec PyProof.Rows L2
section
variable {prog : Program} {w : World} {A : Around} {E : Value → Shared → Prop} {s : Shared}
theorem applied_back {sl : Addr} {vl vu vs : Value} {n : Nat} {Q : Int × Int × Nat → Shared → Prop} (hs : s.heap.IsSliceOf sl vl vu vs) (pl : IsPart vl none) (pu : IsPart vu none) (ps : IsPart vs (some (-1)))
    (h : Q ((n : Int) - 1, -1, n) s) : wpAny (model prog w) A (Builtin.Slice.sliceApplied (.ref sl) (pure (n : Int))) Q E s := by
  obtain ⟨os, hos, hcs, hds⟩ := id hs
  unfold Builtin.Slice.sliceApplied Builtin.Slice.sliceFields
  refine wpAny_bind (wpAny_bind (wpAny_field hos hds (x := vl) rfl (wpAny_bind (wpAny_field hos hds (x := vu) rfl (wpAny_bind (wpAny_field hos hds (x := vs) rfl (wpAny_pure ?_)))))))
  refine wpAny_bind (HT.slicePart_ ps ?_)
  show wpAny _ _ (if ((-1 : Int) == 0) = true then _ else _) _ _ s
  rw [if_neg (by decide)]
  refine wpAny_bind (HT.slicePart_ pl (wpAny_bind (HT.slicePart_ pu (wpAny_bind (wpAny_pure ?_)))))
  show wpAny _ _ (match Builtin.Slice.sliceAdjust none none (-1) (n : Int) with | (lo, hi) => pure (lo, (-1 : Int), Builtin.Slice.slicePlaces lo hi (-1))) _ _ s
  have e : Builtin.Slice.sliceAdjust none none (-1) (n : Int) = ((n : Int) - 1, -1) := by
    unfold Builtin.Slice.sliceAdjust
    simp
  rw [e]
  show wpAny _ _ (pure ((n : Int) - 1, (-1 : Int), Builtin.Slice.slicePlaces ((n : Int) - 1) (-1) (-1))) _ _ s
  have e2 : Builtin.Slice.slicePlaces ((n : Int) - 1) (-1) (-1) = n := by
    unfold Builtin.Slice.slicePlaces
    rw [if_neg (by decide)]
    by_cases hn : n = 0
    · subst hn
      decide
    · rw [if_pos (by omega), show (- (-1 : Int)) = 1 by decide, Int.ediv_one]
      omega
  rw [e2]
  exact wpAny_pure h
theorem pick_back (xs : Array Value) : ((List.range xs.size).filterMap fun (m : Nat) => xs[(((xs.size : Int) - 1) + (m : Int) * (-1)).toNat]?).toArray = xs.toList.reverse.toArray := by
  have e : (fun (m : Nat) => xs[(((xs.size : Int) - 1) + (m : Int) * (-1)).toNat]?) = fun m => if m < xs.size then xs.toList.reverse[m]? else xs[(((xs.size : Int) - 1) + (m : Int) * (-1)).toNat]? := by
    funext m
    by_cases h : m < xs.size
    · rw [if_pos h, List.getElem?_reverse (by simpa using h)]
      simp only [Array.getElem?_toList, Array.length_toList]
      congr 1
      omega
    · rw [if_neg h]
  congr 1
  refine List.ext_getElem? fun i => ?_
  have hfm : ∀ (k : Nat) (f : Nat → Option Value), (∀ m, m < k → ∃ v, f m = some v) → ((List.range k).filterMap f)[i]? = if i < k then f i else none := by
    intro k f hf
    induction k with
    | zero => simp
    | succ k ih =>
      obtain ⟨v, hv⟩ := hf k (Nat.lt_succ_self _)
      have ih' := ih fun m hm => hf m (by omega)
      have hl : ((List.range k).filterMap f).length = k := by
        clear ih ih' hv v
        induction k with
        | zero => rfl
        | succ k ih2 =>
          obtain ⟨v, hv⟩ := hf k (by omega)
          rw [List.range_succ, List.filterMap_append, List.length_append, ih2 fun m hm => hf m (by omega)]
          simp [hv]
      rw [List.range_succ, List.filterMap_append]
      by_cases h1 : i < k
      · rw [List.getElem?_append_left (by rw [hl]; exact h1), ih', if_pos h1, if_pos (by omega)]
      · rw [List.getElem?_append_right (by rw [hl]; omega), hl]
        simp only [List.filterMap_cons, hv, List.filterMap_nil]
        by_cases h2 : i = k
        · subst h2
          rw [Nat.sub_self, if_pos (Nat.lt_succ_self _), hv]
          rfl
        · rw [if_neg (by omega), List.getElem?_eq_none (by simp; omega)]
  rw [hfm]
  · by_cases h : i < xs.size
    · rw [if_pos h]
      have := congrFun e i
      simp only [if_pos h] at this
      exact this
    · rw [if_neg h, List.getElem?_eq_none (by simp; omega)]
  · intro m hm
    have : (((xs.size : Int) - 1) + (m : Int) * (-1)).toNat < xs.size := by omega
    exact ⟨_, Array.getElem?_eq_getElem this⟩
theorem get_tuple_back {t sl : Addr} {items : Array Value} {vl vu vs : Value} {Q : Value → Shared → Prop} (ht : IsTup s.heap t items) (hs : s.heap.IsSliceOf sl vl vu vs) (pl : IsPart vl none) (pu : IsPart vu none) (ps : IsPart vs (some (-1)))
    (h : Q (.ref s.heap.objs.size) { s with heap := s.heap.push { cls := .type "tuple", data := .seq items.toList.reverse.toArray } }) (hsz : items.size ≤ sizeLine) : wpAny (model prog w) A (getItem (.ref t) (.ref sl)) Q E s := by
  have fits : sizeOk (.seq items.toList.reverse.toArray) := by
    show items.toList.reverse.toArray.size ≤ sizeLine
    simpa using hsz
  obtain ⟨os, hos, hcs, hds⟩ := id hs
  have hTs : s.TypeIs (.ref sl) "slice" := ⟨os, hos, hcs⟩
  unfold getItem
  try with_reducible refine wpAny_holding ?_
  first | refine wpAny_bind (wpAny_pure ?_) | skip
  refine wpAny_bind (wpAny_sequenceKey ht.typeIs (by decide) ?_)
  refine wpAny_bind (wpAny_callSpecial?_slot (name := Str.ofString "__getitem__") ht.typeIs PyProof.Rows.slot_tuple_getitem (wpAny_call_entry PyProof.Rows.slot_tuple_getitem ht.typeIs entry_tuple_getitem ?_ (args_tuple_getitem _ _)))
  show wpAny _ _ (Builtin.Tuple.tupleItemsOf (.ref t) >>= _) _ _ s
  refine wpAny_bind (tupleItemsOf_ ht ?_)
  refine wpAny_bind (wpAny_typeOf hTs ?_)
  rw [if_pos (by decide)]
  refine wpAny_bind (applied_back hs pl pu ps ?_)
  have hno : ¬ ((((items.size : Int) - 1) == 0 && (-1 : Int) == 1 && items.size == items.size) = true) := by
    intro q
    rw [Bool.and_eq_true, Bool.and_eq_true] at q
    exact absurd q.1.2 (by decide)
  show wpAny _ _ (if (((items.size : Int) - 1) == 0 && (-1 : Int) == 1 && items.size == items.size) = true then _ else _) _ _ s
  rw [if_neg hno, pick_back]
  first
    | exact wpAny_bind (m := Builtin.Tuple.tupleExact _) (wpAny_newObj_type (wpAny_pure ⟨_, rfl, wpAny_pure h⟩) fits)
    | exact wpAny_bind (m := Builtin.Tuple.tupleExact _) (wpAny_newObj_type (wpAny_bind (wpAny_pure (wpAny_pure ⟨_, rfl, wpAny_pure h⟩))) fits)
    | exact wpAny_bind (wpAny_bind (m := Builtin.Tuple.tupleExact _) (wpAny_newObj_type (wpAny_pure (wpAny_pure ⟨_, rfl, wpAny_pure h⟩)) fits))
    | exact wpAny_bind (wpAny_bind (m := Builtin.Tuple.tupleExact _) (wpAny_newObj_type (wpAny_pure ⟨_, rfl, wpAny_pure h⟩) fits))
end
/-- x[::-1] of what is a list or a tuple -/
def tRevA (K : PySem.W.Frag) (te : TE) : TE := fun σ H Q => te σ H fun x H1 => ∃ a xs, x = .ref a ∧ ((SqL K H1 a xs ∧ ∀ p, H1 p = none → Q (.ref p) (upd H1 p (.lst xs.reverse))) ∨ (SqT K H1 a xs ∧ ∀ p, H1 p = none → Q (.ref p) (upd H1 p (.tup xs.reverse))))
theorem pe_revA {X : Cx} {e : Expr} {te : TE} {k : Nat} {p1 p2 p3 pos : Pos} (he : PE X e te) : PE X (.Subscript e (.Slice none none (some (.UnaryOp .USub (.Constant (.int 1) k p1) p2)) p3) pos) (tRevA X.K te) := by
  refine ⟨fun pins s σ H Q I h => ?_⟩
  refine Subscript_ (thn (he.run pins s σ H _ I h) fun v s1 ⟨x, H1, I1, r1, q1⟩ => ?_)
  obtain ⟨a, xs, ex, q⟩ := q1
  subst ex
  cases r1
  have step : PO X (some (.UnaryOp .USub (.Constant (.int 1) k p1) p2)) (tPart (tUn (rU fun i => .int (-i)) (tC (.int 1)))) := po_some (pe_un un_neg pe_int)
  refine wpAny_Slice (thn (po_none.run pins s1 σ H1 (fun o H2 => o = none ∧ H2 = H1) I1 ⟨rfl, rfl⟩) fun vl s2 ⟨l, H2, I2, pl, el, e2⟩ => ?_)
  subst el e2
  refine thn (po_none.run pins s2 σ H2 (fun o H3 => o = none ∧ H3 = H2) I2 ⟨rfl, rfl⟩) fun vu s3 ⟨u, H3, I3, pu, eu, e3⟩ => ?_
  subst eu e3
  refine thn (step.run pins s3 σ H3 (fun o H4 => o = some (-1) ∧ H4 = H3) I3 ⟨1, rfl, -1, rfl, rfl, rfl⟩) fun vs s4 ⟨o, H4, I4, ps, eo, e4⟩ => ?_
  subst eo e4
  have J : Inv X pins σ H4 { s4 with heap := s4.heap.push { cls := .type "slice", data := .fields #[vl, vu, vs] } } := I4.kept (t' := s4.toks) fun b ob q => Heap.get?_push_of_some _ q
  show wpAny (model X.prog X.w) X.A (subscriptTail e (.Slice none none (some (.UnaryOp .USub (.Constant (.int 1) k p1) p2)) p3) (.ref a) (.ref s4.heap.objs.size)) (EP X pins σ Q) X.xe { s4 with heap := s4.heap.push { cls := .type "slice", data := .fields #[vl, vu, vs] } }
  rcases q with ⟨hx, q⟩ | ⟨hx, q⟩
  · obtain ⟨its, r, hit, hz⟩ := J.list hx
    have hlen := r.length
    refine tail_any (ops := [.ref a, .ref s4.heap.objs.size]) hit.isList.typeIs (PySem.slot_list_getitem.lookup) ?_ (by with_unfolding_all rfl)
    refine wpAny_getItem_list_slice hit.isList (Heap.IsSliceOf.new _ vl vu vs) pl pu ps (by decide) ?_ (by rw [List.size_toArray]; omega)
    rw [PySem.W.krv_pick]
    refine ⟨.ref _, _, J.laid (t' := s4.toks) (o := .lst xs.reverse) (fun b ob q => Heap.get?_push_of_some _ q) (Nat.le_refl _) ?_, rfl, q _ (J.hok.fresh (Nat.le_refl _))⟩
    exact ⟨by rw [List.length_reverse]; exact hz, _, 0, r.reverse, Heap.get?_push_size _ rfl⟩
  · obtain ⟨its, r, hit, hz⟩ := J.tuple hx
    have hlen := r.length
    refine tail_any (ops := [.ref a, .ref s4.heap.objs.size]) hit.typeIs (PyProof.Rows.slot_tuple_getitem.lookup) ?_ (by with_unfolding_all rfl)
    refine get_tuple_back hit (Heap.IsSliceOf.new _ vl vu vs) pl pu ps ?_ (by rw [List.size_toArray]; omega)
    refine ⟨.ref _, _, J.laid (t' := s4.toks) (o := .tup xs.reverse) (fun b ob q => Heap.get?_push_of_some _ q) (Nat.le_refl _) ?_, rfl, q _ (J.hok.fresh (Nat.le_refl _))⟩
    exact ⟨by rw [List.length_reverse]; exact hz, _, r.reverse, IsTup.new _ _⟩
theorem pe_revAK {X : Cx} {K : PySem.W.Frag} {e : Expr} {te : TE} {k : Nat} {p1 p2 p3 pos : Pos} (he : PE X e te) (hK : X.K = K := by rfl) : PE X (.Subscript e (.Slice none none (some (.UnaryOp .USub (.Constant (.int 1) k p1) p2)) p3) pos) (tRevA K te) := hK ▸ pe_revA he
end WU

set_option maxRecDepth 100000
set_option maxHeartbeats 4000000
namespace WU
open PySem PySem.Spec PyProof.Rows L2
/-! ### zip of a list and a tuple, and of any two -/
def ItzW (K : PySem.W.Frag) (a b : Addr) : It :=
  ⟨fun i H => ∃ (xs ys : List V) (x y : V), SqL K H a xs ∧ SqT K H b ys ∧ xs[i]? = some x ∧ ys[i]? = some y,
    fun i H v H' => ∃ T x y, v = .ref T ∧ H T = none ∧ H' = upd H T (.tup [x, y]) ∧ (∀ xs, SqL K H a xs → xs[i]? = some x) ∧ ∀ ys, SqT K H b ys → ys[i]? = some y,
    fun i H => ∃ xs ys : List V, SqL K H a xs ∧ SqT K H b ys ∧ i ≤ xs.length ∧ i ≤ ys.length ∧ (i = xs.length ∨ i = ys.length)⟩
/-- how the zip of a list and a tuple stands ahead of its k-th turn -/
structure ZStW (z TI TO i1 i2 a b : Addr) (k : Nat) (hp : Heap) : Prop where
  zip : IsZip hp z TI TO .none
  its : IsPair hp TI (.ref i1) (.ref i2)
  out : ∃ x y, IsPair hp TO x y
  fst : hp.IsListIter i1 a k
  snd : hp.IsTupleIter i2 b k
theorem ZStW.lt {z TI TO i1 i2 a b : Addr} {k : Nat} {hp : Heap} (S : ZStW z TI TO i1 i2 a b k hp) {c : Addr} (h : c ∈ [z, TI, TO, i1, i2]) : c < hp.objs.size := by
  obtain ⟨_, _, ho⟩ := S.out
  obtain ⟨_, h4, _⟩ := S.fst
  obtain ⟨_, h5, _⟩ := S.snd
  rcases five h with q | q | q | q | q <;> rw [q]
  · exact Heap.lt_size S.zip
  · exact Heap.lt_size S.its
  · exact Heap.lt_size ho
  · exact Heap.lt_size h4
  · exact Heap.lt_size h5
theorem turn_zipW {P : Program} {w : World} {K : PySem.W.Frag} {elts : List Expr} {kk : Nat} {tpos : Pos} {a b z TI TO i1 i2 : Addr} (D : ZipApart z TI TO i1 i2 a b) : Turn P w K (.Tuple elts kk tpos) (ItzW K a b) [z, TI, TO, i1, i2] z (ZStW z TI TO i1 i2 a b) where
  mem := List.mem_cons_self
  obj := fun k hp S c hc => by
    obtain ⟨_, _, ho⟩ := S.out
    obtain ⟨o4, h4, _, d4⟩ := S.fst
    obtain ⟨o5, h5, _, d5⟩ := S.snd
    rcases five hc with q | q | q | q | q <;> subst q
    · exact ⟨_, S.zip, fun v => by intro e; cases e⟩
    · exact ⟨_, S.its, fun v => by intro e; cases e⟩
    · exact ⟨_, ho, fun v => by intro e; cases e⟩
    · exact ⟨o4, h4, fun v e => by rw [d4] at e; cases e⟩
    · exact ⟨o5, h5, fun v e => by rw [d5] at e; cases e⟩
  keep := fun k hp hp' S same => by
    obtain ⟨x, y, ho⟩ := S.out
    exact ⟨same _ List.mem_cons_self _ S.zip, same TI (by simp) _ S.its, ⟨x, y, same TO (by simp) _ ho⟩, S.fst.at fun ob => same i1 (by simp) ob, S.snd.at fun ob => same i2 (by simp) ob⟩
  item := by
    intro X eP ew eK calm k pn st sg HH EE inv fp S go
    subst eP ew eK
    obtain ⟨xs, ys, x, y, sx, sy, gx, gy⟩ := go
    obtain ⟨us, rx, px, _⟩ := inv.list sx
    obtain ⟨vs, ry, py, _⟩ := inv.tuple sy
    obtain ⟨ux, hux, rux⟩ := rx.get gx
    obtain ⟨uy, huy, ruy⟩ := ry.get gy
    obtain ⟨_, _, ho⟩ := S.out
    have nh := inv.ok.hd calm
    have D1 := Draws.list (prog := X.prog) (w := X.w) (A := X.A.in1) nh i1 a D.l1i1 us.toArray
    have D2 := Draws.tuple (prog := X.prog) (w := X.w) (A := X.A.in1) nh i2 b D.l2i2 vs.toArray
    have lx : k < us.toArray.size := by rw [List.size_toArray]; exact (List.getElem?_eq_some_iff.mp hux).1
    have ly : k < vs.toArray.size := by rw [List.size_toArray]; exact (List.getElem?_eq_some_iff.mp huy).1
    have zl := S.lt (c := z) List.mem_cons_self
    refine wpAny_pyNext_zipD2_item (zsep D) D1 D2 S.zip S.its ho ⟨S.fst, px.isList⟩ ⟨S.snd, py⟩ lx ly ?_
    intro v1 v2 h1 tk q1 q2 z1 o1 f1 g1 new1 _ rest
    have q1' : us[k]? = some v1 := by simpa using q1
    have q2' : vs[k]? = some v2 := by simpa using q2
    cases hux.symm.trans q1'
    cases huy.symm.trans q2'
    refine ⟨_, rfl, wpAny_letOwnedTupleGo_zip (s := { st with heap := h1, toks := tk }) z1 fun h2 z2 but => ?_⟩
    have tup2 : h2.get? st.heap.objs.size = some { cls := .type "tuple", data := .seq #[ux, uy] } := (but.2 _ (Nat.ne_of_gt zl)).trans new1
    have out : ∀ c o, c ∉ [z, TI, TO, i1, i2] → st.heap.get? c = some o → h2.get? c = some o := fun c o nc ec => by
      have nz : c ≠ z := fun q => nc (by rw [q]; simp)
      have nO : c ≠ TO := fun q => nc (by rw [q]; simp)
      have n1 : c ≠ i1 := fun q => nc (by rw [q]; simp)
      have n2 : c ≠ i2 := fun q => nc (by rw [q]; simp)
      exact (but.2 c nz).trans (rest c o nz nO n1 n2 ec)
    have J : Inv X pn sg (upd HH st.heap.objs.size (.tup [x, y])) { st with heap := h2, toks := tk } :=
      inv.turnedNew (t' := tk) (ch := [z, TI, TO, i1, i2]) out fp (Nat.le_refl _) ⟨by show 2 ≤ sizeLine; decide, [ux, uy], .cons rux (.cons ruy .nil), ⟨_, tup2, rfl, _, rfl⟩⟩
    refine ⟨.ref st.heap.objs.size, _, J, rfl, ⟨_, x, y, rfl, inv.hok.fresh (Nat.le_refl _), rfl, fun l hl => ?_, fun l hl => ?_⟩, ⟨z2, ?_, ⟨ux, uy, ?_⟩, ?_, ?_⟩, fun c hc => ?_⟩
    · rw [inv.list_inj hl sx]
      exact gx
    · rw [inv.tuple_inj hl sy]
      exact gy
    · have e := rest TI _ D.TIz D.TITO D.TIi1 D.TIi2 S.its
      exact (but.2 TI D.TIz).trans e
    · exact (but.2 TO D.TOz).trans o1
    · exact f1.1.at fun ob eo => (but.2 i1 D.i1z).trans eo
    · exact g1.1.at fun ob eo => (but.2 i2 D.i2z).trans eo
    · rw [upd_ne (Nat.ne_of_lt (S.lt hc))]
      exact (fp c hc).1
  done := by
    intro X eP ew eK calm k pn st sg HH EE inv fp S go
    subst eP ew eK
    obtain ⟨xs, ys, sx, sy, l1, l2, fin⟩ := go
    obtain ⟨us, rx, px, _⟩ := inv.list sx
    obtain ⟨vs, ry, py, _⟩ := inv.tuple sy
    obtain ⟨_, _, ho⟩ := S.out
    have nh := inv.ok.hd calm
    have D1 := Draws.list (prog := X.prog) (w := X.w) (A := X.A.in1) nh i1 a D.l1i1 us.toArray
    have D2 := Draws.tuple (prog := X.prog) (w := X.w) (A := X.A.in1) nh i2 b D.l2i2 vs.toArray
    have m1 : us.toArray.size = xs.length := by rw [List.size_toArray, ← rx.length]
    have m2 : vs.toArray.size = ys.length := by rw [List.size_toArray, ← ry.length]
    refine wpAny_pyNext_zipD2_end (zsep D) D1 D2 S.zip S.its ho ⟨S.fst, px.isList⟩ ⟨S.snd, py⟩ (by omega) (by omega) (by omega) fun h1 tk rest => ⟨rfl, ?_⟩
    refine inv.turnedL (t' := tk) (ch := [z, TI, TO, i1, i2]) (fun c o nc ec => ?_) fp
    refine rest c o (fun q => nc ?_) (fun q => nc ?_) (fun q => nc ?_) (fun q => nc ?_) ec <;> rw [q] <;> simp
  self := fun _ _ _ _ _ S go => wpAny_pyIter_zip S.zip go
theorem walk_zipW {K : PySem.W.Frag} {a b : Addr} {xs ys : List V} {n : Nat} (l1 : xs.length = n) (l2 : ys.length = n) : Walk (ItzW K a b) n (fun H => SqL K H a xs ∧ SqT K H b ys) (YPair (fun i => xs[i]?) (fun i => ys[i]?)) where
  goes := fun i _ hi ⟨sx, sy⟩ => ⟨xs, ys, xs[i]'(by omega), ys[i]'(by omega), sx, sy, List.getElem?_eq_getElem _, List.getElem?_eq_getElem _⟩
  stops := fun _ ⟨sx, sy⟩ => ⟨xs, ys, sx, sy, Nat.le_of_eq l1.symm, Nat.le_of_eq l2.symm, .inl l1.symm⟩
  yields := fun _ _ _ _ _ ⟨sx, sy⟩ ⟨T, x, y, e, new, eH, fx, fy⟩ => ⟨T, x, y, e, new, eH, fx xs sx, fy ys sy⟩
/-- the walk of zip(a, b), each a list or a tuple -/
def Itz4 (K : PySem.W.Frag) (a b : Addr) (k1 k2 : Bool) : It := match k1, k2 with
  | true, true => Itz K a b
  | true, false => ItzW K a b
  | false, true => ItzM K a b
  | false, false => RZ.ItzT K a b
def SqB (K : PySem.W.Frag) (H : Hp) (a : Addr) (xs : List V) : Bool → Prop
  | true => SqL K H a xs
  | false => SqT K H a xs
def iZip4 (K : PySem.W.Frag) (ta : TA) : TI := fun σ H R => ta σ H fun vs H1 => ∃ a b xs ys k1 k2, vs = [.ref a, .ref b] ∧ SqB K H1 a xs k1 ∧ SqB K H1 b ys k2 ∧ R (Itz4 K a b k1 k2) H1
theorem pi_zip4 {X : Cx} {e e2 : Expr} {ta : TA} {p pos tpos : Pos} {elts : List Expr} {kk : Nat} (hg : Gl X "zip") (hm : X.mg "zip" = none) (ha : PA X [e, e2] ta) (hs : starEach [e, e2] X.env = (false, eval e X.env) :: starEach [e2] X.env := by rfl)
    (hpl : (backTo pos (starEach [e2] X.env)).any (·.1) = false := by rfl) : PI X (.Tuple elts kk tpos) (.Call (.Name "zip" p) [e, e2] [] pos) (iZip4 X.K ta) := by
  constructor
  intro pn st sg HH R inv h
  have args := ha.run pos pn st sg HH _ inv h
  refine Call_ (ld_blt inv hg hm boot_zip (callWith_type1 (thn args fun us s1 ⟨ws, H1, J, rel, a, b, xs, ys, k1, k2, ew, sx, sy, q⟩ => ?_) hs hpl))
  subst ew
  obtain ⟨u1, u2, rfl, ra, rb⟩ := Vals.two rel
  cases ra
  cases rb
  have young : ∀ c ∈ [s1.heap.objs.size + 4, s1.heap.objs.size + 2, s1.heap.objs.size + 3, s1.heap.objs.size, s1.heap.objs.size + 1], FpOk X pn H1 c := fun c hc => by
    have up : (s1.heap.objs.size : Nat) ≤ c := by
      rcases five hc with q | q | q | q | q <;> rw [q]
      · exact Nat.le_add_right _ 4
      · exact Nat.le_add_right _ 2
      · exact Nat.le_add_right _ 3
      · exact Nat.le_refl _
      · exact Nat.le_add_right _ 1
    exact J.fpOk up (J.hok.fresh up)
  cases k1 with
  | true =>
    obtain ⟨vx, _, px, _⟩ := J.list sx
    cases k2 with
    | true =>
      obtain ⟨vy, _, py, _⟩ := J.list sy
      refine call_zip_2 px.isList py.isList fun h' hz hTI hTO h1 h2 hsz hk => wpAny_pyIter_zip hz ?_
      exact ⟨s1.heap.objs.size + 4, _, _, _, H1, rfl, J.kept (t' := s1.toks) hk, turn_zip (PySem.W.ktu_apart s1.heap.objs.size a b px.lt py.lt), ⟨hz, hTI, ⟨_, _, hTO⟩, h1, h2⟩, young, q⟩
    | false =>
      obtain ⟨vy, _, py, _⟩ := J.tuple sy
      refine zip_begins2 (begins_list a vx.toArray) (begins_tuple b vy.toArray) px.isList py fun h' hz hI hO f g _ kept => wpAny_pyIter_zip hz ?_
      exact ⟨s1.heap.objs.size + 4, _, _, _, H1, rfl, J.kept (t' := s1.toks) kept, turn_zipW (PySem.W.ktu_apart s1.heap.objs.size a b px.lt py.lt), ⟨hz, hI, ⟨_, _, hO⟩, ⟨_, f, rfl, rfl⟩, ⟨_, g, rfl, rfl⟩⟩, young, q⟩
  | false =>
    obtain ⟨vx, _, px, _⟩ := J.tuple sx
    cases k2 with
    | true =>
      obtain ⟨vy, _, py, _⟩ := J.list sy
      refine zip_begins2 (begins_tuple a vx.toArray) (begins_list b vy.toArray) px py.isList fun h' hz hI hO f g _ kept => wpAny_pyIter_zip hz ?_
      exact ⟨s1.heap.objs.size + 4, _, _, _, H1, rfl, J.kept (t' := s1.toks) kept, turn_zipM (PySem.W.ktu_apart s1.heap.objs.size a b px.lt py.lt), ⟨hz, hI, ⟨_, _, hO⟩, ⟨_, f, rfl, rfl⟩, ⟨_, g, rfl, rfl⟩⟩, young, q⟩
    | false =>
      obtain ⟨vy, _, py, _⟩ := J.tuple sy
      refine RZ.call_zipT (show s1.heap.IsTuple a vx.toArray from px) (show s1.heap.IsTuple b vy.toArray from py) fun h' hz hI hO f g _ kept => wpAny_pyIter_zip hz ?_
      exact ⟨s1.heap.objs.size + 4, _, _, _, H1, rfl, J.kept (t' := s1.toks) kept, RZ.turn_zipT (PySem.W.ktu_apart s1.heap.objs.size a b px.lt py.lt), ⟨hz, hI, ⟨_, _, hO⟩, f, g⟩, young, q⟩
theorem pi_zip4K {X : Cx} {K : PySem.W.Frag} {e e2 : Expr} {ta : TA} {p pos tpos : Pos} {elts : List Expr} {kk : Nat} (hg : Gl X "zip") (hm : X.mg "zip" = none) (ha : PA X [e, e2] ta)
    (hs : starEach [e, e2] X.env = (false, eval e X.env) :: starEach [e2] X.env := by rfl) (hpl : (backTo pos (starEach [e2] X.env)).any (·.1) = false := by rfl) (hK : X.K = K := by rfl) :
    PI X (.Tuple elts kk tpos) (.Call (.Name "zip" p) [e, e2] [] pos) (iZip4 K ta) := hK ▸ pi_zip4 hg hm ha hs hpl
theorem walk_zip4 {K : PySem.W.Frag} {a b : Addr} {xs ys : List V} {n : Nat} {k1 k2 : Bool} (l1 : xs.length = n) (l2 : ys.length = n) : Walk (Itz4 K a b k1 k2) n (fun H => SqB K H a xs k1 ∧ SqB K H b ys k2) (YPair (fun i => xs[i]?) (fun i => ys[i]?)) := by
  cases k1 with
  | true =>
    cases k2 with
    | true => exact walk_zip (by rw [l1, l2]; exact (Nat.min_self n).symm)
    | false => exact walk_zipW l1 l2
  | false =>
    cases k2 with
    | true => exact walk_zipM l1 l2
    | false => exact walk_zipT (by rw [l1, l2]; exact (Nat.min_self n).symm)
/-- of which kind it is, for good -/
theorem SqO.kind {K : PySem.W.Frag} {H : Hp} {a : Addr} {xs : List V} (h : SqO H a xs) : ∃ k, ∀ H', Same H H' → SqB K H' a xs k := by
  rcases h with h | h
  · exact ⟨true, fun H' s => SqL.of (s _ _ h)⟩
  · exact ⟨false, fun H' s => sqT (rd_same s h)⟩
end WU

set_option maxRecDepth 100000
set_option maxHeartbeats 8000000
namespace WU
open PySem PySem.Spec PyProof.Rows L2
/-! ### lists of data of tuples -/
def LF {α : Type} (F : Hp → V → α → Prop) : Hp → V → List α → Prop := fun H v l => ∃ c xs, v = .ref c ∧ H c = some (.lst xs) ∧ Paired (F H) xs l
theorem LF.same {α : Type} {F : Hp → V → α → Prop} (st : ∀ H H' v z, Same H H' → F H v z → F H' v z) {H H' : Hp} {v : V} {l : List α} (h : LF F H v l) (s : Same H H') : LF F H' v l := by
  obtain ⟨c, xs, e, h, p⟩ := h
  exact ⟨c, xs, e, s _ _ h, paired_mono (fun _ _ q => st _ _ _ _ s q) p⟩
theorem sm_of {α : Type} {F : Hp → V → α → Prop} (st : Stb F) : ∀ H H' v z, Same H H' → F H v z → F H' v z := fun _ _ _ _ s h => st _ _ _ _ (TK.of s) h
theorem dt_LF {K : PySem.W.Frag} {α : Type} {F : Hp → V → α → Prop} {d : α → PyData} (h : Dt K F d) : Dt K (LF F) fun l => .list (l.map d) := fun H v l ⟨c, xs, e, hc, p⟩ => e ▸ .lst (SqL.of hc) (dt_all h p)
/-- one by one below -/
def RisG {α : Type} (d : α → PyData) (l : List α) : Prop := ∀ i a b, l[i]? = some a → l[i + 1]? = some b → PySem.W.dataLt (d a) (d b) = true
/-- data that may be ordered -/
structure Ord {α : Type} (d : α → PyData) : Prop where
  al : ∀ a b, PySem.W.alike (d a) (d b) = true
  dp : ∀ a, (d a).depth ≤ 60
  nn : ∀ a, d a ≠ .none
section
variable {P : Program} {w : World} {K : PySem.W.Frag} {mg : Str → Option Value} {base : Heap}
/-- is_rising(numbers): a list of data that rise -/
def spRiL {α : Type} (G : Hp → V → α → Prop) (d : α → PyData) : Sp := fun vs H Q _ => ∃ v l, vs = [v] ∧ LF G H v l ∧ RisG d l ∧ l.length ≤ 900 ∧ ∀ H', Same H H' → Q (.bl true) H'
theorem ok_RiL {α : Type} {G : Hp → V → α → Prop} {d : α → PyData} (st : Stb G) (hd : Dt K G d) (O : Ord d) {f : Addr} {fd : FuncData} (F : FnS K "is_rising" s_is_rising f fd) (B : Blt4 mg) : FnOk P w K mg base (L2.CX P w) 1 f fd ["numbers"] (spRiL G d) := by
  refine F.ok scRi (fun vs H Q E h => ?_) (fun cdv A outer s H vs Q E hr h => ?_)
  · obtain ⟨v, l, rfl, _⟩ := h
    rfl
  · obtain ⟨v, l, rfl, ⟨a, xs, rfl, ha, hP⟩, hR, hl, kk⟩ := h
    have nd := scRi.nd
    have hu := hr.units
    have el := paired_len hP
    refine ⟨_, (pss_one (ps_ret (pe_callB (cr_allK (K := K) rfl) (by rfl) B.all (by decide +kernel) (pa_cons (pe_lc (own := [("one", 1), ("other", 2)]) (g := (gTup K 2 (gCons (gName 1) (gCons (gName 2) gNil)))) (by rfl) nd (zipAK (K := K) (by rfl) B.zip (pa_cons (pv 0) (pa_cons (pe_slice (sl_listK (K := K)) (pv 0) (po_some pe_int) po_none) pa_nil))) (blkOk_by (own := [("one", 1), ("other", 2)]) (N := ["numbers", "one", "other"]) (sc := defScope s_is_rising) (by decide +kernel)) (fun _ _ _ _ _ => (pg_tup rfl (pgs_cons (pg_name (i := 1) nd rfl (Or.inl rfl)) (pgs_cons (pg_name (i := 2) nd rfl (Or.inl rfl)) pgs_nil)))) (fun _ _ _ _ _ => pts_nil) (fun _ _ _ _ _ => (pe_cmpR (op_ltD (K := K) hu) (pv 1) (pv 2) (nomark _)))) pa_nil)))), ?_⟩
    refine ⟨_, rfl, _, rfl, 1, rfl, ?_⟩
    dsimp only [tNoPart]
    refine ⟨a, xs, rfl, SqL.of ha, fun b hb0 => ?_⟩
    rw [cut1]
    have s1 := same_new (o := .lst (xs.drop 1)) hb0
    have hb : upd H b (.lst (xs.drop 1)) b = some (.lst (xs.drop 1)) := upd_same
    generalize upd H b (.lst (xs.drop 1)) = H1 at s1 hb ⊢
    refine ⟨a, b, xs, xs.drop 1, rfl, .inl ⟨SqL.of (s1 _ _ ha), SqL.of hb, fun D hD => lc_it (walk_zip (n := xs.length - 1) (by rw [List.length_drop]; omega)) (fun i H' => Same H1 H' ∧ H' D = some (.lst ((List.replicate i true).map V.bl))) ⟨same_new hD, upd_same⟩ (fun i H' _ z => ⟨SqL.of (z.1 _ _ (s1 _ _ ha)), SqL.of (z.1 _ _ hb)⟩) ?_ ?_⟩⟩
    · rintro i x H2 H3 hi ⟨z1, z2⟩ ⟨T, x1, x2, rfl, hT, rfl, g1, g2⟩
      obtain ⟨y1, e1, f1⟩ := paired_at hP g1
      have g2 : (xs.drop 1)[i]? = some x2 := g2
      rw [List.getElem?_drop, Nat.add_comm 1 i] at g2
      obtain ⟨y2, e2, f2⟩ := paired_at hP g2
      have k3 : TK H (upd H2 T (.tup [x1, x2])) := (TK.of (s1.trans z1)).trans (TK.new hT)
      refine ⟨T, _, rfl, SqT.of upd_same, rfl, _, _, rfl, _, _, rfl, rfl, rfl, _, rfl, _, rfl, d y1, d y2, hd _ _ _ (st _ _ _ _ k3 f1), hd _ _ _ (st _ _ _ _ k3 f2), O.al _ _, O.nn _, O.dp _, ?_⟩
      rw [hR i _ _ e1 e2]
      have z2' : upd H2 T (.tup [x1, x2]) D = some (.lst ((List.replicate i true).map V.bl)) := same_new hT _ _ z2
      refine ⟨_, z2', by rw [List.length_map, List.length_replicate]; exact small1000 (by omega), fun c u z => ?_, ?_⟩
      · rw [upd_ne (ne_of_none z hD)]
        exact same_new hT _ _ (z1 _ _ z)
      · rw [upd_same, List.replicate_succ', List.map_append]
        rfl
    · rintro H2 ⟨z1, z2⟩
      refine ⟨D, _, rfl, SqL.of z2, ?_⟩
      rw [show ((List.replicate (xs.length - 1) true).all id) = true by simp]
      exact kk _ (s1.trans z1)
/-! ### questions of tables -/
/-- a question: the number of letters, and its rows, the answers -/
def TQ : Hp → V → Nat × List (List Int) → Prop := fun H v d => TD H v ((d.1 : Int), d.2)
theorem stb_TQ : Stb TQ := fun H H' v d k h => stb_TD H H' v _ k h
def dQ (d : Nat × List (List Int)) : PyData := .tuple [.int (d.1 : Int), d2 d.2]
theorem dtQ {K : PySem.W.Frag} : Dt K TQ dQ := fun H v d ⟨c, y, e, h, t⟩ => e ▸ .tup (SqT.of h) (.cons (.int _) (.cons (dt2 _ _ _ t) .nil))
theorem ordQ : Ord dQ := ⟨fun a b => by
  show PySem.W.alike (.tuple _) (.tuple _) = true
  rw [PySem.W.alike, PySem.W.alikeAll, PySem.W.alikeAll, alike2, PySem.W.alikeAll]
  rfl, fun a => by
  have := depthR a.2
  show (PyData.tuple _).depth ≤ 60
  simp only [PyData.depth, PyData.depthAll, d2]
  omega, fun a z => by cases z⟩
/-- a right question: so many rows of so many letters -/
def Qr (p : Int) (libs : Nat) (d : Nat × List (List Int)) : Prop := d.2.length = libs ∧ (∀ r ∈ d.2, Ltr p d.1 r) ∧ d.1 ≤ 100 ∧ libs ≤ 100
/-- _is_question(p, libraries, value) -/
def spQ1 : Sp := fun vs H Q _ => ∃ (p : Int) (n : Nat) (v : V) (d : Nat × List (List Int)), vs = [.int p, .int n, v] ∧ TQ H v d ∧ Qr p n d ∧ ∀ H', Same H H' → Q (.bl true) H'
theorem scQ1 : FnScope ["p", "libraries", "value"] ["p", "libraries", "value"] (defScope s_is_question) := ⟨rfl, rfl, rfl, by decide +kernel, rfl, by decide +kernel, by decide +kernel⟩
theorem ok_Q1 {f f1 f2 : Addr} {fd fd1 fd2 : FuncData} (F : FnS K "_is_question" s_is_question f fd) (B : Blt4 mg) (C1 : Cal P w K mg base 2 "is_number" f1 fd1 ["value"] (spIsNum K)) (CMt : Cal P w K mg base 6 "is_matrix" f2 fd2 ["value", "p", "columns"] (spMat K)) : FnOk P w K mg base (L2.CX P w) 7 f fd ["p", "libraries", "value"] spQ1 := by
  refine F.ok scQ1 (fun vs H Q E h => ?_) (fun cdv A outer s H vs Q E hr h => ?_)
  · obtain ⟨p, n, v, d, rfl, _⟩ := h
    rfl
  · obtain ⟨p, n, v, ⟨k, rows⟩, rfl, ⟨c, y, rfl, hc, hy⟩, ⟨h1, h2, h3, h4⟩, kk⟩ := h
    have nd := scQ1.nd
    have h1 : rows.length = n := h1
    refine ⟨_, (pss_cons (ps_if (PW.pt (pw_or (pt_not (pt_val (pe_callB (isiK (K := K)) (by rfl) B.isi (by decide +kernel) (pa_cons (pv 2) (pa_cons (pe_bltn (v := .ty "tuple") (by rfl) B.tuple (by decide +kernel) rfl) pa_nil))))) (pw_or (pt_cmpR op_ne (pe_callB (len_seqK (K := K)) (by rfl) B.len (by decide +kernel) (pa_cons (pv 2) pa_nil)) pe_int (nomark _)) (pw_or1 (pt_not (pt_val (pe_cal C1 (hr.mono (by decide)) (pa_cons (pe_ix (ix_tupK (K := K)) (pv 2) pe_int (fun _ _ => rfl)) pa_nil) passU))))))) (pss_one (ps_ret pe_bl)) pss_nil)
      (pss_one (ps_ret (pe_and (pe_cal CMt (hr.mono (by decide)) (pa_cons (pe_ix (ix_tupK (K := K)) (pv 2) pe_int (fun _ _ => rfl)) (pa_cons (pv 0) (pa_cons (pe_ix (ix_tupK (K := K)) (pv 2) pe_int (fun _ _ => rfl)) pa_nil))) passU) (pe_one (pe_cmpR op_eq (pe_callB (len_seqK (K := K)) (by rfl) B.len (by decide +kernel) (pa_cons (pe_ix (ix_tupK (K := K)) (pv 2) pe_int (fun _ _ => rfl)) pa_nil)) (pv 1) (nomark _))))))), ?_⟩
    refine ⟨_, rfl, _, _, _, _, _, rfl, .ty "tuple", .base (.tup hc), kit_ty (show kitB "tuple" "tuple" = some true by decide +kernel), _, rfl, iteF ?_⟩
    refine ⟨_, rfl, c, _, rfl, .inr (SqT.of hc), rfl, _, rfl, iteFb rfl ?_⟩
    refine ⟨_, rfl, tup_at (i := 0) hc rfl ?_⟩
    refine ⟨_, rfl, ty3_int _, _, rfl, ?_⟩
    rw [show isN (.int (k : Int)) = true by show decide (0 ≤ (k : Int)) = true; exact decide_eq_true (by omega)]
    refine iteF ?_
    refine ⟨_, rfl, c, _, (1 : Int), _, rfl, rfl, SqT.of hc, rfl, _, rfl, _, rfl, c, _, (0 : Int), _, rfl, rfl, SqT.of hc, rfl, ?_⟩
    refine ⟨p, k, y, MD rows, rfl, hy.mt.dp, small_rows h2 (by show k ≤ 200; have : k ≤ 100 := h3; omega) (by omega), fun H1 s1 => ?_⟩
    rw [mat_rows h2]
    refine ⟨_, rfl, iteT ?_⟩
    obtain ⟨e, ys, rfl, he, hp⟩ := hy
    refine ⟨_, rfl, c, _, (1 : Int), _, rfl, rfl, SqT.of (s1 _ _ hc), rfl, e, _, rfl, .inr (SqT.of (s1 _ _ he)), _, rfl, rfl, ?_⟩
    rw [paired_len hp, h1, decide_eq_true rfl]
    exact kk _ s1
/-- the questions of a house of tables are right -/
def Qtk (p : Int) (libs : Nat) (qs : List (Nat × List (List Int))) : Prop := RisG dQ qs ∧ qs.length ≤ 900 ∧ ∀ q ∈ qs, Qr p libs q
/-- _are_questions(p, libraries, value) of tables, a list -/
def spQt : Sp := fun vs H Q _ => ∃ (p : Int) (n : Nat) (v : V) (qs : List (Nat × List (List Int))), vs = [.int p, .int n, v] ∧ LF TQ H v qs ∧ Qtk p n qs ∧ ∀ H', Same H H' → Q (.bl true) H'
theorem scQt : FnScope ["p", "libraries", "value", "question"] ["p", "libraries", "value"] (defScope s_are_questions2) := ⟨rfl, rfl, rfl, by decide +kernel, rfl, by decide +kernel, by decide +kernel⟩
theorem ok_Qt {f f1 f2 f3 : Addr} {fd fd1 fd2 fd3 : FuncData} (F : FnS K "_are_questions" s_are_questions2 f fd) (B : Blt4 mg) (CSq : Cal P w K mg base 1 "is_sequence" f1 fd1 ["value"] (spSeq K)) (CQ1 : Cal P w K mg base 7 "_is_question" f2 fd2 ["p", "libraries", "value"] spQ1)
    (CRi : Cal P w K mg base 1 "is_rising" f3 fd3 ["numbers"] (spRiL TQ dQ)) : FnOk P w K mg base (L2.CX P w) 8 f fd ["p", "libraries", "value"] spQt := by
  refine F.ok scQt (fun vs H Q E h => ?_) (fun cdv A outer s H vs Q E hr h => ?_)
  · obtain ⟨p, n, v, qs, rfl, _⟩ := h
    rfl
  · obtain ⟨p, n, v, qs, rfl, hT, ⟨hR, hl, hq⟩, kk⟩ := h
    have nd := scQt.nd
    obtain ⟨a, xs, rfl, ha, hP⟩ := id hT
    have el := paired_len hP
    refine ⟨_, (pss_one (ps_ret (pe_and (pe_cal CSq (hr.mono (by decide)) (pa_cons (pv 2) pa_nil) passU) (pe_and (pe_callB (cr_allK (K := K) rfl) (by rfl) B.all (by decide +kernel) (pa_cons (pe_lc (own := [("question", 3)]) (g := gName 3) (by rfl) nd (pi_listK (K := K) (pv 2)) (blkOk_by (own := [("question", 3)]) (N := ["p", "libraries", "value", "question"]) (sc := defScope s_are_questions2) (by decide +kernel)) (fun _ _ _ _ _ => (pg_name (i := 3) nd rfl (Or.inl rfl))) (fun _ _ _ _ _ => pts_nil) (fun _ _ _ _ _ => (pe_cal CQ1 (hr.mono (by decide)) (pa_cons (pv 0) (pa_cons (pv 1) (pa_cons (pv 3) pa_nil))) passU))) pa_nil)) (pe_one (pe_cal CRi (hr.mono (by decide)) (pa_cons (pv 2) pa_nil) passU)))))), ?_⟩
    refine ⟨_, rfl, _, _, rfl, dt_LF dtQ _ _ _ hT, fun H1 s1 => ⟨_, rfl, iteT ?_⟩⟩
    refine ⟨_, rfl, a, rfl, ⟨_, SqL.of (s1 _ _ ha)⟩, fun D hD => lc_list (K := K) (a := a) (xs := xs) (fun i H' => Same H1 H' ∧ H' D = some (.lst ((List.replicate i true).map V.bl))) ⟨same_new hD, upd_same⟩ (fun i H' _ z => SqL.of (z.1 _ _ (s1 _ _ ha))) ?_ ?_⟩
    · rintro i x H2 hx ⟨z1, z2⟩
      obtain ⟨m, hm, fm⟩ := paired_at hP hx
      have hil : i < xs.length := (List.getElem?_eq_some_iff.mp hx).1
      exact ⟨rfl, _, rfl, _, rfl, _, rfl, p, n, x, m, rfl, stb_TQ _ _ _ _ (TK.of (s1.trans z1)) fm, hq m (List.mem_of_getElem? hm), fun H3 s3 => bl_put (z1.trans s3) (s3 _ _ z2) hD (by omega)⟩
    · rintro H2 ⟨z1, z2⟩
      refine ⟨D, _, rfl, SqL.of z2, ?_⟩
      rw [bl_all]
      exact ⟨_, rfl, iteT ⟨_, rfl, _, qs, rfl, hT.same (sm_of stb_TQ) (s1.trans z1), hR, hl, fun H3 s3 => kk _ ((s1.trans z1).trans s3)⟩⟩
end
end WU

set_option maxRecDepth 100000
set_option maxHeartbeats 8000000
namespace WU
open PySem PySem.Spec PyProof.Rows L2
/-- draws whose asks are a list -/
def TDL : Hp → V → Int × List (List Int) → Prop := fun H v d => ∃ c y, v = .ref c ∧ H c = some (.tup [.int d.1, y]) ∧ LF T1 H y d.2
theorem tdl_same : ∀ H H' v d, Same H H' → TDL H v d → TDL H' v d := fun H H' v d s ⟨c, y, e, h, t⟩ => ⟨c, y, e, s _ _ h, t.same (sm_of stb1) s⟩
def dDL (d : Int × List (List Int)) : PyData := .tuple [.int d.1, .list (d.2.map d1)]
theorem dtDL {K : PySem.W.Frag} : Dt K TDL dDL := fun H v d ⟨c, y, e, h, t⟩ => e ▸ .tup (SqT.of h) (.cons (.int d.1) (.cons (dt_LF dt1 _ _ _ t) .nil))
section
variable {P : Program} {w : World} {K : PySem.W.Frag} {mg : Str → Option Value} {base : Heap}
def spMbL (K : PySem.W.Frag) : Sp := fun vs H Q _ => ∃ (a : Addr) (xs : List V) (ds : List PyData), vs = [.ref a] ∧ H a = some (.lst xs) ∧ Dp K H (.ref a) (.list ds) ∧ 0 < xs.length ∧ ∀ l H', H' l = some (.lst xs) → Same H H' → Q (.ref l) H'
theorem ok_MbL {f f1 : Addr} {fd fd1 : FuncData} (F : FnS K "members_of" s_members_of f fd) (B : Blt4 mg) (CSq : Cal P w K mg base 1 "is_sequence" f1 fd1 ["value"] (spSeq K)) : FnOk P w K mg base (L2.CX P w) 2 f fd ["value"] (spMbL K) := by
  refine F.ok scmembers_of (fun vs H Q E h => ?_) (fun cdv A outer s H vs Q E hr h => ?_)
  · obtain ⟨a, xs, ds, rfl, _⟩ := h
    rfl
  · obtain ⟨a, xs, ds, rfl, ha, hd, hl, kk⟩ := h
    have nd := scmembers_of.nd
    refine ⟨_, (pss_one (ps_ret (pe_ifExp (PW.pt (pw_and (pt_val (pe_cal CSq (hr.mono (by decide)) (pa_cons (pv 0) pa_nil) passU)) (pw_and1 (pt_cmpR op_gt (pe_callB (len_seqK (K := K)) (by rfl) B.len (by decide +kernel) (pa_cons (pv 0) pa_nil)) pe_int (nomark _))))) (pe_callTy (list_ofK (K := K)) (by rfl) B.lst (by decide +kernel) (pa_cons (pv 0) pa_nil)) (pe_lst (pa_cons pe_non pa_nil))))), ?_⟩
    refine ⟨_, rfl, _, _, rfl, hd, fun H1 s1 => ⟨_, rfl, iteT ?_⟩⟩
    refine ⟨_, rfl, a, _, rfl, .inl (SqL.of (s1 _ _ ha)), _, _, rfl, rfl, _, rfl, iteTb (decide_eq_true (by omega)) ?_⟩
    exact ⟨_, rfl, a, _, rfl, .inl (SqL.of (s1 _ _ ha)), fun l hq => kk l _ upd_same (s1.trans (same_new hq))⟩
def spFrL : Sp := fun vs H Q _ => ∃ (v : V) (wt : Int) (ak : List (List Int)) (n m : Nat), vs = [v, .int n, .int m] ∧ TDL H v (wt, ak) ∧ 0 < wt ∧ ak.length = n ∧ (∀ r ∈ ak, r.length = m) ∧ n ≤ 900 ∧ ∀ H', Same H H' → Q (.bl true) H'
theorem ok_FrL {f f1 f2 : Addr} {fd fd1 fd2 : FuncData} (F : FnS K "_is_framed" s_is_framed f fd) (B : Blt4 mg) (CSq : Cal P w K mg base 1 "is_sequence" f1 fd1 ["value"] (spSeq K)) (CPo : Cal P w K mg base 2 "is_positive" f2 fd2 ["value"] spPo) :
    FnOk P w K mg base (L2.CX P w) 3 f fd ["value", "book_count", "house_count"] spFrL := by
  refine F.ok scis_framed (fun vs H Q E h => ?_) (fun cdv A outer s H vs Q E hr h => ?_)
  · obtain ⟨v, wt, ak, n, m, rfl, _⟩ := h
    rfl
  · obtain ⟨v, wt, ak, n, m, rfl, hT, hw, hn, hm, hl, kk⟩ := h
    have nd := scis_framed.nd
    obtain ⟨c, y, rfl, hc, hy⟩ := id hT
    obtain ⟨b, xs, rfl, hb, hP⟩ := id hy
    have el : xs.length = ak.length := paired_len hP
    refine ⟨_, (pss_cons (ps_if (PW.pt (pw_or (pt_not (pt_val (pe_cal CSq (hr.mono (by decide)) (pa_cons (pv 0) pa_nil) passU))) (pw_or (pt_cmpR op_ne (pe_callB (len_seqK (K := K)) (by rfl) B.len (by decide +kernel) (pa_cons (pv 0) pa_nil)) pe_int (nomark _)) (pw_or1 (pt_not (pt_val (pe_cal CPo (hr.mono (by decide)) (pa_cons (pe_ix (ix_tupK (K := K)) (pv 0) pe_int (fun _ _ => rfl)) pa_nil) passU))))))) (pss_one (ps_ret pe_bl)) pss_nil)
      (pss_cons (ps_set (i := 3) nd rfl (Or.inl rfl) (pe_ix (ix_tupK (K := K)) (pv 0) pe_int (fun _ _ => rfl)))
      (pss_cons (ps_if (PW.pt (pw_or (pt_not (pt_val (pe_cal CSq (hr.mono (by decide)) (pa_cons (pv 3) pa_nil) passU))) (pw_or1 (pt_cmpR op_ne (pe_callB (len_seqK (K := K)) (by rfl) B.len (by decide +kernel) (pa_cons (pv 3) pa_nil)) (pv 1) (nomark _))))) (pss_one (ps_ret pe_bl)) pss_nil)
      (pss_one (ps_ret (pe_callB (cr_allK (K := K) rfl) (by rfl) B.all (by decide +kernel) (pa_cons (pe_lc (own := [("asked", 4)]) (g := gName 4) (by rfl) nd (pi_listK (K := K) (pv 3)) (blkOk_by (own := [("asked", 4)]) (N := ["value", "book_count", "house_count", "asks", "asked"]) (sc := defScope s_is_framed) (by decide +kernel)) (fun _ _ _ _ _ => (pg_name (i := 4) nd rfl (Or.inl rfl))) (fun _ _ _ _ _ => pts_nil) (fun _ _ _ _ _ => (pe_and (pe_cal CSq (hr.mono (by decide)) (pa_cons (pv 4) pa_nil) passU) (pe_one (pe_cmpR op_eq (pe_callB (len_seqK (K := K)) (by rfl) B.len (by decide +kernel) (pa_cons (pv 4) pa_nil)) (pv 2) (nomark _)))))) pa_nil))))))), ?_⟩
    refine ⟨_, rfl, _, _, rfl, dtDL _ _ _ hT, fun H1 s1 => ⟨_, rfl, iteF ?_⟩⟩
    refine ⟨_, rfl, c, _, rfl, .inr (SqT.of (s1 _ _ hc)), rfl, _, rfl, iteFb rfl ?_⟩
    refine ⟨_, rfl, tup_at (i := 0) (s1 _ _ hc) rfl ⟨wt, rfl, hw, _, rfl, iteF ?_⟩⟩
    refine ⟨_, rfl, tup_at (i := 1) (s1 _ _ hc) rfl ?_⟩
    refine ⟨_, rfl, _, _, rfl, dt_LF dt1 _ _ _ (hy.same (sm_of stb1) s1), fun H2 s2 => ⟨_, rfl, iteF ?_⟩⟩
    have s2 := s1.trans s2
    refine ⟨_, rfl, b, _, rfl, .inl (SqL.of (s2 _ _ hb)), _, rfl, rfl, _, rfl, iteFb (by rw [decide_eq_true (congrArg (fun k : Nat => V.int k) (el.trans hn))]; rfl) ?_⟩
    refine ⟨_, rfl, b, rfl, ⟨_, SqL.of (s2 _ _ hb)⟩, fun D hD => lc_list (K := K) (a := b) (xs := xs) (fun i H' => Same H2 H' ∧ H' D = some (.lst ((List.replicate i true).map V.bl))) ⟨same_new hD, upd_same⟩ (fun i H' _ z => SqL.of (z.1 _ _ (s2 _ _ hb))) ?_ ?_⟩
    · rintro i x H3 hx ⟨z1, z2⟩
      obtain ⟨r, hr1, fr⟩ := paired_at hP hx
      have fr3 : T1 H3 x r := stb1 _ _ _ _ (TK.of (s2.trans z1)) fr
      have rl := hm r (List.mem_of_getElem? hr1)
      have hil : i < xs.length := (List.getElem?_eq_some_iff.mp hx).1
      refine ⟨rfl, _, rfl, x, d1 r, rfl, dt1 _ _ _ fr3, fun H4 s4 => ⟨_, rfl, iteT ?_⟩⟩
      obtain ⟨e, ys, rfl, he, hp⟩ := stb1 _ _ _ _ (TK.of s4) fr3
      refine ⟨_, rfl, e, _, rfl, .inr (SqT.of he), _, rfl, rfl, ?_⟩
      rw [paired_len hp, rl, decide_eq_true rfl]
      exact bl_put (z1.trans s4) (s4 _ _ z2) hD (by omega)
    · rintro H3 ⟨z1, z2⟩
      refine ⟨D, _, rfl, SqL.of z2, ?_⟩
      rw [bl_all]
      exact kk _ (s2.trans z1)
def spIdrL : Sp := fun vs H Q _ => ∃ (v : V) (d : Int × List (List Int)) (n : Nat) (cl : Addr) (counts : List Int), vs = [v, .int n, .ref cl] ∧ TDL H v d ∧ H cl = some (.lst (counts.map V.int)) ∧ Dok n counts d ∧ ∀ H', Same H H' → Q (.bl true) H'
theorem ok_IdrL {f f1 f2 : Addr} {fd fd1 fd2 : FuncData} (F : FnS K "is_draw" s_is_draw f fd) (B : Blt4 mg) (CFr : Cal P w K mg base 3 "_is_framed" f1 fd1 ["value", "book_count", "house_count"] spFrL) (C2 : Cal P w K mg base 3 "is_below" f2 fd2 ["value", "limit"] (spIsBel K)) :
    FnOk P w K mg base (L2.CX P w) 4 f fd ["value", "book_count", "counts"] spIdrL := by
  refine F.ok scIdr (fun vs H Q E h => ?_) (fun cdv A outer s H vs Q E hr h => ?_)
  · obtain ⟨v, d, n, cl, counts, rfl, _⟩ := h
    rfl
  · obtain ⟨v, ⟨wt, ak⟩, n, cl, counts, rfl, hT, hcl, ⟨hw, hn, hnm, hn9, hr1⟩, kk⟩ := h
    have nd := scIdr.nd
    obtain ⟨c, y, rfl, hc, hy⟩ := id hT
    obtain ⟨b, xs, rfl, hb, hP⟩ := id hy
    have el : xs.length = ak.length := paired_len hP
    have hn : ak.length = n := hn
    have lc : (counts.map V.int).length = counts.length := List.length_map _
    refine ⟨_, (pss_cons (ps_if (pt_not (pt_val (pe_cal CFr (hr.mono (by decide)) (pa_cons (pv 0) (pa_cons (pv 1) (pa_cons (pe_callB (len_seqK (K := K)) (by rfl) B.len (by decide +kernel) (pa_cons (pv 2) pa_nil)) pa_nil))) passU))) (pss_one (ps_ret pe_bl)) pss_nil)
      (pss_one (ps_ret (pe_callB (cr_allK (K := K) rfl) (by rfl) B.all (by decide +kernel) (pa_cons (pe_lc2 (wi1 := iZipM K (tCons (tVar 3) (tCons (tVar 2) tNil))) (te := tCall (spIsBel K) [] E0 (tCons (tVar 4) (tCons (tVar 5) tNil))) (own := [("asked", 3), ("number", 4), ("count", 5)]) (vs1 := [4, 5]) (g := gName 3) (g1 := gTup K 2 (gCons (gName 4) (gCons (gName 5) gNil))) (by rfl) nd (pi_listK (K := K) (pe_ix (ix_tupK (K := K)) (pv 0) pe_int (fun _ _ => rfl))) (blkOk_by (own := [("asked", 3), ("number", 4), ("count", 5)]) (N := ["value", "book_count", "counts", "asked", "number", "count"]) (sc := defScope s_is_draw) (by decide +kernel)) (by decide) (fun _ _ _ _ _ => pg_name (i := 3) nd rfl (Or.inl rfl)) (fun _ _ _ _ _ => pts_nil) (fun _ _ _ _ _ => pi_zipMK (K := K) (by rfl) B.zip (pa_cons (pv 3) (pa_cons (pv 2) pa_nil))) (fun _ _ _ _ _ => pg_tupK (K := K) (pg_tup rfl (pgs_cons (pg_name (i := 4) nd rfl (Or.inl rfl)) (pgs_cons (pg_name (i := 5) nd rfl (Or.inl rfl)) pgs_nil)))) (fun _ _ _ _ _ => pts_nil) (fun _ _ _ _ _ => (pe_cal C2 (hr.mono (by decide)) (pa_cons (pv 4) (pa_cons (pv 5) pa_nil)) passU))) pa_nil))))), ?_⟩
    refine ⟨_, rfl, _, rfl, _, rfl, cl, _, rfl, .inl (SqL.of hcl), _, wt, ak, n, (counts.map V.int).length, rfl, hT, hw, hn, fun r hr => by rw [lc]; exact (hr1 r hr).1, hn9, fun H1 s1 => ⟨_, rfl, iteF ?_⟩⟩
    have hb1 := s1 _ _ hb
    refine ⟨_, rfl, c, _, (1 : Int), .ref b, rfl, rfl, SqT.of (s1 _ _ hc), rfl, b, rfl, ⟨_, SqL.of hb1⟩, fun D hD => wIt (walk_list (K := K) (a := b) (xs := xs)) (fun i H' => Same H1 H' ∧ H' D = some (.lst ((List.replicate (i * counts.length) true).map V.bl))) ⟨same_new hD, by rw [Nat.zero_mul]; exact upd_same⟩ (fun i H' _ z => SqL.of (z.1 _ _ hb1)) ?_ ?_⟩
    · rintro i x H2 H2x hix ⟨z1, z2⟩ ⟨rfl, hx⟩
      obtain ⟨r, hri, fr⟩ := paired_at hP hx
      obtain ⟨rl, rb⟩ := hr1 r (List.mem_of_getElem? hri)
      have hil : i < ak.length := (List.getElem?_eq_some_iff.mp hri).1
      have mul : i * counts.length + counts.length ≤ n * counts.length := by
        have := Nat.mul_le_mul_right counts.length (show i + 1 ≤ n by omega)
        rw [Nat.succ_mul] at this
        exact this
      obtain ⟨e, ys, rfl, he, hp⟩ := fr
      have eys := fi_map hp
      subst eys
      refine ⟨rfl, _, rfl, _, rfl, e, cl, _, _, rfl, .inl ⟨SqT.of ((s1.trans z1) _ _ he), SqL.of ((s1.trans z1) _ _ hcl), wIt (walk_zipM (n := counts.length) (by rw [List.length_map]; exact rl) (by rw [List.length_map])) (fun j H' => Same H1 H' ∧ H' D = some (.lst ((List.replicate (i * counts.length + j) true).map V.bl))) ⟨z1, z2⟩ (fun j H' _ z => ⟨SqT.of ((s1.trans z.1) _ _ he), SqL.of ((s1.trans z.1) _ _ hcl)⟩) ?_ ?_⟩⟩
      · rintro j x H3 H4 hj ⟨q1, q3⟩ ⟨T, x1, x2, rfl, hT4, rfl, g1, g2⟩
        cases (take_map_at counts.length (r := r) (i := j) (by omega)).symm.trans g1
        cases (take_map_at counts.length (r := counts) (i := j) hj).symm.trans g2
        have bb := rb j hj
        refine ⟨T, _, rfl, SqT.of upd_same, rfl, _, _, rfl, _, _, rfl, rfl, rfl, _, rfl, _, rfl, _, _, rfl, ty3_int _, ?_⟩
        rw [show isBel (at0 counts j) (.int (at0 r j)) = true by
          show (decide (0 ≤ at0 r j) && decide (at0 r j < at0 counts j)) = true
          rw [decide_eq_true bb.1, decide_eq_true bb.2]
          rfl]
        exact bl_put (i := i * counts.length + j) (q1.trans (same_new hT4)) (same_new hT4 _ _ q3) hD (by omega)
      · rintro H3 ⟨q1, q3⟩
        rw [← Nat.succ_mul] at q3
        exact ⟨q1, q3⟩
    · rintro H2 ⟨z1, z2⟩
      refine ⟨D, _, rfl, SqL.of z2, ?_⟩
      rw [bl_all]
      exact kk _ (s1.trans z1)
def spCdL {α : Type} (G : Hp → V → α → Prop) : Sp := fun vs H Q _ => ∃ (n : Nat) (qv dv : V) (qss : List (List α)) (ds : List (Int × List (List Int))), vs = [.int n, qv, dv] ∧ LF (LF G) H qv qss ∧ LF TDL H dv ds ∧ 0 < ds.length ∧ ds.length ≤ 900 ∧ qss.length ≤ 900 ∧ (∀ d ∈ ds, Dok n (lens qss) d) ∧ ∀ H', Same H H' → Q .non H'
theorem ok_CdL {α : Type} {G : Hp → V → α → Prop} (st : Stb G) {f f1 f2 f3 : Addr} {fd fd1 fd2 fd3 : FuncData} (F : FnS K "check_draws" s_check_draws f fd) (B : Blt4 mg) (CPl : Cal P w K mg base 1 "check_places" f1 fd1 ["part", "rights"] spPs) (CMe : Cal P w K mg base 2 "members_of" f2 fd2 ["value"] (spMbL K)) (CDr : Cal P w K mg base 4 "is_draw" f3 fd3 ["value", "book_count", "counts"] spIdrL) :
    FnOk P w K mg base (L2.CX P w) 5 f fd ["book_count", "questions", "draws"] (spCdL G) := by
  refine F.ok sccheck_draws (fun vs H Q E h => ?_) (fun cdv A outer s H vs Q E hr h => ?_)
  · obtain ⟨n, qv, dv, qss, ds, rfl, _⟩ := h
    rfl
  · obtain ⟨n, qv, dv, qss, ds, rfl, hQ, hD0, d0, d9, q9, ok, kk⟩ := h
    have nd := sccheck_draws.nd
    obtain ⟨a, xs, rfl, ha, hP⟩ := id hQ
    obtain ⟨b, ys, rfl, hb, hP2⟩ := id hD0
    have el := paired_len hP
    have el2 := paired_len hP2
    refine ⟨_, (pss_cons (ps_set (i := 3) nd rfl (Or.inr rfl) (pe_lc (own := [("asked", 4)]) (g := gName 4) (by rfl) nd (pi_listK (K := K) (pv 1)) (blkOk_by (own := [("asked", 4)]) (N := ["book_count", "questions", "draws", "counts", "asked", "draw"]) (sc := defScope s_check_draws) (by decide +kernel)) (fun _ _ _ _ _ => (pg_name (i := 4) nd rfl (Or.inl rfl))) (fun _ _ _ _ _ => pts_nil) (fun _ _ _ _ _ => (pe_callB (len_seqK (K := K)) (by rfl) B.len (by decide +kernel) (pa_cons (pv 4) pa_nil)))))
      (pss_one (ps_expr (pe_cal CPl (hr.mono (by decide)) (pa_cons pe_str (pa_cons (pe_lc (own := [("draw", 5)]) (g := gName 5) (by rfl) nd (pi_listK (K := K) (pe_cal CMe (hr.mono (by decide)) (pa_cons (pv 2) pa_nil) passU)) (blkOk_by (own := [("draw", 5)]) (N := ["book_count", "questions", "draws", "counts", "asked", "draw"]) (sc := defScope s_check_draws) (by decide +kernel)) (fun _ _ _ _ _ => (pg_name (i := 5) nd rfl (Or.inl rfl))) (fun _ _ _ _ _ => pts_nil) (fun _ _ _ _ _ => (pe_cal CDr (hr.mono (by decide)) (pa_cons (pv 5) (pa_cons (pv 0) (pa_cons (pv 3) pa_nil))) passU))) pa_nil)) passU)))), ?_⟩
    refine ⟨_, rfl, a, rfl, ⟨_, SqL.of ha⟩, fun D hD => lc_list (K := K) (a := a) (xs := xs) (fun i H' => Same H H' ∧ H' D = some (.lst (((lens qss).take i).map V.int))) ⟨same_new hD, upd_same⟩ (fun i H' _ z => SqL.of (z.1 _ _ ha)) ?_ ?_⟩
    · rintro i x H1 hx ⟨s1, e1⟩
      obtain ⟨q, hq, c, zs, rfl, hc, hp⟩ := paired_at hP hx
      refine ⟨rfl, _, rfl, c, _, rfl, .inl (SqL.of (s1 _ _ hc)), _, e1, ?_, fun bq u hbq => ?_, ?_⟩
      · rw [List.length_map, List.length_take, lens_len]
        exact small1000 (by omega)
      · rw [upd_ne (ne_of_none hbq hD)]
        exact s1 _ _ hbq
      · rw [upd_same, List.take_succ, show (lens qss)[i]? = some (q.length : Int) by unfold lens; rw [List.getElem?_map, hq]; rfl, List.map_append, paired_len hp]
        rfl
    · rintro H1 ⟨s1, e1⟩
      rw [el, show qss.length = (lens qss).length by rw [lens_len], List.take_length] at e1
      refine ⟨_, rfl, b, ys, _, rfl, s1 _ _ hb, dt_LF dtDL _ _ _ (hD0.same tdl_same s1), by omega, fun l H2 hl s2 => ?_⟩
      have s12 := s1.trans s2
      refine ⟨l, rfl, ⟨_, SqL.of hl⟩, fun D2 hD2 => lc_list (K := K) (a := l) (xs := ys) (fun i H' => Same H2 H' ∧ H' D2 = some (.lst ((List.replicate i true).map V.bl))) ⟨same_new hD2, upd_same⟩ (fun i H' _ z => SqL.of (z.1 _ _ hl)) ?_ ?_⟩
      · rintro i x H3 hx ⟨z1, z2⟩
        obtain ⟨d, hd, fd'⟩ := paired_at hP2 hx
        have hil : i < ys.length := (List.getElem?_eq_some_iff.mp hx).1
        exact ⟨rfl, _, rfl, _, rfl, _, rfl, x, d, n, D, lens qss, rfl, tdl_same _ _ _ _ (s12.trans z1) fd', z1 _ _ (s2 _ _ e1), ok d (List.mem_of_getElem? hd), fun H4 s4 => bl_put (z1.trans s4) (s4 _ _ z2) hD2 (by omega)⟩
      · rintro H3 ⟨z1, z2⟩
        exact ⟨_, D2, _, rfl, z2, kk _ (s12.trans z1)⟩
def spKdL : Sp := fun vs H Q _ => ∃ v ds, vs = [v] ∧ LF TDL H v ds ∧ ds.length ≤ 900 ∧ (∀ d ∈ ds, d.2.length ≤ 900) ∧ ∀ y H', Same H H' → TF TD H' y ds → Q y H'
theorem ok_KdL {f : Addr} {fd : FuncData} (F : FnS K "kept_draws" s_kept_draws f fd) (B : Blt4 mg) : FnOk P w K mg base (L2.CX P w) 1 f fd ["draws"] spKdL := by
  refine F.ok sckept_draws (fun vs H Q E h => ?_) (fun cdv A outer s H vs Q E hr h => ?_)
  · obtain ⟨v, ds, rfl, _⟩ := h
    rfl
  · obtain ⟨v, ds, rfl, ⟨a, xs, rfl, ha, hP⟩, hl, ha9, kk⟩ := h
    have nd := sckept_draws.nd
    have el := paired_len hP
    refine ⟨_, (pss_one (ps_ret (pe_callTy (tup_ofK (K := K)) (by rfl) B.tuple (by decide +kernel) (pa_cons (pe_lc (own := [("weight", 1), ("asks", 2)]) (g := (gTup K 2 (gCons (gName 1) (gCons (gName 2) gNil)))) (by rfl) nd (pi_listK (K := K) (pv 0)) (blkOk_by (own := [("weight", 1), ("asks", 2)]) (N := ["draws", "weight", "asks", "asked"]) (sc := defScope s_kept_draws) (by decide +kernel)) (fun _ _ _ _ _ => (pg_tup rfl (pgs_cons (pg_name (i := 1) nd rfl (Or.inl rfl)) (pgs_cons (pg_name (i := 2) nd rfl (Or.inl rfl)) pgs_nil)))) (fun _ _ _ _ _ => pts_nil) (fun _ _ _ _ _ => (pe_tup (pa_cons (pv 1) (pa_cons (pe_callTy (tup_ofK (K := K)) (by rfl) B.tuple (by decide +kernel) (pa_cons (pe_lc (own := [("asked", 3)]) (g := gName 3) (by rfl) nd (pi_listK (K := K) (pv 2)) (blkOk_by (own := [("asked", 3)]) (N := ["draws", "weight", "asks", "asked"]) (sc := relS (retLc ((defBody s_kept_draws).getD 0 (.Pass ⟨0, 0, 0, 0⟩))) (defScope s_kept_draws)) (by decide +kernel)) (fun _ _ _ _ _ => (pg_name (i := 3) nd rfl (Or.inl rfl))) (fun _ _ _ _ _ => pts_nil) (fun _ _ _ _ _ => (pe_callTy (tup_ofK (K := K)) (by rfl) B.tuple (by decide +kernel) (pa_cons (pv 3) pa_nil)))) pa_nil)) pa_nil))))) pa_nil)))), ?_⟩
    refine ⟨_, rfl, a, rfl, ⟨_, SqL.of ha⟩, fun D hD => lc_list (K := K) (a := a) (xs := xs) (fun i H' => Same H H' ∧ Bd TD D (ds.take i) H') ⟨same_new hD, Bd.start⟩ (fun i H' _ z => SqL.of (z.1 _ _ ha)) ?_ ?_⟩
    · rintro i x H1 hx ⟨s1, b⟩
      obtain ⟨⟨wt, ak⟩, hd, c, y, rfl, hc, hy⟩ := paired_at hP hx
      have a9 := ha9 _ (List.mem_of_getElem? hd)
      obtain ⟨e, ys, rfl, he, hp⟩ := id hy
      have el2 : ys.length = ak.length := paired_len hp
      have hil : i < xs.length := (List.getElem?_eq_some_iff.mp hx).1
      refine ⟨c, _, rfl, SqT.of (s1 _ _ hc), rfl, _, _, rfl, _, _, rfl, rfl, rfl, _, rfl, ?_⟩
      refine ⟨_, rfl, e, rfl, ⟨_, SqL.of (s1 _ _ he)⟩, fun D2 hD2 => lc_list (K := K) (a := e) (xs := ys) (fun j H' => Same H1 H' ∧ Bd T1 D2 (ak.take j) H') ⟨same_new hD2, Bd.start⟩ (fun j H' _ z => SqL.of (z.1 _ _ (s1 _ _ he))) ?_ ?_⟩
      · rintro j x H2 hx2 ⟨s2, b2⟩
        obtain ⟨r, hr2, g, zs, rfl, hg, hpz⟩ := paired_at hp hx2
        have hjl : j < ys.length := (List.getElem?_eq_some_iff.mp hx2).1
        have hg2 := (s1.trans s2) _ _ hg
        refine ⟨rfl, _, rfl, g, _, rfl, .inr ⟨SqT.of hg2, ?_⟩⟩
        obtain ⟨acc, e1, e2, e3, e4⟩ := b2.put stb1 (z := r) (y := .ref g) ⟨g, zs, rfl, hg2, paired_mono (fun _ _ q => q) hpz⟩ (by rw [List.length_take]; exact small1000 (by show min j ak.length ≤ 1000; have : ak.length ≤ 900 := a9; omega))
        refine ⟨acc, e1, e2, fun bq u hbq => ?_, ?_⟩
        · rw [upd_ne (ne_of_none hbq hD2)]
          exact s2 _ _ hbq
        · rw [List.take_succ, hr2]
          exact e3
      · rintro H2 ⟨s2, b2⟩
        rw [el2, List.take_length] at b2
        obtain ⟨zs, ez, ft⟩ := b2.tup stb1
        refine ⟨D2, _, rfl, .inl ⟨SqL.of ez, fun T hT => ?_⟩⟩
        have t2 := ft T hT
        have s3 := s2.trans (same_new (o := .tup zs) hT)
        generalize upd H2 T (.tup zs) = H3 at t2 s3 ⊢
        refine ⟨(by show 2 ≤ sizeLine; decide), fun p hp3 => ?_⟩
        have s4 := s3.trans (same_new (o := .tup [.int wt, .ref T]) hp3)
        have fp : TD (upd H3 p (.tup [.int wt, .ref T])) (.ref p) (wt, ak) := ⟨p, _, rfl, upd_same, stb2 _ _ _ _ (TK.new hp3) t2⟩
        have b4 : Bd TD D (ds.take i) (upd H3 p (.tup [.int wt, .ref T])) := b.skip stb_TD (TK.of s4) fun ys h => s4 _ _ h
        obtain ⟨acc, e1, e2, e3, e4⟩ := b4.put stb_TD fp (by rw [List.length_take]; exact small1000 (by omega))
        refine ⟨acc, e1, e2, fun bq u hbq => ?_, ?_⟩
        · rw [upd_ne (ne_of_none hbq hD)]
          exact s4 _ _ (s1 _ _ hbq)
        · rw [List.take_succ, hd]
          exact e3
    · rintro H1 ⟨s1, b⟩
      rw [el, List.take_length] at b
      obtain ⟨ys, e, ft⟩ := b.tup stb_TD
      exact ⟨D, _, rfl, .inl ⟨SqL.of e, fun T hT => kk _ _ (s1.trans (same_new hT)) (ft T hT)⟩⟩
def spWtL : Sp := fun vs H Q _ => ∃ v l, vs = [v] ∧ LF TDL H v l ∧ l.length ≤ 900 ∧ ∀ H', Same H H' → Q (.int (l.map (·.1)).sum) H'
theorem ok_WtL {f : Addr} {fd : FuncData} (F : FnS K "weight_of" s_weight_of f fd) (B : Blt5 mg) : FnOk P w K mg base (L2.CX P w) 1 f fd ["draws"] spWtL := by
  refine F.ok scweight_of (fun vs H Q E h => ?_) (fun cdv A outer s H vs Q E hr h => ?_)
  · obtain ⟨v, l, rfl, _⟩ := h
    rfl
  · obtain ⟨v, l, rfl, ⟨a, xs, rfl, ha, hP⟩, hl, kk⟩ := h
    have nd := scweight_of.nd
    have el := paired_len hP
    refine ⟨_, (pss_one (ps_ret (pe_callB (cr_sumK (K := K) rfl) (by rfl) B.sum (by decide +kernel) (pa_cons (pe_lc (own := [("weight", 1), ("_", 2)]) (g := (gTup K 2 (gCons (gName 1) (gCons (gName 2) gNil)))) (by rfl) nd (pi_listK (K := K) (pv 0)) (blkOk_by (own := [("weight", 1), ("_", 2)]) (N := ["draws", "weight", "_"]) (sc := defScope s_weight_of) (by decide +kernel)) (fun _ _ _ _ _ => (pg_tup rfl (pgs_cons (pg_name (i := 1) nd rfl (Or.inl rfl)) (pgs_cons (pg_name (i := 2) nd rfl (Or.inl rfl)) pgs_nil)))) (fun _ _ _ _ _ => pts_nil) (fun _ _ _ _ _ => (pv 1))) pa_nil)))), ?_⟩
    refine ⟨_, rfl, a, rfl, ⟨_, SqL.of ha⟩, fun D hD => lc_list (K := K) (a := a) (xs := xs) (fun i H' => Same H H' ∧ H' D = some (.lst (((l.map (·.1)).take i).map V.int))) ⟨same_new hD, upd_same⟩ (fun i H' _ z => SqL.of (z.1 _ _ ha)) ?_ ?_⟩
    · rintro i x H1 hx ⟨s1, e1⟩
      obtain ⟨⟨wt, ak⟩, hz, c, y, rfl, hc, hy⟩ := paired_at hP hx
      refine ⟨c, _, rfl, SqT.of (s1 _ _ hc), rfl, _, _, rfl, _, _, rfl, rfl, rfl, _, rfl, _, e1, ?_, fun b u hb => ?_, ?_⟩
      · rw [List.length_map, List.length_take, List.length_map]
        exact small1000 (by omega)
      · rw [upd_ne (ne_of_none hb hD)]
        exact s1 _ _ hb
      · rw [upd_same, List.take_succ, List.getElem?_map, hz, List.map_append]
        rfl
    · rintro H1 ⟨s1, e1⟩
      rw [el, show l.length = (l.map (·.1)).length by rw [List.length_map], List.take_length] at e1
      exact ⟨D, _, rfl, SqL.of e1, kk _ s1⟩
def spKqL {α : Type} (F : Hp → V → α → Prop) : Sp := fun vs H Q _ => ∃ v l, vs = [v] ∧ LF (LF F) H v l ∧ l.length ≤ 900 ∧ ∀ y H', Same H H' → TF (TF F) H' y l → Q y H'
theorem ok_KqL {α : Type} {G : Hp → V → α → Prop} (st : Stb G) {f : Addr} {fd : FuncData} (F : FnS K "kept_questions" s_kept_questions f fd) (B : Blt4 mg) : FnOk P w K mg base (L2.CX P w) 1 f fd ["questions"] (spKqL G) := by
  refine F.ok sckept_questions (fun vs H Q E h => ?_) (fun cdv A outer s H vs Q E hr h => ?_)
  · obtain ⟨v, l, rfl, _⟩ := h
    rfl
  · obtain ⟨v, l, rfl, ⟨a, xs, rfl, ha, hP⟩, hl, kk⟩ := h
    have nd := sckept_questions.nd
    have el := paired_len hP
    refine ⟨_, (pss_one (ps_ret (pe_callTy (tup_ofK (K := K)) (by rfl) B.tuple (by decide +kernel) (pa_cons (pe_lc (own := [("asked", 1)]) (g := gName 1) (by rfl) nd (pi_listK (K := K) (pv 0)) (blkOk_by (own := [("asked", 1)]) (N := ["questions", "asked"]) (sc := defScope s_kept_questions) (by decide +kernel)) (fun _ _ _ _ _ => (pg_name (i := 1) nd rfl (Or.inl rfl))) (fun _ _ _ _ _ => pts_nil) (fun _ _ _ _ _ => (pe_callTy (tup_ofK (K := K)) (by rfl) B.tuple (by decide +kernel) (pa_cons (pv 1) pa_nil)))) pa_nil)))), ?_⟩
    refine ⟨_, rfl, a, rfl, ⟨_, SqL.of ha⟩, fun D hD => lc_list (K := K) (a := a) (xs := xs) (fun i H' => Same H H' ∧ Bd (TF G) D (l.take i) H') ⟨same_new hD, Bd.start⟩ (fun i H' _ z => SqL.of (z.1 _ _ ha)) ?_ ?_⟩
    · rintro i x H1 hx ⟨s1, b⟩
      obtain ⟨z, hz, c, ys, rfl, hc, hp⟩ := paired_at hP hx
      have s1c := s1 _ _ hc
      refine ⟨rfl, _, rfl, c, _, rfl, .inl ⟨SqL.of s1c, fun T hT => ?_⟩⟩
      have b4 := b.skip (stb_TF st) (TK.new (u := .tup ys) hT) fun zs h => same_new hT _ _ h
      obtain ⟨acc, ea, la, bb, kt⟩ := b4.put (stb_TF st) (z := z) (y := .ref T) ⟨T, ys, rfl, upd_same, paired_mono (fun _ _ q => st _ _ _ _ ((TK.of s1).trans (TK.new hT)) q) hp⟩ (by rw [List.length_take]; exact small1000 (by omega))
      refine ⟨acc, ea, la, fun b u hb => ?_, ?_⟩
      · rw [upd_ne (ne_of_none hb hD)]
        exact same_new hT _ _ (s1 _ _ hb)
      · rw [List.take_succ, hz]
        exact bb
    · rintro H1 ⟨s1, b⟩
      rw [el, List.take_length] at b
      obtain ⟨ys, e, ft⟩ := b.tup (stb_TF st)
      exact ⟨D, _, rfl, .inl ⟨SqL.of e, fun T hT => kk _ _ (s1.trans (same_new hT)) (ft T hT)⟩⟩
end
end WU

set_option maxRecDepth 100000
set_option maxHeartbeats 8000000
namespace WU
open PySem PySem.Spec PyProof.Rows L2
theorem pow_mono {p i k : Nat} (hp : 1 ≤ p) (h : i ≤ k) : p ^ i ≤ p ^ k := Nat.pow_le_pow_right hp h
/-- the number of digits -/
def dig (b : Int) (ds : List Int) : Int := ds.foldl (fun n d => n * b + d) 0
theorem dig_snoc (b : Int) (ds : List Int) (d : Int) : dig b (ds ++ [d]) = dig b ds * b + d := by
  unfold dig
  rw [List.foldl_append]
  rfl
/-- all stands but the instance at x -/
def Kx (x : Addr) (H H' : Hp) : Prop := Keep x H H' ∧ ∃ C dx fs, H x = some (.ins C dx fs)
theorem Kx.ne {x a : Addr} {H H' : Hp} {o : HO} (k : Kx x H H') (h : H a = some o) (n : ∀ C dx fs, o ≠ .ins C dx fs) : H' a = some o := by
  obtain ⟨k, C, dx, fs, e⟩ := k
  exact k _ _ (fun z => by rw [z, e] at h; exact n _ _ _ (Option.some.inj h).symm) h
theorem kxt {x : Addr} {H H' : Hp} (k : Kx x H H') : TK H H' := fun c xs h => k.ne h fun _ _ _ z => nomatch z
theorem LF.kx {α : Type} {F : Hp → V → α → Prop} {H H' : Hp} {x : Addr} {v : V} {l : List α} (h : LF F H v l) (f : ∀ v z, F H v z → F H' v z) (k : Kx x H H') : LF F H' v l := by
  obtain ⟨c, xs, e, h, p⟩ := h
  exact ⟨c, xs, e, k.ne h fun _ _ _ z => (nomatch z), paired_mono f p⟩
theorem tdl_kx {H H' : Hp} {x : Addr} {v : V} {d : Int × List (List Int)} (k : Kx x H H') (h : TDL H v d) : TDL H' v d := by
  obtain ⟨c, y, e, h, t⟩ := h
  exact ⟨c, y, e, k.ne h fun _ _ _ z => (nomatch z), t.kx (fun _ _ q => stb1 _ _ _ _ (kxt k) q) k⟩
/-- a TablePlan stands at x -/
def TpAt (L : Addr) (H : Hp) (x : Addr) (p : Int) (n c : Nat) (qss : List (List (Nat × List (List Int)))) (ds : List (Int × List (List Int))) : Prop := ∃ (dx : Addr) (qv dv : V), H x = some (.ins L dx (pf p n c qss.length qv dv (ds.map (·.1)).sum)) ∧ TF (TF TQ) H qv qss ∧ TF TD H dv ds
theorem TpAt.same {L : Addr} {H H' : Hp} {x : Addr} {p : Int} {n c : Nat} {qss : List (List (Nat × List (List Int)))} {ds : List (Int × List (List Int))} (h : TpAt L H x p n c qss ds) (s : Same H H') : TpAt L H' x p n c qss ds := by
  obtain ⟨dx, qv, dv, hx, hq, hd⟩ := h
  exact ⟨dx, qv, dv, s _ _ hx, stb_TF (stb_TF stb_TQ) _ _ _ _ (TK.of s) hq, stb_TF stb_TD _ _ _ _ (TK.of s) hd⟩
/-- what is asked of the class TablePlan, at L -/
structure TpC (K : PySem.W.Frag) (mg : Str → Option Value) (L : Addr) : Prop where
  g : mg "TablePlan" = some (.ref L)
  cl : Cls K L
  nP : NoAttr K L "p"
  nL : NoAttr K L "book_length"
  nC : NoAttr K L "book_count"
  nH : NoAttr K L "house_count"
  nQ : NoAttr K L "questions"
  nD : NoAttr K L "draws"
  nW : NoAttr K L "weight"
/-- the parts of a right plan of tables -/
structure Tok (p : Int) (n c : Nat) (qss : List (List (Nat × List (List Int)))) (ds : List (Int × List (List Int))) : Prop where
  hp : p ∈ primes
  n0 : 0 < n
  c0 : 0 < c
  nc : n * c ≤ 6
  pw : p.toNat ^ (n * c) ≤ 64
  q0 : 0 < qss.length
  q9 : qss.length ≤ 900
  qok : ∀ qs ∈ qss, Qtk p (p.toNat ^ (n * c)) qs
  d0 : 0 < ds.length
  d9 : ds.length ≤ 900
  dok : ∀ d ∈ ds, Dok c (lens qss) d
section
variable {P : Program} {w : World} {K : PySem.W.Frag} {mg : Str → Option Value} {base : Heap}
variable {L : Addr}
/-- power_up_to(base, exponent, limit) -/
def spPw : Sp := fun vs H Q _ => ∃ (q k : Nat), vs = [.int (q : Int), .int (k : Int), .int 4096] ∧ 1 ≤ q ∧ q ≤ 31 ∧ k ≤ 100 ∧ q ^ k ≤ 64 ∧ Q (.int ((q ^ k : Nat) : Int)) H
theorem scPw : FnScope ["base", "exponent", "limit", "reach", "done"] ["base", "exponent", "limit"] (defScope s_power_up_to) := ⟨rfl, rfl, rfl, by decide +kernel, rfl, by decide +kernel, by decide +kernel⟩
theorem ok_Pw {f : Addr} {fd : FuncData} (F : FnS K "power_up_to" s_power_up_to f fd) : FnOk P w K mg base (L2.CX P w) 1 f fd ["base", "exponent", "limit"] spPw := by
  refine F.ok scPw (fun vs H Q E h => ?_) (fun cdv A outer s H vs Q E hr h => ?_)
  · obtain ⟨q, k, rfl, _⟩ := h
    rfl
  · obtain ⟨q, k, rfl, h1, h2, h3, h4, kk⟩ := h
    have nd := scPw.nd
    refine ⟨_, (pss_cons (ps_set (i := 3) nd rfl (Or.inl rfl) pe_int)
      (pss_cons (ps_set (i := 4) nd rfl (Or.inl rfl) pe_int)
      (pss_cons (ps_while (passes_of rfl) (PW.pt (pw_and (pt_cmpR op_lt (pv 4) (pv 1) (nomark _)) (pw_and1 (pt_cmpR op_le (pv 3) (pv 2) (nomark _))))) (pss_cons (ps_set (i := 3) nd rfl (Or.inl rfl) (pe_op op_mul (pv 3) (pv 0)))
      (pss_one (ps_aug (i := 4) nd rfl (Or.inl rfl) pe_int ip_add))))
      (pss_one (ps_ret (pv 3)))))), ?_⟩
    refine ⟨fun m σ H' => ∃ i : Nat, i ≤ k ∧ m = k - i ∧ H' = H ∧ σ = [some (.int (q : Int)), some (.int (k : Int)), some (.int 4096), some (.int ((q ^ i : Nat) : Int)), some (.int (i : Int))], ⟨k, 0, Nat.zero_le _, rfl, rfl, rfl⟩, ?_⟩
    rintro m σ H' ⟨i, hi, rfl, rfl, rfl⟩
    have hpi := Nat.le_trans (pow_mono h1 hi) h4
    refine ⟨_, rfl, _, rfl, _, _, rfl, rfl, _, rfl, ?_⟩
    by_cases e : i = k
    · subst e
      exact iteFb (decide_eq_false (by omega)) (iteFb rfl ⟨_, rfl, kk⟩)
    · refine iteTb (decide_eq_true (by omega)) ⟨_, rfl, _, rfl, _, _, rfl, rfl, _, rfl, iteTb (decide_eq_true (by omega)) ?_⟩
      refine ⟨fun σ' H1 => H1 = H' ∧ σ' = [some (.int (q : Int)), some (.int (k : Int)), some (.int 4096), some (.int ((q ^ (i + 1) : Nat) : Int)), some (.int ((i + 1 : Nat) : Int))], fun σ' H1 ⟨z1, z2⟩ => ⟨k - (i + 1), by omega, i + 1, by omega, rfl, z1, z2⟩, ?_⟩
      refine ⟨_, rfl, _, rfl, _, _, rfl, rfl, .inl ⟨by omega, by omega⟩, _, rfl, _, _, rfl, rfl, rfl, ?_⟩
      rw [Nat.pow_succ, Int.natCast_mul]
      rfl
/-- number_of_digits(base, digits) -/
def spNd : Sp := fun vs H Q _ => ∃ (b : Int) (a : Addr) (ds : List Int), vs = [.int b, .ref a] ∧ H a = some (.tup (ds.map V.int)) ∧ 0 ≤ b ∧ b ≤ 31 ∧ ds.length ≤ 100 ∧ (∀ i, i ≤ ds.length → 0 ≤ dig b (ds.take i) ∧ dig b (ds.take i) ≤ 100) ∧ Q (.int (dig b ds)) H
theorem scNd : FnScope ["base", "digits", "number", "digit"] ["base", "digits"] (defScope s_number_of_digits) := ⟨rfl, rfl, rfl, by decide +kernel, rfl, by decide +kernel, by decide +kernel⟩
theorem ok_Nd {f : Addr} {fd : FuncData} (F : FnS K "number_of_digits" s_number_of_digits f fd) : FnOk P w K mg base (L2.CX P w) 1 f fd ["base", "digits"] spNd := by
  refine F.ok scNd (fun vs H Q E h => ?_) (fun cdv A outer s H vs Q E hr h => ?_)
  · obtain ⟨b, a, ds, rfl, _⟩ := h
    rfl
  · obtain ⟨b, a, ds, rfl, ha, b0, b1, hl, hs, kk⟩ := h
    have nd := scNd.nd
    refine ⟨_, (pss_cons (ps_set (i := 2) nd rfl (Or.inl rfl) pe_int)
      (pss_cons (ps_for (passes_of rfl) rfl (pi_tupK (K := K) (pv 1)) (pg_name (i := 3) nd rfl (Or.inl rfl)) (pss_one (ps_set (i := 2) nd rfl (Or.inl rfl) (pe_op op_add (pe_op op_mul (pv 2) (pv 0)) (pv 3)))))
      (pss_one (ps_ret (pv 2))))), ?_⟩
    refine ⟨_, rfl, a, rfl, ⟨_, SqT.of ha⟩, for_tup (K := K) (a := a) (xs := ds.map V.int) (fun i σ H' => ∃ v3, σ = [some (.int b), some (.ref a), some (.int (dig b (ds.take i))), v3] ∧ H' = H) ⟨none, rfl, rfl⟩ (fun i σ H' _ ⟨_, _, e⟩ => e ▸ SqT.of ha) ?_ ?_⟩
    · rintro i x σ H' hx ⟨v3, rfl, rfl⟩
      have hil : i < ds.length := by
        have := (List.getElem?_eq_some_iff.mp hx).1
        rw [List.length_map] at this
        exact this
      rw [take_map_at ds.length hil] at hx
      cases hx
      obtain ⟨z1, z2⟩ := hs i (by omega)
      refine ⟨_, rfl, _, rfl, _, _, rfl, rfl, .inl ⟨by omega, by omega⟩, _, rfl, _, _, rfl, rfl, some (.int (at0 ds i)), ?_, rfl⟩
      rw [take_at0 hil, dig_snoc]
      rfl
    · rintro σ H' ⟨v3, rfl, rfl⟩
      rw [List.length_map, List.take_length]
      exact ⟨_, rfl, kk⟩
def spTI (L : Addr) : Sp := fun vs H Q _ => ∃ (x dx : Addr) (p : Int) (n c : Nat) (qv dv : V) (qss : List (List (Nat × List (List Int)))) (ds : List (Int × List (List Int))), vs = [.ref x, .int p, .int n, .int c, qv, dv] ∧ H x = some (.ins L dx []) ∧ LF (LF TQ) H qv qss ∧ LF TDL H dv ds ∧ Tok p n c qss ds ∧
  ∀ H', TpAt L H' x p n c qss ds → Keep x H H' → Q .non H'
theorem scTI : FnScope ["self", "p", "book_length", "book_count", "questions", "draws", "libraries", "asked"] ["self", "p", "book_length", "book_count", "questions", "draws"] (defScope sTablePlan_init) := ⟨rfl, rfl, rfl, by decide +kernel, rfl, by decide +kernel, by decide +kernel⟩
theorem ok_TI {f f1 f2 f3 f4 f5 f6 f7 f8 f9 : Addr} {fd fd1 fd2 fd3 fd4 fd5 fd6 fd7 fd8 fd9 : FuncData} {tm : PySem.Tok} (F : FunD K "__init__" "TablePlan.__init__" (defArgs sTablePlan_init) (defBody sTablePlan_init) (defScope sTablePlan_init) [] [] f fd) (B : Blt5 mg) (C : TpC K mg L) (gM : mg "MOST_LIBRARIES" = some (.int 4096 tm))
    (CSz : Cal P w K mg base 3 "check_sizes" f1 fd1 ["p", "book_length", "book_count"] spSz) (CPl : Cal P w K mg base 1 "check_places" f2 fd2 ["part", "rights"] spPs) (CMe : Cal P w K mg base 2 "members_of" f3 fd3 ["value"] (spMbL K)) (CQt : Cal P w K mg base 8 "are_questions_tables" f4 fd4 ["p", "libraries", "value"] spQt)
    (CCd : Cal P w K mg base 5 "check_draws" f5 fd5 ["book_count", "questions", "draws"] (spCdL TQ)) (CKq : Cal P w K mg base 1 "kept_questions" f6 fd6 ["questions"] (spKqL TQ)) (CKd : Cal P w K mg base 1 "kept_draws" f7 fd7 ["draws"] spKdL) (CWt : Cal P w K mg base 1 "weight_of" f8 fd8 ["draws"] spWtL) (CPw : Cal P w K mg base 1 "power_up_to" f9 fd9 ["base", "exponent", "limit"] spPw) :
    FnOk P w K mg base (L2.CX P w) 9 f fd ["self", "p", "book_length", "book_count", "questions", "draws"] (spTI L) := by
  refine F.ok scTI (fun vs H Q E h => ?_) (fun cdv A outer s H vs Q E hr h => ?_)
  · obtain ⟨x, dx, p, n, c, qv, dv, qss, ds, rfl, _⟩ := h
    rfl
  · obtain ⟨x, dx, p, n, c, qv, dv, qss, ds, rfl, hx0, hQ, hDs, ⟨hp, n0, c0, nc, pw, q0, q9, qok, d0, d9, dok⟩, kk⟩ := h
    have nd := scTI.nd
    have hb := fld_le hp
    have n2 : n ≤ 6 := Nat.le_trans (Nat.le_mul_of_pos_right n c0) nc
    have c2 : c ≤ 6 := Nat.le_trans (Nat.le_mul_of_pos_left c n0) nc
    obtain ⟨a, xs, eqv, ha, hP⟩ := id hQ
    have el := paired_len hP
    subst eqv
    have hxi : ∃ C dx fs, H x = some (.ins C dx fs) := ⟨_, _, _, hx0⟩
    have nax : a ≠ x := ne_of ha hx0 (by intro z; cases z)
    refine ⟨_, (pss_cons (ps_expr (pe_cal CSz (hr.mono (by decide)) (pa_cons (pv 1) (pa_cons (pv 2) (pa_cons (pv 3) pa_nil))) passU))
      (pss_cons (ps_set (i := 6) nd rfl (Or.inr rfl) (pe_cal CPw (hr.mono (by decide)) (pa_cons (pv 1) (pa_cons (pe_op op_mul (pv 2) (pv 3)) (pa_cons (pe_glob (v := .int 4096) rfl gM ⟨_, rfl⟩) pa_nil))) passU))
      (pss_cons (ps_expr (pe_cal CPl (hr.mono (by decide)) (pa_cons pe_str (pa_cons (pe_lc (own := [("asked", 7)]) (g := gName 7) (by rfl) nd (pi_listK (K := K) (pe_cal CMe (hr.mono (by decide)) (pa_cons (pv 4) pa_nil) passU)) (blkOk_by (own := [("asked", 7)]) (N := ["self", "p", "book_length", "book_count", "questions", "draws", "libraries", "asked"]) (sc := defScope sTablePlan_init) (by decide +kernel)) (fun _ _ _ _ _ => (pg_name (i := 7) nd rfl (Or.inl rfl))) (fun _ _ _ _ _ => pts_nil) (fun _ _ _ _ _ => (pe_cal CQt (hr.mono (by decide)) (pa_cons (pv 1) (pa_cons (pv 6) (pa_cons (pv 7) pa_nil))) passU))) pa_nil)) passU))
      (pss_cons (ps_expr (pe_cal CCd (hr.mono (by decide)) (pa_cons (pv 3) (pa_cons (pv 4) (pa_cons (pv 5) pa_nil))) passU))
      (pss_cons (ps_fld (pv 0) (pv 1) rfl)
      (pss_cons (ps_fld (pv 0) (pv 2) rfl)
      (pss_cons (ps_fld (pv 0) (pv 3) rfl)
      (pss_cons (ps_fld (pv 0) (pe_callB (len_seqK (K := K)) (by rfl) B.len (by decide +kernel) (pa_cons (pv 4) pa_nil)) rfl)
      (pss_cons (ps_fld (pv 0) (pe_cal CKq (hr.mono (by decide)) (pa_cons (pv 4) pa_nil) passU) rfl)
      (pss_cons (ps_fld (pv 0) (pe_cal CKd (hr.mono (by decide)) (pa_cons (pv 5) pa_nil) passU) rfl)
      (pss_one (ps_fld (pv 0) (pe_cal CWt (hr.mono (by decide)) (pa_cons (pv 5) pa_nil) passU) rfl)))))))))))), ?_⟩
    refine ⟨_, rfl, _, rfl, _, rfl, p, n, c, rfl, hp, by omega, by omega, ?_⟩
    refine ⟨_, rfl, _, rfl, _, rfl, _, _, rfl, rfl, .inl ⟨by omega, by omega⟩, ?_⟩
    have ep : ((p.toNat : Nat) : Int) = p := Int.toNat_of_nonneg (by omega)
    refine ⟨p.toNat, n * c, by (show [V.int p, V.int ((n : Int) * (c : Int)), V.int 4096] = _; rw [ep, Int.natCast_mul]), by omega, by omega, by omega, pw, ?_⟩
    refine ⟨_, rfl, a, xs, _, rfl, ha, dt_LF (dt_LF dtQ) _ _ _ hQ, by omega, fun l H1 hl s1 => ?_⟩
    refine ⟨l, rfl, ⟨_, SqL.of hl⟩, fun D hD => lc_list (K := K) (a := l) (xs := xs) (fun i H' => Same H1 H' ∧ H' D = some (.lst ((List.replicate i true).map V.bl))) ⟨same_new hD, upd_same⟩ (fun i H' _ z => SqL.of (z.1 _ _ hl)) ?_ ?_⟩
    · rintro i y H2 hy ⟨z1, z2⟩
      obtain ⟨qs, hqs, fq⟩ := paired_at hP hy
      have hil : i < xs.length := (List.getElem?_eq_some_iff.mp hy).1
      exact ⟨rfl, _, rfl, _, rfl, _, rfl, p, _, y, qs, rfl, fq.same (sm_of stb_TQ) (s1.trans z1), qok qs (List.mem_of_getElem? hqs), fun H3 s3 => bl_put (z1.trans s3) (s3 _ _ z2) hD (by omega)⟩
    · rintro H2 ⟨z1, z2⟩
      have s2 := s1.trans z1
      refine ⟨_, D, _, rfl, z2, ?_⟩
      refine ⟨_, rfl, _, rfl, _, rfl, c, .ref a, dv, qss, ds, rfl, hQ.same (fun _ _ _ _ s q => q.same (sm_of stb_TQ) s) s2, hDs.same tdl_same s2, d0, d9, q9, dok, fun G0 s3 => ?_⟩
      have s3 := s2.trans s3
      have kp : Keep x H G0 := Keep.of s3
      have tk : TK H G0 := TK.of s3
      have hx := s3 _ _ hx0
      refine ⟨_, rfl, _, rfl, x, L, dx, _, rfl, hx, C.cl, C.nP, (by show 0 < 1000; decide), ?_⟩
      have kp := kp.trans (keep_upd (x := x) (o := .ins L dx (putF "p" (.int p) [])) (H := G0))
      have tk := tk.trans (TK.put (u := .ins L dx (putF "p" (.int p) [])) hx fun xs z => nomatch z)
      have hx : upd G0 x (.ins L dx (putF "p" (.int p) [])) x = some (.ins L dx (putF "p" (.int p) [])) := upd_same
      generalize upd G0 x (.ins L dx (putF "p" (.int p) [])) = G1 at kp tk hx ⊢
      refine ⟨_, rfl, _, rfl, x, L, dx, _, rfl, hx, C.cl, C.nL, (by show 1 < 1000; decide), ?_⟩
      have kp := kp.trans (keep_upd (x := x) (o := .ins L dx (putF "book_length" (.int (n : Int)) (putF "p" (.int p) []))) (H := G1))
      have tk := tk.trans (TK.put (u := .ins L dx (putF "book_length" (.int (n : Int)) (putF "p" (.int p) []))) hx fun xs z => nomatch z)
      have hx : upd G1 x (.ins L dx (putF "book_length" (.int (n : Int)) (putF "p" (.int p) []))) x = some (.ins L dx (putF "book_length" (.int (n : Int)) (putF "p" (.int p) []))) := upd_same
      generalize upd G1 x (.ins L dx (putF "book_length" (.int (n : Int)) (putF "p" (.int p) []))) = G2 at kp tk hx ⊢
      refine ⟨_, rfl, _, rfl, x, L, dx, _, rfl, hx, C.cl, C.nC, (by show 2 < 1000; decide), ?_⟩
      have kp := kp.trans (keep_upd (x := x) (o := .ins L dx (putF "book_count" (.int (c : Int)) (putF "book_length" (.int (n : Int)) (putF "p" (.int p) [])))) (H := G2))
      have tk := tk.trans (TK.put (u := .ins L dx (putF "book_count" (.int (c : Int)) (putF "book_length" (.int (n : Int)) (putF "p" (.int p) [])))) hx fun xs z => nomatch z)
      have hx : upd G2 x (.ins L dx (putF "book_count" (.int (c : Int)) (putF "book_length" (.int (n : Int)) (putF "p" (.int p) [])))) x = some (.ins L dx (putF "book_count" (.int (c : Int)) (putF "book_length" (.int (n : Int)) (putF "p" (.int p) [])))) := upd_same
      generalize upd G2 x (.ins L dx (putF "book_count" (.int (c : Int)) (putF "book_length" (.int (n : Int)) (putF "p" (.int p) [])))) = G3 at kp tk hx ⊢
      refine ⟨_, rfl, a, _, rfl, .inl (SqL.of (kp _ _ nax ha)), _, rfl, x, L, dx, _, rfl, hx, C.cl, C.nH, (by show 3 < 1000; decide), ?_⟩
      rw [el]
      have kp := kp.trans (keep_upd (x := x) (o := .ins L dx (putF "house_count" (.int (qss.length : Int)) (putF "book_count" (.int (c : Int)) (putF "book_length" (.int (n : Int)) (putF "p" (.int p) []))))) (H := G3))
      have tk := tk.trans (TK.put (u := .ins L dx (putF "house_count" (.int (qss.length : Int)) (putF "book_count" (.int (c : Int)) (putF "book_length" (.int (n : Int)) (putF "p" (.int p) []))))) hx fun xs z => nomatch z)
      have hx : upd G3 x (.ins L dx (putF "house_count" (.int (qss.length : Int)) (putF "book_count" (.int (c : Int)) (putF "book_length" (.int (n : Int)) (putF "p" (.int p) []))))) x = some (.ins L dx (putF "house_count" (.int (qss.length : Int)) (putF "book_count" (.int (c : Int)) (putF "book_length" (.int (n : Int)) (putF "p" (.int p) []))))) := upd_same
      generalize upd G3 x (.ins L dx (putF "house_count" (.int (qss.length : Int)) (putF "book_count" (.int (c : Int)) (putF "book_length" (.int (n : Int)) (putF "p" (.int p) []))))) = G4 at kp tk hx ⊢
      refine ⟨_, rfl, .ref a, qss, rfl, hQ.kx (fun _ _ q => q.kx (fun _ _ q => stb_TQ _ _ _ _ (kxt ⟨kp, hxi⟩) q) ⟨kp, hxi⟩) ⟨kp, hxi⟩, by omega, fun qv2 I1 si hq2 => ?_⟩
      have hx := si _ _ hx
      have tk := tk.trans (TK.of si)
      have kp := kp.trans (Keep.of si)
      refine ⟨_, rfl, x, L, dx, _, rfl, hx, C.cl, C.nQ, (by show 4 < 1000; decide), ?_⟩
      have kp := kp.trans (keep_upd (x := x) (o := .ins L dx (putF "questions" qv2 (putF "house_count" (.int (qss.length : Int)) (putF "book_count" (.int (c : Int)) (putF "book_length" (.int (n : Int)) (putF "p" (.int p) [])))))) (H := I1))
      have tk := tk.trans (TK.put (u := .ins L dx (putF "questions" qv2 (putF "house_count" (.int (qss.length : Int)) (putF "book_count" (.int (c : Int)) (putF "book_length" (.int (n : Int)) (putF "p" (.int p) [])))))) hx fun xs z => nomatch z)
      have hq2 := stb_TF (stb_TF stb_TQ) _ _ _ _ (TK.put (u := .ins L dx (putF "questions" qv2 (putF "house_count" (.int (qss.length : Int)) (putF "book_count" (.int (c : Int)) (putF "book_length" (.int (n : Int)) (putF "p" (.int p) [])))))) hx fun xs z => nomatch z) hq2
      have hx : upd I1 x (.ins L dx (putF "questions" qv2 (putF "house_count" (.int (qss.length : Int)) (putF "book_count" (.int (c : Int)) (putF "book_length" (.int (n : Int)) (putF "p" (.int p) [])))))) x = some (.ins L dx (putF "questions" qv2 (putF "house_count" (.int (qss.length : Int)) (putF "book_count" (.int (c : Int)) (putF "book_length" (.int (n : Int)) (putF "p" (.int p) [])))))) := upd_same
      generalize upd I1 x (.ins L dx (putF "questions" qv2 (putF "house_count" (.int (qss.length : Int)) (putF "book_count" (.int (c : Int)) (putF "book_length" (.int (n : Int)) (putF "p" (.int p) [])))))) = G5 at kp tk hx hq2 ⊢
      refine ⟨_, rfl, dv, ds, rfl, hDs.kx (fun _ _ q => tdl_kx ⟨kp, hxi⟩ q) ⟨kp, hxi⟩, by omega, fun d hd => by have := (dok d hd).2.2.2.1; have := (dok d hd).2.1; omega, fun dv2 I2 si hd2 => ?_⟩
      have hx := si _ _ hx
      have tk := tk.trans (TK.of si)
      have kp := kp.trans (Keep.of si)
      have hq2 := stb_TF (stb_TF stb_TQ) _ _ _ _ (TK.of si) hq2
      refine ⟨_, rfl, x, L, dx, _, rfl, hx, C.cl, C.nD, (by show 5 < 1000; decide), ?_⟩
      have kp := kp.trans (keep_upd (x := x) (o := .ins L dx (putF "draws" dv2 (putF "questions" qv2 (putF "house_count" (.int (qss.length : Int)) (putF "book_count" (.int (c : Int)) (putF "book_length" (.int (n : Int)) (putF "p" (.int p) []))))))) (H := I2))
      have tk := tk.trans (TK.put (u := .ins L dx (putF "draws" dv2 (putF "questions" qv2 (putF "house_count" (.int (qss.length : Int)) (putF "book_count" (.int (c : Int)) (putF "book_length" (.int (n : Int)) (putF "p" (.int p) []))))))) hx fun xs z => nomatch z)
      have hq2 := stb_TF (stb_TF stb_TQ) _ _ _ _ (TK.put (u := .ins L dx (putF "draws" dv2 (putF "questions" qv2 (putF "house_count" (.int (qss.length : Int)) (putF "book_count" (.int (c : Int)) (putF "book_length" (.int (n : Int)) (putF "p" (.int p) []))))))) hx fun xs z => nomatch z) hq2
      have hd2 := stb_TF stb_TD _ _ _ _ (TK.put (u := .ins L dx (putF "draws" dv2 (putF "questions" qv2 (putF "house_count" (.int (qss.length : Int)) (putF "book_count" (.int (c : Int)) (putF "book_length" (.int (n : Int)) (putF "p" (.int p) []))))))) hx fun xs z => nomatch z) hd2
      have hx : upd I2 x (.ins L dx (putF "draws" dv2 (putF "questions" qv2 (putF "house_count" (.int (qss.length : Int)) (putF "book_count" (.int (c : Int)) (putF "book_length" (.int (n : Int)) (putF "p" (.int p) []))))))) x = some (.ins L dx (putF "draws" dv2 (putF "questions" qv2 (putF "house_count" (.int (qss.length : Int)) (putF "book_count" (.int (c : Int)) (putF "book_length" (.int (n : Int)) (putF "p" (.int p) []))))))) := upd_same
      generalize upd I2 x (.ins L dx (putF "draws" dv2 (putF "questions" qv2 (putF "house_count" (.int (qss.length : Int)) (putF "book_count" (.int (c : Int)) (putF "book_length" (.int (n : Int)) (putF "p" (.int p) []))))))) = G6 at kp tk hx hq2 hd2 ⊢
      refine ⟨_, rfl, dv, ds, rfl, hDs.kx (fun _ _ q => tdl_kx ⟨kp, hxi⟩ q) ⟨kp, hxi⟩, by omega, fun I3 si => ?_⟩
      have hx := si _ _ hx
      have kp := kp.trans (Keep.of si)
      have hq2 := stb_TF (stb_TF stb_TQ) _ _ _ _ (TK.of si) hq2
      have hd2 := stb_TF stb_TD _ _ _ _ (TK.of si) hd2
      refine ⟨_, rfl, x, L, dx, _, rfl, hx, C.cl, C.nW, (by show 6 < 1000; decide), ?_⟩
      exact kk _ ⟨dx, qv2, dv2, upd_same, stb_TF (stb_TF stb_TQ) _ _ _ _ (TK.put hx fun xs z => nomatch z) hq2, stb_TF stb_TD _ _ _ _ (TK.put hx fun xs z => nomatch z) hd2⟩ (kp.trans keep_upd)
end
end WU

set_option maxRecDepth 100000
set_option maxHeartbeats 8000000
namespace WU
open PySem PySem.Spec PyProof.Rows L2
/-! ### the order of data -/
def ltG {α : Type} (d : α → PyData) (a b : α) : Bool := PySem.W.dataLt (d a) (d b)
theorem ltG_irr {α : Type} {d : α → PyData} (a : α) : ltG d a a = false := PyProof.Rows.lex_irrefl _
theorem ltG_tr {α : Type} {d : α → PyData} {a b c : α} (h : ltG d a b = true) (k : ltG d b c = true) : ltG d a c = true := PyProof.Rows.lex_trans _ _ _ h k
theorem ltG_tot {α : Type} {d : α → PyData} (O : Ord d) (inj : ∀ a b, PyData.eqv (d a) (d b) = true → a = b) {a b : α} (h : ltG d a b = false) (k : ltG d b a = false) : a = b := by
  have e := PyProof.Rows.lex_total (O := PyProof.Rows.itemOrd) _ _ h k
  refine inj _ _ ?_
  cases q : PyData.eqv (d a) (d b) with
  | true => rfl
  | false =>
    exfalso
    have z := (PySem.W.toks_eqv (d a) (d b) (O.al _ _)).2 q [Sum.inl 0] [Sum.inl 1]
    rw [e, PySem.W.lex_pre] at z
    rw [PyProof.Rows.lex_irrefl] at z
    revert z
    decide
theorem risG_nil {α : Type} {d : α → PyData} : RisG d [] := fun i a b h => by simp at h
theorem risG_app {α : Type} {d : α → PyData} {l : List α} {m : α} (hr : RisG d l) (h : ∀ x ∈ l, ltG d x m = true) : RisG d (l ++ [m]) := fun i a b e1 e2 => by
  by_cases hi : i + 1 < l.length
  · rw [List.getElem?_append_left (by omega)] at e1
    rw [List.getElem?_append_left hi] at e2
    exact hr i a b e1 e2
  · have hl : i + 1 < (l ++ [m]).length := (List.getElem?_eq_some_iff.mp e2).1
    rw [List.length_append, List.length_singleton] at hl
    rw [List.getElem?_append_right (by omega), show i + 1 - l.length = 0 by omega] at e2
    rw [List.getElem?_append_left (by omega)] at e1
    cases e2
    exact h a (List.mem_of_getElem? e1)
/-- rising lists in pairs -/
theorem risG_lt {α : Type} {d : α → PyData} {l : List α} (hr : RisG d l) : ∀ (k i : Nat) (a b : α), l[i]? = some a → l[i + 1 + k]? = some b → ltG d a b = true
  | 0, i, a, b, e1, e2 => hr i a b e1 e2
  | k + 1, i, a, b, e1, e2 => by
    have hl := (List.getElem?_eq_some_iff.mp e2).1
    have e3 := List.getElem?_eq_getElem (l := l) (i := i + 1 + k) (by omega)
    exact ltG_tr (risG_lt hr k i a _ e1 e3) (hr _ _ _ e3 e2)
theorem risG_pw {α : Type} {d : α → PyData} {l : List α} (hr : RisG d l) : l.Pairwise (fun a b => ltG d a b = true) := by
  rw [List.pairwise_iff_getElem]
  intro i j hi hj hij
  exact risG_lt hr (j - i - 1) i _ _ (List.getElem?_eq_getElem hi) (by rw [show i + 1 + (j - i - 1) = j by omega]; exact List.getElem?_eq_getElem hj)
theorem pw_risG {α : Type} {d : α → PyData} {l : List α} (h : l.Pairwise (fun a b => ltG d a b = true)) : RisG d l := fun i a b e1 e2 => by
  obtain ⟨h1, rfl⟩ := List.getElem?_eq_some_iff.mp e1
  obtain ⟨h2, rfl⟩ := List.getElem?_eq_some_iff.mp e2
  exact List.pairwise_iff_getElem.mp h i (i + 1) h1 h2 (by omega)
/-- one order for the same things -/
theorem risG_one {α : Type} {d : α → PyData} {l m : List α} (hl : RisG d l) (hm : RisG d m) (p : l.Perm m) : l = m :=
  p.eq_of_pairwise (le := fun a b => ltG d a b = true) (fun a b _ _ h k => by
    have z := ltG_tr h k
    rw [ltG_irr] at z
    cases z) (risG_pw hl) (risG_pw hm)
/-- what is put in order and has no thing twice, rises -/
theorem risG_of {α : Type} {d : α → PyData} (O : Ord d) (inj : ∀ a b, PyData.eqv (d a) (d b) = true → a = b) {l : List α} (h : l.Pairwise (fun a b => ltG d b a = false)) (n : l.Nodup) : RisG d l :=
  pw_risG ((h.and n).imp fun {a b} ⟨h1, h2⟩ => by
    cases z : ltG d a b with
    | true => rfl
    | false => exact absurd (ltG_tot O inj z h1) h2)
/-! ### sorted(rows) of data -/
def rSortG {α : Type} (G : Hp → V → α → Prop) (d : α → PyData) : List V → Hp → VK → Prop := fun vs H Q => ∃ (a : Addr) (xs : List V) (l : List α), vs = [.ref a] ∧ H a = some (.lst xs) ∧ Paired (G H) xs l ∧ l.length ≤ 100000 ∧
  ∀ (ys : List V) (m : List α) (c : Addr), Paired (G H) ys m → m.Perm l → m.Pairwise (fun a b => ltG d b a = false) → H c = none → Q (.ref c) (upd H c (.lst ys))
theorem each_two {α : Type} {F : V → α → Prop} : ∀ {xs : List V} {us : List Value} {l : List α}, Vals xs us → Paired F xs l → PySem.W.EachIs (fun (u : Value) (b : V × α) => RelV b.1 u ∧ F b.1 b.2) us (xs.zip l)
  | _, _, _, .nil, .nil => .nil
  | _, _, _, .cons r t, .cons h q => .cons ⟨r, h⟩ (each_two t q)
theorem two_each {α : Type} {F : V → α → Prop} : ∀ {us : List Value} {bs : List (V × α)}, PySem.W.EachIs (fun (u : Value) (b : V × α) => RelV b.1 u ∧ F b.1 b.2) us bs → Vals (bs.map Prod.fst) us ∧ Paired F (bs.map Prod.fst) (bs.map Prod.snd)
  | _, _, .nil => ⟨.nil, .nil⟩
  | _, _, .cons h t => ⟨.cons h.1 (two_each t).1, .cons h.2 (two_each t).2⟩
section
variable {X : Cx}
theorem cr_sortG0 {α : Type} {G : Hp → V → α → Prop} {d : α → PyData} (hd : Dt X.K G d) (O : Ord d) (hnn : ∀ a, ∃ x r, d a = .tuple (x :: r)) (hu : X.A.units + 64 < cLine) : CallR X (.builtin "sorted") (rSortG G d) := by
  intro pins s σ H vs us Q I r h
  obtain ⟨a, xs, l, rfl, ha, hP, hl, q⟩ := h
  obtain rfl := Vals.ref1 r
  obtain ⟨z, its, n, rv, hob⟩ := I.hok a _ ha
  have el := paired_len hP
  have e := each_two (F := G H) rv hP
  refine PySem.W.sorted_data (β := V × α) (enc := fun b => d b.2) (bs := xs.zip l) (R := fun (u : Value) (b : V × α) => RelV b.1 u ∧ G H b.1 b.2) (vs := its) ⟨_, hob, rfl, n, rfl⟩ e (e.mono fun u b ⟨h1, h2⟩ => Dp.reads I _ _ _ (hd _ _ _ h2) h1)
    (PySem.W.AllAlike.of fun b b' => O.al _ _) (PySem.W.Sortable.tuples fun b => hnn _) (by rw [List.length_zip, sizeLine_eq]; omega) (fun b _ => by have := O.dp b.2; omega) fun out ho eo => ?_
  obtain ⟨v1, p1⟩ := two_each eo
  obtain ⟨ep, he'⟩ := PyProof.Rows.sortedAll_at s.heap its out.toArray
  have pm : ((xs.zip l).mergeSort (PySem.W.dataLe false (fun b : V × α => d b.2))).Perm (xs.zip l) := List.mergeSort_perm _ _
  have pw : ((xs.zip l).mergeSort (PySem.W.dataLe false (fun b : V × α => d b.2))).Pairwise (fun a b => PySem.W.dataLe false (fun b : V × α => d b.2) a b = true) := List.pairwise_mergeSort
    (fun a b c h1 h2 => by
      rw [PySem.W.dataLe_eq] at h1 h2 ⊢
      have h1 : (!ltG d b.2 a.2) = true := h1
      have h2 : (!ltG d c.2 b.2) = true := h2
      show (!ltG d c.2 a.2) = true
      cases k : ltG d c.2 a.2 with
      | false => rfl
      | true =>
        exfalso
        have h1 : ltG d b.2 a.2 = false := by simpa using h1
        have h2 : ltG d c.2 b.2 = false := by simpa using h2
        cases k2 : ltG d b.2 c.2 with
        | true => rw [ltG_tr k2 k] at h1; cases h1
        | false =>
          have e := PyProof.Rows.lex_total (O := PyProof.Rows.itemOrd) _ _ k2 h2
          unfold ltG PySem.W.dataLt at k h1
          rw [← e] at k
          rw [h1] at k
          cases k)
    (fun a b => by
      rw [PySem.W.dataLe_eq]
      show ((!ltG d b.2 a.2) || (!ltG d a.2 b.2)) = true
      cases k : ltG d b.2 a.2 with
      | false => rfl
      | true =>
        cases k2 : ltG d a.2 b.2 with
        | false => rfl
        | true =>
          have := ltG_tr k k2
          rw [ltG_irr] at this
          cases this) _
  generalize (xs.zip l).mergeSort (PySem.W.dataLe false (fun b : V × α => d b.2)) = zs at v1 p1 pm pw ho eo
  have hz : (zs.map Prod.fst).length ≤ sizeLine := by rw [List.length_map, pm.length_eq, List.length_zip, sizeLine_eq]; omega
  have hn : H (s.heap.objs.size + 1) = none := I.hok.fresh (Nat.le_succ _)
  refine ⟨.ref _, upd H (s.heap.objs.size + 1) (.lst (zs.map Prod.fst)), I.laid (t' := s.toks) (fun _ _ => PyProof.Rows.sortedAll_old) (Nat.le_succ _) ⟨hz, out, ep, v1, he'⟩, rfl, q _ (zs.map Prod.snd) _ p1 ?_ ?_ hn⟩
  · have := pm.map Prod.snd
    rwa [List.map_snd_zip (by omega)] at this
  · rw [List.pairwise_map]
    refine pw.imp fun {a b} h => ?_
    rw [PySem.W.dataLe_eq] at h
    have h : (!ltG d b.2 a.2) = true := h
    simpa using h
theorem cr_sortG {K : PySem.W.Frag} {α : Type} {G : Hp → V → α → Prop} {d : α → PyData} (hd : Dt K G d) (O : Ord d) (hnn : ∀ a, ∃ x r, d a = .tuple (x :: r)) (hu : X.A.units + 64 < cLine) (hK : X.K = K := by rfl) : CallR X (.builtin "sorted") (rSortG G d) := by
  subst hK
  exact cr_sortG0 hd O hnn hu
end
section
variable {P : Program} {w : World} {K : PySem.W.Frag} {mg : Str → Option Value} {base : Heap} {S : Addr}
/-- _law_rising(rows): unlike matrices in a list -/
def spRsG {α : Type} (G : Hp → V → α → Prop) (d : α → PyData) : Sp := fun vs H Q _ => ∃ (a : Addr) (xs : List V) (ms : List α), vs = [.ref a] ∧ H a = some (.lst xs) ∧ Paired (G H) xs ms ∧ ms.Nodup ∧ ms.length ≤ 100 ∧ ∀ y qs H', Same H H' → TF G H' y qs → RisG d qs → qs.Perm ms → Q y H'
theorem sclaw_risingG : FnScope ["rows", "left", "found", "step", "least", "k"] ["rows"] (defScope s_law_rising) := ⟨rfl, rfl, rfl, by decide +kernel, rfl, by decide +kernel, by decide +kernel⟩
theorem ok_RsG {α : Type} {G : Hp → V → α → Prop} {d : α → PyData} (st : Stb G) (hd : Dt K G d) (O : Ord d) (inj : ∀ a b, PyData.eqv (d a) (d b) = true → a = b) {f : Addr} {fd : FuncData} (F : FnS K "_law_rising" s_law_rising f fd) (B : Blt4 mg) : FnOk P w K mg base (L2.CX P w) 1 f fd ["rows"] (spRsG G d) := by
  refine F.ok sclaw_risingG (fun vs H Q E h => ?_) (fun cdv A outer s H vs Q E hr h => ?_)
  · obtain ⟨a, xs, ms, rfl, _⟩ := h
    rfl
  · obtain ⟨a, xs, ms, rfl, ha, hP, hnd, hl, kk⟩ := h
    have nd := sclaw_risingG.nd
    have hu := hr.units
    have el := paired_len hP
    refine ⟨_, (pss_cons (ps_set (i := 1) nd rfl (Or.inl rfl) (pe_callTy (list_ofK (K := K)) (by rfl) B.lst (by decide +kernel) (pa_cons (pv 0) pa_nil)))
      (pss_cons (ps_set (i := 2) nd rfl (Or.inl rfl) (pe_lst pa_nil))
      (pss_cons (ps_for (passes_of rfl) rfl (pi_range1 rfl B.range (pa_cons (pe_callB (len_seqK (K := K)) (by rfl) B.len (by decide +kernel) (pa_cons (pv 0) pa_nil)) pa_nil)) (pg_name (i := 3) nd rfl (Or.inl rfl)) (pss_cons (ps_set (i := 4) nd rfl (Or.inl rfl) pe_int)
      (pss_cons (ps_for (passes_of rfl) rfl (pi_range2 rfl B.range (pa_cons pe_int (pa_cons (pe_callB (len_seqK (K := K)) (by rfl) B.len (by decide +kernel) (pa_cons (pv 1) pa_nil)) pa_nil))) (pg_name (i := 5) nd rfl (Or.inl rfl)) (pss_one (ps_if (pt_cmpR (op_ltD (K := K) hu) (pe_ix (ix_listK (K := K)) (pv 1) (pv 5) (fun _ _ => rfl)) (pe_ix (ix_listK (K := K)) (pv 1) (pv 4) (fun _ _ => rfl)) (nomark _)) (pss_one (ps_set (i := 4) nd rfl (Or.inl rfl) (pv 5))) pss_nil)))
      (pss_one (ps_expr (pe_bm PySem.F.plainAttrs_list PySem.F.slot_list_append PySem.F.type_list_append mt_append (pv 2) (pa_cons (pe_bm PySem.F.plainAttrs_list PySem.F.slot_list_pop PySem.F.type_list_pop mt_popAt (pv 1) (pa_cons (pv 4) pa_nil)) pa_nil)))))))
      (pss_one (ps_ret (pe_callTy (tup_ofK (K := K)) (by rfl) B.tuple (by decide +kernel) (pa_cons (pv 2) pa_nil))))))), ?_⟩
    refine ⟨_, rfl, a, xs, rfl, .inl (SqL.of ha), fun L hL => ?_⟩
    have s1 := same_new (o := .lst xs) hL
    have eL : upd H L (.lst xs) L = some (.lst xs) := upd_same
    generalize upd H L (.lst xs) = H1 at s1 eL ⊢
    refine ⟨(by show 0 ≤ sizeLine; decide), fun R hR => ?_⟩
    have s2 := s1.trans (same_new (o := .lst []) hR)
    have LR : L ≠ R := ne_of_none eL hR
    have nR : H R = none := by
      cases e : H R with
      | none => rfl
      | some o => rw [s1 _ _ e] at hR; cases hR
    have eL := same_new (o := .lst []) hR _ _ eL
    have eR : upd H1 R (.lst []) R = some (.lst []) := upd_same
    generalize upd H1 R (.lst []) = H2 at s2 eL eR ⊢
    refine ⟨_, rfl, a, xs, rfl, .inl (SqL.of (s2 _ _ ha)), (xs.length : Int), rfl, by omega, by omega, for_range (lo := 0) (n := xs.length) (fun i σ H' => ∃ (ls fs : List V) (ml mf : List α) (v3 v4 v5 : Option V), σ = [some (.ref a), some (.ref L), some (.ref R), v3, v4, v5] ∧ Same H H' ∧
      H' L = some (.lst ls) ∧ Paired (G H) ls ml ∧ H' R = some (.lst fs) ∧ Paired (G H) fs mf ∧ (mf ++ ml).Perm ms ∧ mf.length = i ∧ RisG d mf ∧ ∀ x ∈ mf, ∀ y ∈ ml, ltG d x y = true) ⟨xs, [], ms, [], none, none, none, rfl, s2, eL, hP, eR, .nil, .refl _, rfl, risG_nil, fun x hx => nomatch hx⟩ ?_ ?_⟩
    · rintro i σ H3 hi ⟨ls, fs, ml, mf, v3, v4, v5, rfl, s3, gL, pL, gR, pR, pm, lf, ri, lt⟩
      have ll := paired_len pL
      have lfs := paired_len pR
      have tot : mf.length + ml.length = ms.length := by rw [← List.length_append, pm.length_eq]
      have hml : 0 < ml.length := by omega
      refine ⟨_, rfl, L, ls, rfl, .inl (SqL.of gL), 1, (ls.length : Int), rfl, ⟨by decide, by decide, by omega, by omega⟩, for_range (lo := 1) (n := ((ls.length : Int) - 1).toNat) (fun k σ H' => ∃ (b : Nat) (v5 : Option V), σ = [some (.ref a), some (.ref L), some (.ref R), some (.int (0 + (i : Int))), some (.int (b : Int)), v5] ∧ H3 = H' ∧ b < ml.length ∧
        ∀ j mj mb, j ≤ k → ml[j]? = some mj → ml[b]? = some mb → ltG d mj mb = false) ⟨0, v5, rfl, rfl, hml, fun j mj mb hj e1 e2 => by
          have : j = 0 := by omega
          subst this
          rw [e1] at e2
          cases e2
          exact ltG_irr _⟩ ?_ ?_⟩
      · rintro k σ H4 hk ⟨b, v5, rfl, rfl, hb, hmin⟩
        have hk2 : k + 1 < ml.length := by omega
        have e1 := List.getElem?_eq_getElem hk2
        have e2 := List.getElem?_eq_getElem hb
        obtain ⟨y1, hy1, f1⟩ := paired_of pL e1
        obtain ⟨y2, hy2, f2⟩ := paired_of pL e2
        rw [show (1 : Int) + (k : Int) = ((k + 1 : Nat) : Int) by omega]
        refine ⟨_, rfl, _, rfl, L, _, _, _, rfl, rfl, SqL.of gL, atI_nat hy1, _, rfl, _, rfl, L, _, _, _, rfl, rfl, SqL.of gL, atI_nat hy2, d _, d _, hd _ _ _ (st _ _ _ _ (TK.of s3) f1), hd _ _ _ (st _ _ _ _ (TK.of s3) f2), O.al _ _, O.nn _, O.dp _, _, rfl, ?_⟩
        cases e : PySem.W.dataLt (d ml[k + 1]) (d ml[b]) with
        | true =>
          refine iteT ⟨_, rfl, k + 1, _, rfl, rfl, hk2, fun j mj mb hj g1 g2 => ?_⟩
          rw [e1] at g2
          cases g2
          by_cases hjk : j = k + 1
          · subst hjk
            rw [e1] at g1
            cases g1
            exact ltG_irr _
          · have q := hmin j mj _ (by omega) g1 e2
            cases z : ltG d mj ml[k + 1] with
            | false => rfl
            | true => rw [ltG_tr z e] at q; cases q
        | false =>
          refine iteF ⟨b, _, rfl, rfl, hb, fun j mj mb hj g1 g2 => ?_⟩
          by_cases hjk : j = k + 1
          · subst hjk
            rw [e1] at g1
            cases g1
            rw [e2] at g2
            cases g2
            exact e
          · exact hmin j mj mb (by omega) g1 g2
      · rintro σ H4 ⟨b, v5, rfl, rfl, hb, hmin⟩
        have e2 := List.getElem?_eq_getElem hb
        obtain ⟨y2, hy2, f2⟩ := paired_of pL e2
        have hbl : b < ls.length := by omega
        refine ⟨_, rfl, .inl ⟨rfl, _, SqL.of gR⟩, _, rfl, .inl ⟨rfl, _, SqL.of gL⟩, _, rfl, L, ls, _, b, y2, rfl, rfl, gL, by omega, by omega, ?_, hy2, ?_⟩
        · have z := PySem.StrLaws.seqIndex_nonneg (i := (b : Int)) (n := ls.length) (by omega) (by omega)
          rw [z]
          rfl
        have gR2 : upd H3 L (.lst (ls.eraseIdx b)) R = some (.lst fs) := by rw [upd_ne LR.symm]; exact gR
        have pm1 := erP ml b hb
        have ndl : ml.Nodup := (List.nodup_append.mp (pm.nodup_iff.mpr hnd)).2.1
        have nd1 := pm1.nodup_iff.mpr ndl
        have sub : ∀ y ∈ ml.eraseIdx b, y ∈ ml := fun y hy => pm1.mem_iff.mp (List.mem_cons_of_mem _ hy)
        have mbm : ml[b] ∈ ml := List.getElem_mem hb
        refine ⟨R, fs, _, rfl, rfl, gR2, small1000 (by omega), ls.eraseIdx b, fs ++ [y2], ml.eraseIdx b, mf ++ [ml[b]], _, _, _, rfl, ?_, by rw [upd_ne LR]; exact upd_same, paired_er b pL, upd_same, paired_app pR (.cons f2 .nil), ?_, by rw [List.length_append, lf]; rfl, risG_app ri fun x hx => lt x hx _ mbm, ?_⟩
        · intro c o hc
          rw [upd_ne (ne_of_none hc nR), upd_ne (ne_of_none hc hL)]
          exact s3 _ _ hc
        · rw [List.append_assoc]
          exact ((pm1.append_left mf)).trans pm
        · intro x hx y hy
          rcases List.mem_append.mp hx with h | h
          · exact lt x h y (sub y hy)
          · rw [List.mem_singleton.mp h]
            obtain ⟨j, hj, ej⟩ := List.mem_iff_getElem.mp (sub y hy)
            have q := hmin j _ _ (by omega) (List.getElem?_eq_getElem hj) e2
            rw [ej] at q
            cases z : ltG d ml[b] y with
            | true => rfl
            | false =>
              have := ltG_tot O inj q z
              subst this
              exact absurd hy (List.nodup_cons.mp nd1).1
    · rintro σ H3 ⟨ls, fs, ml, mf, v3, v4, v5, rfl, s3, gL, pL, gR, pR, pm, lf, ri, lt⟩
      have tot : mf.length + ml.length = ms.length := by rw [← List.length_append, pm.length_eq]
      have e0 : ml = [] := List.length_eq_zero_iff.mp (by omega)
      subst e0
      rw [List.append_nil] at pm
      exact ⟨_, rfl, R, fs, rfl, .inl ⟨SqL.of gR, fun T hT => kk _ mf _ (s3.trans (same_new hT)) ⟨T, fs, rfl, upd_same, paired_mono (fun _ _ q => st _ _ _ _ (TK.of (s3.trans (same_new hT))) q) pR⟩ ri pm⟩⟩
end
end WU

set_option maxRecDepth 100000
set_option maxHeartbeats 8000000
namespace WU
open PySem PySem.Spec PyProof.Rows L2
theorem tyR {K : PySem.W.Frag} {H : Hp} {a : Addr} {xs : List V} (h : Rd H a (.tup xs)) : TyX K H (.ref a) (.type "tuple") := by
  rcases h with h | ⟨o, h⟩
  · exact .base (.tup h)
  · exact .fTuple h
/-- u and v: the same number, or tuples alike (to the depth n) -/
def EqR : Nat → Hp → V → V → Prop
  | 0, _, u, v => ∃ i, u = .int i ∧ v = .int i
  | n + 1, H, u, v => (∃ i, u = .int i ∧ v = .int i) ∨ ∃ a b xs ys, u = .ref a ∧ v = .ref b ∧ Rd H a (.tup xs) ∧ Rd H b (.tup ys) ∧ Paired (EqR n H) xs ys ∧ ys.length ≤ 10000
section
variable {P : Program} {w : World} {K : PySem.W.Frag} {mg : Str → Option Value} {base : Heap}
theorem scSr : FnScope ["found", "due", "at"] ["found", "due"] (defScope s_law_same) := ⟨rfl, rfl, rfl, by decide +kernel, rfl, by decide +kernel, by decide +kernel⟩
def spSrP (R : Hp → V → V → Prop) : Sp := fun vs H Q _ => ∃ u v, vs = [u, v] ∧ R H u v ∧ Q (.bl true) H
def spSr (n : Nat) : Sp := spSrP (EqR n)
/-- one step: where parts are told by R, numbers and tuples of such parts are -/
theorem ok_Sr1 {R : Hp → V → V → Prop} {k : Nat} {f : Addr} {fd : FuncData} (F : FnS K "_law_same" s_law_same f fd) (B : Blt3 mg) (C0 : Cal P w K mg base k "_law_same" f fd ["found", "due"] (spSrP R)) :
    FnOk P w K mg base (L2.CX P w) (k + 1) f fd ["found", "due"] (spSrP fun H u v => (∃ i, u = .int i ∧ v = .int i) ∨ ∃ a b xs ys, u = .ref a ∧ v = .ref b ∧ Rd H a (.tup xs) ∧ Rd H b (.tup ys) ∧ Paired (R H) xs ys ∧ ys.length ≤ 10000) := by
  refine F.ok scSr (fun vs H Q E h => ?_) (fun cdv A outer s H vs Q E hr h => ?_)
  · obtain ⟨u, v, rfl, _⟩ := h
    rfl
  · obtain ⟨u, v, rfl, he, kk⟩ := h
    have nd := scSr.nd
    refine ⟨_, (pss_cons (ps_if (pt_val (pe_callB call_isi (by rfl) B.isi (by decide +kernel) (pa_cons (pv 1) (pa_cons (pe_bltn (v := .ty "tuple") (by rfl) B.tuple (by decide +kernel) rfl) pa_nil)))) (pss_cons (ps_if (PW.pt (pw_or (pt_not (pt_val (pe_callB call_isi (by rfl) B.isi (by decide +kernel) (pa_cons (pv 0) (pa_cons (pe_bltn (v := .ty "tuple") (by rfl) B.tuple (by decide +kernel) rfl) pa_nil))))) (pw_or1 (pt_cmpR op_ne (pe_callB call_len_seq (by rfl) B.len (by decide +kernel) (pa_cons (pv 0) pa_nil)) (pe_callB call_len_seq (by rfl) B.len (by decide +kernel) (pa_cons (pv 1) pa_nil)) (nomark _))))) (pss_one (ps_ret pe_bl)) pss_nil)
      (pss_cons (ps_for (passes_of rfl) rfl (pi_range1 rfl B.range (pa_cons (pe_callB call_len_seq (by rfl) B.len (by decide +kernel) (pa_cons (pv 1) pa_nil)) pa_nil)) (pg_name (i := 2) nd rfl (Or.inl rfl)) (pss_one (ps_if (pt_not (pt_val (pe_cal C0 hr (pa_cons (pe_ix ix_tup (pv 0) (pv 2) (fun _ _ => rfl)) (pa_cons (pe_ix ix_tup (pv 1) (pv 2) (fun _ _ => rfl)) pa_nil)) passU))) (pss_one (ps_ret pe_bl)) pss_nil)))
      (pss_one (ps_ret pe_bl)))) pss_nil)
      (pss_one (ps_ret (pe_and (pe_callB call_isi (by rfl) B.isi (by decide +kernel) (pa_cons (pv 0) (pa_cons (pe_bltn (v := .ty "int") (by rfl) B.int (by decide +kernel) rfl) pa_nil))) (pe_and (pe_not (pe_callB call_isi (by rfl) B.isi (by decide +kernel) (pa_cons (pv 0) (pa_cons (pe_bltn (v := .ty "bool") (by rfl) B.bool (by decide +kernel) rfl) pa_nil)))) (pe_one (pe_cmpR op_eq (pv 0) (pv 1) (nomark _)))))))), ?_⟩
    rcases he with ⟨i, rfl, rfl⟩ | ⟨a, b, xs, ys, rfl, rfl, ha, hb, hP, hl⟩
    · refine ⟨_, rfl, _, _, _, _, _, rfl, .ty "tuple", .base (.int i), kit_ty (show kitB "int" "tuple" = some false by decide +kernel), _, rfl, iteF ?_⟩
      refine ⟨_, rfl, _, _, _, _, _, rfl, .ty "int", .base (.int i), kit_ty (show kitB "int" "int" = some true by decide +kernel), _, rfl, iteT ?_⟩
      refine ⟨_, rfl, _, _, _, _, _, rfl, .ty "bool", .base (.int i), kit_ty (show kitB "int" "bool" = some false by decide +kernel), _, rfl, _, rfl, iteT ⟨_, rfl, _, rfl, rfl, ?_⟩⟩
      rw [decide_eq_true rfl]
      exact kk
    · have el := paired_len hP
      refine ⟨_, rfl, _, _, _, _, _, rfl, .ty "tuple", tyR hb, kit_ty (show kitB "tuple" "tuple" = some true by decide +kernel), _, rfl, iteT ?_⟩
      refine ⟨_, rfl, _, _, _, _, _, rfl, .ty "tuple", tyR ha, kit_ty (show kitB "tuple" "tuple" = some true by decide +kernel), _, rfl, iteF ?_⟩
      refine ⟨_, rfl, a, _, rfl, .inr (sqT ha), _, rfl, b, _, rfl, .inr (sqT hb), rfl, _, rfl, iteFb (by rw [decide_eq_true (congrArg (fun n : Nat => V.int n) el)]; rfl) ?_⟩
      refine ⟨_, rfl, b, _, rfl, .inr (sqT hb), (ys.length : Int), rfl, by omega, by omega, for_range (lo := 0) (n := ys.length) (fun i σ H' => ∃ x, σ = [some (.ref a), some (.ref b), x] ∧ H' = H) ⟨none, rfl, rfl⟩ ?_ ?_⟩
      · rintro i σ H' hi ⟨x, rfl, rfl⟩
        have hy : ys[i]? = some ys[i] := List.getElem?_eq_getElem hi
        obtain ⟨u, hx, r⟩ := paired_of hP hy
        rw [show ((0 : Int) + (i : Int)) = ((i : Nat) : Int) from Int.zero_add _]
        refine ⟨_, rfl, _, rfl, a, xs, (i : Int), u, rfl, rfl, sqT ha, atI_nat hx, _, rfl, _, rfl, b, ys, (i : Int), _, rfl, rfl, sqT hb, atI_nat hy, u, _, rfl, r, _, rfl, iteF ⟨_, rfl, rfl⟩⟩
      · rintro σ H' ⟨x, rfl, rfl⟩
        exact kk
/-- whole values, to the depth n -/
theorem ok_Sr {f : Addr} {fd : FuncData} (F : FnS K "_law_same" s_law_same f fd) (B : Blt3 mg) (g : mg "_law_same" = some (.ref f)) (hb : L2.Binds K fd ["found", "due"] []) : ∀ n, FnOk P w K mg base (L2.CX P w) (n + 1) f fd ["found", "due"] (spSr n)
  | 0 => by
    have e : FnOk P w K mg base (L2.CX P w) 0 f fd ["found", "due"] (spSrP fun _ _ _ => False) := ⟨fun vs H Q E ⟨_, _, _, z, _⟩ => z.elim, fun A outer s H args us vs Q E _ _ _ _ ⟨_, _, _, z, _⟩ => z.elim⟩
    exact (ok_Sr1 F B ⟨g, F.kp, hb, e⟩).imp fun vs H Q E ⟨u, v, e, h, q⟩ => ⟨u, v, e, .inl h, q⟩
  | n + 1 => ok_Sr1 F B ⟨g, F.kp, hb, ok_Sr F B g hb n⟩
end
theorem eqr_FI {H : Hp} {u v : V} {z : Int} (a : FI H u z) (b : FI H v z) : EqR 0 H u v := ⟨z, a, b⟩
theorem pair2 {α : Type} {A B : V → α → Prop} {R : V → V → Prop} {W : α → Prop} (f : ∀ u v z, W z → A u z → B v z → R u v) : ∀ {xs ys : List V} {l : List α}, Paired A xs l → Paired B ys l → (∀ z ∈ l, W z) → Paired R xs ys
  | _, _, _, .nil, h, _ => by cases h; exact .nil
  | _, _, _, .cons h t, h2, hb => by
    cases h2 with
    | cons k s => exact .cons (f _ _ _ (hb _ List.mem_cons_self) h k) (pair2 f t s fun z hz => hb z (List.mem_cons_of_mem _ hz))
/-- a tuple there is, of things like F -/
def RF {α : Type} (F : Hp → V → α → Prop) : Hp → V → List α → Prop := fun H v l => ∃ c xs, v = .ref c ∧ Rd H c (.tup xs) ∧ Paired (F H) xs l
/-- a tuple that was made new, without a dict -/
def NF {α : Type} (F : Hp → V → α → Prop) : Hp → V → List α → Prop := fun H v l => ∃ c o xs, v = .ref c ∧ H c = some (.frz o (.tup xs)) ∧ o.dict = none ∧ Paired (F H) xs l
theorem NF.rf {α : Type} {F : Hp → V → α → Prop} {H : Hp} {v : V} {l : List α} (h : NF F H v l) : RF F H v l := by
  obtain ⟨c, o, xs, e, h, _, p⟩ := h
  exact ⟨c, xs, e, .inr ⟨o, h⟩, p⟩
theorem tf_rf {α : Type} {F : Hp → V → α → Prop} {H : Hp} {v : V} {l : List α} (h : TF F H v l) : RF F H v l := by
  obtain ⟨c, xs, e, h, p⟩ := h
  exact ⟨c, xs, e, .inl h, p⟩
theorem RF.imp {α : Type} {F G : Hp → V → α → Prop} {H : Hp} {v : V} {l : List α} (h : RF F H v l) (f : ∀ v z, F H v z → G H v z) : RF G H v l := by
  obtain ⟨c, xs, e, h, p⟩ := h
  exact ⟨c, xs, e, h, paired_mono f p⟩
theorem RF.same {α : Type} {F : Hp → V → α → Prop} {H H' : Hp} {v : V} {l : List α} (st : ∀ H H' v z, Same H H' → F H v z → F H' v z) (h : RF F H v l) (s : Same H H') : RF F H' v l := by
  obtain ⟨c, xs, e, h, p⟩ := h
  exact ⟨c, xs, e, rd_same s h, paired_mono (fun _ _ q => st _ _ _ _ s q) p⟩
theorem NF.same {α : Type} {F : Hp → V → α → Prop} {H H' : Hp} {v : V} {l : List α} (st : ∀ H H' v z, Same H H' → F H v z → F H' v z) (h : NF F H v l) (s : Same H H') : NF F H' v l := by
  obtain ⟨c, o, xs, e, h, d, p⟩ := h
  exact ⟨c, o, xs, e, s _ _ h, d, paired_mono (fun _ _ q => st _ _ _ _ s q) p⟩
theorem dt_RF {K : PySem.W.Frag} {α : Type} {F : Hp → V → α → Prop} {d : α → PyData} (h : Dt K F d) : Dt K (RF F) fun l => .tuple (l.map d) := fun H v l ⟨c, xs, e, hc, p⟩ => e ▸ .tup (sqT hc) (dt_all h p)
theorem eqr_RF {α : Type} {F G : Hp → V → α → Prop} {B : α → Prop} {n : Nat} {H : Hp} (hF : ∀ u v z, B z → F H u z → G H v z → EqR n H u v) {u v : V} {l : List α} (a : RF F H u l) (b : RF G H v l) (hB : ∀ z ∈ l, B z) (hl : l.length ≤ 10000) : EqR (n + 1) H u v := by
  obtain ⟨c, xs, rfl, hc, hp⟩ := a
  obtain ⟨d, ys, rfl, hd, hq⟩ := b
  exact .inr ⟨c, d, xs, ys, rfl, rfl, hc, hd, pair2 hF hp hq hB, by rw [paired_len hq]; exact hl⟩
theorem eqr1 {H : Hp} {u v : V} {r : List Int} (a : T1 H u r) (b : T1 H v r) (h : r.length ≤ 10000) : EqR 1 H u v := eqr_RF (B := fun _ => True) (fun _ _ _ _ => eqr_FI) (tf_rf a) (tf_rf b) (fun _ _ => True.intro) h
theorem eqr2 {H : Hp} {u v : V} {m : List (List Int)} (a : T2 H u m) (b : T2 H v m) (hr : ∀ r ∈ m, r.length ≤ 10000) (h : m.length ≤ 10000) : EqR 2 H u v := eqr_RF (B := fun r => r.length ≤ 10000) (fun _ _ _ hb x y => eqr1 x y hb) (tf_rf a) (tf_rf b) hr h
theorem eqr3 {H : Hp} {u v : V} {q : List (List (List Int))} (a : T3 H u q) (b : T3 H v q) (hm : ∀ m ∈ q, m.length ≤ 10000 ∧ ∀ r ∈ m, r.length ≤ 10000) (h : q.length ≤ 10000) : EqR 3 H u v :=
  eqr_RF (B := fun m => m.length ≤ 10000 ∧ ∀ r ∈ m, r.length ≤ 10000) (fun _ _ _ hb x y => eqr2 x y hb.2 hb.1) (tf_rf a) (tf_rf b) hm h
/-- more depth does no harm -/
theorem EqR.up {H : Hp} : ∀ {n : Nat} {u v : V}, EqR n H u v → EqR (n + 1) H u v
  | 0, _, _, h => .inl h
  | n + 1, _, _, .inl h => .inl h
  | n + 1, _, _, .inr ⟨a, b, xs, ys, e1, e2, h1, h2, p, l⟩ => .inr ⟨a, b, xs, ys, e1, e2, h1, h2, paired_mono (fun _ _ q => q.up) p, l⟩
/-! ### lists that are built, of things that may be lists themselves -/
structure StX {α : Type} (F : Addr → Hp → V → α → Prop) (G : Hp → V → α → Prop) : Prop where
  st : ∀ D H H' y z, Keep D H H' → TK H H' → F D H y z → F D H' y z
  out : ∀ D H y z, F D H y z → G H y z
structure BX {α : Type} (F : Addr → Hp → V → α → Prop) (H1 : Hp) (D : Addr) (zs : List α) (H : Hp) : Prop where
  same : Same H1 H
  ex : ∃ ys, H D = some (.lst ys) ∧ Paired (F D H) ys zs
section
variable {α : Type} {F : Addr → Hp → V → α → Prop} {G : Hp → V → α → Prop} {H1 H H' : Hp} {D : Addr} {zs : List α}
theorem BX.start (hD : H1 D = none) : BX F H1 D [] (upd H1 D (.lst [])) := ⟨same_new hD, [], upd_same, .nil⟩
theorem BX.skip (b : BX F H1 D zs H) (st : StX F G) (s : Same H H') : BX F H1 D zs H' := by
  obtain ⟨s1, ys, e, p⟩ := b
  exact ⟨s1.trans s, ys, s _ _ e, paired_mono (fun y z q => st.st _ _ _ _ _ (Keep.of s) (TK.of s) q) p⟩
theorem BX.put {y : V} {z : α} (b : BX F H1 D zs H) (st : StX F G) (hD : H1 D = none) (s : Same H H') (f : F D H' y z) (hl : zs.length < sizeLine) :
    ∃ acc, H' D = some (.lst acc) ∧ acc.length < sizeLine ∧ BX F H1 D (zs ++ [z]) (upd H' D (.lst (acc ++ [y]))) := by
  obtain ⟨s1, ys, e, p⟩ := b.skip st s
  refine ⟨ys, e, by rw [paired_len p]; exact hl, fun b o h => ?_, ys ++ [y], upd_same, ?_⟩
  · rw [upd_ne (ne_of_none h hD)]
    exact s1 _ _ h
  · have k : Keep D H' (upd H' D (.lst (ys ++ [y]))) := keep_upd
    have t : TK H' (upd H' D (.lst (ys ++ [y]))) := TK.put e fun xs z => nomatch z
    exact paired_app (paired_mono (fun y z q => st.st _ _ _ _ _ k t q) p) (.cons (st.st _ _ _ _ _ k t f) .nil)
theorem BX.fin (b : BX F H1 D zs H) (st : StX F G) : Same H1 H ∧ ∃ ys, H D = some (.lst ys) ∧ Paired (G H) ys zs := by
  obtain ⟨s1, ys, e, p⟩ := b
  exact ⟨s1, ys, e, paired_mono (fun _ _ q => st.out _ _ _ _ q) p⟩
end
/-- things of tuples alone -/
theorem stx_of {α : Type} {G : Hp → V → α → Prop} (st : Stb G) : StX (fun _ => G) G := ⟨fun _ _ _ _ _ _ t q => st _ _ _ _ t q, fun _ _ _ _ q => q⟩
/-- lists of such -/
def LsX {α : Type} (G : Hp → V → α → Prop) : Addr → Hp → V → List α → Prop := fun D H y z => LF G H y z ∧ y ≠ .ref D
theorem stx_Ls {α : Type} {G : Hp → V → α → Prop} (st : Stb G) : StX (LsX G) (LF G) := ⟨fun D H H' y z k t ⟨⟨c, xs, e, h, p⟩, n⟩ => ⟨⟨c, xs, e, k _ _ (fun q => n (by rw [e, q])) h, paired_mono (fun _ _ q => st _ _ _ _ t q) p⟩, n⟩, fun _ _ _ _ q => q.1⟩
/-- new tuples of such -/
def NX {α : Type} (G : Hp → V → α → Prop) : Addr → Hp → V → List α → Prop := fun D H y z => NF G H y z ∧ y ≠ .ref D
theorem stx_NX {α : Type} {G : Hp → V → α → Prop} (st : Stb G) : StX (NX G) (NF G) := ⟨fun D H H' y z k t ⟨⟨c, o, xs, e, h, d, p⟩, n⟩ => ⟨⟨c, o, xs, e, k _ _ (fun q => n (by rw [e, q])) h, d, paired_mono (fun _ _ q => st _ _ _ _ t q) p⟩, n⟩, fun _ _ _ _ q => q.1⟩
/-- draws with a list of asks -/
def TDX : Addr → Hp → V → Int × List (List Int) → Prop := fun D H v d => ∃ c y, v = .ref c ∧ H c = some (.tup [.int d.1, y]) ∧ LsX T1 D H y d.2
theorem stx_TDX : StX TDX TDL := ⟨fun D H H' y z k t ⟨c, y2, e, h, p⟩ => ⟨c, y2, e, t _ _ h, (stx_Ls stb1).st _ _ _ _ _ k t p⟩, fun _ _ _ _ ⟨c, y2, e, h, p⟩ => ⟨c, y2, e, h, p.1⟩⟩
/-! ### the place of a thing -/
def rIxG {α : Type} (S : Hp → V → List α → Prop) (G : Hp → V → α → Prop) : V → List V → Hp → VK → Prop := fun x xs H Q => ∃ (y : V) (l : List α) (z : α) (j : Nat), xs = [y] ∧ S H x l ∧ G H y z ∧ l.Nodup ∧ l[j]? = some z ∧ l.length ≤ 100000 ∧ Q (.int (j : Nat)) H
structure Lay {α : Type} (d : α → PyData) : Prop where
  inj : ∀ a b, PyData.eqv (d a) (d b) = true → a = b
  rfl' : ∀ a, PyData.eqv (d a) (d a) = true
  sh : ∀ a, SeqAt.shaped (d a) = true
theorem Lay.no {α : Type} {d : α → PyData} (Y : Lay d) {a b : α} (h : a ≠ b) : PyData.eqv (d a) (d b) = false := by
  cases e : PyData.eqv (d a) (d b) with
  | false => rfl
  | true => exact absurd (Y.inj _ _ e) h
theorem Lay.all {α : Type} {d : α → PyData} (Y : Lay d) : ∀ l : List α, PyData.canLayAll0 (l.map d) = true
  | [] => rfl
  | a :: l => by
    have h := Y.sh a
    unfold SeqAt.shaped at h
    rw [Bool.and_eq_true] at h
    rw [List.map_cons, PyData.canLayAll0, Y.all l, Bool.and_true]
    exact h.1
theorem Lay.dep {α : Type} {d : α → PyData} (O : Ord d) : ∀ l : List α, PyData.depthAll (l.map d) ≤ 60
  | [] => by simp [PyData.depthAll]
  | m :: q => by
    have h1 := Lay.dep O q
    have h2 := O.dp m
    simp only [List.map_cons, PyData.depthAll]
    omega
theorem nodup_at {α : Type} {l : List α} {i j : Nat} {a : α} (n : l.Nodup) (h1 : l[i]? = some a) (h2 : l[j]? = some a) : i = j := (List.getElem?_inj (List.getElem?_eq_some_iff.mp h1).1 n).mp (h1.trans h2.symm)
section
variable {X : Cx}
theorem mt_ixL0 {α : Type} {G : Hp → V → α → Prop} {d : α → PyData} (hd : Dt X.K G d) (O : Ord d) (Y : Lay d) (hu : X.A.units + 65 < cLine) : MtR X "list.index" (rIxG (LF G) G) := by
  intro pn st sg HH self args sv avs QQ inv r1 r2 ⟨y, l, z, j, e, hS, hG, hn, hj, hl, q⟩
  subst e
  have hD := dt_LF hd _ _ _ hS
  obtain ⟨c, xs, rfl, hc, hp⟩ := hS
  refine mt_indexD hu pn st sg HH _ _ sv avs QQ inv r1 r2 ⟨c, y, d z, l.map d, j, d z, rfl, rfl, hD, hd _ _ _ hG, ?_, Y.sh z, by rw [List.getElem?_map, hj]; rfl, Y.rfl' z, fun m w hm hw => ?_, q⟩
  · show ((PyData.list _).canLay0 && decide ((PyData.list _).depth ≤ 64)) = true
    rw [PyData.canLay0, Y.all, PyData.depth, decide_eq_true (by have := Lay.dep O l; omega)]
    rfl
  · rw [List.getElem?_map] at hw
    obtain ⟨b, hb, rfl⟩ := Option.map_eq_some_iff.mp hw
    exact Y.no fun q => by
      subst q
      have := nodup_at hn hb hj
      omega
theorem mt_ixL {K : PySem.W.Frag} {α : Type} {G : Hp → V → α → Prop} {d : α → PyData} (hd : Dt K G d) (O : Ord d) (Y : Lay d) (hu : X.A.units + 65 < cLine) (hK : X.K = K := by rfl) : MtR X "list.index" (rIxG (LF G) G) := by
  subst hK
  exact mt_ixL0 hd O Y hu
/-- of a tuple, there is no dict of its own -/
theorem mt_ixN0 {α : Type} {G : Hp → V → α → Prop} {d : α → PyData} (hd : Dt X.K G d) (O : Ord d) (Y : Lay d) (hu : X.A.units + 65 < cLine) : MtR X "tuple.index" (rIxG (NF G) G) := by
  intro pn st sg HH self args sv avs QQ inv r1 r2 ⟨y, l, z, j, e, ⟨c, oo, xs, ec, hc, _, hp⟩, hG, hn, hj, hl, q⟩
  subst e ec
  cases r1
  obtain ⟨u, rfl, ru⟩ := vals1 r2
  obtain ⟨bs, rd⟩ := Dp.reads inv _ _ _ (hd _ _ _ hG) ru
  obtain ⟨its, rel, ⟨⟨oc, od, ot, osl⟩, hobj, hcls, num, hdata⟩, _⟩ := inv.tuple (sqT (.inr ⟨oo, hc⟩))
  simp only at hcls hdata
  subst hcls hdata
  obtain ⟨as, ra⟩ := Dp.readsAll inv _ _ its (dt_all hd hp) rel
  have hmap := SeqAt.readsAll_map _ its as (Y.all l) ra
  have len1 := rel.length
  have len2 := paired_len hp
  have hjl : j < l.length := (List.getElem?_eq_some_iff.mp hj).1
  have here : ∀ (k : Nat) (hk : k < its.toArray.size), ∃ b, l[k]? = some b ∧ SeqAt.readOf st.heap its.toArray[k] = d b := fun k hk => by
    have hk : k < its.length := by simpa using hk
    have lk : k < l.length := by omega
    refine ⟨l[k], List.getElem?_eq_getElem lk, ?_⟩
    have e := congrArg (fun w => w[k]?) hmap
    simp only [List.getElem?_map, List.getElem?_eq_getElem hk, List.getElem?_eq_getElem lk, Option.map_some] at e
    rw [List.getElem_toArray]
    exact Option.some.inj e
  have lj : j < its.toArray.size := by rw [List.size_toArray]; omega
  refine call_meets PySem.F.slot_tuple_index ⟨_, hobj, rfl⟩ PySem.F.entry_tuple_index (PySem.F.args_tuple_index_2 _ _) (TI.tuple_indexAt c its.toArray num od osl _ (fun t => PyData.eqv (SeqAt.readOf st.heap t) (d z)) j lj ?_ fun k hk hkj => ?_)
    ⟨hobj, SeqAt.items_eqAt (vs := its.toArray) (show ReadsAll st.heap its.toArray.toList _ as from ra) rd (Y.all l) (SeqAt.canLay_of_shaped (Y.sh z)) (room_in_shaped (Y.sh z) hu), ⟨.int (j : Nat), HH, inv.tok _, ⟨_, rfl⟩, q⟩⟩
  · obtain ⟨b, e1, e2⟩ := here j lj
    cases hj.symm.trans e1
    show PyData.eqv (SeqAt.readOf st.heap its.toArray[j]) (d z) = true
    rw [e2]
    exact Y.rfl' z
  · obtain ⟨b, e1, e2⟩ := here k hk
    show PyData.eqv (SeqAt.readOf st.heap its.toArray[k]) (d z) = false
    rw [e2]
    exact Y.no fun w => by
      subst w
      have := nodup_at hn e1 hj
      omega
theorem mt_ixN {K : PySem.W.Frag} {α : Type} {G : Hp → V → α → Prop} {d : α → PyData} (hd : Dt K G d) (O : Ord d) (Y : Lay d) (hu : X.A.units + 65 < cLine) (hK : X.K = K := by rfl) : MtR X "tuple.index" (rIxG (NF G) G) := by
  subst hK
  exact mt_ixN0 hd O Y hu
end
theorem layQ : Lay dQ where
  inj := fun a b h => by
    simp only [dQ, PyData.eqv, PyData.eqvAll, Bool.and_eq_true, Bool.and_true] at h
    have e2 := eqv_d2 h.2
    obtain ⟨a1, a2⟩ := a
    obtain ⟨b1, b2⟩ := b
    have e1 := of_decide_eq_true h.1
    congr 1
    exact Int.natCast_inj.mp (by simpa using e1)
  rfl' := fun a => by
    simp only [dQ, PyData.eqv, PyData.eqvAll, eqv2r, Bool.and_true]
    simp
  sh := fun a => by
    have h := shaped2 a.2
    unfold SeqAt.shaped at h ⊢
    rw [Bool.and_eq_true] at h
    show ((PyData.tuple _).canLay0 && decide ((dQ a).depth ≤ 64)) = true
    rw [PyData.canLay0, PyData.canLayAll0, PyData.canLayAll0, h.1, decide_eq_true (Nat.le_trans (ordQ.dp a) (by decide))]
    rfl
theorem nnQ (a : Nat × List (List Int)) : ∃ x r, dQ a = .tuple (x :: r) := ⟨_, _, rfl⟩
end WU

set_option maxRecDepth 100000
set_option maxHeartbeats 8000000
namespace WU
open PySem PySem.Spec PyProof.Rows L2
section
variable {P : Program} {w : World} {K : PySem.W.Frag} {mg : Str → Option Value} {base : Heap} {L LL : Addr}
/-- check_wish(plan, wish) -/
def spCWT (K : PySem.W.Frag) (L : Addr) : Sp := fun vs H Q E => ∃ (x : Addr) (u : V) (p : Int) (n c : Nat) (qss : List (List (Nat × List (List Int)))) (ds : List (Int × List (List Int))), vs = [.ref x, u] ∧ TpAt L H x p n c qss ds ∧ Ty3 K H u ∧ (isBel (c : Int) u = true → Q .non H) ∧ (isBel (c : Int) u = false → Errs (He.ga K "InvalidNumber") "value" u H E)
theorem ok_CWT {f f1 : Addr} {fd fd1 fdI : FuncData} (F : FnS K "check_wish" s_check_wish f fd) (C : TpC K mg L) (C2 : Cal P w K mg base 3 "is_below" f1 fd1 ["value", "limit"] (spIsBel K)) (T : Exc1 K mg "InvalidNumber" "value")
    (FI : FnOk P w K mg base (L2.CX P w) 1 (He.ma K (He.ga K "InvalidNumber") "__init__") fdI ["self", "value"] (spInit1 K (He.ga K "InvalidNumber") "value")) (bI : Binds K fdI ["self", "value"] []) : FnOk P w K mg base (L2.CX P w) 4 f fd ["plan", "wish"] (spCWT K L) := by
  refine F.ok sccheck_wish (fun vs H Q E h => ?_) (fun cdv A outer s H vs Q E hr h => ?_)
  · obtain ⟨x, u, p, n, c, qss, ds, rfl, _⟩ := h
    rfl
  · obtain ⟨x, u, p, n, c, qss, ds, rfl, ⟨dx, qv, dv, hx, hq, hd⟩, hu, kY, kN⟩ := h
    have nd := sccheck_wish.nd
    refine ⟨_, (pss_one (ps_if (pt_not (pt_val (pe_cal C2 (hr.mono (by decide)) (pa_cons (pv 1) (pa_cons (pe_fld (pv 0) rfl) pa_nil)) passU))) (pss_one (ps_raise1 rfl (takes_of rfl rfl rfl rfl) T FI bI (hr.mono (by decide)) (pa_cons (pv 1) pa_nil))) pss_nil)), ?_⟩
    refine ⟨_, rfl, _, rfl, x, L, dx, _, _, rfl, hx, C.cl, C.nC, pf_book_count, _, _, rfl, hu, _, rfl, ?_⟩
    cases e : isBel (c : Int) u with
    | true => exact iteF (kY e)
    | false => exact iteT ⟨_, rfl, u, rfl, kN e⟩
/-- check_ask(plan, wish, draw) -/
def spCAsT (K : PySem.W.Frag) (L : Addr) : Sp := fun vs H Q E => ∃ (x : Addr) (u t : V) (p : Int) (n c : Nat) (qss : List (List (Nat × List (List Int)))) (ds : List (Int × List (List Int))), vs = [.ref x, u, t] ∧ TpAt L H x p n c qss ds ∧ Ty3 K H u ∧ Ty3 K H t ∧
  (isBel (c : Int) u = false → Errs (He.ga K "InvalidNumber") "value" u H E) ∧ (isBel (c : Int) u = true → (isBel (ds.length : Int) t = false → Errs (He.ga K "InvalidNumber") "value" t H E) ∧ (isBel (ds.length : Int) t = true → Q .non H))
theorem ok_CAT {f f1 f2 : Addr} {fd fd1 fd2 fdI : FuncData} (F : FnS K "check_ask" s_check_ask f fd) (B : Blt4 mg) (C : TpC K mg L) (C2 : Cal P w K mg base 3 "is_below" f1 fd1 ["value", "limit"] (spIsBel K)) (CWi : Cal P w K mg base 4 "check_wish" f2 fd2 ["plan", "wish"] (spCWT K L)) (T : Exc1 K mg "InvalidNumber" "value")
    (FI : FnOk P w K mg base (L2.CX P w) 1 (He.ma K (He.ga K "InvalidNumber") "__init__") fdI ["self", "value"] (spInit1 K (He.ga K "InvalidNumber") "value")) (bI : Binds K fdI ["self", "value"] []) : FnOk P w K mg base (L2.CX P w) 5 f fd ["plan", "wish", "draw"] (spCAsT K L) := by
  refine F.ok sccheck_ask (fun vs H Q E h => ?_) (fun cdv A outer s H vs Q E hr h => ?_)
  · obtain ⟨x, u, t, p, n, c, qss, ds, rfl, _⟩ := h
    rfl
  · obtain ⟨x, u, t, p, n, c, qss, ds, rfl, hpl, hu, ht, kU, kT⟩ := h
    have nd := sccheck_ask.nd
    refine ⟨_, (pss_cons (ps_expr (pe_cal (E := E) CWi (hr.mono (by decide)) (pa_cons (pv 0) (pa_cons (pv 1) pa_nil)) (passes_call (takes_of rfl rfl rfl rfl) (fun _ _ _ _ h => h))))
      (pss_one (ps_if (pt_not (pt_val (pe_cal C2 (hr.mono (by decide)) (pa_cons (pv 2) (pa_cons (pe_callB (len_seqK (K := K)) (by rfl) B.len (by decide +kernel) (pa_cons (pe_fld (pv 0) rfl) pa_nil)) pa_nil)) passU))) (pss_one (ps_raise1 rfl (takes_of rfl rfl rfl rfl) T FI bI (hr.mono (by decide)) (pa_cons (pv 2) pa_nil))) pss_nil))), ?_⟩
    refine ⟨_, rfl, _, rfl, x, u, p, n, c, qss, ds, rfl, hpl, hu, fun eu => ?_, kU⟩
    obtain ⟨dx, qv, dv, hx, hq, dc, dxs, rfl, hdc, hdp⟩ := hpl
    refine ⟨_, rfl, _, rfl, x, L, dx, _, _, rfl, hx, C.cl, C.nD, pf_draws, dc, _, rfl, .inr (SqT.of hdc), _, _, rfl, ht, _, rfl, ?_⟩
    rw [paired_len hdp]
    cases e : isBel (ds.length : Int) t with
    | true => exact iteF ((kT eu).2 e)
    | false => exact iteT ⟨_, rfl, t, rfl, (kT eu).1 e⟩
/-- check_question(plan, house, question) -/
def spCQT (K : PySem.W.Frag) (L : Addr) : Sp := fun vs H Q E => ∃ (x : Addr) (u t : V) (p : Int) (n c : Nat) (qss : List (List (Nat × List (List Int)))) (ds : List (Int × List (List Int))), vs = [.ref x, u, t] ∧ TpAt L H x p n c qss ds ∧ Ty3 K H u ∧ Ty3 K H t ∧
  (isBel (qss.length : Int) u = false → Errs (He.ga K "InvalidNumber") "value" u H E) ∧ ∀ (h : Nat) (qs : List (Nat × List (List Int))), u = .int (h : Int) → qss[h]? = some qs → (isBel (qs.length : Int) t = false → Errs (He.ga K "InvalidNumber") "value" t H E) ∧ (isBel (qs.length : Int) t = true → Q .non H)
theorem ok_CQT {f f1 : Addr} {fd fd1 fdI : FuncData} (F : FnS K "check_question" s_check_question f fd) (B : Blt4 mg) (C : TpC K mg L) (C2 : Cal P w K mg base 3 "is_below" f1 fd1 ["value", "limit"] (spIsBel K)) (T : Exc1 K mg "InvalidNumber" "value")
    (FI : FnOk P w K mg base (L2.CX P w) 1 (He.ma K (He.ga K "InvalidNumber") "__init__") fdI ["self", "value"] (spInit1 K (He.ga K "InvalidNumber") "value")) (bI : Binds K fdI ["self", "value"] []) : FnOk P w K mg base (L2.CX P w) 4 f fd ["plan", "house", "question"] (spCQT K L) := by
  refine F.ok sccheck_question (fun vs H Q E h => ?_) (fun cdv A outer s H vs Q E hr h => ?_)
  · obtain ⟨x, u, t, p, n, c, qss, ds, rfl, _⟩ := h
    rfl
  · obtain ⟨x, u, t, p, n, c, qss, ds, rfl, ⟨dx, qv, dv, hx, ⟨qa, qxs, rfl, hqa, hqp⟩, hd⟩, hu, ht, kU, kT⟩ := h
    have nd := sccheck_question.nd
    refine ⟨_, (pss_cons (ps_if (pt_not (pt_val (pe_cal C2 (hr.mono (by decide)) (pa_cons (pv 1) (pa_cons (pe_fld (pv 0) rfl) pa_nil)) passU))) (pss_one (ps_raise1 rfl (takes_of rfl rfl rfl rfl) T FI bI (hr.mono (by decide)) (pa_cons (pv 1) pa_nil))) pss_nil)
      (pss_one (ps_if (pt_not (pt_val (pe_cal C2 (hr.mono (by decide)) (pa_cons (pv 2) (pa_cons (pe_callB (len_seqK (K := K)) (by rfl) B.len (by decide +kernel) (pa_cons (pe_ix (ix_tupK (K := K)) (pe_fld (pv 0) rfl) (pv 1) (fun _ _ => rfl)) pa_nil)) pa_nil)) passU))) (pss_one (ps_raise1 rfl (takes_of rfl rfl rfl rfl) T FI bI (hr.mono (by decide)) (pa_cons (pv 2) pa_nil))) pss_nil))), ?_⟩
    refine ⟨_, rfl, _, rfl, x, L, dx, _, _, rfl, hx, C.cl, C.nH, pf_house_count, _, _, rfl, hu, _, rfl, ?_⟩
    cases e : isBel (qss.length : Int) u with
    | false => exact iteT ⟨_, rfl, u, rfl, kU e⟩
    | true =>
      obtain ⟨h, rfl, hl⟩ := bel_at e
      have hl : h < qss.length := by omega
      have eq := List.getElem?_eq_getElem hl
      obtain ⟨y, hy, qc, zs, rfl, hqc, hz⟩ := paired_of hqp eq
      refine iteF ⟨_, rfl, _, rfl, x, L, dx, _, _, rfl, hx, C.cl, C.nQ, pf_questions, _, rfl, qa, _, _, _, rfl, rfl, SqT.of hqa, atI_nat hy, qc, _, rfl, .inr (SqT.of hqc), _, _, rfl, ht, _, rfl, ?_⟩
      rw [paired_len hz]
      cases e2 : isBel ((qss[h]).length : Int) t with
      | true => exact iteF ((kT h _ rfl eq).2 e2)
      | false => exact iteT ⟨_, rfl, t, rfl, (kT h _ rfl eq).1 e2⟩
/-- check_library(plan, library) -/
def spCLT (K : PySem.W.Frag) (L LL : Addr) : Sp := fun vs H Q E => ∃ (x : Addr) (u : V) (p : Int) (n c : Nat) (qss : List (List (Nat × List (List Int)))) (ds : List (Int × List (List Int))), vs = [.ref x, u] ∧ TpAt L H x p n c qss ds ∧
  ((∃ t, TyX K H u t ∧ PySem.W.kitOne K t (.ref LL) = some false ∧ Errs (He.ga K "InvalidLibrary") "value" u H E) ∨
   ∃ (a : Addr) (p' : Int) (n' : Nat) (bs : List (List Int)), u = .ref a ∧ LibAt LL H a p' n' bs ∧ (p' = p ∧ bs.length = c ∧ n' = n → Q .non H) ∧ (¬ (p' = p ∧ bs.length = c ∧ n' = n) → Errs (He.ga K "InvalidLibrary") "value" u H E))
theorem ok_CLT {f : Addr} {fd fdI : FuncData} (F : FnS K "check_library" s_check_library f fd) (B : Blt4 mg) (C : TpC K mg L) (CL : LibC K mg LL) (TL : Exc1 K mg "InvalidLibrary" "value")
    (FL : FnOk P w K mg base (L2.CX P w) 1 (He.ma K (He.ga K "InvalidLibrary") "__init__") fdI ["self", "value"] (spInit1 K (He.ga K "InvalidLibrary") "value")) (bL : Binds K fdI ["self", "value"] []) : FnOk P w K mg base (L2.CX P w) 3 f fd ["plan", "library"] (spCLT K L LL) := by
  refine F.ok sccheck_library (fun vs H Q E h => ?_) (fun cdv A outer s H vs Q E hr h => ?_)
  · obtain ⟨x, u, p, n, c, qss, ds, rfl, _⟩ := h
    rfl
  · obtain ⟨x, u, p, n, c, qss, ds, rfl, ⟨dx, qv, dv, hx, hq, hd⟩, hu⟩ := h
    have nd := sccheck_library.nd
    refine ⟨_, (pss_cons (ps_if (PW.pt (pw_or (pt_not (pt_val (pe_callB (isiK (K := K)) (by rfl) B.isi (by decide +kernel) (pa_cons (pv 1) (pa_cons (pe_glob (v := .ref LL) rfl CL.g rfl) pa_nil))))) (pw_or1 (pt_cmpR op_ne (pe_fld (pv 1) rfl) (pe_fld (pv 0) rfl) (nomark _))))) (pss_one (ps_raise1 rfl (takes_of rfl rfl rfl rfl) TL FL bL (hr.mono (by decide)) (pa_cons (pv 1) pa_nil))) pss_nil)
      (pss_one (ps_if (PW.pt (pw_or (pt_cmpR op_ne (pe_fld (pv 1) rfl) (pe_fld (pv 0) rfl) (nomark _)) (pw_or1 (pt_cmpR op_ne (pe_fld (pv 1) rfl) (pe_fld (pv 0) rfl) (nomark _))))) (pss_one (ps_raise1 rfl (takes_of rfl rfl rfl rfl) TL FL bL (hr.mono (by decide)) (pa_cons (pv 1) pa_nil))) pss_nil))), ?_⟩
    rcases hu with ⟨t, ty, kf, kE⟩ | ⟨a, p', n', bs, rfl, ⟨dl, ba, tl, rs, ha, hba, hbp, htl⟩, kY, kN⟩
    · exact ⟨_, rfl, _, _, _, _, _, rfl, .own LL, ty, kf, _, rfl, iteT ⟨_, rfl, u, rfl, kE⟩⟩
    · refine ⟨_, rfl, _, _, _, _, _, rfl, .own LL, .base (.ins ha CL.cl CL.ha CL.hn CL.htk CL.hm), CL.kS, _, rfl, iteF ?_⟩
      by_cases h1 : p' = p
      · subst h1
        refine ⟨_, rfl, a, LL, dl, _, _, rfl, ha, CL.cl, CL.nP, lf_p, _, rfl, x, L, dx, _, _, rfl, hx, C.cl, C.nP, pf_p, rfl, _, rfl, iteFb (by rw [decide_eq_true rfl]; rfl) ?_⟩
        by_cases h2 : bs.length = c
        · subst h2
          refine ⟨_, rfl, a, LL, dl, _, _, rfl, ha, CL.cl, CL.nC, lf_count, _, rfl, x, L, dx, _, _, rfl, hx, C.cl, C.nC, pf_book_count, rfl, _, rfl, iteFb (by rw [decide_eq_true rfl]; rfl) ?_⟩
          by_cases h3 : n' = n
          · subst h3
            exact ⟨_, rfl, a, LL, dl, _, _, rfl, ha, CL.cl, CL.nL, lf_length, _, rfl, x, L, dx, _, _, rfl, hx, C.cl, C.nL, pf_book_length, rfl, _, rfl, iteFb (by rw [decide_eq_true rfl]; rfl) (kY ⟨rfl, rfl, rfl⟩)⟩
          · exact ⟨_, rfl, a, LL, dl, _, _, rfl, ha, CL.cl, CL.nL, lf_length, _, rfl, x, L, dx, _, _, rfl, hx, C.cl, C.nL, pf_book_length, rfl, _, rfl, iteTb (by rw [decide_eq_false fun z => h3 (Int.natCast_inj.mp (V.int.inj z))]; rfl) ⟨_, rfl, _, rfl, kN fun z => h3 z.2.2⟩⟩
        · exact ⟨_, rfl, a, LL, dl, _, _, rfl, ha, CL.cl, CL.nC, lf_count, _, rfl, x, L, dx, _, _, rfl, hx, C.cl, C.nC, pf_book_count, rfl, _, rfl, iteTb (by rw [decide_eq_false fun z => h2 (Int.natCast_inj.mp (V.int.inj z))]; rfl) ⟨_, rfl, _, rfl, kN fun z => h2 z.2.1⟩⟩
      · exact ⟨_, rfl, a, LL, dl, _, _, rfl, ha, CL.cl, CL.nP, lf_p, _, rfl, x, L, dx, _, _, rfl, hx, C.cl, C.nP, pf_p, rfl, _, rfl, iteTb (by rw [decide_eq_false fun z => h1 (V.int.inj z)]; rfl) ⟨_, rfl, _, rfl, kN fun z => h1 z.1⟩⟩
def spAdT (K : PySem.W.Frag) (L : Addr) : Sp := fun vs H Q E => ∃ (x : Addr) (u t : V) (p : Int) (n c : Nat) (qss : List (List (Nat × List (List Int)))) (ds : List (Int × List (List Int))), vs = [.ref x, u, t] ∧ TpAt L H x p n c qss ds ∧ Tok p n c qss ds ∧ Ty3 K H u ∧ Ty3 K H t ∧
  (isBel (c : Int) u = false → Errs (He.ga K "InvalidNumber") "value" u H E) ∧ (isBel (c : Int) u = true → (isBel (ds.length : Int) t = false → Errs (He.ga K "InvalidNumber") "value" t H E)) ∧
  ∀ (i j : Nat) (d : Int × List (List Int)) (r : List Int), u = .int (i : Int) → t = .int (j : Int) → ds[j]? = some d → d.2[i]? = some r → ∀ y, T1 H y r → Q y H
theorem scTablePlan_asked : FnScope ["self", "wish", "draw"] ["self", "wish", "draw"] (defScope sTablePlan_asked) := ⟨rfl, rfl, rfl, by decide +kernel, rfl, by decide +kernel, by decide +kernel⟩
theorem ok_AdT {f f1 : Addr} {fd fd1 : FuncData} (F : FunD K "asked" "TablePlan.asked" (defArgs sTablePlan_asked) (defBody sTablePlan_asked) (defScope sTablePlan_asked) [] [] f fd) (C : TpC K mg L) (CAs : Cal P w K mg base 5 "check_ask" f1 fd1 ["plan", "wish", "draw"] (spCAsT K L)) :
    FnOk P w K mg base (L2.CX P w) 6 f fd ["self", "wish", "draw"] (spAdT K L) := by
  refine F.ok scTablePlan_asked (fun vs H Q E h => ?_) (fun cdv A outer s H vs Q E hr h => ?_)
  · obtain ⟨x, u, t, p, n, c, qss, ds, rfl, _⟩ := h
    rfl
  · obtain ⟨x, u, t, p, n, c, qss, ds, rfl, hpl, ok, hu, ht, kU, kT, kk⟩ := h
    have nd := scTablePlan_asked.nd
    refine ⟨_, (pss_cons (ps_expr (pe_cal (E := E) CAs (hr.mono (by decide)) (pa_cons (pv 0) (pa_cons (pv 1) (pa_cons (pv 2) pa_nil))) (passes_call (takes_of rfl rfl rfl rfl) (fun _ _ _ _ h => h))))
      (pss_one (ps_ret (pe_ix (ix_tupK (K := K)) (pe_ix (ix_tupK (K := K)) (pe_ix (ix_tupK (K := K)) (pe_fld (pv 0) rfl) (pv 2) (fun _ _ => rfl)) pe_int (fun _ _ => rfl)) (pv 1) (fun _ _ => rfl))))), ?_⟩
    refine ⟨_, rfl, _, rfl, _, rfl, x, u, t, p, n, c, qss, ds, rfl, hpl, hu, ht, kU, fun eu => ⟨kT eu, fun et => ?_⟩⟩
    obtain ⟨i, rfl, hi⟩ := bel_at eu
    obtain ⟨j, rfl, hj⟩ := bel_at et
    obtain ⟨dx, qv, dv, hx, hq, da, dxs, rfl, hda, hdp⟩ := hpl
    have hj : j < ds.length := by omega
    have ed := List.getElem?_eq_getElem hj
    have dk := ok.dok _ (List.mem_of_getElem? ed)
    have hi : i < (ds[j]).2.length := by have := dk.2.1; omega
    have er := List.getElem?_eq_getElem hi
    obtain ⟨y, hy, dc, yv, rfl, hdc, ba, ys, rfl, hba, hbp⟩ := paired_of hdp ed
    obtain ⟨z, hz, fz⟩ := paired_of hbp er
    refine ⟨_, rfl, x, L, dx, _, _, rfl, hx, C.cl, C.nD, pf_draws, _, rfl, da, _, _, _, rfl, rfl, SqT.of hda, atI_nat hy, dc, _, (1 : Int), _, rfl, rfl, SqT.of hdc, rfl, _, rfl, ba, _, _, _, rfl, rfl, SqT.of hba, atI_nat hz, ?_⟩
    exact kk i j _ _ rfl rfl ed er z fz
/-- the questions of a house at k, where u and t name it -/
def QAtT (qss : List (List (Nat × List (List Int)))) (u t : V) (m : Nat × List (List Int)) : Prop := ∃ (h k : Nat) (qs : List (Nat × List (List Int))), u = .int (h : Int) ∧ t = .int (k : Int) ∧ qss[h]? = some qs ∧ qs[k]? = some m
/-- the tables ms that the numbers ns name -/
def AsksT (qss : List (List (Nat × List (List Int)))) (hs ns : List Int) (ms : List (Nat × List (List Int))) : Prop := hs.length = ms.length ∧ ns.length = ms.length ∧ ms.length ≤ 400 ∧
  ∀ j m, ms[j]? = some m → ∃ (a b : Nat) (qs : List (Nat × List (List Int))), at0 hs j = (a : Int) ∧ at0 ns j = (b : Int) ∧ qss[a]? = some qs ∧ qs[b]? = some m
/-- the answer of a table -/
def ansT (p : Int) (ls : List Int) (m : Nat × List (List Int)) : List Int := m.2.getD (dig p ls).toNat []
theorem dig_bd {p : Int} (h1 : 0 < p) : ∀ {k : Nat} {ls : List Int}, ls.length = k → (∀ x ∈ ls, 0 ≤ x ∧ x < p) → 0 ≤ dig p ls ∧ dig p ls < p ^ k
  | 0, ls, hl, _ => by
    have := List.length_eq_zero_iff.mp hl
    subst this
    exact ⟨Int.le_refl _, by show (0 : Int) < p ^ 0; simp⟩
  | k + 1, ls, hl, h => by
    obtain ⟨l0, x, rfl⟩ : ∃ l0 x, ls = l0 ++ [x] := ⟨ls.dropLast, ls.getLast (by intro z; rw [z] at hl; cases hl), (List.dropLast_concat_getLast _).symm⟩
    obtain ⟨a, b⟩ := dig_bd h1 (k := k) (ls := l0) (by simpa using hl) fun y hy => h y (List.mem_append_left _ hy)
    obtain ⟨c, d⟩ := h x (by simp)
    rw [dig_snoc, Int.pow_succ]
    have e1 : 0 ≤ dig p l0 * p := Int.mul_nonneg a (by omega)
    have e2 : (dig p l0 + 1) * p ≤ p ^ k * p := Int.mul_le_mul_of_nonneg_right (by omega) (by omega)
    have e3 : (dig p l0 + 1) * p = dig p l0 * p + p := by rw [Int.add_mul, Int.one_mul]
    omega
/-- where the numbers of a house and a question are wrong -/
def QErrT (K : PySem.W.Frag) (qss : List (List (Nat × List (List Int)))) (u t : V) (H : Hp) (E : XK) : Prop :=
  (isBel (qss.length : Int) u = false → Errs (He.ga K "InvalidNumber") "value" u H E) ∧ ∀ (h : Nat) (qs : List (Nat × List (List Int))), u = .int (h : Int) → qss[h]? = some qs → isBel (qs.length : Int) t = false → Errs (He.ga K "InvalidNumber") "value" t H E
/-- plan.answer(house, question, library) -/
def spAwT (K : PySem.W.Frag) (L LL : Addr) : Sp := fun vs H Q E => ∃ (x : Addr) (u t l : V) (p : Int) (n c : Nat) (qss : List (List (Nat × List (List Int)))) (ds : List (Int × List (List Int))), vs = [.ref x, u, t, l] ∧ TpAt L H x p n c qss ds ∧ Tok p n c qss ds ∧ Ty3 K H u ∧ Ty3 K H t ∧ QErrT K qss u t H E ∧ ∀ m, QAtT qss u t m →
  ((∃ ty, TyX K H l ty ∧ PySem.W.kitOne K ty (.ref LL) = some false ∧ Errs (He.ga K "InvalidLibrary") "value" l H E) ∨
   ∃ (a : Addr) (p' : Int) (n' : Nat) (bs : List (List Int)), l = .ref a ∧ LibAt LL H a p' n' bs ∧ (∀ b ∈ bs, Ltr p' n' b) ∧ (¬ (p' = p ∧ bs.length = c ∧ n' = n) → Errs (He.ga K "InvalidLibrary") "value" l H E) ∧
     (p' = p ∧ bs.length = c ∧ n' = n → ∀ y H', Same H H' → T1 H' y (ansT p bs.flatten m) → Q y H'))
theorem scTablePlan_answer : FnScope ["self", "house", "question", "library"] ["self", "house", "question", "library"] (defScope sTablePlan_answer) := ⟨rfl, rfl, rfl, by decide +kernel, rfl, by decide +kernel, by decide +kernel⟩
theorem ok_AwT {f f1 f2 f3 : Addr} {fd fd1 fd2 fd3 : FuncData} (F : FunD K "answer" "TablePlan.answer" (defArgs sTablePlan_answer) (defBody sTablePlan_answer) (defScope sTablePlan_answer) [] [] f fd) (B : Blt4 mg) (C : TpC K mg L) (CL : LibC K mg LL) (CQs : Cal P w K mg base 4 "check_question" f1 fd1 ["plan", "house", "question"] (spCQT K L))
    (CLb : Cal P w K mg base 3 "check_library" f2 fd2 ["plan", "library"] (spCLT K L LL)) (CNd : Cal P w K mg base 1 "number_of_digits" f3 fd3 ["base", "digits"] spNd) : FnOk P w K mg base (L2.CX P w) 9 f fd ["self", "house", "question", "library"] (spAwT K L LL) := by
  refine F.ok scTablePlan_answer (fun vs H Q E h => ?_) (fun cdv A outer s H vs Q E hr h => ?_)
  · obtain ⟨x, u, t, l, p, n, c, qss, ds, rfl, _⟩ := h
    rfl
  · obtain ⟨x, u, t, l, p, n, c, qss, ds, rfl, hpl, ok, hu, ht, ⟨kU, kT⟩, kk⟩ := h
    have nd := scTablePlan_answer.nd
    refine ⟨_, (pss_cons (ps_expr (pe_cal (E := E) CQs (hr.mono (by decide)) (pa_cons (pv 0) (pa_cons (pv 1) (pa_cons (pv 2) pa_nil))) (passes_call (takes_of rfl rfl rfl rfl) (fun _ _ _ _ h => h))))
      (pss_cons (ps_expr (pe_cal (E := E) CLb (hr.mono (by decide)) (pa_cons (pv 0) (pa_cons (pv 3) pa_nil)) (passes_call (takes_of rfl rfl rfl rfl) (fun _ _ _ _ h => h))))
      (pss_one (ps_ret (pe_ix (ix_tupK (K := K)) (pe_ix (ix_tupK (K := K)) (pe_ix (ix_tupK (K := K)) (pe_ix (ix_tupK (K := K)) (pe_fld (pv 0) rfl) (pv 1) (fun _ _ => rfl)) (pv 2) (fun _ _ => rfl)) pe_int (fun _ _ => rfl)) (pe_cal CNd (hr.mono (by decide)) (pa_cons (pe_fld (pv 0) rfl) (pa_cons (pe_fld (pv 3) rfl) pa_nil)) passU) (fun _ _ => rfl)))))), ?_⟩
    refine ⟨_, rfl, _, rfl, _, rfl, x, u, t, p, n, c, qss, ds, rfl, hpl, hu, ht, kU, fun h qs eu eq => ⟨kT h qs eu eq, fun et => ?_⟩⟩
    subst eu
    obtain ⟨j, rfl, hj⟩ := bel_at et
    have hj : j < qs.length := by omega
    have em := List.getElem?_eq_getElem hj
    have qo := ok.qok qs (List.mem_of_getElem? eq)
    have mo := qo.2.2 _ (List.mem_of_getElem? em)
    refine ⟨_, rfl, _, rfl, x, l, p, n, c, qss, ds, rfl, hpl, ?_⟩
    obtain ⟨dx, qv, dv, hx, ⟨qa, qxs, rfl, hqa, hqp⟩, hd⟩ := hpl
    obtain ⟨y, hy, qc, zs, rfl, hqc, hz⟩ := paired_of hqp eq
    obtain ⟨z, hz1, fz⟩ := paired_of hz em
    rcases kk _ ⟨h, j, qs, rfl, rfl, eq, em⟩ with ⟨ty, e1, e2, e3⟩ | ⟨a, p', n', bs, rfl, hl, hbn, kN, kY⟩
    · exact .inl ⟨ty, e1, e2, e3⟩
    · refine .inr ⟨a, p', n', bs, rfl, hl, fun hsame => ?_, kN⟩
      have kY := kY hsame
      obtain ⟨rfl, rfl, rfl⟩ := hsame
      obtain ⟨dl, ba, tl, rs, ha, hba, hbp, htl⟩ := hl
      have hb := fld_le ok.hp
      have e0 : bs.flatten.length = n' * bs.length := by rw [flat_len fun b hb => (hbn b hb).1, Nat.mul_comm]
      have lt : ∀ x ∈ bs.flatten, 0 ≤ x ∧ x < p' := fun x hx => by
        obtain ⟨b, hb, hx⟩ := List.mem_flatten.mp hx
        exact (hbn b hb).2 x hx
      have hnc := ok.nc
      have hpw := ok.pw
      have ep : ((p'.toNat : Nat) : Int) = p' := Int.toNat_of_nonneg (by omega)
      have bd : ∀ i, i ≤ bs.flatten.length → 0 ≤ dig p' (bs.flatten.take i) ∧ dig p' (bs.flatten.take i) < (p'.toNat ^ (n' * bs.length) : Nat) := fun i hi => by
        obtain ⟨z1, z2⟩ := dig_bd (p := p') (by omega) (k := i) (ls := bs.flatten.take i) (by rw [List.length_take]; omega) fun x hx => lt x (List.mem_of_mem_take hx)
        refine ⟨z1, Int.lt_of_lt_of_le z2 ?_⟩
        have : p'.toNat ^ i ≤ p'.toNat ^ (n' * bs.length) := pow_mono (by omega) (by omega)
        have e : p' ^ i = ((p'.toNat ^ i : Nat) : Int) := by rw [Int.natCast_pow, ep]
        omega
      obtain ⟨b1, b2⟩ := bd _ (Nat.le_refl _)
      rw [List.take_length] at b1 b2
      obtain ⟨tc, ty, rfl, htc, rc, rxs, rfl, hrc, hrp⟩ := fz
      have hat : (qs[j]).2[(dig p' bs.flatten).toNat]? = some ((qs[j]).2.getD (dig p' bs.flatten).toNat []) := by
        have : (dig p' bs.flatten).toNat < (qs[j]).2.length := by have := mo.1; omega
        rw [List.getD_eq_getElem?_getD, List.getElem?_eq_getElem this]
        rfl
      obtain ⟨r, hr1, fr⟩ := paired_of hrp hat
      refine ⟨_, rfl, x, L, dx, _, _, rfl, hx, C.cl, C.nQ, pf_questions, _, rfl, qa, _, _, _, rfl, rfl, SqT.of hqa, atI_nat hy, _, rfl, qc, _, _, _, rfl, rfl, SqT.of hqc, atI_nat hz1, tc, _, (1 : Int), _, rfl, rfl, SqT.of htc, rfl, ?_⟩
      refine ⟨_, rfl, x, L, dx, _, _, rfl, hx, C.cl, C.nP, pf_p, _, rfl, a, LL, dl, _, _, rfl, ha, CL.cl, CL.nT, lf_letters, ?_⟩
      refine ⟨p', tl, bs.flatten, rfl, htl, by omega, by omega, by omega, fun i hi => ?_, ?_⟩
      · obtain ⟨z1, z2⟩ := bd i hi
        exact ⟨z1, by omega⟩
      · refine ⟨rc, rxs, dig p' bs.flatten, r, rfl, rfl, SqT.of hrc, ?_, kY ⟨rfl, rfl, rfl⟩ _ _ (fun _ _ z => z) fr⟩
        have e := atI_nat hr1
        rw [Int.toNat_of_nonneg b1] at e
        exact e
/-- plan.answers(wish, draw, library) -/
def spAnT (K : PySem.W.Frag) (L LL : Addr) : Sp := fun vs H Q E => ∃ (x : Addr) (u t l : V) (p : Int) (n c : Nat) (qss : List (List (Nat × List (List Int)))) (ds : List (Int × List (List Int))), vs = [.ref x, u, t, l] ∧ TpAt L H x p n c qss ds ∧ Tok p n c qss ds ∧ Ty3 K H u ∧ Ty3 K H t ∧
  (isBel (c : Int) u = false → Errs (He.ga K "InvalidNumber") "value" u H E) ∧ (isBel (c : Int) u = true → (isBel (ds.length : Int) t = false → Errs (He.ga K "InvalidNumber") "value" t H E)) ∧
  ∀ (i j : Nat) (d : Int × List (List Int)) (r : List Int), u = .int (i : Int) → t = .int (j : Int) → ds[j]? = some d → d.2[i]? = some r →
  ((∃ ty, TyX K H l ty ∧ PySem.W.kitOne K ty (.ref LL) = some false ∧ Errs (He.ga K "InvalidLibrary") "value" l H E) ∨
   ∃ (a : Addr) (p' : Int) (n' : Nat) (bs : List (List Int)), l = .ref a ∧ LibAt LL H a p' n' bs ∧ (∀ b ∈ bs, Ltr p' n' b) ∧ (¬ (p' = p ∧ bs.length = c ∧ n' = n) → Errs (He.ga K "InvalidLibrary") "value" l H E) ∧
     (p' = p ∧ bs.length = c ∧ n' = n → ∃ ms, AsksT qss (hsL qss.length) r ms ∧ r.length = ms.length ∧ ∀ y H', Same H H' → T2 H' y (ms.map (ansT p bs.flatten)) → Q y H'))
theorem scTablePlan_answers : FnScope ["self", "wish", "draw", "library", "asked", "house", "question"] ["self", "wish", "draw", "library"] (defScope sTablePlan_answers) := ⟨rfl, rfl, rfl, by decide +kernel, rfl, by decide +kernel, by decide +kernel⟩
theorem ok_AnT {f f1 f2 f3 : Addr} {fd fd1 fd2 fd3 : FuncData} (F : FunD K "answers" "TablePlan.answers" (defArgs sTablePlan_answers) (defBody sTablePlan_answers) (defScope sTablePlan_answers) [] [] f fd) (B : Blt4 mg) (be : mg "enumerate" = none) (C : TpC K mg L) (CLb : Cal P w K mg base 3 "check_library" f1 fd1 ["plan", "library"] (spCLT K L LL))
    (mA : Meth K L "asked" f2) (gA : FnOk P w K mg base (L2.CX P w) 6 f2 fd2 ["self", "wish", "draw"] (spAdT K L)) (bA : L2.Binds K fd2 ["self", "wish", "draw"] [])
    (mW : Meth K L "answer" f3) (gW : FnOk P w K mg base (L2.CX P w) 9 f3 fd3 ["self", "house", "question", "library"] (spAwT K L LL)) (bW : L2.Binds K fd3 ["self", "house", "question", "library"] []) : FnOk P w K mg base (L2.CX P w) 10 f fd ["self", "wish", "draw", "library"] (spAnT K L LL) := by
  refine F.ok scTablePlan_answers (fun vs H Q E h => ?_) (fun cdv A outer s H vs Q E hr h => ?_)
  · obtain ⟨x, u, t, l, p, n, c, qss, ds, rfl, _⟩ := h
    rfl
  · obtain ⟨x, u, t, l, p, n, c, qss, ds, rfl, hpl, ok, hu, ht, kU, kT, kk⟩ := h
    have nd := scTablePlan_answers.nd
    refine ⟨_, (pss_cons (ps_set (i := 4) nd rfl (Or.inl rfl) (pe_meth (E := E) (pv 0) C.cl mA gA (hr.mono (by decide)) bA .nil (passes_call (takes_of rfl rfl rfl rfl) (fun _ _ _ _ h => h)) (pa_cons (pv 1) (pa_cons (pv 2) pa_nil))))
      (pss_cons (ps_expr (pe_cal (E := E) CLb (hr.mono (by decide)) (pa_cons (pv 0) (pa_cons (pv 3) pa_nil)) (passes_call (takes_of rfl rfl rfl rfl) (fun _ _ _ _ h => h))))
      (pss_one (ps_ret (pe_callTy (tup_ofK (K := K)) (by rfl) B.tuple (by decide +kernel) (pa_cons (pe_lc (own := [("house", 5), ("question", 6)]) (g := gTup K 2 (gCons (gName 5) (gCons (gName 6) gNil))) (by rfl) nd (pi_enumTK (K := K) (by rfl) be (pa_cons (pv 4) pa_nil)) (blkOk_by (own := [("house", 5), ("question", 6)]) (N := ["self", "wish", "draw", "library", "asked", "house", "question"]) (sc := defScope sTablePlan_answers) (by decide +kernel)) (fun _ _ _ _ _ => pg_tupK (K := K) (pg_tup rfl (pgs_cons (pg_name (i := 5) nd rfl (Or.inl rfl)) (pgs_cons (pg_name (i := 6) nd rfl (Or.inl rfl)) pgs_nil)))) (fun _ _ _ _ _ => pts_nil) (fun _ _ _ _ _ => (pe_meth (E := E0) (pv 0) C.cl mW gW (hr.mono (by decide)) bW .nil passU (pa_cons (pv 5) (pa_cons (pv 6) (pa_cons (pv 3) pa_nil)))))) pa_nil)))))), ?_⟩
    obtain ⟨dx, qv, dv, hx, hq, hd⟩ := id hpl
    refine ⟨_, rfl, x, dx, _, rfl, hx, pf_no (by decide +kernel) (by decide +kernel) (by decide +kernel) (by decide +kernel) (by decide +kernel) (by decide +kernel) (by decide +kernel), _, rfl, _, rfl, ?_⟩
    refine ⟨x, u, t, p, n, c, qss, ds, rfl, hpl, ok, hu, ht, kU, kT, fun i j d r e1 e2 e3 e4 y hy => ?_⟩
    refine ⟨_, rfl, _, rfl, x, l, p, n, c, qss, ds, rfl, hpl, ?_⟩
    rcases kk i j d r e1 e2 e3 e4 with ⟨ty, f1, f2, f3⟩ | ⟨a, p', n', bs, rfl, hl, hbn, kN, kY⟩
    · exact .inl ⟨ty, f1, f2, f3⟩
    refine .inr ⟨a, p', n', bs, rfl, hl, fun hsame => ?_, kN⟩
    obtain ⟨ms, ⟨l1, l2, l4, ak⟩, lr, kQ⟩ := kY hsame
    obtain ⟨ya, yxs, rfl, hya, hyp⟩ := hy
    have ey := fi_map hyp
    subst ey
    have lq : qss.length = ms.length := by
      rw [← l1]
      unfold hsL
      rw [List.length_map, List.length_range]
    refine ⟨_, rfl, ya, _, rfl, SqT.of hya, fun D hD => lc_it walk_enumT (fun i H' => Same H H' ∧ Bd T1 D ((ms.take i).map (ansT p bs.flatten)) H') ⟨same_new hD, Bd.start⟩ (fun i H' _ z => SqT.of (z.1 _ _ hya)) ?_ ?_⟩
    · rintro k y H1 H2 hk ⟨s1, b1⟩ ⟨T, x1, x2, rfl, hT, rfl, g1, g2⟩
      rw [List.length_map] at hk
      have hkm : k < ms.length := by omega
      cases g1
      cases (take_map_at r.length (r := r) (i := k) hk).symm.trans g2
      have em := List.getElem?_eq_getElem hkm
      obtain ⟨a0, b0, qs, f1, f2, f3, f4⟩ := ak k _ em
      have ea : a0 = k := by
        have z : at0 (hsL qss.length) k = (k : Int) := by
          unfold hsL
          rw [at0_lt (by rw [List.length_map, List.length_range]; omega), List.getElem_map, List.getElem_range]
        omega
      subst ea
      rw [f2]
      have s2 : Same H (upd H1 T (.tup [.int (a0 : Int), .int (b0 : Int)])) := s1.trans (same_new hT)
      have b2 : Bd T1 D ((ms.take a0).map (ansT p bs.flatten)) (upd H1 T (.tup [.int (a0 : Int), .int (b0 : Int)])) := b1.skip stb1 (TK.new hT) fun ys h => same_new hT _ _ h
      have eT : upd H1 T (.tup [.int (a0 : Int), .int (b0 : Int)]) T = some (.tup [.int (a0 : Int), .int (b0 : Int)]) := upd_same
      generalize upd H1 T (.tup [.int (a0 : Int), .int (b0 : Int)]) = H2 at s2 b2 eT ⊢
      have bel : ∀ {i m : Nat}, i < m → isBel (m : Int) (.int (i : Int)) = true := fun {i m} h => by
        show (decide (0 ≤ (i : Int)) && decide ((i : Int) < (m : Int))) = true
        rw [decide_eq_true (by omega), decide_eq_true (by omega)]
        rfl
      have hb0 : b0 < qs.length := (List.getElem?_eq_some_iff.mp f4).1
      refine ⟨T, _, rfl, SqT.of eT, rfl, _, _, rfl, _, _, rfl, rfl, rfl, ?_⟩
      refine ⟨_, rfl, x, dx, _, rfl, s2 _ _ hx, pf_no (by decide +kernel) (by decide +kernel) (by decide +kernel) (by decide +kernel) (by decide +kernel) (by decide +kernel) (by decide +kernel), _, rfl, _, rfl, _, rfl, ?_⟩
      refine ⟨x, _, _, _, p, n, c, qss, ds, rfl, hpl.same s2, ok, ty3_int _, ty3_int _, ⟨fun z => ?_, fun h qs' z1 z2 z3 => ?_⟩, fun m ⟨h, k', qs', z1, z2, z3, z4⟩ => .inr ⟨a, p', n', bs, rfl, hl.same s2, hbn, fun z => absurd hsame z, fun _ y' H3 s3 hy' => ?_⟩⟩
      · rw [bel (by omega)] at z
        cases z
      · have e : a0 = h := Int.natCast_inj.mp (V.int.inj z1)
        subst e
        rw [f3] at z2
        cases z2
        rw [bel hb0] at z3
        cases z3
      · have e : a0 = h := Int.natCast_inj.mp (V.int.inj z1)
        subst e
        have e2' : b0 = k' := Int.natCast_inj.mp (V.int.inj z2)
        subst e2'
        rw [f3] at z3
        cases z3
        have em2 := f4.symm.trans z4
        have b3 := b2.skip stb1 (TK.of s3) fun ys h => s3 _ _ h
        obtain ⟨acc, a1, a2, a3, a4⟩ := b3.put stb1 hy' (by rw [List.length_map, List.length_take]; exact small1000 (by omega))
        refine ⟨acc, a1, a2, fun bq u hbq => ?_, ?_⟩
        · rw [upd_ne (ne_of_none hbq hD)]
          exact s3 _ _ (s2 _ _ hbq)
        · rw [List.take_succ, em, List.map_append]
          rw [← Option.some.inj em2] at a3
          exact a3
    · rintro H1 ⟨s1, b1⟩
      rw [List.length_map, lr, List.take_length] at b1
      obtain ⟨ys, e, ft⟩ := b1.tup stb1
      exact ⟨D, _, rfl, .inl ⟨SqL.of e, fun T hT => kQ _ _ (s1.trans (same_new hT)) (ft T hT)⟩⟩
end
end WU

set_option maxRecDepth 100000
set_option maxHeartbeats 8000000
namespace WU
open PySem PySem.Spec PyProof.Rows L2
/-! ### letters at a place, and the place of letters -/
def lts (q : Nat) : Nat → Nat → List Int
  | 0, _ => []
  | t + 1, a => lts q t (a / q) ++ [((a % q : Nat) : Int)]
theorem lts_len {q : Nat} : ∀ (t a : Nat), (lts q t a).length = t
  | 0, _ => rfl
  | t + 1, a => by
    show (lts q t (a / q) ++ [_]).length = t + 1
    rw [List.length_append, lts_len t]
    rfl
theorem lts_ltr {q : Nat} (hq : 0 < q) : ∀ (t a : Nat), Ltr (q : Int) t (lts q t a)
  | 0, a => ⟨rfl, fun l hl => nomatch hl⟩
  | t + 1, a => by
    obtain ⟨e1, e2⟩ := lts_ltr hq t (a / q)
    refine ⟨lts_len _ _, fun x hx => ?_⟩
    have hx : x ∈ lts q t (a / q) ++ [((a % q : Nat) : Int)] := hx
    rcases List.mem_append.mp hx with h | h
    · exact e2 x h
    · rw [List.mem_singleton.mp h]
      have := Nat.mod_lt a hq
      omega
theorem ext_at {q l : Nat} (r : List Int) (hl : l < q) : (ext q r)[l]? = some (r ++ [(l : Int)]) := by
  unfold ext
  rw [List.getElem?_map, List.getElem?_range hl]
  rfl
theorem flat_at {q : Nat} (hq : 0 < q) : ∀ (xs : List (List Int)) (a : Nat), (xs.flatMap (ext q))[a]? = (xs[a / q]?).map fun r => r ++ [((a % q : Nat) : Int)]
  | [], a => by simp
  | x :: xs, a => by
    have le : (ext q x).length = q := by unfold ext; rw [List.length_map, List.length_range]
    rw [List.flatMap_cons]
    by_cases h : a < q
    · rw [List.getElem?_append_left (by omega), ext_at x h, Nat.div_eq_of_lt h, Nat.mod_eq_of_lt h]
      rfl
    · rw [List.getElem?_append_right (by omega), le, flat_at hq xs (a - q)]
      have e1 : a / q = (a - q) / q + 1 := by
        rw [show a = (a - q) + q by omega, Nat.add_div_right _ hq]
        simp
      have e2 : a % q = (a - q) % q := by
        conv => lhs; rw [show a = (a - q) + q by omega, Nat.add_mod_right]
      rw [e1, e2, List.getElem?_cons_succ]
theorem rows_at {q : Nat} (hq : 0 < q) : ∀ (t a : Nat), a < q ^ t → (rowsN q t)[a]? = some (lts q t a)
  | 0, a, h => by
    have : a = 0 := by simpa using h
    subst this
    rfl
  | t + 1, a, h => by
    show ((rowsN q t).flatMap (ext q))[a]? = _
    rw [flat_at hq, rows_at hq t (a / q) (by rw [Nat.pow_succ] at h; exact Nat.div_lt_of_lt_mul (by rw [Nat.mul_comm]; exact h))]
    rfl
theorem rows_lts {q : Nat} (hq : 0 < q) (t : Nat) : rowsN q t = (List.range (q ^ t)).map (lts q t) := by
  refine List.ext_getElem? fun a => ?_
  by_cases h : a < q ^ t
  · rw [rows_at hq t a h, List.getElem?_map, List.getElem?_range h]
    rfl
  · rw [List.getElem?_eq_none (by rw [rowsN_len]; omega), List.getElem?_eq_none (by rw [List.length_map, List.length_range]; omega)]
theorem lts_dig {q : Nat} (hq : 0 < q) : ∀ (t : Nat) (ls : List Int), Ltr (q : Int) t ls → lts q t (dig q ls).toNat = ls
  | 0, ls, h => by rw [List.length_eq_zero_iff.mp h.1]; rfl
  | t + 1, ls, h => by
    obtain ⟨l0, x, rfl⟩ : ∃ l0 x, ls = l0 ++ [x] := ⟨ls.dropLast, ls.getLast (by intro z; rw [z] at h; cases h.1), (List.dropLast_concat_getLast _).symm⟩
    have h0 : Ltr (q : Int) t l0 := ⟨by have := h.1; simpa using this, fun y hy => h.2 y (List.mem_append_left _ hy)⟩
    obtain ⟨x0, x1⟩ := h.2 x (by simp)
    obtain ⟨b0, _⟩ := dig_bd (p := (q : Int)) (by omega) h0.1 h0.2
    obtain ⟨x, rfl⟩ : ∃ n : Nat, x = (n : Int) := ⟨x.toNat, by omega⟩
    obtain ⟨m, em⟩ : ∃ n : Nat, dig q l0 = (n : Int) := ⟨(dig q l0).toNat, by omega⟩
    have ih := lts_dig hq t l0 h0
    rw [dig_snoc]
    rw [em] at ih ⊢
    have e : ((m : Int) * (q : Int) + (x : Int)).toNat = m * q + x := by
      rw [← Int.natCast_mul]
      omega
    rw [e]
    have hx : x < q := by omega
    show lts q t ((m * q + x) / q) ++ [(((m * q + x) % q : Nat) : Int)] = _
    rw [Nat.mul_comm m q, Nat.mul_add_div hq, Nat.div_eq_of_lt hx, Nat.add_zero, Nat.mul_add_mod, Nat.mod_eq_of_lt hx]
    rw [Int.toNat_natCast] at ih
    rw [ih]
theorem rows_mem {q : Nat} (hq : 0 < q) {t : Nat} {ls : List Int} (h : Ltr (q : Int) t ls) : (rowsN q t)[(dig q ls).toNat]? = some ls := by
  obtain ⟨a, b⟩ := dig_bd (p := (q : Int)) (by omega) h.1 h.2
  have e : ((q : Int) ^ t) = ((q ^ t : Nat) : Int) := by rw [Int.natCast_pow]
  rw [rows_at hq t _ (by omega), lts_dig hq t ls h]
/-! ### a question as a table -/
def tbl (q t : Nat) (m : List (List Int)) : Nat × List (List Int) := (m.length, (rowsN q t).map fun ls => ans q t ls m)
theorem ans_len {p : Int} {n : Nat} {ls : List Int} {m : List (List Int)} : (ans p n ls m).length = m.length := by unfold ans; rw [List.length_map]
theorem ans_ltr {q n : Nat} (hq : 0 < q) {ls : List Int} {m : List (List Int)} : Ltr (q : Int) m.length (ans q n ls m) := ⟨ans_len, fun x hx => by
  unfold ans at hx
  obtain ⟨r, _, rfl⟩ := List.mem_map.mp hx
  exact ⟨Int.fmod_nonneg_of_pos _ (by omega), Int.fmod_lt_of_pos _ (by omega)⟩⟩
theorem tbl_ans {q t : Nat} (hq : 0 < q) {ls : List Int} (h : Ltr (q : Int) t ls) (m : List (List Int)) : ansT q ls (tbl q t m) = ans q t ls m := by
  unfold ansT tbl
  rw [List.getD_eq_getElem?_getD, List.getElem?_map, rows_mem hq h]
  rfl
/-- letters that are naught but one -/
def unitL (t j : Nat) : List Int := (List.range t).map fun k => if k = j then 1 else 0
theorem unit_ltr {q t j : Nat} (hq : 2 ≤ q) : Ltr (q : Int) t (unitL t j) := ⟨by unfold unitL; rw [List.length_map, List.length_range], fun x hx => by
  unfold unitL at hx
  obtain ⟨k, _, rfl⟩ := List.mem_map.mp hx
  split <;> omega⟩
theorem unit_at {t j k : Nat} (hk : k < t) : at0 (unitL t j) k = if k = j then 1 else 0 := by
  unfold unitL
  rw [at0_lt (by rw [List.length_map, List.length_range]; exact hk), List.getElem_map, List.getElem_range]
theorem dot_unit {q t j : Nat} {r : List Int} (hr : Ltr (q : Int) t r) (hj : j < t) : (dotn t r (unitL t j)).fmod q = at0 r j := by
  rw [dotn_one (c := j) (a := at0 r j) fun k hk => by
    rw [unit_at hk]
    by_cases e : k = j
    · rw [if_pos e, if_pos e, e, Int.mul_one]
    · rw [if_neg e, if_neg e, Int.mul_zero], if_pos hj]
  have := hr.bd hj
  rw [Int.fmod_eq_emod_of_nonneg _ (by omega)]
  exact Int.emod_eq_of_lt this.1 this.2
theorem row_extA {n : Nat} {r s : List Int} (h1 : r.length = n) (h2 : s.length = n) (h : ∀ j, j < n → at0 r j = at0 s j) : r = s := by
  refine List.ext_getElem (by omega) fun j a b => ?_
  have := h j (by omega)
  rwa [at0_lt a, at0_lt b] at this
theorem tbl_inj {q t : Nat} (hq : 2 ≤ q) {m m' : List (List Int)} (h : ∀ r ∈ m, Ltr (q : Int) t r) (h' : ∀ r ∈ m', Ltr (q : Int) t r) (e : tbl q t m = tbl q t m') : m = m' := by
  have e1 : m.length = m'.length := congrArg Prod.fst e
  have key : ∀ ls, Ltr (q : Int) t ls → ans q t ls m = ans q t ls m' := fun ls hl => by
    rw [← tbl_ans (by omega) hl m, ← tbl_ans (by omega) hl m', e]
  refine List.ext_getElem e1 fun i a b => ?_
  refine row_extA (h _ (List.getElem_mem a)).1 (h' _ (List.getElem_mem b)).1 fun j hj => ?_
  have k := congrArg (fun w => at0 w i) (key (unitL t j) (unit_ltr hq))
  unfold ans at k
  rw [at0_lt (by rw [List.length_map]; exact a), at0_lt (by rw [List.length_map]; exact b), List.getElem_map, List.getElem_map, dot_unit (h _ (List.getElem_mem a)) hj, dot_unit (h' _ (List.getElem_mem b)) hj] at k
  exact k
theorem tbl_nodup {q t : Nat} (hq : 2 ≤ q) {qs : List (List (List Int))} (hn : qs.Nodup) (h : ∀ m ∈ qs, ∀ r ∈ m, Ltr (q : Int) t r) : (qs.map (tbl q t)).Nodup := by
  induction qs with
  | nil => exact List.nodup_nil
  | cons m qs ih =>
    rw [List.nodup_cons] at hn
    rw [List.map_cons, List.nodup_cons]
    refine ⟨fun hm => ?_, ih hn.2 fun m' hm' => h m' (List.mem_cons_of_mem _ hm')⟩
    obtain ⟨m', h1, h2⟩ := List.mem_map.mp hm
    have := tbl_inj hq (h m' (List.mem_cons_of_mem _ h1)) (h m List.mem_cons_self) h2
    subst this
    exact hn.1 h1
theorem ris_nodup {l : List (List (List Int))} (h : Ris l) : l.Nodup := by
  have hr : RisG d2 l := fun i a b e1 e2 => ris_at h e1 e2
  refine (risG_pw hr).imp fun {a b} z => ?_
  intro e
  subst e
  rw [ltG_irr] at z
  cases z
/-- the questions of a house in the order of their tables -/
structure Sorted (q t : Nat) (qs : List (List (List Int))) (ts : List (Nat × List (List Int))) : Prop where
  pm : ts.Perm (qs.map (tbl q t))
  ris : RisG dQ ts
theorem Sorted.one {q t : Nat} {qs : List (List (List Int))} {ts us : List (Nat × List (List Int))} (a : Sorted q t qs ts) (b : Sorted q t qs us) : ts = us := risG_one a.ris b.ris (a.pm.trans b.pm.symm)
theorem Sorted.nodup {q t : Nat} {qs : List (List (List Int))} {ts : List (Nat × List (List Int))} (a : Sorted q t qs ts) : ts.Nodup := by
  refine (risG_pw a.ris).imp fun {x y} z => ?_
  intro e
  subst e
  rw [ltG_irr] at z
  cases z
theorem Sorted.len {q t : Nat} {qs : List (List (List Int))} {ts : List (Nat × List (List Int))} (a : Sorted q t qs ts) : ts.length = qs.length := by rw [a.pm.length_eq, List.length_map]
/-- where the table of a question is found -/
def plc (ts : List (Nat × List (List Int))) (x : Nat × List (List Int)) : Nat := ts.idxOf x
theorem Sorted.at_ {q t : Nat} {qs : List (List (List Int))} {ts : List (Nat × List (List Int))} (a : Sorted q t qs ts) {k : Nat} {m : List (List Int)} (h : qs[k]? = some m) : ts[plc ts (tbl q t m)]? = some (tbl q t m) := by
  have hm : tbl q t m ∈ ts := a.pm.mem_iff.mpr (List.mem_map.mpr ⟨m, List.mem_of_getElem? h, rfl⟩)
  unfold plc
  rw [List.getElem?_eq_getElem (List.idxOf_lt_length_of_mem hm), List.getElem_idxOf]
theorem Sorted.lt {q t : Nat} {qs : List (List (List Int))} {ts : List (Nat × List (List Int))} (a : Sorted q t qs ts) {k : Nat} {m : List (List Int)} (h : qs[k]? = some m) : plc ts (tbl q t m) < qs.length := by
  have := (List.getElem?_eq_some_iff.mp (a.at_ h)).1
  rw [← a.len]
  exact this
theorem Sorted.ok {q t : Nat} {qs : List (List (List Int))} {ts : List (Nat × List (List Int))} (a : Sorted q t qs ts) (hq : 0 < q) (h1 : qs.length ≤ 900) (h2 : ∀ m ∈ qs, m.length ≤ 100) (h3 : q ^ t ≤ 100) : Qtk q (q ^ t) ts := by
  refine ⟨a.ris, by rw [a.len]; exact h1, fun x hx => ?_⟩
  obtain ⟨m, hm, rfl⟩ := List.mem_map.mp (a.pm.mem_iff.mp hx)
  refine ⟨by show ((rowsN q t).map _).length = _; rw [List.length_map, rowsN_len], fun r hr => ?_, h2 m hm, h3⟩
  have hr : r ∈ (rowsN q t).map fun ls => ans q t ls m := hr
  obtain ⟨ls, _, rfl⟩ := List.mem_map.mp hr
  exact ans_ltr hq
end WU

set_option maxRecDepth 100000
set_option maxHeartbeats 8000000
namespace WU
open PySem PySem.Spec PyProof.Rows L2
/-- the scope of a statement's comprehension -/
def lcStm : Stmt → Scope
  | .Assign _ (.ListComp _ _ sc _) _ => sc
  | .Return (some (.ListComp _ _ sc _)) _ => sc
  | .For _ _ (.Assign _ (.ListComp _ _ sc _) _ :: _) _ _ => sc
  | st => defScope st
theorem cuts_take {n : Nat} {ls : List Int} : ∀ m, (cuts n m ls).flatten = ls.take (m * n)
  | 0 => by
    rw [Nat.zero_mul]
    rfl
  | m + 1 => by
    rw [cuts_succ, List.flatten_append, cuts_take m, Nat.succ_mul, List.take_add]
    simp
theorem cuts_all {n m : Nat} {ls : List Int} (h : ls.length = m * n) : (cuts n m ls).flatten = ls := by
  rw [cuts_take, ← h, List.take_length]
theorem isBel_nat {i m : Nat} (h : i < m) : isBel (m : Int) (.int (i : Int)) = true := by
  show (decide (0 ≤ (i : Int)) && decide ((i : Int) < (m : Int))) = true
  rw [decide_eq_true (by omega), decide_eq_true (by omega)]
  rfl
section
variable {P : Program} {w : World} {K : PySem.W.Frag} {mg : Str → Option Value} {base : Heap} {L LL : Addr}
/-- _tabled_questions(plan, house, libraries) -/
def spTq (L LL : Addr) : Sp := fun vs H Q _ => ∃ (x lb : Addr) (h q n c : Nat) (xs : List V) (qss : List (List (List (List Int)))) (ds : List (Int × List (List Int))) (qs : List (List (List Int))), vs = [.ref x, .int (h : Int), .ref lb] ∧ PlAt L H x q n c qss ds ∧ Pok q n c qss ds ∧ qss[h]? = some qs ∧
  H lb = some (.tup xs) ∧ Paired (LR LL q n c H) xs (rowsN q (c * n)) ∧ q ^ (c * n) ≤ 64 ∧ ∀ D H', H D = none → Same H H' → LF TQ H' (.ref D) (qs.map (tbl q (c * n))) → Q (.ref D) H'
theorem sctabled_questions : FnScope ["plan", "house", "libraries", "number", "question", "library"] ["plan", "house", "libraries"] (defScope s_tabled_questions) := ⟨rfl, rfl, rfl, by decide +kernel, rfl, by decide +kernel, by decide +kernel⟩
theorem ok_Tq {f f1 : Addr} {fd fd1 : FuncData} (F : FnS K "_tabled_questions" s_tabled_questions f fd) (B : Blt4 mg) (be : mg "enumerate" = none) (C : PlC K mg L) (mW : Meth K L "answer" f1) (gW : FnOk P w K mg base (L2.CX P w) 9 f1 fd1 ["self", "house", "question", "library"] (spAw K L LL)) (bW : L2.Binds K fd1 ["self", "house", "question", "library"] []) :
    FnOk P w K mg base (L2.CX P w) 10 f fd ["plan", "house", "libraries"] (spTq L LL) := by
  refine F.ok sctabled_questions (fun vs H Q E h => ?_) (fun cdv A outer s H vs Q E hr h => ?_)
  · obtain ⟨x, lb, h, q, n, c, xs, qss, ds, qs, rfl, _⟩ := h
    rfl
  · obtain ⟨x, lb, h, q, n, c, xs, qss, ds, qs, rfl, hpl, ok, hqs, hlb, hlp, hpw, kk⟩ := h
    have nd := sctabled_questions.nd
    have hh : h < qss.length := (List.getElem?_eq_some_iff.mp hqs).1
    have hb := fld_le ok.hp
    have qo := ok.qok qs (List.mem_of_getElem? hqs)
    have enc : n * c = c * n := Nat.mul_comm n c
    refine ⟨_, (pss_one (ps_ret (pe_lc (own := [("number", 3), ("question", 4)]) (g := (gTup K 2 (gCons (gName 3) (gCons (gName 4) gNil)))) (by rfl) nd (pi_enumTK (K := K) (by rfl) be (pa_cons (pe_ix (ix_tupK (K := K)) (pe_fld (pv 0) rfl) (pv 1) (fun _ _ => rfl)) pa_nil)) (blkOk_by (own := [("number", 3), ("question", 4)]) (N := ["plan", "house", "libraries", "number", "question", "library"]) (sc := defScope s_tabled_questions) (by decide +kernel)) (fun _ _ _ _ _ => (pg_tupK (K := K) (pg_tup rfl (pgs_cons (pg_name (i := 3) nd rfl (Or.inr rfl)) (pgs_cons (pg_name (i := 4) nd rfl (Or.inl rfl)) pgs_nil))))) (fun _ _ _ _ _ => pts_nil) (fun _ _ _ _ _ => (pe_tup (pa_cons (pe_callB (len_seqK (K := K)) (by rfl) B.len (by decide +kernel) (pa_cons (pv 4) pa_nil)) (pa_cons (pe_callTy (tup_ofK (K := K)) (by rfl) B.tuple (by decide +kernel) (pa_cons (pe_lc (own := [("library", 5)]) (g := gName 5) (by rfl) nd (pi_tupK (K := K) (pv 2)) (blkOk_by (own := [("library", 5)]) (N := ["plan", "house", "libraries", "number", "question", "library"]) (sc := relS (lcStm ((defBody s_tabled_questions).getD 0 (.Pass ⟨0, 0, 0, 0⟩))) (defScope s_tabled_questions)) (by decide +kernel)) (fun _ _ _ _ _ => (pg_name (i := 5) nd rfl (Or.inl rfl))) (fun _ _ _ _ _ => pts_nil) (fun _ _ _ _ _ => (pe_meth (E := E0) (pv 0) C.cl mW gW (hr.mono (by decide)) bW .nil passU (pa_cons (pv 1) (pa_cons (pv 3) (pa_cons (pv 5) pa_nil)))))) pa_nil)) pa_nil))))))), ?_⟩
    obtain ⟨dx, qv, dv, hx, ⟨qa, qxs, rfl, hqa, hqp⟩, hd⟩ := id hpl
    obtain ⟨y, hy, qc, zs, rfl, hqc, hz⟩ := paired_of hqp hqs
    have ez := paired_len hz
    refine ⟨_, rfl, x, L, dx, _, _, rfl, hx, C.cl, C.nQ, pf_questions, _, rfl, qa, _, _, _, rfl, rfl, SqT.of hqa, atI_nat hy, qc, _, rfl, SqT.of hqc, fun D hD => lc_it walk_enumT (fun i H' => BX (fun _ => TQ) H D ((qs.take i).map (tbl q (c * n))) H') (BX.start hD) (fun i H' _ b => SqT.of (b.same _ _ hqc)) ?_ ?_⟩
    · rintro k y H1 H2 hk b1 ⟨T, x1, x2, rfl, hT, rfl, g1, g2⟩
      cases g1
      obtain ⟨m, em, fm⟩ := paired_at hz g2
      have hkq : k < qs.length := by omega
      have mo := qo.2.2.2 m (List.mem_of_getElem? em)
      have b2 := b1.skip (stx_of stb_TQ) (same_new (o := .tup [.int ((k : Nat) : Int), x2]) hT)
      have fm := stb2 _ _ _ _ (TK.of b2.same) fm
      have eT : upd H1 T (.tup [.int ((k : Nat) : Int), x2]) T = some (.tup [.int ((k : Nat) : Int), x2]) := upd_same
      generalize upd H1 T (.tup [.int ((k : Nat) : Int), x2]) = H2 at b2 eT fm ⊢
      obtain ⟨mc, ms, rfl, hmc, hmp⟩ := id fm
      have eml := paired_len hmp
      refine ⟨T, _, rfl, SqT.of eT, rfl, _, _, rfl, _, _, rfl, rfl, rfl, ?_⟩
      refine ⟨_, rfl, mc, _, rfl, .inr (SqT.of hmc), ?_⟩
      rw [eml]
      refine ⟨_, rfl, lb, rfl, ⟨_, SqT.of (b2.same _ _ hlb)⟩, fun E hE => lc_tup (K := K) (a := lb) (xs := xs) (fun i H' => BX (fun _ => T1) H2 E (((rowsN q (c * n)).take i).map fun ls => ans q (c * n) ls m) H') (BX.start hE) (fun i H' _ b => SqT.of (b.same _ _ (b2.same _ _ hlb))) ?_ ?_⟩
      · rintro i u H3 hu c3
        obtain ⟨ls, el, hl⟩ := paired_at hlp hu
        have s3 := b2.same.trans c3.same
        have lsr := rowsN_of _ ls (List.mem_of_getElem? el)
        have hil : i < 64 := by
          have := (List.getElem?_eq_some_iff.mp el).1
          rw [rowsN_len] at this
          omega
        obtain ⟨la, rfl, hla, lg⟩ := hl.same s3
        refine ⟨rfl, _, rfl, x, dx, _, rfl, s3 _ _ hx, pf_no (by decide +kernel) (by decide +kernel) (by decide +kernel) (by decide +kernel) (by decide +kernel) (by decide +kernel) (by decide +kernel), _, rfl, _, rfl, _, rfl, ?_⟩
        refine ⟨x, _, _, _, (q : Int), n, c, qss, ds, rfl, hpl.same s3, ok, ty3_int _, ty3_int _, ⟨fun z => ?_, fun h' qs' z1 z2 z3 => ?_⟩, fun m' ⟨h', k', qs', z1, z2, z3, z4⟩ => .inr ⟨la, (q : Int), n, _, rfl, hla, fun b hb => (lg.all b hb).1, fun z => absurd ⟨rfl, cuts_len, rfl⟩ z, fun _ y' H4 s4 hy' => ?_⟩⟩
        · rw [isBel_nat hh] at z
          cases z
        · have e : h = h' := Int.natCast_inj.mp (V.int.inj z1)
          subst e
          rw [hqs] at z2
          cases z2
          rw [isBel_nat hkq] at z3
          cases z3
        · have e : h = h' := Int.natCast_inj.mp (V.int.inj z1)
          subst e
          have e2 : k = k' := Int.natCast_inj.mp (V.int.inj z2)
          subst e2
          rw [hqs] at z3
          cases z3
          cases em.symm.trans z4
          rw [cuts_all lsr.1, enc] at hy'
          obtain ⟨acc, a1, a2, a3⟩ := c3.put (stx_of stb1) hE s4 hy' (by rw [List.length_map, List.length_take]; exact small1000 (by omega))
          refine ⟨acc, a1, a2, ?_⟩
          rw [List.take_succ, el, List.map_append]
          exact a3
      · rintro H3 c3
        rw [paired_len hlp, List.take_length] at c3
        obtain ⟨s3, ys, eE, pE⟩ := c3.fin (stx_of stb1)
        refine ⟨E, _, rfl, .inl ⟨SqL.of eE, fun U hU => ?_⟩⟩
        have s4 : Same H2 (upd H3 U (.tup ys)) := s3.trans (same_new hU)
        have t4 : T2 (upd H3 U (.tup ys)) (.ref U) ((rowsN q (c * n)).map fun ls => ans q (c * n) ls m) := ⟨U, ys, rfl, upd_same, paired_mono (fun _ _ z => stb1 _ _ _ _ (TK.new hU) z) pE⟩
        generalize upd H3 U (.tup ys) = H4 at s4 t4 ⊢
        refine ⟨(by show 2 ≤ sizeLine; decide), fun W hW => ?_⟩
        have t5 : TQ (upd H4 W (.tup [.int ((m.length : Nat) : Int), .ref U])) (.ref W) (tbl q (c * n) m) := ⟨W, _, rfl, upd_same, stb2 _ _ _ _ (TK.new hW) t4⟩
        obtain ⟨acc, a1, a2, a3⟩ := b2.put (stx_of stb_TQ) hD (s4.trans (same_new hW)) t5 (by rw [List.length_map, List.length_take]; exact small1000 (by have : qs.length ≤ 900 := qo.2.1; omega))
        refine ⟨acc, a1, a2, ?_⟩
        rw [List.take_succ, em, List.map_append]
        exact a3
    · rintro H1 b1
      rw [ez, List.take_length] at b1
      obtain ⟨s1, ys, eD, pD⟩ := b1.fin (stx_of stb_TQ)
      exact kk D H1 hD s1 ⟨D, ys, rfl, eD, pD⟩
/-- _renumbered(numbers, asked) -/
def spRn : Sp := fun vs H Q _ => ∃ (u v : V) (ns : List (List Int)) (r : List Int), vs = [u, v] ∧ LF (LF FI) H u ns ∧ T1 H v r ∧ r.length = ns.length ∧ ns.length ≤ 900 ∧ (∀ j l, ns[j]? = some l → ∃ k : Nat, at0 r j = (k : Int) ∧ k < l.length) ∧
  ∀ y H', Same H H' → T1 H' y ((List.range ns.length).map fun j => at0 (ns.getD j []) (at0 r j).toNat) → Q y H'
theorem screnumbered : FnScope ["numbers", "asked", "known", "question"] ["numbers", "asked"] (defScope s_renumbered) := ⟨rfl, rfl, rfl, by decide +kernel, rfl, by decide +kernel, by decide +kernel⟩
theorem ok_Rn {f : Addr} {fd : FuncData} (F : FnS K "_renumbered" s_renumbered f fd) (B : Blt4 mg) : FnOk P w K mg base (L2.CX P w) 1 f fd ["numbers", "asked"] spRn := by
  refine F.ok screnumbered (fun vs H Q E h => ?_) (fun cdv A outer s H vs Q E hr h => ?_)
  · obtain ⟨u, v, ns, r, rfl, _⟩ := h
    rfl
  · obtain ⟨u, v, ns, r, rfl, ⟨a, xs, rfl, ha, hp⟩, hv, hl, h9, hk, kk⟩ := h
    have nd := screnumbered.nd
    have el := paired_len hp
    obtain ⟨b, ys, rfl, hb, hq⟩ := id hv
    have ey := fi_map hq
    subst ey
    refine ⟨_, (pss_one (ps_ret (pe_callTy (tup_ofK (K := K)) (by rfl) B.tuple (by decide +kernel) (pa_cons (pe_lc (own := [("known", 2), ("question", 3)]) (g := (gTup K 2 (gCons (gName 2) (gCons (gName 3) gNil)))) (by rfl) nd (pi_zip4K (K := K) (by rfl) B.zip (pa_cons (pv 0) (pa_cons (pv 1) pa_nil))) (blkOk_by (own := [("known", 2), ("question", 3)]) (N := ["numbers", "asked", "known", "question"]) (sc := defScope s_renumbered) (by decide +kernel)) (fun _ _ _ _ _ => (pg_tupK (K := K) (pg_tup rfl (pgs_cons (pg_name (i := 2) nd rfl (Or.inl rfl)) (pgs_cons (pg_name (i := 3) nd rfl (Or.inl rfl)) pgs_nil))))) (fun _ _ _ _ _ => pts_nil) (fun _ _ _ _ _ => (pe_ix (ix_listK (K := K)) (pv 2) (pv 3) (fun _ _ => rfl)))) pa_nil)))), ?_⟩
    refine ⟨_, rfl, _, rfl, a, b, xs, _, true, false, rfl, SqL.of ha, SqT.of hb, fun D hD => lc_it (walk_zip4 (n := ns.length) el (by rw [List.length_map, hl])) (fun i H' => BX (fun _ => FI) H D ((List.range i).map fun j => at0 (ns.getD j []) (at0 r j).toNat) H') (BX.start hD) (fun i H' _ c => ⟨SqL.of (c.same _ _ ha), SqT.of (c.same _ _ hb)⟩) ?_ ?_⟩
    · rintro i x H2 H3 hi b1 ⟨T, x1, x2, rfl, hT, rfl, g1, g2⟩
      obtain ⟨l, e1, ⟨lc, lxs, rfl, hlc, hlp⟩⟩ := paired_at hp g1
      have e2 := fi_map hlp
      subst e2
      have hir : i < r.length := by omega
      cases (take_map_at r.length (r := r) (i := i) hir).symm.trans g2
      obtain ⟨k, ek, hkl⟩ := hk i l e1
      have b2 := b1.skip (stx_of stb_FI) (same_new (o := .tup [.ref lc, .int (at0 r i)]) hT)
      have eT : upd H2 T (.tup [.ref lc, .int (at0 r i)]) T = some (.tup [.ref lc, .int (at0 r i)]) := upd_same
      generalize upd H2 T (.tup [.ref lc, .int (at0 r i)]) = H3 at b2 eT ⊢
      refine ⟨T, _, rfl, SqT.of eT, rfl, _, _, rfl, _, _, rfl, rfl, rfl, ?_⟩
      refine ⟨_, rfl, _, rfl, lc, _, _, .int (at0 l k), rfl, rfl, SqL.of (b2.same _ _ hlc), ?_, ?_⟩
      · rw [ek]
        exact atI_nat (take_map_at l.length (r := l) (i := k) hkl)
      · have e3 : at0 (ns.getD i []) (at0 r i).toNat = at0 l k := by
          rw [List.getD_eq_getElem?_getD, e1, ek]
          rfl
        obtain ⟨acc, a1, a2, a3⟩ := b2.put (stx_of stb_FI) hD (Same.refl _) (y := .int (at0 l k)) (z := at0 l k) rfl (by rw [List.length_map, List.length_range]; exact small1000 (by omega))
        refine ⟨acc, a1, a2, ?_⟩
        rw [map_range_succ, e3]
        exact a3
    · rintro H1 b1
      obtain ⟨s1, zs, eD, pD⟩ := b1.fin (stx_of stb_FI)
      exact ⟨D, _, rfl, .inl ⟨SqL.of eD, fun U hU => kk _ _ (s1.trans (same_new hU)) ⟨U, zs, rfl, upd_same, paired_mono (fun _ _ z => z) pD⟩⟩⟩
end
end WU

set_option maxRecDepth 100000
set_option maxHeartbeats 8000000
namespace WU
open PySem PySem.Spec PyProof.Rows L2
/-- the places of a house's tables -/
def nums (q t : Nat) (qs : List (List (List Int))) (ts : List (Nat × List (List Int))) : List Int := qs.map fun m => ((plc ts (tbl q t m) : Nat) : Int)
/-- a row of asks, renumbered -/
def rnr (q t : Nat) (qss : List (List (List (List Int)))) (tss : List (List (Nat × List (List Int)))) (r : List Int) : List Int := (List.range qss.length).map fun j => ((plc (tss.getD j []) (tbl q t ((qss.getD j []).getD (at0 r j).toNat [])) : Nat) : Int)
def rnd (q t : Nat) (qss : List (List (List (List Int)))) (tss : List (List (Nat × List (List Int)))) (d : Int × List (List Int)) : Int × List (List Int) := (d.1, d.2.map (rnr q t qss tss))
theorem rnr_len {q t : Nat} {qss : List (List (List (List Int)))} {tss : List (List (Nat × List (List Int)))} {r : List Int} : (rnr q t qss tss r).length = qss.length := by unfold rnr; rw [List.length_map, List.length_range]
theorem rnr_at {q t : Nat} {qss : List (List (List (List Int)))} {tss : List (List (Nat × List (List Int)))} {r : List Int} {j : Nat} (h : j < qss.length) : at0 (rnr q t qss tss r) j = ((plc (tss.getD j []) (tbl q t ((qss.getD j []).getD (at0 r j).toNat [])) : Nat) : Int) := by
  rw [at0_lt (by rw [rnr_len]; exact h)]
  unfold rnr
  rw [List.getElem_map, List.getElem_range]
theorem lens_at {α : Type} {l : List (List α)} {j : Nat} {x : List α} (h : l[j]? = some x) : at0 (lens l) j = (x.length : Int) := by
  unfold at0 lens
  rw [List.getD_eq_getElem?_getD, List.getElem?_map, h]
  rfl
theorem sorted_lens {q t : Nat} {qss : List (List (List (List Int)))} {tss : List (List (Nat × List (List Int)))} (h : Paired (Sorted q t) qss tss) : lens tss = lens qss := by
  induction h with
  | nil => rfl
  | cons h t ih =>
    unfold lens at ih ⊢
    rw [List.map_cons, List.map_cons, h.len, ih]
theorem rnr_ok {q t n : Nat} {qss : List (List (List (List Int)))} {tss : List (List (Nat × List (List Int)))} {r : List Int} (h : Paired (Sorted q t) qss tss) (hr : r.length = (lens qss).length ∧ ∀ j, j < (lens qss).length → 0 ≤ at0 r j ∧ at0 r j < at0 (lens qss) j) {j : Nat} (hj : j < qss.length) :
    ∃ (qs : List (List (List Int))) (ts : List (Nat × List (List Int))) (k : Nat) (m : List (List Int)), qss[j]? = some qs ∧ tss[j]? = some ts ∧ Sorted q t qs ts ∧ at0 r j = (k : Int) ∧ k < qs.length ∧ qs[k]? = some m ∧ at0 (rnr q t qss tss r) j = ((plc ts (tbl q t m) : Nat) : Int) := by
  have e1 := List.getElem?_eq_getElem hj
  obtain ⟨ts, e2, s⟩ := paired_at h e1
  obtain ⟨a, b⟩ := hr.2 j (by rw [lens_len]; exact hj)
  rw [lens_at e1] at b
  have hk : (at0 r j).toNat < (qss[j]).length := by omega
  refine ⟨_, ts, (at0 r j).toNat, _, e1, e2, s, (Int.toNat_of_nonneg a).symm, hk, List.getElem?_eq_getElem hk, ?_⟩
  rw [rnr_at hj, List.getD_eq_getElem?_getD, e2, List.getD_eq_getElem?_getD, List.getD_eq_getElem?_getD, e1]
  show ((plc ts (tbl q t ((qss[j])[(at0 r j).toNat]?.getD [])) : Nat) : Int) = _
  rw [List.getElem?_eq_getElem hk]
  rfl
theorem rnd_ok {q t c : Nat} {qss : List (List (List (List Int)))} {tss : List (List (Nat × List (List Int)))} {d : Int × List (List Int)} (h : Paired (Sorted q t) qss tss) (hd : Dok c (lens qss) d) : Dok c (lens tss) (rnd q t qss tss d) := by
  obtain ⟨h1, h2, h3, h4, h5⟩ := hd
  have el := sorted_lens h
  refine ⟨h1, by show (d.2.map _).length = c; rw [List.length_map]; exact h2, by rw [el]; exact h3, h4, fun r hr => ?_⟩
  have hr : r ∈ d.2.map (rnr q t qss tss) := hr
  obtain ⟨r0, hr0, rfl⟩ := List.mem_map.mp hr
  rw [el]
  refine ⟨by rw [rnr_len, lens_len], fun j hj => ?_⟩
  rw [lens_len] at hj
  obtain ⟨qs, ts, k, m, e1, e2, s, e3, e4, e5, e6⟩ := rnr_ok (n := c) h (h5 r0 hr0) hj
  rw [e6, lens_at e1]
  have := s.lt e5
  omega
section
variable {P : Program} {w : World} {K : PySem.W.Frag} {mg : Str → Option Value} {base : Heap} {L LL LT : Addr}
/-- a TablePlan is made -/
structure TpMk (P : Program) (w : World) (K : PySem.W.Frag) (mg : Str → Option Value) (base : Heap) (LT fL : Addr) (fdL : FuncData) : Prop where
  made : Mk K LT fL
  gI : FnOk P w K mg base (L2.CX P w) 9 fL fdL ["self", "p", "book_length", "book_count", "questions", "draws"] (spTI LT)
  bI : L2.Binds K fdL ["self", "p", "book_length", "book_count", "questions", "draws"] []
/-- plans that may be told as tables -/
structure Small (q n c : Nat) (qss : List (List (List (List Int)))) : Prop where
  nc : n * c ≤ 6
  n4 : n ≤ 4
  pw : q ^ (c * n) ≤ 64
  m9 : ∀ qs ∈ qss, ∀ m ∈ qs, m.length ≤ 100
/-- as_table(plan) -/
def spAt (L LT : Addr) : Sp := fun vs H Q _ => ∃ (x : Addr) (q n c : Nat) (qss : List (List (List (List Int)))) (ds : List (Int × List (List Int))), vs = [.ref x] ∧ PlAt L H x q n c qss ds ∧ Pok q n c qss ds ∧ Small q n c qss ∧
  ∀ y tss H', H y = none → Same H H' → Paired (Sorted q (c * n)) qss tss → TpAt LT H' y q n c tss (ds.map (rnd q (c * n) qss tss)) → Tok q n c tss (ds.map (rnd q (c * n) qss tss)) → Q (.ref y) H'
theorem scas_table : FnScope ["plan", "libraries", "tabled", "questions", "numbers", "draws", "house", "tables", "known", "weight", "asks", "table", "asked"] ["plan"] (defScope s_as_table) := ⟨rfl, rfl, rfl, by decide +kernel, rfl, by decide +kernel, by decide +kernel⟩
theorem ok_At {f f1 f2 f3 fL : Addr} {fd fd1 fd2 fd3 fdL : FuncData} (F : FnS K "as_table" s_as_table f fd) (B : Blt4 mg) (bs : mg "sorted" = none) (C : PlC K mg L) (CT : TpC K mg LT) (MT : TpMk P w K mg base LT fL fdL)
    (CEv : Cal P w K mg base 9 "every_library" f1 fd1 ["p", "book_count", "book_length"] (spEv K LL)) (CTq : Cal P w K mg base 10 "_tabled_questions" f2 fd2 ["plan", "house", "libraries"] (spTq L LL)) (CRn : Cal P w K mg base 1 "_renumbered" f3 fd3 ["numbers", "asked"] spRn) :
    FnOk P w K mg base (L2.CX P w) 11 f fd ["plan"] (spAt L LT) := by
  refine F.ok scas_table (fun vs H Q E h => ?_) (fun cdv A outer s H vs Q E hr h => ?_)
  · obtain ⟨x, q, n, c, qss, ds, rfl, _⟩ := h
    rfl
  · obtain ⟨x, q, n, c, qss, ds, rfl, hpl, ok, ⟨snc, n4, spw, m9⟩, kk⟩ := h
    have nd := scas_table.nd
    have hu := hr.units
    have hu2 : (A.deeper (envOfC "as_table" (defScope s_as_table) s.heap.objs.size f cdv)).units + 65 < cLine := by have := hr.un; omega
    have hb := fld_le ok.hp
    have enc : n * c = c * n := Nat.mul_comm n c
    have n0 := ok.n0
    have c0 := ok.c0
    have q9 := ok.q9
    have q2 : 2 ≤ q := by omega
    refine ⟨_, (pss_cons (ps_set (i := 1) nd rfl (Or.inr rfl) (pe_cal CEv (hr.mono (by decide)) (pa_cons (pe_fld (pv 0) rfl) (pa_cons (pe_fld (pv 0) rfl) (pa_cons (pe_fld (pv 0) rfl) pa_nil))) passU))
      (pss_cons (ps_setLc (i := 2) (own := [("house", 6)]) (g := gName 6) (by rfl) nd rfl rfl (sw_true rfl rfl rfl (by decide +kernel)) (pi_range1 rfl B.range (pa_cons (pe_fld (pv 0) rfl) pa_nil)) (blkOk_by (own := [("house", 6)]) (N := ["plan", "libraries", "tabled", "questions", "numbers", "draws", "house", "tables", "known", "weight", "asks", "table", "asked"]) (sc := defScope s_as_table) (by decide +kernel)) (fun _ _ _ _ _ => (pg_name (i := 6) nd rfl (Or.inl rfl))) (fun _ _ _ _ _ => pts_nil) (fun _ _ _ _ _ => (pe_cal CTq (hr.mono (by decide)) (pa_cons (pv 0) (pa_cons (pv 6) (pa_cons (pv 1) pa_nil))) passU)))
      (pss_cons (ps_setLc (i := 3) (own := [("tables", 7)]) (g := gName 7) (by rfl) nd rfl rfl (sw_true rfl rfl rfl (by decide +kernel)) (pi_listK (K := K) (pv 2)) (blkOk_by (own := [("tables", 7)]) (N := ["plan", "libraries", "tabled", "questions", "numbers", "draws", "house", "tables", "known", "weight", "asks", "table", "asked"]) (sc := defScope s_as_table) (by decide +kernel)) (fun _ _ _ _ _ => (pg_name (i := 7) nd rfl (Or.inl rfl))) (fun _ _ _ _ _ => pts_nil) (fun _ _ _ _ _ => (pe_callB (cr_sortG (K := K) dtQ ordQ nnQ hu) (by rfl) bs (by decide +kernel) (pa_cons (pv 7) pa_nil))))
      (pss_cons (ps_set (i := 4) nd rfl (Or.inr rfl) (pe_lc (own := [("known", 8), ("tables", 7)]) (g := (gTup K 2 (gCons (gName 8) (gCons (gName 7) gNil)))) (by rfl) nd (pi_zip4K (K := K) (by rfl) B.zip (pa_cons (pv 3) (pa_cons (pv 2) pa_nil))) (blkOk_by (own := [("known", 8), ("tables", 7)]) (N := ["plan", "libraries", "tabled", "questions", "numbers", "draws", "house", "tables", "known", "weight", "asks", "table", "asked"]) (sc := defScope s_as_table) (by decide +kernel)) (fun _ _ _ _ _ => (pg_tupK (K := K) (pg_tup rfl (pgs_cons (pg_name (i := 8) nd rfl (Or.inr rfl)) (pgs_cons (pg_name (i := 7) nd rfl (Or.inl rfl)) pgs_nil))))) (fun _ _ _ _ _ => pts_nil) (fun _ _ _ _ _ => (pe_lc (own := [("table", 11)]) (g := gName 11) (by rfl) nd (pi_listK (K := K) (pv 7)) (blkOk_by (own := [("table", 11)]) (N := ["plan", "libraries", "tabled", "questions", "numbers", "draws", "house", "tables", "known", "weight", "asks", "table", "asked"]) (sc := relS (lcStm ((defBody s_as_table).getD 3 (.Pass ⟨0, 0, 0, 0⟩))) (defScope s_as_table)) (by decide +kernel)) (fun _ _ _ _ _ => (pg_name (i := 11) nd rfl (Or.inl rfl))) (fun _ _ _ _ _ => pts_nil) (fun _ _ _ _ _ => (pe_bmK (K := K) (id := "list.index") (pe_bm PySem.F.plainAttrs_list PySem.F.slot_list_index PySem.F.type_list_index (mt_ixL (K := K) dtQ ordQ layQ hu2) (pv 8) (pa_cons (pv 11) pa_nil))))))))
      (pss_cons (ps_setLc (i := 5) (own := [("weight", 9), ("asks", 10)]) (g := (gTup K 2 (gCons (gName 9) (gCons (gName 10) gNil)))) (by rfl) nd rfl rfl (sw_true rfl rfl rfl (by decide +kernel)) (pi_tupK (K := K) (pe_fld (pv 0) rfl)) (blkOk_by (own := [("weight", 9), ("asks", 10)]) (N := ["plan", "libraries", "tabled", "questions", "numbers", "draws", "house", "tables", "known", "weight", "asks", "table", "asked"]) (sc := defScope s_as_table) (by decide +kernel)) (fun _ _ _ _ _ => (pg_tupK (K := K) (pg_tup rfl (pgs_cons (pg_name (i := 9) nd rfl (Or.inl rfl)) (pgs_cons (pg_name (i := 10) nd rfl (Or.inl rfl)) pgs_nil))))) (fun _ _ _ _ _ => pts_nil) (fun _ _ _ _ _ => (pe_tup (pa_cons (pv 9) (pa_cons (pe_lc (own := [("asked", 12)]) (g := gName 12) (by rfl) nd (pi_tupK (K := K) (pv 10)) (blkOk_by (own := [("asked", 12)]) (N := ["plan", "libraries", "tabled", "questions", "numbers", "draws", "house", "tables", "known", "weight", "asks", "table", "asked"]) (sc := relS (lcStm ((defBody s_as_table).getD 4 (.Pass ⟨0, 0, 0, 0⟩))) (defScope s_as_table)) (by decide +kernel)) (fun _ _ _ _ _ => (pg_name (i := 12) nd rfl (Or.inl rfl))) (fun _ _ _ _ _ => pts_nil) (fun _ _ _ _ _ => (pe_cal CRn (hr.mono (by decide)) (pa_cons (pv 4) (pa_cons (pv 12) pa_nil)) passU))) pa_nil)))))
      (pss_one (ps_ret (pe_make (E := E0) MT.made MT.gI (hr.mono (by decide)) (by rfl) CT.g MT.bI .nil passU (pa_cons (pe_fld (pv 0) rfl) (pa_cons (pe_fld (pv 0) rfl) (pa_cons (pe_fld (pv 0) rfl) (pa_cons (pv 3) (pa_cons (pv 5) pa_nil))))))))))))), ?_⟩
    obtain ⟨dx, qv, dv, hx, hq, ⟨da, dxs, rfl, hda, hdp⟩⟩ := id hpl
    have ed := paired_len hdp
    refine ⟨_, rfl, x, L, dx, _, _, rfl, hx, C.cl, C.nP, pf_p, _, rfl, x, L, dx, _, _, rfl, hx, C.cl, C.nC, pf_book_count, _, rfl, x, L, dx, _, _, rfl, hx, C.cl, C.nL, pf_book_length, ?_⟩
    refine ⟨_, _, _, rfl, ty3_int _, fun z => ?_, fun _ => ⟨q, c, n, rfl, rfl, rfl, c0, n0, by omega, by omega, by omega, spw, n4, fun lb xs H1 s1 hlb hlp => ?_⟩⟩
    · rw [mem_fld ok.hp] at z
      cases z
    refine ⟨_, rfl, x, L, dx, _, _, rfl, s1 _ _ hx, C.cl, C.nH, pf_house_count, (qss.length : Int), rfl, by omega, by omega, fun D1 hD1 => lc_range (lo := 0) (n := qss.length) (fun i H' => BX (LsX TQ) H1 D1 ((qss.take i).map fun qs => qs.map (tbl q (c * n))) H') (BX.start hD1) ?_ ?_⟩
    · intro i H2 hi b
      rw [Int.zero_add]
      have s2 := s1.trans b.same
      have eq := List.getElem?_eq_getElem hi
      refine ⟨rfl, _, rfl, _, rfl, _, rfl, x, lb, i, q, n, c, xs, qss, ds, _, rfl, hpl.same s2, ok, eq, b.same _ _ hlb, paired_mono (fun _ _ z => z.same b.same) hlp, spw, fun D H3 hD s3 hf => ?_⟩
      obtain ⟨ys, eD1, _⟩ := b.ex
      obtain ⟨acc, a1, a2, a3⟩ := b.put (stx_Ls stb_TQ) hD1 s3 (y := .ref D) ⟨hf, fun z => ne_of_none eD1 hD (V.ref.inj z).symm⟩ (by rw [List.length_map, List.length_take]; exact small1000 (by omega))
      refine ⟨acc, a1, a2, ?_⟩
      rw [List.take_succ, eq, List.map_append]
      exact a3
    intro H2 b1
    rw [List.take_length] at b1
    obtain ⟨s2, ys1, eD1, p1⟩ := b1.fin (stx_Ls stb_TQ)
    have s2 := s1.trans s2
    have l1 := paired_len p1
    rw [List.length_map] at l1
    clear b1
    refine ⟨_, rfl, D1, rfl, ⟨_, SqL.of eD1⟩, fun D2 hD2 => lc_list (K := K) (a := D1) (xs := ys1) (fun i H' => ∃ tss, BX (LsX TQ) H2 D2 tss H' ∧ Paired (Sorted q (c * n)) (qss.take i) tss) ⟨[], BX.start hD2, .nil⟩ (fun i H' _ ⟨_, b, _⟩ => SqL.of (b.same _ _ eD1)) ?_ ?_⟩
    · rintro i u H3 hu1 ⟨tss, b, ps⟩
      obtain ⟨tq, e1, f1⟩ := paired_at p1 hu1
      have hil : i < qss.length := by
        have := (List.getElem?_eq_some_iff.mp hu1).1
        omega
      have eq := List.getElem?_eq_getElem hil
      rw [List.getElem?_map, eq] at e1
      cases e1
      have qo := ok.qok _ (List.mem_of_getElem? eq)
      obtain ⟨uc, us, rfl, huc, hup⟩ := f1
      have lt : tss.length = i := by
        have := paired_len ps
        rw [List.length_take] at this
        omega
      refine ⟨rfl, _, rfl, uc, us, _, rfl, b.same _ _ huc, paired_mono (fun _ _ z => stb_TQ _ _ _ _ (TK.of b.same) z) hup, by rw [List.length_map]; have : (qss[i]).length ≤ 900 := qo.2.1; omega, fun ws m D3 hm pm pw hD3 => ?_⟩
      obtain ⟨ys, eD2, _⟩ := b.ex
      have nod : m.Nodup := pm.nodup_iff.mpr (tbl_nodup q2 (ris_nodup qo.1) fun m hm r hr => by rw [← enc]; exact (qo.2.2.2 m hm).2 r hr)
      have hs : Sorted q (c * n) (qss[i]) m := ⟨pm, risG_of ordQ layQ.inj pw nod⟩
      obtain ⟨acc, a1, a2, a3⟩ := b.put (stx_Ls stb_TQ) hD2 (same_new (o := .lst ws) hD3) (y := .ref D3) (z := m) ⟨⟨D3, ws, rfl, upd_same, paired_mono (fun _ _ z => stb_TQ _ _ _ _ (TK.new hD3) z) hm⟩, fun z => ne_of_none eD2 hD3 (V.ref.inj z).symm⟩ (by rw [lt]; exact small1000 (by omega))
      refine ⟨acc, a1, a2, tss ++ [m], a3, ?_⟩
      rw [List.take_succ, eq]
      exact paired_app ps (.cons hs .nil)
    rintro H3 ⟨tss, b2, ps⟩
    rw [l1, List.take_length] at ps
    obtain ⟨s3, ys2, eD2, p2⟩ := b2.fin (stx_Ls stb_TQ)
    have p1 : Paired (LF TQ H3) ys1 (qss.map fun qs => qs.map (tbl q (c * n))) := paired_mono (fun _ _ z => z.same (sm_of stb_TQ) s3) p1
    have eD1 := s3 _ _ eD1
    have s3 := s2.trans s3
    have lt := paired_len ps
    have l2 := paired_len p2
    clear b2
    refine ⟨_, rfl, _, rfl, D2, D1, ys2, ys1, true, true, rfl, SqL.of eD2, SqL.of eD1, fun D3 hD3 => lc_it (walk_zip4 (n := qss.length) (by omega) l1) (fun i H' => BX (LsX FI) H3 D3 ((List.range i).map fun j => nums q (c * n) (qss.getD j []) (tss.getD j [])) H') (BX.start hD3) (fun i H' _ b => ⟨SqL.of (b.same _ _ eD2), SqL.of (b.same _ _ eD1)⟩) ?_ ?_⟩
    · rintro i u H4 H5 hi b ⟨T, x1, x2, rfl, hT, rfl, g1, g2⟩
      obtain ⟨ts, e1, f1⟩ := paired_at p2 g1
      obtain ⟨tq, e2, f2⟩ := paired_at p1 g2
      have eq := List.getElem?_eq_getElem hi
      rw [List.getElem?_map, eq] at e2
      cases e2
      obtain ⟨ts', e3, so⟩ := paired_at ps eq
      cases e1.symm.trans e3
      have qo := ok.qok _ (List.mem_of_getElem? eq)
      obtain ⟨c1, xs1, rfl, hc1, hp1⟩ := id f1
      obtain ⟨c2, xs2, rfl, hc2, hp2⟩ := id f2
      have b := b.skip (stx_Ls stb_FI) (same_new (o := .tup [.ref c1, .ref c2]) hT)
      have eT : upd H4 T (.tup [.ref c1, .ref c2]) T = some (.tup [.ref c1, .ref c2]) := upd_same
      generalize upd H4 T (.tup [.ref c1, .ref c2]) = H5 at b eT ⊢
      have l9 : (qss[i]).length ≤ 900 := qo.2.1
      have lx2 := paired_len hp2
      rw [List.length_map] at lx2
      refine ⟨T, _, rfl, SqT.of eT, rfl, _, _, rfl, _, _, rfl, rfl, rfl, ?_⟩
      refine ⟨_, rfl, c2, rfl, ⟨_, SqL.of (b.same _ _ hc2)⟩, fun D4 hD4 => lc_list (K := K) (a := c2) (xs := xs2) (fun k H' => BX (fun _ => FI) H5 D4 (((qss[i]).take k).map fun m => ((plc ts (tbl q (c * n) m) : Nat) : Int)) H') (BX.start hD4) (fun k H' _ d => SqL.of (d.same _ _ (b.same _ _ hc2))) ?_ ?_⟩
      · rintro k y H6 hy d
        obtain ⟨z, ez, fz⟩ := paired_at hp2 hy
        rw [List.getElem?_map] at ez
        obtain ⟨m, em, rfl⟩ := Option.map_eq_some_iff.mp ez
        have s6 := b.same.trans d.same
        have hkl : k < (qss[i]).length := (List.getElem?_eq_some_iff.mp em).1
        refine ⟨rfl, _, rfl, .inl ⟨rfl, _, SqL.of (s6 _ _ hc1)⟩, _, rfl, y, ts, tbl q (c * n) m, plc ts (tbl q (c * n) m), rfl, f1.same (sm_of stb_TQ) s6, stb_TQ _ _ _ _ (TK.of s6) fz, so.nodup, so.at_ em, by rw [so.len]; omega, ?_⟩
        obtain ⟨acc, a1, a2, a3⟩ := d.put (stx_of stb_FI) hD4 (Same.refl _) (y := .int ((plc ts (tbl q (c * n) m) : Nat) : Int)) (z := ((plc ts (tbl q (c * n) m) : Nat) : Int)) rfl (by rw [List.length_map, List.length_take]; exact small1000 (by omega))
        refine ⟨acc, a1, a2, ?_⟩
        rw [List.take_succ, em, List.map_append]
        exact a3
      · intro H6 d
        rw [lx2, List.take_length] at d
        obtain ⟨s6, zs, eD4, pz⟩ := d.fin (stx_of stb_FI)
        obtain ⟨ys, eD3, _⟩ := b.ex
        obtain ⟨acc, a1, a2, a3⟩ := b.put (stx_Ls stb_FI) hD3 s6 (y := .ref D4) (z := nums q (c * n) (qss[i]) ts) ⟨⟨D4, zs, rfl, eD4, pz⟩, fun z => ne_of_none eD3 hD4 (V.ref.inj z).symm⟩ (by rw [List.length_map, List.length_range]; exact small1000 (by omega))
        refine ⟨acc, a1, a2, ?_⟩
        rw [map_range_succ, List.getD_eq_getElem?_getD, List.getD_eq_getElem?_getD, eq, e1]
        exact a3
    intro H4 b3
    obtain ⟨s4, ys3, eD3, p3⟩ := b3.fin (stx_Ls stb_FI)
    have p2 : Paired (LF TQ H4) ys2 tss := paired_mono (fun _ _ z => z.same (sm_of stb_TQ) s4) p2
    have eD2 := s4 _ _ eD2
    have s4 := s3.trans s4
    have l3 := paired_len p3
    clear b3 p1 eD1
    refine ⟨_, rfl, x, L, dx, _, _, rfl, s4 _ _ hx, C.cl, C.nD, pf_draws, da, rfl, ⟨_, SqT.of (s4 _ _ hda)⟩, fun D5 hD5 => lc_tup (K := K) (a := da) (xs := dxs) (fun i H' => BX TDX H4 D5 ((ds.take i).map (rnd q (c * n) qss tss)) H') (BX.start hD5) (fun i H' _ b => SqT.of (b.same _ _ (s4 _ _ hda))) ?_ ?_⟩
    · rintro i u H5 hu1 b
      obtain ⟨d, e1, dc, yv, rfl, hdc, ba, bxs, rfl, hba, hbp⟩ := paired_at hdp hu1
      have s5 := s4.trans b.same
      have dk := ok.dok d (List.mem_of_getElem? e1)
      have hil : i < ds.length := (List.getElem?_eq_some_iff.mp e1).1
      have lb := paired_len hbp
      refine ⟨dc, _, rfl, SqT.of (s5 _ _ hdc), rfl, _, _, rfl, _, _, rfl, rfl, rfl, ?_⟩
      refine ⟨_, rfl, _, rfl, ba, rfl, ⟨_, SqT.of (s5 _ _ hba)⟩, fun D6 hD6 => lc_tup (K := K) (a := ba) (xs := bxs) (fun k H' => BX (fun _ => T1) H5 D6 ((d.2.take k).map (rnr q (c * n) qss tss)) H') (BX.start hD6) (fun k H' _ g => SqT.of (g.same _ _ (s5 _ _ hba))) ?_ ?_⟩
      · rintro k y H6 hy g
        obtain ⟨r, er, fr⟩ := paired_at hbp hy
        have s6 := s5.trans g.same
        have s46 := b.same.trans g.same
        have rk := dk.2.2.2.2 r (List.mem_of_getElem? er)
        have hkl : k < d.2.length := (List.getElem?_eq_some_iff.mp er).1
        rw [lens_len] at rk
        refine ⟨rfl, _, rfl, _, rfl, .ref D3, y, _, r, rfl, ⟨D3, ys3, rfl, s46 _ _ eD3, paired_mono (fun _ _ z => z.same (sm_of stb_FI) s46) p3⟩, stb1 _ _ _ _ (TK.of s6) fr, by rw [List.length_map, List.length_range]; exact rk.1, by rw [List.length_map, List.length_range]; exact q9, fun j l ej => ?_, fun y2 H7 s7 t7 => ?_⟩
        · rw [List.getElem?_map] at ej
          obtain ⟨j', ej', rfl⟩ := Option.map_eq_some_iff.mp ej
          have hj : j < qss.length := by
            have := (List.getElem?_eq_some_iff.mp ej').1
            rwa [List.length_range] at this
          rw [List.getElem?_range hj] at ej'
          cases ej'
          obtain ⟨qs, ts, k', m, z1, z2, _, z3, z4, z5, _⟩ := rnr_ok (n := c) ps (dk.2.2.2.2 r (List.mem_of_getElem? er)) hj
          refine ⟨k', z3, ?_⟩
          unfold nums
          rw [List.length_map, List.getD_eq_getElem?_getD, z1]
          exact z4
        · have er2 : ((List.range ((List.range qss.length).map fun j => nums q (c * n) (qss.getD j []) (tss.getD j [])).length).map fun j => at0 (((List.range qss.length).map fun j => nums q (c * n) (qss.getD j []) (tss.getD j [])).getD j []) (at0 r j).toNat) = rnr q (c * n) qss tss r := by
            rw [List.length_map, List.length_range]
            refine row_extA (n := qss.length) (by rw [List.length_map, List.length_range]) rnr_len fun j hj => ?_
            obtain ⟨qs, ts, k', m, z1, z2, _, z3, z4, z5, z6⟩ := rnr_ok (n := c) ps (dk.2.2.2.2 r (List.mem_of_getElem? er)) hj
            rw [z6, at0_lt (by rw [List.length_map, List.length_range]; exact hj), List.getElem_map, List.getElem_range, z3, List.getD_eq_getElem?_getD, List.getElem?_map, List.getElem?_range hj]
            show at0 (nums q (c * n) (qss.getD j []) (tss.getD j [])) ((k' : Int)).toNat = _
            rw [List.getD_eq_getElem?_getD, List.getD_eq_getElem?_getD, z1, z2, Int.toNat_natCast]
            unfold nums
            show at0 (qs.map _) k' = _
            rw [at0_lt (by rw [List.length_map]; exact z4), List.getElem_map]
            rw [(List.getElem?_eq_some_iff.mp z5).2]
            rfl
          rw [er2] at t7
          obtain ⟨acc, a1, a2, a3⟩ := g.put (stx_of stb1) hD6 s7 t7 (by rw [List.length_map, List.length_take]; exact small1000 (by have := dk.2.1; have := dk.2.2.2.1; omega))
          refine ⟨acc, a1, a2, ?_⟩
          rw [List.take_succ, er, List.map_append]
          exact a3
      · intro H6 g
        rw [lb, List.take_length] at g
        obtain ⟨s6, zs, eD6, pz⟩ := g.fin (stx_of stb1)
        refine ⟨(by show 2 ≤ sizeLine; decide), fun W hW => ?_⟩
        obtain ⟨ys, eD5, _⟩ := b.ex
        have s7 := s6.trans (same_new (o := .tup [.int d.1, .ref D6]) hW)
        obtain ⟨acc, a1, a2, a3⟩ := b.put stx_TDX hD5 s7 (y := .ref W) (z := rnd q (c * n) qss tss d) ⟨W, .ref D6, rfl, upd_same, ⟨D6, zs, rfl, same_new hW _ _ eD6, paired_mono (fun _ _ z => stb1 _ _ _ _ (TK.new hW) z) pz⟩, fun z => ne_of_none eD5 hD6 (V.ref.inj z).symm⟩ (by rw [List.length_map, List.length_take]; exact small1000 (by have := ok.d9; omega))
        refine ⟨acc, a1, a2, ?_⟩
        rw [List.take_succ, e1, List.map_append]
        exact a3
    intro H5 b5
    rw [ed, List.take_length] at b5
    obtain ⟨s5, ys5, eD5, p5⟩ := b5.fin stx_TDX
    have p2 : Paired (LF TQ H5) ys2 tss := paired_mono (fun _ _ z => z.same (sm_of stb_TQ) s5) p2
    have eD2 := s5 _ _ eD2
    have s5 := s4.trans s5
    have hx5 := s5 _ _ hx
    have tok : Tok q n c tss (ds.map (rnd q (c * n) qss tss)) := {
      hp := ok.hp
      n0 := n0
      c0 := c0
      nc := snc
      pw := by rw [Int.toNat_natCast, enc]; exact spw
      q0 := by have := ok.q0; omega
      q9 := by omega
      qok := fun ts hts => by
        obtain ⟨j, hj⟩ := List.mem_iff_getElem?.mp hts
        obtain ⟨qs, ej, so⟩ := paired_of ps hj
        have qm := List.mem_of_getElem? ej
        rw [Int.toNat_natCast, enc]
        exact so.ok (by omega) (ok.qok qs qm).2.1 (m9 qs qm) (by omega)
      d0 := by rw [List.length_map]; exact ok.d0
      d9 := by rw [List.length_map]; exact ok.d9
      dok := fun d hd => by
        obtain ⟨d0, hd0, rfl⟩ := List.mem_map.mp hd
        exact rnd_ok ps (ok.dok d0 hd0) }
    refine ⟨_, rfl, x, L, dx, _, _, rfl, hx5, C.cl, C.nP, pf_p, _, rfl, x, L, dx, _, _, rfl, hx5, C.cl, C.nL, pf_book_length, _, rfl, x, L, dx, _, _, rfl, hx5, C.cl, C.nC, pf_book_count, _, rfl, _, rfl, fun y dy hy hdy hne => ?_⟩
    have sN : Same H5 (upd (upd H5 dy (.own y)) y (.ins LT dy [])) := (same_new hdy).trans (same_new (by rw [upd_ne (Ne.symm hne)]; exact hy))
    have hy0 : H y = none := by
      cases e : H y with
      | none => rfl
      | some o => rw [s5 _ _ e] at hy; cases hy
    refine ⟨y, dy, q, n, c, _, _, tss, _, rfl, upd_same, ⟨D2, ys2, rfl, sN _ _ eD2, paired_mono (fun _ _ z => z.same (sm_of stb_TQ) sN) p2⟩, ⟨D5, ys5, rfl, sN _ _ eD5, paired_mono (fun _ _ z => tdl_same _ _ _ _ sN z) p5⟩, tok, fun H6 htp k6 => ⟨rfl, ?_⟩⟩
    exact kk y tss H6 hy0 (fun b o hb => k6 _ _ (ne_of_none (s5 _ _ hb) hy) (sN _ _ (s5 _ _ hb))) ps htp tok
end
end WU

set_option maxRecDepth 100000
set_option maxHeartbeats 8000000
namespace WU
open PySem PySem.Spec PyProof.Rows L2
/-- the sizes that are drawn: p, the length, the count -/
def szs : List (Int × Nat × Nat) := [(2, 1, 2), (2, 2, 2), (3, 1, 2), (2, 1, 3), (2, 3, 1), (5, 1, 1), (7, 2, 1), (3, 2, 2), (2, 1, 4), (31, 1, 1), (2, 2, 3), (2, 3, 2)]
section
variable {P : Program} {w : World} {K : PySem.W.Frag} {mg : Str → Option Value} {base : Heap} {S : Addr}
def spLz : Sp := fun vs H Q _ => ∃ a d, vs = [.ref a] ∧ HandAt H a d ∧ ∀ y H' (p : Int) (n c : Nat), (p, n, c) ∈ szs → T1 H' y [p, (n : Int), (c : Int)] → HandAt H' a d → Keep a H H' → Q y H'
theorem sclaw_library_size : FnScope ["hand", "sizes"] ["hand"] (defScope s_law_library_size) := ⟨rfl, rfl, rfl, by decide +kernel, rfl, by decide +kernel, by decide +kernel⟩
theorem ok_Lz {f f1 : Addr} {fd fd1 : FuncData} (F : FnS K "_law_library_size" s_law_library_size f fd) (B : Blt4 mg) (CT : Cal P w K mg base 1 "_law_take" f1 fd1 ["hand", "many"] spTake) : FnOk P w K mg base (L2.CX P w) 2 f fd ["hand"] spLz := by
  refine F.ok sclaw_library_size (fun vs H Q E h => ?_) (fun cdv A outer s H vs Q E hr h => ?_)
  · obtain ⟨a, d, rfl, _⟩ := h
    rfl
  · obtain ⟨a, d, rfl, hh, kk⟩ := h
    have nd := sclaw_library_size.nd
    refine ⟨_, (pss_cons (ps_set (i := 1) nd rfl (Or.inl rfl) (pe_lst (pa_cons (pe_tup (pa_cons pe_int (pa_cons pe_int (pa_cons pe_int pa_nil)))) (pa_cons (pe_tup (pa_cons pe_int (pa_cons pe_int (pa_cons pe_int pa_nil)))) (pa_cons (pe_tup (pa_cons pe_int (pa_cons pe_int (pa_cons pe_int pa_nil)))) (pa_cons (pe_tup (pa_cons pe_int (pa_cons pe_int (pa_cons pe_int pa_nil)))) (pa_cons (pe_tup (pa_cons pe_int (pa_cons pe_int (pa_cons pe_int pa_nil)))) (pa_cons (pe_tup (pa_cons pe_int (pa_cons pe_int (pa_cons pe_int pa_nil)))) (pa_cons (pe_tup (pa_cons pe_int (pa_cons pe_int (pa_cons pe_int pa_nil)))) (pa_cons (pe_tup (pa_cons pe_int (pa_cons pe_int (pa_cons pe_int pa_nil)))) (pa_cons (pe_tup (pa_cons pe_int (pa_cons pe_int (pa_cons pe_int pa_nil)))) (pa_cons (pe_tup (pa_cons pe_int (pa_cons pe_int (pa_cons pe_int pa_nil)))) (pa_cons (pe_tup (pa_cons pe_int (pa_cons pe_int (pa_cons pe_int pa_nil)))) (pa_cons (pe_tup (pa_cons pe_int (pa_cons pe_int (pa_cons pe_int pa_nil)))) pa_nil))))))))))))))
      (pss_one (ps_ret (pe_ix (ix_listK (K := K)) (pv 1) (pe_cal CT (hr.mono (by decide)) (pa_cons (pv 0) (pa_cons pe_int pa_nil)) passU) (fun _ _ => rfl))))), ?_⟩
    refine ⟨(by show 3 ≤ sizeLine; decide), fun t0 n0 => ?_⟩
    have z0 : Same H (upd H t0 (.tup [.int 2, .int 1, .int 2])) := (Same.refl H).trans (same_new n0)
    have e0 : upd H t0 (.tup [.int 2, .int 1, .int 2]) t0 = some (.tup [.int 2, .int 1, .int 2]) := upd_same
    generalize upd H t0 (.tup [.int 2, .int 1, .int 2]) = G0 at z0 e0 ⊢
    refine ⟨(by show 3 ≤ sizeLine; decide), fun t1 n1 => ?_⟩
    have z1 : Same H (upd G0 t1 (.tup [.int 2, .int 2, .int 2])) := (z0).trans (same_new n1)
    have e0 := same_new (o := .tup [.int 2, .int 2, .int 2]) n1 _ _ e0
    have e1 : upd G0 t1 (.tup [.int 2, .int 2, .int 2]) t1 = some (.tup [.int 2, .int 2, .int 2]) := upd_same
    generalize upd G0 t1 (.tup [.int 2, .int 2, .int 2]) = G1 at z1 e0 e1 ⊢
    refine ⟨(by show 3 ≤ sizeLine; decide), fun t2 n2 => ?_⟩
    have z2 : Same H (upd G1 t2 (.tup [.int 3, .int 1, .int 2])) := (z1).trans (same_new n2)
    have e0 := same_new (o := .tup [.int 3, .int 1, .int 2]) n2 _ _ e0
    have e1 := same_new (o := .tup [.int 3, .int 1, .int 2]) n2 _ _ e1
    have e2 : upd G1 t2 (.tup [.int 3, .int 1, .int 2]) t2 = some (.tup [.int 3, .int 1, .int 2]) := upd_same
    generalize upd G1 t2 (.tup [.int 3, .int 1, .int 2]) = G2 at z2 e0 e1 e2 ⊢
    refine ⟨(by show 3 ≤ sizeLine; decide), fun t3 n3 => ?_⟩
    have z3 : Same H (upd G2 t3 (.tup [.int 2, .int 1, .int 3])) := (z2).trans (same_new n3)
    have e0 := same_new (o := .tup [.int 2, .int 1, .int 3]) n3 _ _ e0
    have e1 := same_new (o := .tup [.int 2, .int 1, .int 3]) n3 _ _ e1
    have e2 := same_new (o := .tup [.int 2, .int 1, .int 3]) n3 _ _ e2
    have e3 : upd G2 t3 (.tup [.int 2, .int 1, .int 3]) t3 = some (.tup [.int 2, .int 1, .int 3]) := upd_same
    generalize upd G2 t3 (.tup [.int 2, .int 1, .int 3]) = G3 at z3 e0 e1 e2 e3 ⊢
    refine ⟨(by show 3 ≤ sizeLine; decide), fun t4 n4 => ?_⟩
    have z4 : Same H (upd G3 t4 (.tup [.int 2, .int 3, .int 1])) := (z3).trans (same_new n4)
    have e0 := same_new (o := .tup [.int 2, .int 3, .int 1]) n4 _ _ e0
    have e1 := same_new (o := .tup [.int 2, .int 3, .int 1]) n4 _ _ e1
    have e2 := same_new (o := .tup [.int 2, .int 3, .int 1]) n4 _ _ e2
    have e3 := same_new (o := .tup [.int 2, .int 3, .int 1]) n4 _ _ e3
    have e4 : upd G3 t4 (.tup [.int 2, .int 3, .int 1]) t4 = some (.tup [.int 2, .int 3, .int 1]) := upd_same
    generalize upd G3 t4 (.tup [.int 2, .int 3, .int 1]) = G4 at z4 e0 e1 e2 e3 e4 ⊢
    refine ⟨(by show 3 ≤ sizeLine; decide), fun t5 n5 => ?_⟩
    have z5 : Same H (upd G4 t5 (.tup [.int 5, .int 1, .int 1])) := (z4).trans (same_new n5)
    have e0 := same_new (o := .tup [.int 5, .int 1, .int 1]) n5 _ _ e0
    have e1 := same_new (o := .tup [.int 5, .int 1, .int 1]) n5 _ _ e1
    have e2 := same_new (o := .tup [.int 5, .int 1, .int 1]) n5 _ _ e2
    have e3 := same_new (o := .tup [.int 5, .int 1, .int 1]) n5 _ _ e3
    have e4 := same_new (o := .tup [.int 5, .int 1, .int 1]) n5 _ _ e4
    have e5 : upd G4 t5 (.tup [.int 5, .int 1, .int 1]) t5 = some (.tup [.int 5, .int 1, .int 1]) := upd_same
    generalize upd G4 t5 (.tup [.int 5, .int 1, .int 1]) = G5 at z5 e0 e1 e2 e3 e4 e5 ⊢
    refine ⟨(by show 3 ≤ sizeLine; decide), fun t6 n6 => ?_⟩
    have z6 : Same H (upd G5 t6 (.tup [.int 7, .int 2, .int 1])) := (z5).trans (same_new n6)
    have e0 := same_new (o := .tup [.int 7, .int 2, .int 1]) n6 _ _ e0
    have e1 := same_new (o := .tup [.int 7, .int 2, .int 1]) n6 _ _ e1
    have e2 := same_new (o := .tup [.int 7, .int 2, .int 1]) n6 _ _ e2
    have e3 := same_new (o := .tup [.int 7, .int 2, .int 1]) n6 _ _ e3
    have e4 := same_new (o := .tup [.int 7, .int 2, .int 1]) n6 _ _ e4
    have e5 := same_new (o := .tup [.int 7, .int 2, .int 1]) n6 _ _ e5
    have e6 : upd G5 t6 (.tup [.int 7, .int 2, .int 1]) t6 = some (.tup [.int 7, .int 2, .int 1]) := upd_same
    generalize upd G5 t6 (.tup [.int 7, .int 2, .int 1]) = G6 at z6 e0 e1 e2 e3 e4 e5 e6 ⊢
    refine ⟨(by show 3 ≤ sizeLine; decide), fun t7 n7 => ?_⟩
    have z7 : Same H (upd G6 t7 (.tup [.int 3, .int 2, .int 2])) := (z6).trans (same_new n7)
    have e0 := same_new (o := .tup [.int 3, .int 2, .int 2]) n7 _ _ e0
    have e1 := same_new (o := .tup [.int 3, .int 2, .int 2]) n7 _ _ e1
    have e2 := same_new (o := .tup [.int 3, .int 2, .int 2]) n7 _ _ e2
    have e3 := same_new (o := .tup [.int 3, .int 2, .int 2]) n7 _ _ e3
    have e4 := same_new (o := .tup [.int 3, .int 2, .int 2]) n7 _ _ e4
    have e5 := same_new (o := .tup [.int 3, .int 2, .int 2]) n7 _ _ e5
    have e6 := same_new (o := .tup [.int 3, .int 2, .int 2]) n7 _ _ e6
    have e7 : upd G6 t7 (.tup [.int 3, .int 2, .int 2]) t7 = some (.tup [.int 3, .int 2, .int 2]) := upd_same
    generalize upd G6 t7 (.tup [.int 3, .int 2, .int 2]) = G7 at z7 e0 e1 e2 e3 e4 e5 e6 e7 ⊢
    refine ⟨(by show 3 ≤ sizeLine; decide), fun t8 n8 => ?_⟩
    have z8 : Same H (upd G7 t8 (.tup [.int 2, .int 1, .int 4])) := (z7).trans (same_new n8)
    have e0 := same_new (o := .tup [.int 2, .int 1, .int 4]) n8 _ _ e0
    have e1 := same_new (o := .tup [.int 2, .int 1, .int 4]) n8 _ _ e1
    have e2 := same_new (o := .tup [.int 2, .int 1, .int 4]) n8 _ _ e2
    have e3 := same_new (o := .tup [.int 2, .int 1, .int 4]) n8 _ _ e3
    have e4 := same_new (o := .tup [.int 2, .int 1, .int 4]) n8 _ _ e4
    have e5 := same_new (o := .tup [.int 2, .int 1, .int 4]) n8 _ _ e5
    have e6 := same_new (o := .tup [.int 2, .int 1, .int 4]) n8 _ _ e6
    have e7 := same_new (o := .tup [.int 2, .int 1, .int 4]) n8 _ _ e7
    have e8 : upd G7 t8 (.tup [.int 2, .int 1, .int 4]) t8 = some (.tup [.int 2, .int 1, .int 4]) := upd_same
    generalize upd G7 t8 (.tup [.int 2, .int 1, .int 4]) = G8 at z8 e0 e1 e2 e3 e4 e5 e6 e7 e8 ⊢
    refine ⟨(by show 3 ≤ sizeLine; decide), fun t9 n9 => ?_⟩
    have z9 : Same H (upd G8 t9 (.tup [.int 31, .int 1, .int 1])) := (z8).trans (same_new n9)
    have e0 := same_new (o := .tup [.int 31, .int 1, .int 1]) n9 _ _ e0
    have e1 := same_new (o := .tup [.int 31, .int 1, .int 1]) n9 _ _ e1
    have e2 := same_new (o := .tup [.int 31, .int 1, .int 1]) n9 _ _ e2
    have e3 := same_new (o := .tup [.int 31, .int 1, .int 1]) n9 _ _ e3
    have e4 := same_new (o := .tup [.int 31, .int 1, .int 1]) n9 _ _ e4
    have e5 := same_new (o := .tup [.int 31, .int 1, .int 1]) n9 _ _ e5
    have e6 := same_new (o := .tup [.int 31, .int 1, .int 1]) n9 _ _ e6
    have e7 := same_new (o := .tup [.int 31, .int 1, .int 1]) n9 _ _ e7
    have e8 := same_new (o := .tup [.int 31, .int 1, .int 1]) n9 _ _ e8
    have e9 : upd G8 t9 (.tup [.int 31, .int 1, .int 1]) t9 = some (.tup [.int 31, .int 1, .int 1]) := upd_same
    generalize upd G8 t9 (.tup [.int 31, .int 1, .int 1]) = G9 at z9 e0 e1 e2 e3 e4 e5 e6 e7 e8 e9 ⊢
    refine ⟨(by show 3 ≤ sizeLine; decide), fun t10 n10 => ?_⟩
    have z10 : Same H (upd G9 t10 (.tup [.int 2, .int 2, .int 3])) := (z9).trans (same_new n10)
    have e0 := same_new (o := .tup [.int 2, .int 2, .int 3]) n10 _ _ e0
    have e1 := same_new (o := .tup [.int 2, .int 2, .int 3]) n10 _ _ e1
    have e2 := same_new (o := .tup [.int 2, .int 2, .int 3]) n10 _ _ e2
    have e3 := same_new (o := .tup [.int 2, .int 2, .int 3]) n10 _ _ e3
    have e4 := same_new (o := .tup [.int 2, .int 2, .int 3]) n10 _ _ e4
    have e5 := same_new (o := .tup [.int 2, .int 2, .int 3]) n10 _ _ e5
    have e6 := same_new (o := .tup [.int 2, .int 2, .int 3]) n10 _ _ e6
    have e7 := same_new (o := .tup [.int 2, .int 2, .int 3]) n10 _ _ e7
    have e8 := same_new (o := .tup [.int 2, .int 2, .int 3]) n10 _ _ e8
    have e9 := same_new (o := .tup [.int 2, .int 2, .int 3]) n10 _ _ e9
    have e10 : upd G9 t10 (.tup [.int 2, .int 2, .int 3]) t10 = some (.tup [.int 2, .int 2, .int 3]) := upd_same
    generalize upd G9 t10 (.tup [.int 2, .int 2, .int 3]) = G10 at z10 e0 e1 e2 e3 e4 e5 e6 e7 e8 e9 e10 ⊢
    refine ⟨(by show 3 ≤ sizeLine; decide), fun t11 n11 => ?_⟩
    have z11 : Same H (upd G10 t11 (.tup [.int 2, .int 3, .int 2])) := (z10).trans (same_new n11)
    have e0 := same_new (o := .tup [.int 2, .int 3, .int 2]) n11 _ _ e0
    have e1 := same_new (o := .tup [.int 2, .int 3, .int 2]) n11 _ _ e1
    have e2 := same_new (o := .tup [.int 2, .int 3, .int 2]) n11 _ _ e2
    have e3 := same_new (o := .tup [.int 2, .int 3, .int 2]) n11 _ _ e3
    have e4 := same_new (o := .tup [.int 2, .int 3, .int 2]) n11 _ _ e4
    have e5 := same_new (o := .tup [.int 2, .int 3, .int 2]) n11 _ _ e5
    have e6 := same_new (o := .tup [.int 2, .int 3, .int 2]) n11 _ _ e6
    have e7 := same_new (o := .tup [.int 2, .int 3, .int 2]) n11 _ _ e7
    have e8 := same_new (o := .tup [.int 2, .int 3, .int 2]) n11 _ _ e8
    have e9 := same_new (o := .tup [.int 2, .int 3, .int 2]) n11 _ _ e9
    have e10 := same_new (o := .tup [.int 2, .int 3, .int 2]) n11 _ _ e10
    have e11 : upd G10 t11 (.tup [.int 2, .int 3, .int 2]) t11 = some (.tup [.int 2, .int 3, .int 2]) := upd_same
    generalize upd G10 t11 (.tup [.int 2, .int 3, .int 2]) = G11 at z11 e0 e1 e2 e3 e4 e5 e6 e7 e8 e9 e10 e11 ⊢
    refine ⟨(by show 12 ≤ sizeLine; decide), fun q nq => ?_⟩
    have z := z11.trans (same_new (o := .lst [.ref t0, .ref t1, .ref t2, .ref t3, .ref t4, .ref t5, .ref t6, .ref t7, .ref t8, .ref t9, .ref t10, .ref t11]) nq)
    have eq : upd G11 q (.lst [.ref t0, .ref t1, .ref t2, .ref t3, .ref t4, .ref t5, .ref t6, .ref t7, .ref t8, .ref t9, .ref t10, .ref t11]) q = some (.lst [.ref t0, .ref t1, .ref t2, .ref t3, .ref t4, .ref t5, .ref t6, .ref t7, .ref t8, .ref t9, .ref t10, .ref t11]) := upd_same
    have hh1 := hh.same z
    obtain ⟨ds, i0, ha, _⟩ := id hh1
    have na : q ≠ a := by
      rintro rfl
      rw [eq] at ha
      obtain ⟨o, ho⟩ := (hh.same z11).one
      rw [nq] at ho
      cases ho
    refine ⟨_, rfl, _, rfl, a, d, 12, rfl, by decide, hh1, fun r H' r0 r1 hh2 k2 => ?_⟩
    have tk : TK _ H' := TK.keep k2 ha (fun xs z => nomatch z)
    obtain ⟨j, rfl⟩ : ∃ j : Nat, r = (j : Int) := ⟨r.toNat, by omega⟩
    have all : ∀ j, j < 12 → ∃ v, ([.ref t0, .ref t1, .ref t2, .ref t3, .ref t4, .ref t5, .ref t6, .ref t7, .ref t8, .ref t9, .ref t10, .ref t11] : List V)[j]? = some v ∧ ∃ (p : Int) (n c : Nat), T1 H' v [p, (n : Int), (c : Int)] ∧ (p, n, c) ∈ szs := by
      intro j hj
      match j, hj with
      | 0, _ => exact ⟨_, rfl, 2, 1, 2, T1.mk (r := [2, 1, 2]) (tk _ _ (same_new nq _ _ e0)), by decide⟩
      | 1, _ => exact ⟨_, rfl, 2, 2, 2, T1.mk (r := [2, 2, 2]) (tk _ _ (same_new nq _ _ e1)), by decide⟩
      | 2, _ => exact ⟨_, rfl, 3, 1, 2, T1.mk (r := [3, 1, 2]) (tk _ _ (same_new nq _ _ e2)), by decide⟩
      | 3, _ => exact ⟨_, rfl, 2, 1, 3, T1.mk (r := [2, 1, 3]) (tk _ _ (same_new nq _ _ e3)), by decide⟩
      | 4, _ => exact ⟨_, rfl, 2, 3, 1, T1.mk (r := [2, 3, 1]) (tk _ _ (same_new nq _ _ e4)), by decide⟩
      | 5, _ => exact ⟨_, rfl, 5, 1, 1, T1.mk (r := [5, 1, 1]) (tk _ _ (same_new nq _ _ e5)), by decide⟩
      | 6, _ => exact ⟨_, rfl, 7, 2, 1, T1.mk (r := [7, 2, 1]) (tk _ _ (same_new nq _ _ e6)), by decide⟩
      | 7, _ => exact ⟨_, rfl, 3, 2, 2, T1.mk (r := [3, 2, 2]) (tk _ _ (same_new nq _ _ e7)), by decide⟩
      | 8, _ => exact ⟨_, rfl, 2, 1, 4, T1.mk (r := [2, 1, 4]) (tk _ _ (same_new nq _ _ e8)), by decide⟩
      | 9, _ => exact ⟨_, rfl, 31, 1, 1, T1.mk (r := [31, 1, 1]) (tk _ _ (same_new nq _ _ e9)), by decide⟩
      | 10, _ => exact ⟨_, rfl, 2, 2, 3, T1.mk (r := [2, 2, 3]) (tk _ _ (same_new nq _ _ e10)), by decide⟩
      | 11, _ => exact ⟨_, rfl, 2, 3, 2, T1.mk (r := [2, 3, 2]) (tk _ _ (same_new nq _ _ e11)), by decide⟩
      | n + 12, h => exact absurd h (by omega)
    obtain ⟨v, ev, p, n, c, t1, hm⟩ := all j (by omega)
    exact ⟨q, _, _, _, rfl, rfl, SqL.of (k2 _ _ na eq), atI_nat ev, kk v H' p n c hm t1 hh2 ((Keep.of z).trans k2)⟩
end
end WU

set_option maxRecDepth 100000
set_option maxHeartbeats 8000000
namespace WU
open PySem PySem.Spec PyProof.Rows L2
theorem big30' : (10 : Int) ^ (30 : Int).toNat = 1000000000000000000000000000000 := by decide +kernel
def forAsk : Stmt → Scope
  | .For _ _ (_ :: .Assign _ (.Call _ [.ListComp _ _ sc _] _ _) _ :: _) _ _ => sc
  | st => defScope st
/-- the questions of a house as they are drawn -/
def Qls (p : Int) (k : Nat) (qs : List (List (List Int))) : Prop := Ris qs ∧ 0 < qs.length ∧ qs.length ≤ 14 ∧ ∀ m ∈ qs, m.length ≤ 2 ∧ ∀ r ∈ m, Ltr p k r
structure Lpk (p : Int) (n c : Nat) (qss : List (List (List (List Int)))) (ds : List (Int × List (List Int))) : Prop where
  sz : (p, n, c) ∈ szs
  q0 : 0 < qss.length
  q3 : qss.length ≤ 3
  qok : ∀ qs ∈ qss, Qls p (n * c) qs
  d0 : 0 < ds.length
  d4 : ds.length ≤ 4
  dok : ∀ d ∈ ds, Dok c (lens qss) d
theorem szs_ok {p : Int} {n c : Nat} (h : (p, n, c) ∈ szs) : p ∈ primes ∧ 0 < n ∧ 0 < c ∧ n ≤ 10 ∧ c ≤ 10 := by
  have z : ∀ z ∈ szs, z.1 ∈ primes ∧ 0 < z.2.1 ∧ 0 < z.2.2 ∧ z.2.1 ≤ 10 ∧ z.2.2 ≤ 10 := by decide +kernel
  exact z _ h
theorem mul_le_100 {n c : Nat} (h1 : n ≤ 10) (h2 : c ≤ 10) : n * c ≤ 100 := Nat.le_trans (Nat.mul_le_mul h1 h2) (by decide)
theorem Lpk.ok {p : Int} {n c : Nat} {qss : List (List (List (List Int)))} {ds : List (Int × List (List Int))} (h : Lpk p n c qss ds) : Pok p n c qss ds := by
  obtain ⟨h1, h2, h3, h4, h5⟩ := szs_ok h.sz
  have h6 := mul_le_100 h4 h5
  exact ⟨h1, h2, h3, by omega, h.q0, by have := h.q3; omega, fun qs hq => by
    obtain ⟨a, b, c, e⟩ := h.qok qs hq
    exact ⟨a, by omega, by omega, fun m hm => ⟨by have := (e m hm).1; omega, (e m hm).2⟩⟩, h.d0, by have := h.d4; omega, h.dok⟩
theorem row_put {ys ls : List Int} {j : Nat} {r : Int} (hl : ys.length = j) (h : ∀ i, i < j → 0 ≤ at0 ys i ∧ at0 ys i < at0 ls i) (r0 : 0 ≤ r) (r1 : r < at0 ls j) : (ys ++ [r]).length = j + 1 ∧ ∀ i, i < j + 1 → 0 ≤ at0 (ys ++ [r]) i ∧ at0 (ys ++ [r]) i < at0 ls i := by
  refine ⟨by rw [List.length_append, hl]; rfl, fun i hi => ?_⟩
  by_cases e : i = j
  · subst e
    have z : at0 (ys ++ [r]) i = r := by
      rw [at0_lt (by rw [List.length_append, hl]; exact Nat.lt_succ_self _), List.getElem_append_right (by omega)]
      simp [hl]
    rw [z]
    exact ⟨r0, r1⟩
  · have z : at0 (ys ++ [r]) i = at0 ys i := by
      rw [at0_lt (by rw [List.length_append, hl]; exact hi), List.getElem_append_left (by omega), at0_lt (by omega)]
    rw [z]
    exact h i (by omega)
/-- the parts that were drawn, at l -/
structure PtAt (H : Hp) (l : Addr) (p : Int) (n c : Nat) (qv dv : V) (qss : List (List (List (List Int)))) (ds : List (Int × List (List Int))) : Prop where
  at_ : H l = some (.lst [.int p, .int n, .int c, qv, dv])
  q : T4 H qv qss
  d : TF TD H dv ds
theorem PtAt.same {H H' : Hp} {l : Addr} {p : Int} {n c : Nat} {qv dv : V} {qss : List (List (List (List Int)))} {ds : List (Int × List (List Int))} (h : PtAt H l p n c qv dv qss ds) (s : Same H H') : PtAt H' l p n c qv dv qss ds := ⟨s _ _ h.1, stb4 _ _ _ _ (TK.of s) h.2, stb_TF stb_TD _ _ _ _ (TK.of s) h.3⟩
theorem HandAt.tk {H H' : Hp} {a d : Addr} (h : HandAt H a d) (k : Keep a H H') : TK H H' := by
  obtain ⟨ds, i, h1, _⟩ := h
  exact TK.keep k h1 fun xs z => nomatch z
section
variable {P : Program} {w : World} {K : PySem.W.Frag} {mg : Str → Option Value} {base : Heap} {S : Addr}
/-- _law_parts(hand) -/
def spLPt : Sp := fun vs H Q _ => ∃ (a d : Addr), vs = [.ref a] ∧ HandAt H a d ∧ ∀ (l : Addr) (H' : Hp) (p : Int) (n c : Nat) (qv dv : V) (qss : List (List (List (List Int)))) (ds : List (Int × List (List Int))), PtAt H' l p n c qv dv qss ds → Lpk p n c qss ds → l ≠ a → HandAt H' a d → Keep a H H' → Q (.ref l) H'
theorem sclaw_parts : FnScope ["hand", "p", "size", "count", "questions", "draws", "d", "weight", "asks", "n", "wish", "one"] ["hand"] (defScope s_law_parts) := ⟨rfl, rfl, rfl, by decide +kernel, rfl, by decide +kernel, by decide +kernel⟩
theorem ok_LPt {f f1 f2 f3 : Addr} {fd fd1 fd2 fd3 : FuncData} (F : FnS K "_law_parts" s_law_parts f fd) (B : Blt4 mg) (CT : Cal P w K mg base 1 "_law_take" f1 fd1 ["hand", "many"] spTake) (CSz : Cal P w K mg base 2 "_law_library_size" f2 fd2 ["hand"] spLz) (CLQ : Cal P w K mg base 2 "_law_questions" f3 fd3 ["hand", "p", "columns"] spLQ) :
    FnOk P w K mg base (L2.CX P w) 3 f fd ["hand"] spLPt := by
  refine F.ok sclaw_parts (fun vs H Q E h => ?_) (fun cdv A outer s H vs Q E hr h => ?_)
  · obtain ⟨a, d, rfl, _⟩ := h
    rfl
  · obtain ⟨a, d, rfl, hh, kk⟩ := h
    have nd := sclaw_parts.nd
    refine ⟨_, (pss_cons (ps_asg (pe_cal CSz (hr.mono (by decide)) (pa_cons (pv 0) pa_nil) passU) (pg_tupK (K := K) (pg_tup rfl (pgs_cons (pg_name (i := 1) nd rfl (Or.inr rfl)) (pgs_cons (pg_name (i := 2) nd rfl (Or.inr rfl)) (pgs_cons (pg_name (i := 3) nd rfl (Or.inr rfl)) pgs_nil))))))
      (pss_cons (ps_set (i := 4) nd rfl (Or.inr rfl) (pe_callTy (tup_ofK (K := K)) (by rfl) B.tuple (by decide +kernel) (pa_cons (pe_lc (own := [("n", 9)]) (g := gName 9) (by rfl) nd (pi_range1 rfl B.range (pa_cons (pe_op op_add pe_int (pe_cal CT (hr.mono (by decide)) (pa_cons (pv 0) (pa_cons pe_int pa_nil)) passU)) pa_nil)) (blkOk_by (own := [("n", 9)]) (N := ["hand", "p", "size", "count", "questions", "draws", "d", "weight", "asks", "n", "wish", "one"]) (sc := defScope s_law_parts) (by decide +kernel)) (fun _ _ _ _ _ => (pg_name (i := 9) nd rfl (Or.inl rfl))) (fun _ _ _ _ _ => pts_nil) (fun _ _ _ _ _ => (pe_cal CLQ (hr.mono (by decide)) (pa_cons (pv 0) (pa_cons (pv 1) (pa_cons (pe_op op_mul (pv 2) (pv 3)) pa_nil))) passU))) pa_nil)))
      (pss_cons (ps_set (i := 5) nd rfl (Or.inl rfl) (pe_lst pa_nil))
      (pss_cons (ps_for (passes_of rfl) rfl (pi_range1 rfl B.range (pa_cons (pe_op op_add pe_int (pe_cal CT (hr.mono (by decide)) (pa_cons (pv 0) (pa_cons pe_int pa_nil)) passU)) pa_nil)) (pg_name (i := 6) nd rfl (Or.inl rfl)) (pss_cons (ps_set (i := 7) nd rfl (Or.inl rfl) (pe_ix (ix_listK (K := K)) (pe_lst (pa_cons (pe_op op_add pe_int (pe_cal CT (hr.mono (by decide)) (pa_cons (pv 0) (pa_cons pe_int pa_nil)) passU)) (pa_cons pe_int (pa_cons (pe_op op_add (pe_op op_pow pe_int pe_int) (pe_cal CT (hr.mono (by decide)) (pa_cons (pv 0) (pa_cons pe_int pa_nil)) passU)) pa_nil)))) (pe_cal CT (hr.mono (by decide)) (pa_cons (pv 0) (pa_cons pe_int pa_nil)) passU) (fun _ _ => rfl)))
      (pss_cons (ps_set (i := 8) nd rfl (Or.inl rfl) (pe_callTy (tup_ofK (K := K)) (by rfl) B.tuple (by decide +kernel) (pa_cons (pe_lc (own := [("wish", 10)]) (g := gName 10) (by rfl) nd (pi_range1 rfl B.range (pa_cons (pv 3) pa_nil)) (blkOk_by (own := [("wish", 10)]) (N := ["hand", "p", "size", "count", "questions", "draws", "d", "weight", "asks", "n", "wish", "one"]) (sc := defScope s_law_parts) (by decide +kernel)) (fun _ _ _ _ _ => (pg_name (i := 10) nd rfl (Or.inl rfl))) (fun _ _ _ _ _ => pts_nil) (fun _ _ _ _ _ => (pe_callTy (tup_ofK (K := K)) (by rfl) B.tuple (by decide +kernel) (pa_cons (pe_lc (own := [("one", 11)]) (g := gName 11) (by rfl) nd (pi_tupK (K := K) (pv 4)) (blkOk_by (own := [("one", 11)]) (N := ["hand", "p", "size", "count", "questions", "draws", "d", "weight", "asks", "n", "wish", "one"]) (sc := relS (forAsk ((defBody s_law_parts).getD 3 (.Pass ⟨0, 0, 0, 0⟩))) (defScope s_law_parts)) (by decide +kernel)) (fun _ _ _ _ _ => (pg_name (i := 11) nd rfl (Or.inl rfl))) (fun _ _ _ _ _ => pts_nil) (fun _ _ _ _ _ => (pe_cal CT (hr.mono (by decide)) (pa_cons (pv 0) (pa_cons (pe_callB (len_seqK (K := K)) (by rfl) B.len (by decide +kernel) (pa_cons (pv 11) pa_nil)) pa_nil)) passU))) pa_nil)))) pa_nil)))
      (pss_one (ps_expr (pe_bm PySem.F.plainAttrs_list PySem.F.slot_list_append PySem.F.type_list_append mt_append (pv 5) (pa_cons (pe_tup (pa_cons (pv 7) (pa_cons (pv 8) pa_nil))) pa_nil)))))))
      (pss_one (ps_ret (pe_lst (pa_cons (pv 1) (pa_cons (pv 2) (pa_cons (pv 3) (pa_cons (pv 4) (pa_cons (pe_callTy (tup_ofK (K := K)) (by rfl) B.tuple (by decide +kernel) (pa_cons (pv 5) pa_nil)) pa_nil)))))))))))), ?_⟩
    refine ⟨_, rfl, a, d, rfl, hh, fun y H1 p n c hsz ty hh1 k1 => ?_⟩
    obtain ⟨hp, n0, c0, n10, c10⟩ := szs_ok hsz
    have hb := fld_le hp
    have hnc := mul_le_100 n10 c10
    obtain ⟨yc, yxs, rfl, hyc, hyp⟩ := ty
    have ey := fi_map hyp
    subst ey
    refine ⟨yc, _, rfl, SqT.of hyc, rfl, _, _, rfl, _, _, rfl, _, _, rfl, rfl, ?_⟩
    refine ⟨_, rfl, a, d, 3, rfl, by decide, hh1, fun r1 H2 r10 r11 hh2 k2 => ?_⟩
    obtain ⟨g1, rfl⟩ : ∃ g : Nat, r1 = (g : Int) := ⟨r1.toNat, by omega⟩
    have k2 := k1.trans k2
    refine ⟨_, _, rfl, rfl, 1 + (g1 : Int), rfl, by omega, by omega, fun D hD => lc_range (lo := 0) (n := (1 + (g1 : Int)).toNat) (fun i H' => ∃ ys qss, H' D = some (.lst ys) ∧ Paired (T3 H') ys qss ∧ qss.length = i ∧ (∀ qs ∈ qss, Qls p (n * c) qs) ∧ HandAt H' a d ∧ Keep a H2 H') ⟨[], [], upd_same, .nil, rfl, (fun r z => nomatch z), hh2.new hD, Keep.new hD⟩ ?_ ?_⟩
    · rintro i H3 hi ⟨ys, qss, eD, pD, lq, okq, hh3, k3⟩
      have nD := hh2.ne hD
      refine ⟨rfl, _, rfl, _, rfl, _, rfl, _, rfl, _, _, rfl, rfl, .inl ⟨by omega, by omega⟩, ?_⟩
      dsimp only
      rw [show ((n : Int) * (c : Int)) = ((n * c : Nat) : Int) from (Int.natCast_mul n c).symm]
      refine ⟨a, d, p, n * c, rfl, hh3, by omega, hnc, fun y qs H4 t3 ri q0 q14 qm hh4 k4 => ?_⟩
      have tk := hh3.tk k4
      have eD := k4 _ _ nD.1.symm eD
      have tkp : TK H4 (upd H4 D (.lst (ys ++ [y]))) := TK.put eD fun xs z => nomatch z
      refine ⟨ys, eD, by rw [paired_len pD, lq]; exact small1000 (by omega), ys ++ [y], qss ++ [qs], upd_same, paired_app (paired_mono (fun _ _ x => stb3 _ _ _ _ (tk.trans tkp) x) pD) (.cons (stb3 _ _ _ _ tkp t3) .nil), by rw [List.length_append, lq]; rfl, fun q hq => ?_, hh4.put nD.1 nD.2, fun b u hb eb => ?_⟩
      · rcases List.mem_append.mp hq with h | h
        · exact okq q h
        · rw [List.mem_singleton.mp h]
          exact ⟨ri, q0, q14, qm⟩
      · rw [upd_ne (ne_of_none eb hD)]
        exact k4 b u hb (k3 b u hb eb)
    · rintro H3 ⟨ys, qss, eD, pD, lq, okq, hh3, k3⟩
      refine ⟨D, _, rfl, .inl ⟨SqL.of eD, fun T hT => ?_⟩⟩
      have k4 : Keep a H (upd H3 T (.tup ys)) := k2.trans (k3.trans (Keep.new hT))
      have t4 : T4 (upd H3 T (.tup ys)) (.ref T) qss := ⟨T, ys, rfl, upd_same, paired_mono (fun _ _ x => stb3 _ _ _ _ (TK.new hT) x) pD⟩
      have eT : upd H3 T (.tup ys) T = some (.tup ys) := upd_same
      have hh4 := hh3.new (o := .tup ys) hT
      generalize upd H3 T (.tup ys) = H4 at k4 t4 eT hh4 ⊢
      have l3 : qss.length ≤ 3 := by omega
      have l0 : 0 < qss.length := by omega
      have elq := paired_len pD
      refine ⟨(by show 0 ≤ sizeLine; decide), fun R hR => ?_⟩
      have nR := hh4.ne hR
      have k5 : Keep a H (upd H4 R (.lst [])) := k4.trans (Keep.new hR)
      have t4 := stb4 _ _ _ _ (TK.new (u := .lst []) hR) t4
      have hh5 := hh4.new (o := .lst []) hR
      have eR : upd H4 R (.lst []) R = some (.lst []) := upd_same
      have eT := same_new (o := .lst []) hR _ _ eT
      generalize upd H4 R (.lst []) = H5 at k5 t4 hh5 eR eT ⊢
      refine ⟨_, rfl, a, d, 4, rfl, by decide, hh5, fun r2 H6 r20 r21 hh6 k6 => ?_⟩
      have tk6 := hh5.tk k6
      have eR := k6 _ _ nR.1.symm eR
      have t4 := stb4 _ _ _ _ tk6 t4
      have eT := tk6 _ _ eT
      have k6 := k5.trans k6
      obtain ⟨g2, rfl⟩ : ∃ g : Nat, r2 = (g : Int) := ⟨r2.toNat, by omega⟩
      refine ⟨_, _, rfl, rfl, 1 + (g2 : Int), rfl, by omega, by omega, for_range (lo := 0) (n := (1 + (g2 : Int)).toNat) (fun i σ H' => ∃ (ys : List V) (ds : List (Int × List (List Int))) (v6 v7 v8 : Option V), σ = [some (.ref a), some (.int p), some (.int (n : Int)), some (.int (c : Int)), some (.ref T), some (.ref R), v6, v7, v8, none, none, none] ∧ H' R = some (.lst ys) ∧ Paired (TD H') ys ds ∧
        ds.length = i ∧ (∀ q ∈ ds, Dok c (lens qss) q) ∧ T4 H' (.ref T) qss ∧ HandAt H' a d ∧ Keep a H H') ⟨[], [], none, none, none, rfl, eR, .nil, rfl, (fun r z => nomatch z), t4, hh6, k6⟩ ?_ ?_⟩
      · rintro i σ H7 hi ⟨ys, ds, v6, v7, v8, rfl, eR, pR, ld, okd, t4, hh7, k7⟩
        refine ⟨_, rfl, a, d, 9, rfl, by decide, hh7, fun s1 H8 s10 s11 hh8 k8 => ?_⟩
        refine ⟨_, _, rfl, rfl, ?_⟩
        refine ⟨_, _, rfl, rfl, ⟨by decide, by decide, by decide⟩, _, rfl, a, d, 9, rfl, by decide, hh8, fun s2 H9 s20 s21 hh9 k9 => ?_⟩
        have tk9 := (hh7.tk k8).trans (hh8.tk k9)
        have eR := k9 _ _ nR.1.symm (k8 _ _ nR.1.symm eR)
        have pR := paired_mono (fun _ _ x => stb_TD _ _ _ _ tk9 x) pR
        have t4 := stb4 _ _ _ _ tk9 t4
        have k9 := k7.trans (k8.trans k9)
        refine ⟨_, _, rfl, rfl, (by show 3 ≤ sizeLine; decide), fun q nq => ?_⟩
        have nqa := hh9.ne nq
        have eR := same_new (o := .lst [.int (1 + s1), .int 1, .int (10 ^ (30 : Int).toNat + s2)]) nq _ _ eR
        have pR := paired_mono (fun _ _ x => stb_TD _ _ _ _ (TK.new (u := .lst [.int (1 + s1), .int 1, .int (10 ^ (30 : Int).toNat + s2)]) nq) x) pR
        have t4 := stb4 _ _ _ _ (TK.new (u := .lst [.int (1 + s1), .int 1, .int (10 ^ (30 : Int).toNat + s2)]) nq) t4
        have hhA := hh9.new (o := .lst [.int (1 + s1), .int 1, .int (10 ^ (30 : Int).toNat + s2)]) nq
        have kA : Keep a H (upd H9 q (.lst [.int (1 + s1), .int 1, .int (10 ^ (30 : Int).toNat + s2)])) := k9.trans (Keep.new nq)
        have eq : upd H9 q (.lst [.int (1 + s1), .int 1, .int (10 ^ (30 : Int).toNat + s2)]) q = some (.lst [.int (1 + s1), .int 1, .int (10 ^ (30 : Int).toNat + s2)]) := upd_same
        generalize upd H9 q (.lst [.int (1 + s1), .int 1, .int (10 ^ (30 : Int).toNat + s2)]) = HA at eR pR t4 hhA kA eq ⊢
        refine ⟨_, rfl, a, d, 3, rfl, by decide, hhA, fun s3 HB s30 s31 hhB kB => ?_⟩
        have tkB := hhA.tk kB
        have eR := kB _ _ nR.1.symm eR
        have eq := kB _ _ nqa.1.symm eq
        have pR := paired_mono (fun _ _ x => stb_TD _ _ _ _ tkB x) pR
        have t4 := stb4 _ _ _ _ tkB t4
        have kB := kA.trans kB
        obtain ⟨wt, wt0, hw⟩ : ∃ wt : Int, 0 < wt ∧ ∀ Q' : VK, Q' (.int wt) HB → rIxL K (.ref q) (.int s3) HB Q' := by
          have hd : s3 = 0 ∨ s3 = 1 ∨ s3 = 2 := by omega
          rcases hd with e | e | e
          · subst e
            exact ⟨1 + s1, by omega, fun Q' h => ⟨q, _, 0, _, rfl, rfl, SqL.of eq, rfl, h⟩⟩
          · subst e
            exact ⟨1, by decide, fun Q' h => ⟨q, _, 1, _, rfl, rfl, SqL.of eq, rfl, h⟩⟩
          · subst e
            exact ⟨10 ^ (30 : Int).toNat + s2, by rw [big30']; omega, fun Q' h => ⟨q, _, 2, _, rfl, rfl, SqL.of eq, rfl, h⟩⟩
        refine hw _ ?_
        clear hw
        refine ⟨_, rfl, (c : Int), rfl, by omega, by omega, fun D1 hD1 => lc_range (lo := 0) (n := c) (fun j H' => ∃ zs rows, H' D1 = some (.lst zs) ∧ Paired (T1 H') zs rows ∧ rows.length = j ∧ (∀ r ∈ rows, r.length = (lens qss).length ∧ ∀ j, j < (lens qss).length → 0 ≤ at0 r j ∧ at0 r j < at0 (lens qss) j) ∧ HandAt H' a d ∧ Keep a HB H') ⟨[], [], upd_same, .nil, rfl, (fun r z => nomatch z), hhB.new hD1, Keep.new hD1⟩ ?_ ?_⟩
        · rintro j HC hj ⟨zs, rows, eD1, pD1, lr, okr, hhC, kC⟩
          have nD1 := hhB.ne hD1
          have t4C := stb4 _ _ _ _ (hhB.tk kC) t4
          obtain ⟨T', txs, eT', hTx, hTp⟩ := id t4C
          cases eT'
          have elt := paired_len hTp
          refine ⟨rfl, _, rfl, T, rfl, ⟨_, SqT.of hTx⟩, fun D2 hD2 => lc_tup (K := K) (a := T) (xs := txs) (fun m H' => ∃ rs : List Int, H' D2 = some (.lst (rs.map V.int)) ∧ rs.length = m ∧ (∀ i, i < m → 0 ≤ at0 rs i ∧ at0 rs i < at0 (lens qss) i) ∧ HandAt H' a d ∧ Keep a HC H') ⟨[], upd_same, rfl, (fun i z => nomatch z), hhC.new hD2, Keep.new hD2⟩ (fun i H' _ z => by
            obtain ⟨_, _, _, _, _, kz⟩ := z
            exact SqT.of (hhC.tk kz _ _ hTx)) ?_ ?_⟩
          · rintro m x HD hx ⟨rs, eD2, lm, okm, hhD, kD⟩
            have nD2 := hhC.ne hD2
            obtain ⟨qs, hqs, fq⟩ := paired_at hTp hx
            obtain ⟨qc, qxs, rfl, hqc, hqp⟩ := stb3 _ _ _ _ (hhC.tk kD) fq
            have hm : m < qss.length := (List.getElem?_eq_some_iff.mp hqs).1
            have okq1 := okq qs (List.mem_of_getElem? hqs)
            refine ⟨rfl, _, rfl, _, rfl, qc, _, rfl, .inr (SqT.of hqc), ?_⟩
            rw [paired_len hqp]
            refine ⟨a, d, _, rfl, by have := okq1.2.1; omega, hhD, fun r HE r0 r1 hhE kE => ?_⟩
            have el : at0 (lens qss) m = (qs.length : Int) := by
              rw [at0_lt (by rw [lens_len]; exact hm)]
              unfold lens
              rw [List.getElem_map]
              rw [List.getElem?_eq_getElem hm] at hqs
              rw [Option.some.inj hqs]
            obtain ⟨p1, p2⟩ := row_put lm okm r0 (by rw [el]; exact r1)
            refine ⟨_, kE D2 _ nD2.1.symm eD2, by rw [List.length_map]; exact small1000 (by omega), rs ++ [r], by rw [upd_same, List.map_append]; rfl, p1, p2, hhE.put nD2.1 nD2.2, fun b u hb eb => ?_⟩
            rw [upd_ne (ne_of_none eb hD2)]
            exact kE b u hb (kD b u hb eb)
          · rintro HD ⟨rs, eD2, lm, okm, hhD, kD⟩
            refine ⟨D2, _, rfl, .inl ⟨SqL.of eD2, fun Z hZ => ?_⟩⟩
            have eD1 := kD _ _ nD1.1.symm eD1
            have tkD : TK HC (upd HD Z (.tup (rs.map V.int))) := (hhC.tk kD).trans (TK.new hZ)
            have eD1 := same_new (o := .tup (rs.map V.int)) hZ _ _ eD1
            have hhE := hhD.new (o := .tup (rs.map V.int)) hZ
            have t1 : T1 (upd HD Z (.tup (rs.map V.int))) (.ref Z) rs := T1.mk upd_same
            have kE : Keep a HC (upd HD Z (.tup (rs.map V.int))) := kD.trans (Keep.new hZ)
            generalize upd HD Z (.tup (rs.map V.int)) = HE at tkD eD1 hhE t1 kE ⊢
            have tkp : TK HE (upd HE D1 (.lst (zs ++ [.ref Z]))) := TK.put eD1 fun xs z => nomatch z
            refine ⟨zs, eD1, by rw [paired_len pD1, lr]; exact small1000 (by omega), zs ++ [.ref Z], rows ++ [rs], upd_same, paired_app (paired_mono (fun _ _ x => stb1 _ _ _ _ (tkD.trans tkp) x) pD1) (.cons (stb1 _ _ _ _ tkp t1) .nil), by rw [List.length_append, lr]; rfl, fun r hr2 => ?_, hhE.put nD1.1 nD1.2, fun b u hb eb => ?_⟩
            · rcases List.mem_append.mp hr2 with h | h
              · exact okr r h
              · rw [List.mem_singleton.mp h, lens_len, ← elt, lm]
                exact ⟨rfl, okm⟩
            · rw [upd_ne (ne_of_none eb hD1)]
              exact kE b u hb (kC b u hb eb)
        · rintro HC ⟨zs, rows, eD1, pD1, lr, okr, hhC, kC⟩
          refine ⟨D1, _, rfl, .inl ⟨SqL.of eD1, fun Z hZ => ?_⟩⟩
          have tkC : TK HB (upd HC Z (.tup zs)) := (hhB.tk kC).trans (TK.new hZ)
          have t2 : T2 (upd HC Z (.tup zs)) (.ref Z) rows := ⟨Z, zs, rfl, upd_same, paired_mono (fun _ _ x => stb1 _ _ _ _ (TK.new hZ) x) pD1⟩
          have eR := same_new (o := .tup zs) hZ _ _ (kC _ _ nR.1.symm eR)
          have pR := paired_mono (fun _ _ x => stb_TD _ _ _ _ tkC x) pR
          have t4 := stb4 _ _ _ _ tkC t4
          have hhD := hhC.new (o := .tup zs) hZ
          have kD : Keep a H (upd HC Z (.tup zs)) := kB.trans (kC.trans (Keep.new hZ))
          generalize upd HC Z (.tup zs) = HD at t2 eR pR t4 hhD kD ⊢
          refine ⟨_, rfl, .inl ⟨rfl, _, SqL.of eR⟩, _, rfl, _, rfl, (by show 2 ≤ sizeLine; decide), fun Y hY => ?_⟩
          have eR := same_new (o := .tup [.int wt, .ref Z]) hY _ _ eR
          have pR := paired_mono (fun _ _ x => stb_TD _ _ _ _ (TK.new (u := .tup [.int wt, .ref Z]) hY) x) pR
          have t4 := stb4 _ _ _ _ (TK.new (u := .tup [.int wt, .ref Z]) hY) t4
          have td : TD (upd HD Y (.tup [.int wt, .ref Z])) (.ref Y) (wt, rows) := ⟨Y, .ref Z, rfl, upd_same, stb2 _ _ _ _ (TK.new hY) t2⟩
          have hhE := hhD.new (o := .tup [.int wt, .ref Z]) hY
          have kE : Keep a H (upd HD Y (.tup [.int wt, .ref Z])) := kD.trans (Keep.new hY)
          generalize upd HD Y (.tup [.int wt, .ref Z]) = HE at eR pR t4 td hhE kE ⊢
          have tkp : TK HE (upd HE R (.lst (ys ++ [.ref Y]))) := TK.put eR fun xs z => nomatch z
          refine ⟨R, ys, _, rfl, rfl, eR, by rw [paired_len pR]; exact small1000 (by omega), ys ++ [.ref Y], ds ++ [(wt, rows)], _, _, _, rfl, upd_same, paired_app (paired_mono (fun _ _ x => stb_TD _ _ _ _ tkp x) pR) (.cons (stb_TD _ _ _ _ tkp td) .nil), by rw [List.length_append, ld]; rfl, fun q hq => ?_, stb4 _ _ _ _ tkp t4, hhE.put nR.1 nR.2, fun b u hb eb => ?_⟩
          · rcases List.mem_append.mp hq with h | h
            · exact okd q h
            · rw [List.mem_singleton.mp h]
              refine ⟨wt0, lr, ?_, by omega, okr⟩
              rw [lens_len]
              exact Nat.le_trans (Nat.mul_le_mul c10 l3) (by decide)
          · have nbR : b ≠ R := by
              intro z
              subst z
              have z := k4 _ _ hb eb
              rw [hR] at z
              cases z
            rw [upd_ne nbR]
            exact kE b u hb eb
      · rintro σ H7 ⟨ys, ds, v6, v7, v8, rfl, eR, pR, ld, okd, t4, hh7, k7⟩
        refine ⟨_, rfl, _, rfl, _, rfl, _, rfl, _, rfl, R, ys, rfl, .inl ⟨SqL.of eR, fun Z hZ => ?_⟩⟩
        have tkZ : TK H7 (upd H7 Z (.tup ys)) := TK.new hZ
        have tdv : TF TD (upd H7 Z (.tup ys)) (.ref Z) ds := ⟨Z, ys, rfl, upd_same, paired_mono (fun _ _ x => stb_TD _ _ _ _ tkZ x) pR⟩
        have t4 := stb4 _ _ _ _ tkZ t4
        have hh8 := hh7.new (o := .tup ys) hZ
        have k8 : Keep a H (upd H7 Z (.tup ys)) := k7.trans (Keep.new hZ)
        generalize upd H7 Z (.tup ys) = H8 at tdv t4 hh8 k8 ⊢
        refine ⟨(by show 5 ≤ sizeLine; decide), fun l hl => ?_⟩
        exact kk l _ p n c (.ref T) (.ref Z) qss ds ⟨upd_same, stb4 _ _ _ _ (TK.new hl) t4, stb_TF stb_TD _ _ _ _ (TK.new hl) tdv⟩ ⟨hsz, l0, l3, okq, by omega, by omega, okd⟩ (fun z => (hh8.ne hl).1 z.symm) (hh8.new hl) (k8.trans (Keep.new hl))
end
end WU

set_option maxRecDepth 100000
set_option maxHeartbeats 8000000
namespace WU
open PySem PySem.Spec PyProof.Rows L2
/-! ### == of instances of own classes -/
def rIns (K : PySem.W.Frag) (C : Addr) (sp : Sp) : R2 := fun x y H Q => ∃ a dx fs b C' dy gs, x = .ref a ∧ y = .ref b ∧ H a = some (.ins C dx fs) ∧ H b = some (.ins C' dy gs) ∧ PySem.W.notFirst K C (.ref C') = true ∧ sp [x, y] H (fun v H' => (∃ b, v = .bl b) ∧ Q v H') E0
section
variable {X : Cx} {C g : Addr} {fd : FuncData} {k : Nat} {sp : Sp}
theorem op_ins0 (hs : PySem.W.findIn X.K (.ref C) "__eq__" = some (some (.ref g))) (hf : PySem.W.isFn X.K (.ref g) = true) (G : FnOk X.prog X.w X.K X.mg X.base (L2.CX X.prog X.w) k g fd ["self", "other"] sp) (hb : L2.Binds X.K fd ["self", "other"] []) (hr : Room k X.A) :
    OpR X (compareOp .Eq) (rIns X.K C sp) := by
  intro pn st sg HH x y v u Q I rx ry ⟨a, dx, fs, b, C', dy, gs, e1, e2, ea, eb, nf, q⟩
  subst e1 e2
  cases rx
  cases ry
  obtain ⟨mem, fr⟩ := I.fr
  obtain ⟨_, Ja, _⟩ := ins_get I.hok ea
  obtain ⟨od, Ja, _⟩ := Ja.look
  obtain ⟨_, Jb, _⟩ := ins_get I.hok eb
  obtain ⟨od', Jb, _⟩ := Jb.look
  have go := run_fn (us := [.ref a, .ref b]) (vs := [.ref a, .ref b]) G hr hb .nil passU I (.cons rfl (.cons rfl .nil)) q
  show wpAny (model X.prog X.w) X.A (richCompare .Eq (.ref a) (.ref b)) (EP X pn sg Q) X.xe st
  refine PySem.W.cmp_K (op := .Eq) hr.units0 fr I.ok.mod.kin Ja Jb.type nf hs hf (wpAny_mono go (fun w s' z => ?_) fun _ _ e => e)
  obtain ⟨z', H', I', rz, ⟨t, ez⟩, qz⟩ := z
  subst ez
  cases rz
  exact ⟨.bl t, H', I', rfl, qz⟩
theorem op_ins {K : PySem.W.Frag} (hs : PySem.W.findIn K (.ref C) "__eq__" = some (some (.ref g))) (hf : PySem.W.isFn K (.ref g) = true) (G : FnOk X.prog X.w X.K X.mg X.base (L2.CX X.prog X.w) k g fd ["self", "other"] sp) (hb : L2.Binds X.K fd ["self", "other"] []) (hr : Room k X.A) (hK : X.K = K := by rfl) :
    OpR X (compareOp .Eq) (rIns K C sp) := by
  subst hK
  exact op_ins0 hs hf G hb hr
/-- what is never asked -/
theorem pe_nev {e : Expr} : PE X e (fun _ _ _ => False) := ⟨fun _ _ _ _ _ _ h => h.elim⟩
end
/-- the class at C, as isinstance asks -/
structure IsC (K : PySem.W.Frag) (C : Addr) : Prop where
  cl : Cls K C
  ha : PySem.W.findIn K (.ref C) "__class__" = some (some (.builtin "object.__class__"))
  hn : PySem.W.specialIn K (.builtin "object.__class__") "__get__" = some (some (.builtin "getset_descriptor.__get__"))
  htk : PySem.W.takesIn K (.builtin "object.__class__") = some true
  hm : PySem.W.mroIn K C (.type "object") = some true
theorem IsC.ty {K : PySem.W.Frag} {C : Addr} (c : IsC K C) {H : Hp} {a dx : Addr} {fs : List (Str × V)} (h : H a = some (.ins C dx fs)) : TyX K H (.ref a) (.ref C) := .base (.ins h c.cl c.ha c.hn c.htk c.hm)
/-- its fields are its own -/
structure PxC (K : PySem.W.Frag) (L : Addr) : Prop where
  cl : Cls K L
  nP : NoAttr K L "p"
  nL : NoAttr K L "book_length"
  nC : NoAttr K L "book_count"
  nH : NoAttr K L "house_count"
  nQ : NoAttr K L "questions"
  nD : NoAttr K L "draws"
  nW : NoAttr K L "weight"
theorem PlC.px {K : PySem.W.Frag} {mg : Str → Option Value} {L : Addr} (c : PlC K mg L) : PxC K L := ⟨c.cl, c.nP, c.nL, c.nC, c.nH, c.nQ, c.nD, c.nW⟩
theorem TpC.px {K : PySem.W.Frag} {mg : Str → Option Value} {L : Addr} (c : TpC K mg L) : PxC K L := ⟨c.cl, c.nP, c.nL, c.nC, c.nH, c.nQ, c.nD, c.nW⟩
theorem EqR.same {H H' : Hp} (s : Same H H') : ∀ {n : Nat} {u v : V}, EqR n H u v → EqR n H' u v
  | 0, _, _, h => h
  | n + 1, _, _, .inl h => .inl h
  | n + 1, _, _, .inr ⟨a, b, xs, ys, e1, e2, h1, h2, p, l⟩ => .inr ⟨a, b, xs, ys, e1, e2, rd_same s h1, rd_same s h2, paired_mono (fun _ _ q => q.same s) p, l⟩
theorem EqR.le {H : Hp} {u v : V} {n : Nat} (h : EqR n H u v) : ∀ k, EqR (n + k) H u v
  | 0 => h
  | k + 1 => (h.le k).up
/-- the digits of a, the last first -/
def dgs (q a i : Nat) : List Int := (List.range i).map fun k => ((a / q ^ k % q : Nat) : Int)
theorem dgs_rev {q : Nat} : ∀ (t a : Nat), (dgs q a t).reverse = lts q t a
  | 0, _ => rfl
  | t + 1, a => by
    have e : dgs q a (t + 1) = ((a % q : Nat) : Int) :: dgs q (a / q) t := by
      unfold dgs
      rw [List.range_succ_eq_map, List.map_cons, List.map_map]
      congr 1
      · rw [Nat.pow_zero, Nat.div_one]
      · refine List.map_congr_left fun k _ => ?_
        show ((a / q ^ (k + 1) % q : Nat) : Int) = ((a / q / q ^ k % q : Nat) : Int)
        rw [Nat.div_div_eq_div_mul, Nat.pow_succ, Nat.mul_comm (q ^ k) q]
    rw [e, List.reverse_cons, dgs_rev t]
    rfl
section
variable {P : Program} {w : World} {K : PySem.W.Frag} {mg : Str → Option Value} {base : Heap} {L LT : Addr}
/-- C.__eq__(self, other), other of another class -/
def spNe (K : PySem.W.Frag) (L : Addr) : Sp := fun vs H Q _ => ∃ (a b C' dy : Addr) (gs : List (Str × V)), vs = [.ref a, .ref b] ∧ H b = some (.ins C' dy gs) ∧ IsC K C' ∧ PySem.W.kitOne K (.ref C') (.ref L) = some false ∧ Q (.bl false) H
theorem scPlan_eq : FnScope ["self", "other"] ["self", "other"] (defScope sPlan_eq) := ⟨rfl, rfl, rfl, by decide +kernel, rfl, by decide +kernel, by decide +kernel⟩
theorem scTablePlan_eq : FnScope ["self", "other"] ["self", "other"] (defScope sTablePlan_eq) := ⟨rfl, rfl, rfl, by decide +kernel, rfl, by decide +kernel, by decide +kernel⟩
theorem ok_Pe {f : Addr} {fd : FuncData} (F : FunD K "__eq__" "Plan.__eq__" (defArgs sPlan_eq) (defBody sPlan_eq) (defScope sPlan_eq) [] [] f fd) (B : Blt5 mg) (C : PlC K mg L) : FnOk P w K mg base (L2.CX P w) 1 f fd ["self", "other"] (spNe K L) := by
  refine F.ok scPlan_eq (fun vs H Q E h => ?_) (fun cdv A outer s H vs Q E hr h => ?_)
  · obtain ⟨a, b, C', dy, gs, rfl, _⟩ := h
    rfl
  · obtain ⟨a, b, C', dy, gs, rfl, hb, ic, kf, kk⟩ := h
    have nd := scPlan_eq.nd
    refine ⟨_, (pss_one (ps_ret (pe_and (pe_callB (isiK (K := K)) (by rfl) B.isi (by decide +kernel) (pa_cons (pv 1) (pa_cons (pe_glob (v := .ref L) rfl C.g rfl) pa_nil))) (pe_one pe_nev)))), ?_⟩
    exact ⟨_, rfl, _, _, _, _, _, rfl, .own L, ic.ty hb, kf, _, rfl, iteF kk⟩
theorem ok_Te {f : Addr} {fd : FuncData} (F : FunD K "__eq__" "TablePlan.__eq__" (defArgs sTablePlan_eq) (defBody sTablePlan_eq) (defScope sTablePlan_eq) [] [] f fd) (B : Blt5 mg) (C : TpC K mg LT) : FnOk P w K mg base (L2.CX P w) 1 f fd ["self", "other"] (spNe K LT) := by
  refine F.ok scTablePlan_eq (fun vs H Q E h => ?_) (fun cdv A outer s H vs Q E hr h => ?_)
  · obtain ⟨a, b, C', dy, gs, rfl, _⟩ := h
    rfl
  · obtain ⟨a, b, C', dy, gs, rfl, hb, ic, kf, kk⟩ := h
    have nd := scTablePlan_eq.nd
    refine ⟨_, (pss_one (ps_ret (pe_and (pe_callB (isiK (K := K)) (by rfl) B.isi (by decide +kernel) (pa_cons (pv 1) (pa_cons (pe_glob (v := .ref LT) rfl C.g rfl) pa_nil))) (pe_one pe_nev)))), ?_⟩
    exact ⟨_, rfl, _, _, _, _, _, rfl, .own LT, ic.ty hb, kf, _, rfl, iteF kk⟩
/-- _law_letters(p, many, at) -/
def spLlt : Sp := fun vs H Q _ => ∃ (q t a : Nat), vs = [.int q, .int t, .int a] ∧ 2 ≤ q ∧ q ≤ 31 ∧ t ≤ 6 ∧ ∀ y H', Same H H' → T1 H' y (lts q t a) → Q y H'
theorem sclaw_letters : FnScope ["p", "many", "at", "rest", "found", "step"] ["p", "many", "at"] (defScope s_law_letters) := ⟨rfl, rfl, rfl, by decide +kernel, rfl, by decide +kernel, by decide +kernel⟩
theorem ok_Llt {f : Addr} {fd : FuncData} (F : FnS K "_law_letters" s_law_letters f fd) (B : Blt5 mg) : FnOk P w K mg base (L2.CX P w) 1 f fd ["p", "many", "at"] spLlt := by
  refine F.ok sclaw_letters (fun vs H Q E h => ?_) (fun cdv A outer s H vs Q E hr h => ?_)
  · obtain ⟨q, t, a, rfl, _⟩ := h
    rfl
  · obtain ⟨q, t, a, rfl, h1, h2, h3, kk⟩ := h
    have nd := sclaw_letters.nd
    refine ⟨_, (pss_cons (ps_set (i := 3) nd rfl (Or.inl rfl) (pv 2))
      (pss_cons (ps_set (i := 4) nd rfl (Or.inl rfl) (pe_lst pa_nil))
      (pss_cons (ps_for (passes_of rfl) rfl (pi_range1 rfl B.range (pa_cons (pv 1) pa_nil)) (pg_name (i := 5) nd rfl (Or.inl rfl)) (pss_cons (ps_expr (pe_bm PySem.F.plainAttrs_list PySem.F.slot_list_append PySem.F.type_list_append mt_append (pv 4) (pa_cons (pe_op op_modN (pe_callTy call_int1 (by rfl) B.int (by decide +kernel) (pa_cons (pv 3) pa_nil)) (pv 0)) pa_nil)))
      (pss_one (ps_set (i := 3) nd rfl (Or.inl rfl) (pe_op op_fdivN (pv 3) (pv 0))))))
      (pss_one (ps_ret (pe_callTy (tup_ofK (K := K)) (by rfl) B.tuple (by decide +kernel) (pa_cons (pe_revAK (K := K) (pv 4)) pa_nil))))))), ?_⟩
    refine ⟨_, rfl, (by show 0 ≤ sizeLine; decide), fun D hD => ?_⟩
    refine ⟨_, rfl, (t : Int), rfl, by omega, by omega, for_range (lo := 0) (n := t) (fun i σ H' => ∃ v5, σ = [some (.int (q : Int)), some (.int (t : Int)), some (.int (a : Int)), some (.int ((a / q ^ i : Nat) : Int)), some (.ref D), v5] ∧ BX (fun _ => FI) H D (dgs q a i) H') ⟨none, by rw [Nat.pow_zero, Nat.div_one]; rfl, BX.start hD⟩ ?_ ?_⟩
    · rintro i σ H1 hi ⟨v5, rfl, b⟩
      obtain ⟨acc, a1, a2, a3⟩ := b.put (stx_of stb_FI) hD (Same.refl _) (y := .int ((a / q ^ i % q : Nat) : Int)) (z := ((a / q ^ i % q : Nat) : Int)) rfl (by unfold dgs; rw [List.length_map, List.length_range]; exact small1000 (by omega))
      refine ⟨_, rfl, .inl ⟨rfl, _, SqL.of a1⟩, _, rfl, .inl ⟨_, rfl, _, rfl, _, _, rfl, rfl, by omega, ?_⟩⟩
      have em : ((a / q ^ i : Nat) : Int).fmod (q : Int) = ((a / q ^ i % q : Nat) : Int) := by
        rw [Int.fmod_eq_emod_of_nonneg _ (by omega), Int.natCast_emod]
      have ed : ((a / q ^ i : Nat) : Int).fdiv (q : Int) = ((a / q ^ (i + 1) : Nat) : Int) := by
        rw [Int.fdiv_eq_ediv_of_nonneg _ (by omega), ← Int.natCast_ediv, Nat.div_div_eq_div_mul, Nat.pow_succ]
      refine ⟨D, acc, .int ((a / q ^ i % q : Nat) : Int), rfl, congrArg (fun z => [V.int z]) em, a1, a2, ?_⟩
      refine ⟨_, rfl, _, rfl, _, _, rfl, rfl, ⟨by omega, by omega⟩, some (.int (0 + (i : Int))), ?_, ?_⟩
      · rw [← ed]
        rfl
      · unfold dgs at a3 ⊢
        rw [map_range_succ]
        exact a3
    · rintro σ H1 ⟨v5, rfl, b⟩
      obtain ⟨s1, ys, eD, pD⟩ := b.fin (stx_of stb_FI)
      have ey := fi_map pD
      subst ey
      refine ⟨_, rfl, D, _, rfl, .inl ⟨SqL.of eD, fun R hR => ?_⟩⟩
      refine ⟨R, _, rfl, .inl ⟨SqL.of upd_same, fun T hT => ?_⟩⟩
      refine kk _ _ (s1.trans ((same_new hR).trans (same_new hT))) (T1.mk ?_)
      rw [upd_same, ← List.map_reverse, dgs_rev]
/-- _law_power(p, many) -/
def spLpw : Sp := fun vs H Q _ => ∃ (q t : Nat), vs = [.int q, .int t] ∧ 1 ≤ q ∧ q ≤ 31 ∧ t ≤ 6 ∧ Q (.int ((q ^ t : Nat) : Int)) H
theorem sclaw_power : FnScope ["p", "many", "found", "step"] ["p", "many"] (defScope s_law_power) := ⟨rfl, rfl, rfl, by decide +kernel, rfl, by decide +kernel, by decide +kernel⟩
theorem ok_Lpw {f : Addr} {fd : FuncData} (F : FnS K "_law_power" s_law_power f fd) (B : Blt5 mg) : FnOk P w K mg base (L2.CX P w) 1 f fd ["p", "many"] spLpw := by
  refine F.ok sclaw_power (fun vs H Q E h => ?_) (fun cdv A outer s H vs Q E hr h => ?_)
  · obtain ⟨q, t, rfl, _⟩ := h
    rfl
  · obtain ⟨q, t, rfl, h0, h1, h2, kk⟩ := h
    have nd := sclaw_power.nd
    refine ⟨_, (pss_cons (ps_set (i := 2) nd rfl (Or.inl rfl) pe_int)
      (pss_cons (ps_for (passes_of rfl) rfl (pi_range1 rfl B.range (pa_cons (pv 1) pa_nil)) (pg_name (i := 3) nd rfl (Or.inl rfl)) (pss_one (ps_set (i := 2) nd rfl (Or.inl rfl) (pe_op op_mul (pv 2) (pv 0)))))
      (pss_one (ps_ret (pv 2))))), ?_⟩
    refine ⟨_, rfl, (t : Int), rfl, by omega, by omega, for_range (lo := 0) (n := t) (fun i σ H' => ∃ v3, σ = [some (.int (q : Int)), some (.int (t : Int)), some (.int ((q ^ i : Nat) : Int)), v3] ∧ H' = H) ⟨none, rfl, rfl⟩ ?_ ?_⟩
    · rintro i σ H1 hi ⟨v3, rfl, rfl⟩
      refine ⟨_, rfl, _, rfl, _, _, rfl, rfl, .inr ⟨by omega, by omega⟩, some (.int (0 + (i : Int))), ?_, rfl⟩
      rw [Nat.pow_succ, Int.natCast_mul]
      rfl
    · rintro σ H1 ⟨v3, rfl, rfl⟩
      exact ⟨_, rfl, kk⟩
/-- _law_pair(p, question, columns) -/
def spLpr : Sp := fun vs H Q _ => ∃ (q t : Nat) (v : V) (m : List (List Int)), vs = [.int q, v, .int t] ∧ T2 H v m ∧ (q : Int) ∈ primes ∧ t ≤ 6 ∧ q ^ t ≤ 64 ∧ (∀ r ∈ m, Ltr (q : Int) t r) ∧ m.length ≤ 100 ∧ ∀ y H', Same H H' → TQ H' y (tbl q t m) → Q y H'
theorem sclaw_pair : FnScope ["p", "question", "columns", "rows", "at"] ["p", "question", "columns"] (defScope s_law_pair) := ⟨rfl, rfl, rfl, by decide +kernel, rfl, by decide +kernel, by decide +kernel⟩
theorem ok_Lpr {f f1 f2 f3 : Addr} {fd fd1 fd2 fd3 : FuncData} (F : FnS K "_law_pair" s_law_pair f fd) (B : Blt5 mg) (CLw : Cal P w K mg base 1 "_law_power" f1 fd1 ["p", "many"] spLpw) (CLt : Cal P w K mg base 1 "_law_letters" f2 fd2 ["p", "many", "at"] spLlt) (CLA : Cal P w K mg base 2 "_law_answer" f3 fd3 ["p", "question", "letters"] spLA) :
    FnOk P w K mg base (L2.CX P w) 3 f fd ["p", "question", "columns"] spLpr := by
  refine F.ok sclaw_pair (fun vs H Q E h => ?_) (fun cdv A outer s H vs Q E hr h => ?_)
  · obtain ⟨q, t, v, m, rfl, _⟩ := h
    rfl
  · obtain ⟨q, t, v, m, rfl, hv, hp, h2, h3, hm, h4, kk⟩ := h
    have nd := sclaw_pair.nd
    have hb := fld_le hp
    refine ⟨_, (pss_cons (ps_setLc (i := 3) (own := [("at", 4)]) (g := gName 4) (by rfl) nd rfl rfl (sw_true rfl rfl rfl (by decide +kernel)) (pi_range1 rfl B.range (pa_cons (pe_cal CLw (hr.mono (by decide)) (pa_cons (pv 0) (pa_cons (pv 2) pa_nil)) passU) pa_nil)) (blkOk_by (own := [("at", 4)]) (N := ["p", "question", "columns", "rows", "at"]) (sc := defScope s_law_pair) (by decide +kernel)) (fun _ _ _ _ _ => (pg_name (i := 4) nd rfl (Or.inl rfl))) (fun _ _ _ _ _ => pts_nil) (fun _ _ _ _ _ => (pe_cal CLA (hr.mono (by decide)) (pa_cons (pv 0) (pa_cons (pv 1) (pa_cons (pe_cal CLt (hr.mono (by decide)) (pa_cons (pv 0) (pa_cons (pv 2) (pa_cons (pv 4) pa_nil))) passU) pa_nil))) passU)))
      (pss_one (ps_ret (pe_tup (pa_cons (pe_callB (len_seqK (K := K)) (by rfl) B.len (by decide +kernel) (pa_cons (pv 1) pa_nil)) (pa_cons (pe_callTy (tup_ofK (K := K)) (by rfl) B.tuple (by decide +kernel) (pa_cons (pv 3) pa_nil)) pa_nil)))))), ?_⟩
    obtain ⟨c, xs, rfl, hc, hP⟩ := id hv
    refine ⟨_, rfl, _, rfl, q, t, rfl, by omega, by omega, h2, ?_⟩
    refine ⟨((q ^ t : Nat) : Int), rfl, by omega, by omega, fun D hD => lc_range (lo := 0) (n := q ^ t) (fun i H' => BX (fun _ => T1) H D ((List.range i).map fun a => ans q t (lts q t a) m) H') (BX.start hD) ?_ ?_⟩
    · intro i H1 hi b
      rw [Int.zero_add]
      refine ⟨rfl, _, rfl, _, rfl, _, rfl, _, rfl, _, rfl, q, t, i, rfl, by omega, by omega, h2, fun y H2 s2 t2 => ?_⟩
      refine ⟨(q : Int), t, _, y, m, lts q t i, rfl, stb2 _ _ _ _ (TK.of (b.same.trans s2)) hv, t2, hp, hm, lts_len t i, by omega, by omega, fun z H3 s3 t3 => ?_⟩
      obtain ⟨acc, a1, a2, a3⟩ := b.put (stx_of stb1) hD (s2.trans s3) t3 (by rw [List.length_map, List.length_range]; exact small1000 (by omega))
      refine ⟨acc, a1, a2, ?_⟩
      rw [map_range_succ]
      exact a3
    · intro H1 b
      obtain ⟨s1, ys, eD, pD⟩ := b.fin (stx_of stb1)
      refine ⟨_, rfl, c, _, rfl, .inr (SqT.of (s1 _ _ hc)), ?_⟩
      rw [paired_len hP]
      refine ⟨_, rfl, D, _, rfl, .inl ⟨SqL.of eD, fun T hT => ?_⟩⟩
      have s2 : Same H (upd H1 T (.tup ys)) := s1.trans (same_new hT)
      have t2 : T2 (upd H1 T (.tup ys)) (.ref T) ((List.range (q ^ t)).map fun a => ans q t (lts q t a) m) := ⟨T, ys, rfl, upd_same, paired_mono (fun _ _ z => stb1 _ _ _ _ (TK.new hT) z) pD⟩
      generalize upd H1 T (.tup ys) = H2 at s2 t2 ⊢
      refine ⟨(by show 2 ≤ sizeLine; decide), fun W hW => kk _ _ (s2.trans (same_new hW)) ⟨W, _, rfl, upd_same, ?_⟩⟩
      have e : (tbl q t m).2 = (List.range (q ^ t)).map fun a => ans q t (lts q t a) m := by
        show (rowsN q t).map _ = _
        rw [rows_lts (by omega), List.map_map]
        rfl
      rw [e]
      exact stb2 _ _ _ _ (TK.new hW) t2
/-- _law_is_plan(plan, parts) -/
def IsAt (K : PySem.W.Frag) (H : Hp) (x l : Addr) : Prop := ∃ (C dx qa da : Addr) (p : Int) (n c hc : Nat) (q0 d0 : V) (qxs dxs : List V) (ws : List Int), PxC K C ∧ H x = some (.ins C dx (pf p n c hc q0 d0 ws.sum)) ∧ H l = some (.lst [.int p, .int n, .int c, .ref qa, .ref da]) ∧
  H qa = some (.tup qxs) ∧ qxs.length = hc ∧ H da = some (.tup dxs) ∧ Paired (fun v (w : Int) => ∃ e y, v = .ref e ∧ H e = some (.tup [.int w, y])) dxs ws ∧ ws.length ≤ 900 ∧ EqR 5 H q0 (.ref qa) ∧ EqR 5 H d0 (.ref da)
def spLis (K : PySem.W.Frag) : Sp := fun vs H Q _ => ∃ (x l : Addr), vs = [.ref x, .ref l] ∧ IsAt K H x l ∧ ∀ H', Same H H' → Q (.bl true) H'
theorem sclaw_is_plan : FnScope ["plan", "parts", "p", "size", "count", "questions", "draws", "told", "weight", "draw"] ["plan", "parts"] (defScope s_law_is_plan) := ⟨rfl, rfl, rfl, by decide +kernel, rfl, by decide +kernel, by decide +kernel⟩
theorem ok_Lis {f f1 : Addr} {fd fd1 : FuncData} (F : FnS K "_law_is_plan" s_law_is_plan f fd) (B : Blt5 mg) (CS : Cal P w K mg base 6 "_law_same" f1 fd1 ["found", "due"] (spSr 5)) : FnOk P w K mg base (L2.CX P w) 7 f fd ["plan", "parts"] (spLis K) := by
  refine F.ok sclaw_is_plan (fun vs H Q E h => ?_) (fun cdv A outer s H vs Q E hr h => ?_)
  · obtain ⟨x, l, rfl, _⟩ := h
    rfl
  · obtain ⟨x, l, rfl, ⟨L, dx, qa, da, p, n, c, hc, q0, d0, qxs, dxs, ws, C, hx, hl, hqa, hql, hda, hdp, hw9, eq5, ed5⟩, kk⟩ := h
    have nd := sclaw_is_plan.nd
    refine ⟨_, (pss_cons (ps_asg (pv 1) (pg_unl (K := K) rfl (pgs_cons (pg_name (i := 2) nd rfl (Or.inl rfl)) (pgs_cons (pg_name (i := 3) nd rfl (Or.inl rfl)) (pgs_cons (pg_name (i := 4) nd rfl (Or.inl rfl)) (pgs_cons (pg_name (i := 5) nd rfl (Or.inl rfl)) (pgs_cons (pg_name (i := 6) nd rfl (Or.inl rfl)) pgs_nil)))))))
      (pss_cons (ps_set (i := 7) nd rfl (Or.inl rfl) (pe_tup (pa_cons (pe_fld (pv 0) rfl) (pa_cons (pe_fld (pv 0) rfl) (pa_cons (pe_fld (pv 0) rfl) (pa_cons (pe_fld (pv 0) rfl) pa_nil))))))
      (pss_cons (ps_if (pt_not (pt_val (pe_cal CS (hr.mono (by decide)) (pa_cons (pv 7) (pa_cons (pe_tup (pa_cons (pv 2) (pa_cons (pv 3) (pa_cons (pv 4) (pa_cons (pe_callB (len_seqK (K := K)) (by rfl) B.len (by decide +kernel) (pa_cons (pv 5) pa_nil)) pa_nil))))) pa_nil)) passU))) (pss_one (ps_ret pe_bl)) pss_nil)
      (pss_cons (ps_set (i := 8) nd rfl (Or.inl rfl) (pe_callB (cr_sumK (K := K) rfl) (by rfl) B.sum (by decide +kernel) (pa_cons (pe_lc (own := [("draw", 9)]) (g := gName 9) (by rfl) nd (pi_tupK (K := K) (pv 6)) (blkOk_by (own := [("draw", 9)]) (N := ["plan", "parts", "p", "size", "count", "questions", "draws", "told", "weight", "draw"]) (sc := defScope s_law_is_plan) (by decide +kernel)) (fun _ _ _ _ _ => (pg_name (i := 9) nd rfl (Or.inl rfl))) (fun _ _ _ _ _ => pts_nil) (fun _ _ _ _ _ => (pe_callTy call_int1 (by rfl) B.int (by decide +kernel) (pa_cons (pe_ix (ix_tupK (K := K)) (pv 9) pe_int (fun _ _ => rfl)) pa_nil)))) pa_nil)))
      (pss_one (ps_ret (pe_and (pe_cal CS (hr.mono (by decide)) (pa_cons (pe_fld (pv 0) rfl) (pa_cons (pv 5) pa_nil)) passU) (pe_and (pe_cal CS (hr.mono (by decide)) (pa_cons (pe_fld (pv 0) rfl) (pa_cons (pv 6) pa_nil)) passU) (pe_one (pe_cal CS (hr.mono (by decide)) (pa_cons (pe_fld (pv 0) rfl) (pa_cons (pv 8) pa_nil)) passU)))))))))), ?_⟩
    refine ⟨_, rfl, l, _, rfl, SqL.of hl, rfl, _, _, rfl, _, _, rfl, _, _, rfl, _, _, rfl, _, _, rfl, rfl, ?_⟩
    refine ⟨_, rfl, x, L, dx, _, _, rfl, hx, C.cl, C.nP, pf_p, _, rfl, x, L, dx, _, _, rfl, hx, C.cl, C.nL, pf_book_length, _, rfl, x, L, dx, _, _, rfl, hx, C.cl, C.nC, pf_book_count, _, rfl, x, L, dx, _, _, rfl, hx, C.cl, C.nH, pf_house_count, (by show 4 ≤ sizeLine; decide), fun t ht => ?_⟩
    have s1 := same_new (o := .tup [.int p, .int n, .int c, .int hc]) ht
    have et : upd H t (.tup [.int p, .int n, .int c, .int hc]) t = some (.tup [.int p, .int n, .int c, .int hc]) := upd_same
    generalize upd H t (.tup [.int p, .int n, .int c, .int hc]) = H1 at s1 et ⊢
    refine ⟨_, rfl, _, rfl, _, rfl, _, rfl, _, rfl, qa, _, rfl, .inr (SqT.of (s1 _ _ hqa)), (by show 4 ≤ sizeLine; decide), fun u hu => ?_⟩
    rw [hql]
    have s2 := same_new (o := .tup [.int p, .int n, .int c, .int hc]) hu
    have eu : upd H1 u (.tup [.int p, .int n, .int c, .int hc]) u = some (.tup [.int p, .int n, .int c, .int hc]) := upd_same
    generalize upd H1 u (.tup [.int p, .int n, .int c, .int hc]) = H2 at s2 eu ⊢
    refine ⟨.ref t, .ref u, rfl, (eqr1 (r := [p, n, c, hc]) (T1.mk (s2 _ _ et)) (T1.mk eu) (by show 4 ≤ 10000; decide)).le 4, _, rfl, iteF ?_⟩
    have s2 := s1.trans s2
    refine ⟨_, rfl, da, rfl, ⟨_, SqT.of (s2 _ _ hda)⟩, fun D hD => lc_tup (K := K) (a := da) (xs := dxs) (fun i H' => BX (fun _ => FI) H2 D (ws.take i) H') (BX.start hD) (fun i H' _ b => SqT.of (b.same _ _ (s2 _ _ hda))) ?_ ?_⟩
    · rintro i y H3 hy b
      obtain ⟨wt, hwt, cd, yv, rfl, hcd⟩ := paired_at hdp hy
      obtain ⟨acc, a1, a2, a3⟩ := b.put (stx_of stb_FI) hD (Same.refl _) (y := .int wt) (z := wt) rfl (by rw [List.length_take]; exact small1000 (by omega))
      refine ⟨rfl, _, rfl, cd, _, (0 : Int), _, rfl, rfl, SqT.of (b.same _ _ (s2 _ _ hcd)), rfl, .inl ⟨_, rfl, _, a1, a2, ?_⟩⟩
      rw [List.take_succ, hwt]
      exact a3
    · rintro H3 b
      rw [paired_len hdp, List.take_length] at b
      obtain ⟨z1, zs, eD, pD⟩ := b.fin (stx_of stb_FI)
      have ez := fi_map pD
      subst ez
      have s3 := s2.trans z1
      refine ⟨D, _, rfl, SqL.of eD, ?_⟩
      refine ⟨_, rfl, x, L, dx, _, _, rfl, s3 _ _ hx, C.cl, C.nQ, pf_questions, _, rfl, _, _, rfl, eq5.same s3, _, rfl, iteT ?_⟩
      refine ⟨_, rfl, x, L, dx, _, _, rfl, s3 _ _ hx, C.cl, C.nD, pf_draws, _, rfl, _, _, rfl, ed5.same s3, _, rfl, iteT ?_⟩
      exact ⟨_, rfl, x, L, dx, _, _, rfl, s3 _ _ hx, C.cl, C.nW, pf_weight, _, rfl, _, _, rfl, .inl ⟨_, rfl, rfl⟩, kk _ s3⟩
end
end WU

set_option maxRecDepth 100000
set_option maxHeartbeats 8000000
namespace WU
open PySem PySem.Spec PyProof.Rows L2
section
variable {P : Program} {w : World} {K : PySem.W.Frag} {mg : Str → Option Value} {base : Heap} {S : Addr}
/-- _law_rising(rows) of data, a tuple that is new -/
def spRsN {α : Type} (G : Hp → V → α → Prop) (d : α → PyData) : Sp := fun vs H Q _ => ∃ (a : Addr) (xs : List V) (ms : List α), vs = [.ref a] ∧ H a = some (.lst xs) ∧ Paired (G H) xs ms ∧ ms.Nodup ∧ ms.length ≤ 100 ∧ ∀ y qs H', Same H H' → NF G H' y qs → RisG d qs → qs.Perm ms → Q y H'
theorem ok_RsN {α : Type} {G : Hp → V → α → Prop} {d : α → PyData} (st : Stb G) (hd : Dt K G d) (O : Ord d) (inj : ∀ a b, PyData.eqv (d a) (d b) = true → a = b) {f : Addr} {fd : FuncData} (F : FnS K "_law_rising" s_law_rising f fd) (B : Blt4 mg) : FnOk P w K mg base (L2.CX P w) 1 f fd ["rows"] (spRsN G d) := by
  refine F.ok sclaw_risingG (fun vs H Q E h => ?_) (fun cdv A outer s H vs Q E hr h => ?_)
  · obtain ⟨a, xs, ms, rfl, _⟩ := h
    rfl
  · obtain ⟨a, xs, ms, rfl, ha, hP, hnd, hl, kk⟩ := h
    have nd := sclaw_risingG.nd
    have hu := hr.units
    have el := paired_len hP
    refine ⟨_, (pss_cons (ps_set (i := 1) nd rfl (Or.inl rfl) (pe_callTy (list_ofK (K := K)) (by rfl) B.lst (by decide +kernel) (pa_cons (pv 0) pa_nil)))
      (pss_cons (ps_set (i := 2) nd rfl (Or.inl rfl) (pe_lst pa_nil))
      (pss_cons (ps_for (passes_of rfl) rfl (pi_range1 rfl B.range (pa_cons (pe_callB (len_seqK (K := K)) (by rfl) B.len (by decide +kernel) (pa_cons (pv 0) pa_nil)) pa_nil)) (pg_name (i := 3) nd rfl (Or.inl rfl)) (pss_cons (ps_set (i := 4) nd rfl (Or.inl rfl) pe_int)
      (pss_cons (ps_for (passes_of rfl) rfl (pi_range2 rfl B.range (pa_cons pe_int (pa_cons (pe_callB (len_seqK (K := K)) (by rfl) B.len (by decide +kernel) (pa_cons (pv 1) pa_nil)) pa_nil))) (pg_name (i := 5) nd rfl (Or.inl rfl)) (pss_one (ps_if (pt_cmpR (op_ltD (K := K) hu) (pe_ix (ix_listK (K := K)) (pv 1) (pv 5) (fun _ _ => rfl)) (pe_ix (ix_listK (K := K)) (pv 1) (pv 4) (fun _ _ => rfl)) (nomark _)) (pss_one (ps_set (i := 4) nd rfl (Or.inl rfl) (pv 5))) pss_nil)))
      (pss_one (ps_expr (pe_bm PySem.F.plainAttrs_list PySem.F.slot_list_append PySem.F.type_list_append mt_append (pv 2) (pa_cons (pe_bm PySem.F.plainAttrs_list PySem.F.slot_list_pop PySem.F.type_list_pop mt_popAt (pv 1) (pa_cons (pv 4) pa_nil)) pa_nil)))))))
      (pss_one (ps_ret (pe_callTy (tup_newK (K := K)) (by rfl) B.tuple (by decide +kernel) (pa_cons (pv 2) pa_nil))))))), ?_⟩
    refine ⟨_, rfl, a, xs, rfl, .inl (SqL.of ha), fun L hL => ?_⟩
    have s1 := same_new (o := .lst xs) hL
    have eL : upd H L (.lst xs) L = some (.lst xs) := upd_same
    generalize upd H L (.lst xs) = H1 at s1 eL ⊢
    refine ⟨(by show 0 ≤ sizeLine; decide), fun R hR => ?_⟩
    have s2 := s1.trans (same_new (o := .lst []) hR)
    have LR : L ≠ R := ne_of_none eL hR
    have nR : H R = none := by
      cases e : H R with
      | none => rfl
      | some o => rw [s1 _ _ e] at hR; cases hR
    have eL := same_new (o := .lst []) hR _ _ eL
    have eR : upd H1 R (.lst []) R = some (.lst []) := upd_same
    generalize upd H1 R (.lst []) = H2 at s2 eL eR ⊢
    refine ⟨_, rfl, a, xs, rfl, .inl (SqL.of (s2 _ _ ha)), (xs.length : Int), rfl, by omega, by omega, for_range (lo := 0) (n := xs.length) (fun i σ H' => ∃ (ls fs : List V) (ml mf : List α) (v3 v4 v5 : Option V), σ = [some (.ref a), some (.ref L), some (.ref R), v3, v4, v5] ∧ Same H H' ∧
      H' L = some (.lst ls) ∧ Paired (G H) ls ml ∧ H' R = some (.lst fs) ∧ Paired (G H) fs mf ∧ (mf ++ ml).Perm ms ∧ mf.length = i ∧ RisG d mf ∧ ∀ x ∈ mf, ∀ y ∈ ml, ltG d x y = true) ⟨xs, [], ms, [], none, none, none, rfl, s2, eL, hP, eR, .nil, .refl _, rfl, risG_nil, fun x hx => nomatch hx⟩ ?_ ?_⟩
    · rintro i σ H3 hi ⟨ls, fs, ml, mf, v3, v4, v5, rfl, s3, gL, pL, gR, pR, pm, lf, ri, lt⟩
      have ll := paired_len pL
      have lfs := paired_len pR
      have tot : mf.length + ml.length = ms.length := by rw [← List.length_append, pm.length_eq]
      have hml : 0 < ml.length := by omega
      refine ⟨_, rfl, L, ls, rfl, .inl (SqL.of gL), 1, (ls.length : Int), rfl, ⟨by decide, by decide, by omega, by omega⟩, for_range (lo := 1) (n := ((ls.length : Int) - 1).toNat) (fun k σ H' => ∃ (b : Nat) (v5 : Option V), σ = [some (.ref a), some (.ref L), some (.ref R), some (.int (0 + (i : Int))), some (.int (b : Int)), v5] ∧ H3 = H' ∧ b < ml.length ∧
        ∀ j mj mb, j ≤ k → ml[j]? = some mj → ml[b]? = some mb → ltG d mj mb = false) ⟨0, v5, rfl, rfl, hml, fun j mj mb hj e1 e2 => by
          have : j = 0 := by omega
          subst this
          rw [e1] at e2
          cases e2
          exact ltG_irr _⟩ ?_ ?_⟩
      · rintro k σ H4 hk ⟨b, v5, rfl, rfl, hb, hmin⟩
        have hk2 : k + 1 < ml.length := by omega
        have e1 := List.getElem?_eq_getElem hk2
        have e2 := List.getElem?_eq_getElem hb
        obtain ⟨y1, hy1, f1⟩ := paired_of pL e1
        obtain ⟨y2, hy2, f2⟩ := paired_of pL e2
        rw [show (1 : Int) + (k : Int) = ((k + 1 : Nat) : Int) by omega]
        refine ⟨_, rfl, _, rfl, L, _, _, _, rfl, rfl, SqL.of gL, atI_nat hy1, _, rfl, _, rfl, L, _, _, _, rfl, rfl, SqL.of gL, atI_nat hy2, d _, d _, hd _ _ _ (st _ _ _ _ (TK.of s3) f1), hd _ _ _ (st _ _ _ _ (TK.of s3) f2), O.al _ _, O.nn _, O.dp _, _, rfl, ?_⟩
        cases e : PySem.W.dataLt (d ml[k + 1]) (d ml[b]) with
        | true =>
          refine iteT ⟨_, rfl, k + 1, _, rfl, rfl, hk2, fun j mj mb hj g1 g2 => ?_⟩
          rw [e1] at g2
          cases g2
          by_cases hjk : j = k + 1
          · subst hjk
            rw [e1] at g1
            cases g1
            exact ltG_irr _
          · have q := hmin j mj _ (by omega) g1 e2
            cases z : ltG d mj ml[k + 1] with
            | false => rfl
            | true => rw [ltG_tr z e] at q; cases q
        | false =>
          refine iteF ⟨b, _, rfl, rfl, hb, fun j mj mb hj g1 g2 => ?_⟩
          by_cases hjk : j = k + 1
          · subst hjk
            rw [e1] at g1
            cases g1
            rw [e2] at g2
            cases g2
            exact e
          · exact hmin j mj mb (by omega) g1 g2
      · rintro σ H4 ⟨b, v5, rfl, rfl, hb, hmin⟩
        have e2 := List.getElem?_eq_getElem hb
        obtain ⟨y2, hy2, f2⟩ := paired_of pL e2
        have hbl : b < ls.length := by omega
        refine ⟨_, rfl, .inl ⟨rfl, _, SqL.of gR⟩, _, rfl, .inl ⟨rfl, _, SqL.of gL⟩, _, rfl, L, ls, _, b, y2, rfl, rfl, gL, by omega, by omega, ?_, hy2, ?_⟩
        · have z := PySem.StrLaws.seqIndex_nonneg (i := (b : Int)) (n := ls.length) (by omega) (by omega)
          rw [z]
          rfl
        have gR2 : upd H3 L (.lst (ls.eraseIdx b)) R = some (.lst fs) := by rw [upd_ne LR.symm]; exact gR
        have pm1 := erP ml b hb
        have ndl : ml.Nodup := (List.nodup_append.mp (pm.nodup_iff.mpr hnd)).2.1
        have nd1 := pm1.nodup_iff.mpr ndl
        have sub : ∀ y ∈ ml.eraseIdx b, y ∈ ml := fun y hy => pm1.mem_iff.mp (List.mem_cons_of_mem _ hy)
        have mbm : ml[b] ∈ ml := List.getElem_mem hb
        refine ⟨R, fs, _, rfl, rfl, gR2, small1000 (by omega), ls.eraseIdx b, fs ++ [y2], ml.eraseIdx b, mf ++ [ml[b]], _, _, _, rfl, ?_, by rw [upd_ne LR]; exact upd_same, paired_er b pL, upd_same, paired_app pR (.cons f2 .nil), ?_, by rw [List.length_append, lf]; rfl, risG_app ri fun x hx => lt x hx _ mbm, ?_⟩
        · intro c o hc
          rw [upd_ne (ne_of_none hc nR), upd_ne (ne_of_none hc hL)]
          exact s3 _ _ hc
        · rw [List.append_assoc]
          exact ((pm1.append_left mf)).trans pm
        · intro x hx y hy
          rcases List.mem_append.mp hx with h | h
          · exact lt x h y (sub y hy)
          · rw [List.mem_singleton.mp h]
            obtain ⟨j, hj, ej⟩ := List.mem_iff_getElem.mp (sub y hy)
            have q := hmin j _ _ (by omega) (List.getElem?_eq_getElem hj) e2
            rw [ej] at q
            cases z : ltG d ml[b] y with
            | true => rfl
            | false =>
              have := ltG_tot O inj q z
              subst this
              exact absurd hy (List.nodup_cons.mp nd1).1
    · rintro σ H3 ⟨ls, fs, ml, mf, v3, v4, v5, rfl, s3, gL, pL, gR, pR, pm, lf, ri, lt⟩
      have tot : mf.length + ml.length = ms.length := by rw [← List.length_append, pm.length_eq]
      have e0 : ml = [] := List.length_eq_zero_iff.mp (by omega)
      subst e0
      rw [List.append_nil] at pm
      exact ⟨_, rfl, R, fs, rfl, SqL.of gR, fun T o hT ho => kk _ mf _ (s3.trans (same_new hT)) ⟨T, o, fs, rfl, upd_same, ho, paired_mono (fun _ _ q => st _ _ _ _ (TK.of (s3.trans (same_new hT))) q) pR⟩ ri pm⟩

/-- what a plan's tables are: the parts at l -/
structure TtAt (H : Hp) (l : Addr) (p : Int) (n c : Nat) (qa da : Addr) (tss : List (List (Nat × List (List Int)))) (ds : List (Int × List (List Int))) : Prop where
  at_ : H l = some (.lst [.int p, .int n, .int c, .ref qa, .ref da])
  q : TF (NF TQ) H (.ref qa) tss
  d : TF TD H (.ref da) ds
theorem nf_off {α : Type} {G : Hp → V → α → Prop} {H : Hp} {y : V} {l : List α} {D : Addr} {xs : List V} (h : NF G H y l) (e : H D = some (.lst xs)) : y ≠ .ref D := by
  obtain ⟨c, o, ys, rfl, hc, _⟩ := h
  intro z
  have z := V.ref.inj z
  subst z
  rw [e] at hc
  cases hc
/-- _law_tables(parts) -/
def spLtb : Sp := fun vs H Q _ => ∃ (l : Addr) (q n c : Nat) (qv dv : V) (qss : List (List (List (List Int)))) (ds : List (Int × List (List Int))), vs = [.ref l] ∧ PtAt H l q n c qv dv qss ds ∧ Lpk q n c qss ds ∧ n * c ≤ 6 ∧ q ^ (n * c) ≤ 64 ∧
  ∀ l' qa da tss H', Same H H' → Paired (Sorted q (n * c)) qss tss → TtAt H' l' q n c qa da tss (ds.map (rnd q (n * c) qss tss)) → Q (.ref l') H'
theorem sclaw_tables : FnScope ["parts", "p", "size", "count", "questions", "draws", "tables", "n", "rising", "told", "weight", "asks", "rows", "one", "row", "question"] ["parts"] (defScope s_law_tables) := ⟨rfl, rfl, rfl, by decide +kernel, rfl, by decide +kernel, by decide +kernel⟩
theorem ok_Ltb {f f1 f2 : Addr} {fd fd1 fd2 : FuncData} (F : FnS K "_law_tables" s_law_tables f fd) (B : Blt4 mg) (CLp : Cal P w K mg base 3 "_law_pair" f1 fd1 ["p", "question", "columns"] spLpr) (CRn : Cal P w K mg base 1 "_law_rising" f2 fd2 ["rows"] (spRsN TQ dQ)) :
    FnOk P w K mg base (L2.CX P w) 4 f fd ["parts"] spLtb := by
  refine F.ok sclaw_tables (fun vs H Q E h => ?_) (fun cdv A outer s H vs Q E hr h => ?_)
  · obtain ⟨l, q, n, c, qv, dv, qss, ds, rfl, _⟩ := h
    rfl
  · obtain ⟨l, q, n, c, qv, dv, qss, ds, rfl, hpt, ok, hnc, hpw, kk⟩ := h
    have nd := sclaw_tables.nd
    have hu2 : (A.deeper (envOfC "_law_tables" (defScope s_law_tables) s.heap.objs.size f cdv)).units + 65 < cLine := by have := hr.un; omega
    obtain ⟨hp, n0, c0, n10, c10⟩ := szs_ok ok.sz
    have hb := fld_le hp
    have q2 : 2 ≤ q := by omega
    have l3 := ok.q3
    refine ⟨_, (pss_cons (ps_asg (pv 0) (pg_unl (K := K) rfl (pgs_cons (pg_name (i := 1) nd rfl (Or.inr rfl)) (pgs_cons (pg_name (i := 2) nd rfl (Or.inr rfl)) (pgs_cons (pg_name (i := 3) nd rfl (Or.inr rfl)) (pgs_cons (pg_name (i := 4) nd rfl (Or.inl rfl)) (pgs_cons (pg_name (i := 5) nd rfl (Or.inl rfl)) pgs_nil)))))))
      (pss_cons (ps_set (i := 6) nd rfl (Or.inr rfl) (pe_lst pa_nil))
      (pss_cons (ps_for (passes_of rfl) rfl (pi_range1 rfl B.range (pa_cons (pe_callB (len_seqK (K := K)) (by rfl) B.len (by decide +kernel) (pa_cons (pv 4) pa_nil)) pa_nil)) (pg_name (i := 7) nd rfl (Or.inl rfl)) (pss_one (ps_expr (pe_bm PySem.F.plainAttrs_list PySem.F.slot_list_append PySem.F.type_list_append mt_append (pv 6) (pa_cons (pe_lc (own := [("question", 15)]) (g := gName 15) (by rfl) nd (pi_tupK (K := K) (pe_ix (ix_tupK (K := K)) (pv 4) (pv 7) (fun _ _ => rfl))) (blkOk_by (own := [("question", 15)]) (N := ["parts", "p", "size", "count", "questions", "draws", "tables", "n", "rising", "told", "weight", "asks", "rows", "one", "row", "question"]) (sc := defScope s_law_tables) (by decide +kernel)) (fun _ _ _ _ _ => (pg_name (i := 15) nd rfl (Or.inl rfl))) (fun _ _ _ _ _ => pts_nil) (fun _ _ _ _ _ => (pe_cal CLp (hr.mono (by decide)) (pa_cons (pv 1) (pa_cons (pv 15) (pa_cons (pe_op op_mul (pv 2) (pv 3)) pa_nil))) passU))) pa_nil)))))
      (pss_cons (ps_set (i := 8) nd rfl (Or.inr rfl) (pe_callTy (tup_ofK (K := K)) (by rfl) B.tuple (by decide +kernel) (pa_cons (pe_lc (own := [("one", 13)]) (g := gName 13) (by rfl) nd (pi_listK (K := K) (pv 6)) (blkOk_by (own := [("one", 13)]) (N := ["parts", "p", "size", "count", "questions", "draws", "tables", "n", "rising", "told", "weight", "asks", "rows", "one", "row", "question"]) (sc := defScope s_law_tables) (by decide +kernel)) (fun _ _ _ _ _ => (pg_name (i := 13) nd rfl (Or.inl rfl))) (fun _ _ _ _ _ => pts_nil) (fun _ _ _ _ _ => (pe_cal CRn (hr.mono (by decide)) (pa_cons (pv 13) pa_nil) passU))) pa_nil)))
      (pss_cons (ps_set (i := 9) nd rfl (Or.inl rfl) (pe_lst pa_nil))
      (pss_cons (ps_for (passes_of rfl) rfl (pi_tupK (K := K) (pv 5)) (pg_tupK (K := K) (pg_tup rfl (pgs_cons (pg_name (i := 10) nd rfl (Or.inl rfl)) (pgs_cons (pg_name (i := 11) nd rfl (Or.inl rfl)) pgs_nil)))) (pss_cons (ps_setLc (i := 12) (own := [("row", 14)]) (g := gName 14) (by rfl) nd rfl rfl (sw_true rfl rfl rfl (by decide +kernel)) (pi_tupK (K := K) (pv 11)) (blkOk_by (own := [("row", 14)]) (N := ["parts", "p", "size", "count", "questions", "draws", "tables", "n", "rising", "told", "weight", "asks", "rows", "one", "row", "question"]) (sc := defScope s_law_tables) (by decide +kernel)) (fun _ _ _ _ _ => (pg_name (i := 14) nd rfl (Or.inr rfl))) (fun _ _ _ _ _ => pts_nil) (fun _ _ _ _ _ => (pe_callTy (tup_ofK (K := K)) (by rfl) B.tuple (by decide +kernel) (pa_cons (pe_lc (own := [("n", 7)]) (g := gName 7) (by rfl) nd (pi_range1 rfl B.range (pa_cons (pe_callB (len_seqK (K := K)) (by rfl) B.len (by decide +kernel) (pa_cons (pv 14) pa_nil)) pa_nil)) (blkOk_by (own := [("n", 7)]) (N := ["parts", "p", "size", "count", "questions", "draws", "tables", "n", "rising", "told", "weight", "asks", "rows", "one", "row", "question"]) (sc := relS (lcStm ((defBody s_law_tables).getD 5 (.Pass ⟨0, 0, 0, 0⟩))) (defScope s_law_tables)) (by decide +kernel)) (fun _ _ _ _ _ => (pg_name (i := 7) nd rfl (Or.inl rfl))) (fun _ _ _ _ _ => pts_nil) (fun _ _ _ _ _ => (pe_bmN PySem.F.plainAttrs_tuple PySem.F.slot_tuple_index PySem.F.type_tuple_index (mt_ixN (K := K) dtQ ordQ layQ hu2) (pe_ix (ix_tupK (K := K)) (pv 8) (pv 7) (fun _ _ => rfl)) (pa_cons (pe_ix (ix_listK (K := K)) (pe_ix (ix_listK (K := K)) (pv 6) (pv 7) (fun _ _ => rfl)) (pe_ix (ix_tupK (K := K)) (pv 14) (pv 7) (fun _ _ => rfl)) (fun _ _ => rfl)) pa_nil)))) pa_nil))))
      (pss_one (ps_expr (pe_bm PySem.F.plainAttrs_list PySem.F.slot_list_append PySem.F.type_list_append mt_append (pv 9) (pa_cons (pe_tup (pa_cons (pv 10) (pa_cons (pe_callTy (tup_ofK (K := K)) (by rfl) B.tuple (by decide +kernel) (pa_cons (pv 12) pa_nil)) pa_nil))) pa_nil))))))
      (pss_one (ps_ret (pe_lst (pa_cons (pv 1) (pa_cons (pv 2) (pa_cons (pv 3) (pa_cons (pv 8) (pa_cons (pe_callTy (tup_ofK (K := K)) (by rfl) B.tuple (by decide +kernel) (pa_cons (pv 9) pa_nil)) pa_nil)))))))))))))), ?_⟩
    obtain ⟨hl, ⟨qa, qxs, rfl, hqa, hqp⟩, ⟨da, dxs, rfl, hda, hdp⟩⟩ := id hpt
    have lq := paired_len hqp
    have ed := paired_len hdp
    refine ⟨_, rfl, l, _, rfl, SqL.of hl, rfl, _, _, rfl, _, _, rfl, _, _, rfl, _, _, rfl, _, _, rfl, rfl, ?_⟩
    refine ⟨(by show 0 ≤ sizeLine; decide), fun R hR => ?_⟩
    refine ⟨_, rfl, qa, _, rfl, .inr (SqT.of (same_new hR _ _ hqa)), (qxs.length : Int), rfl, by omega, by omega, for_range (lo := 0) (n := qxs.length) (fun i σ H' => ∃ v7, σ = [some (.ref l), some (.int (q : Int)), some (.int (n : Int)), some (.int (c : Int)), some (.ref qa), some (.ref da), some (.ref R), v7, none, none, none, none, none, none, none, none] ∧
      BX (LsX TQ) H R ((qss.take i).map fun qs => qs.map (tbl q (n * c))) H') ⟨none, rfl, BX.start hR⟩ ?_ ?_⟩
    · rintro i σ H1 hi ⟨v7, rfl, b⟩
      rw [Int.zero_add]
      have hiq : i < qss.length := by omega
      have eq := List.getElem?_eq_getElem hiq
      obtain ⟨y, hy, fy⟩ := paired_of hqp eq
      obtain ⟨mc, ms, rfl, hmc, hmp⟩ := id fy
      have qo := ok.qok _ (List.mem_of_getElem? eq)
      have lm := paired_len hmp
      obtain ⟨rys, eR, _⟩ := id b.ex
      refine ⟨_, rfl, .inl ⟨rfl, _, SqL.of eR⟩, ?_⟩
      refine ⟨_, rfl, _, rfl, qa, _, _, _, rfl, rfl, SqT.of (b.same _ _ hqa), atI_nat hy, mc, rfl, ⟨_, SqT.of (b.same _ _ hmc)⟩, fun D hD => lc_tup (K := K) (a := mc) (xs := ms) (fun k H' => BX (fun _ => TQ) H1 D (((qss[i]).take k).map (tbl q (n * c))) H') (BX.start hD) (fun k H' _ d => SqT.of (d.same _ _ (b.same _ _ hmc))) ?_ ?_⟩
      · rintro k u H2 hu1 d
        obtain ⟨m, em, fm⟩ := paired_at hmp hu1
        have s2 := b.same.trans d.same
        have mo := qo.2.2.2 m (List.mem_of_getElem? em)
        have hkl : k < (qss[i]).length := (List.getElem?_eq_some_iff.mp em).1
        refine ⟨rfl, _, rfl, _, rfl, _, rfl, _, rfl, _, _, rfl, rfl, .inl ⟨by omega, by omega⟩, ?_⟩
        refine ⟨q, n * c, u, m, (by show [V.int q, u, V.int ((n : Int) * (c : Int))] = _; rw [Int.natCast_mul]), stb2 _ _ _ _ (TK.of s2) fm, hp, hnc, hpw, mo.2, by omega, fun y H3 s3 t3 => ?_⟩
        obtain ⟨acc, a1, a2, a3⟩ := d.put (stx_of stb_TQ) hD s3 t3 (by rw [List.length_map, List.length_take]; exact small1000 (by have := qo.2.2.1; omega))
        refine ⟨acc, a1, a2, ?_⟩
        rw [List.take_succ, em, List.map_append]
        exact a3
      · intro H2 d
        rw [lm, List.take_length] at d
        obtain ⟨s2, zs, eD, pD⟩ := d.fin (stx_of stb_TQ)
        obtain ⟨acc, a1, a2, a3⟩ := b.put (stx_Ls stb_TQ) hR s2 (y := .ref D) ⟨⟨D, zs, rfl, eD, pD⟩, fun z => ne_of_none eR hD (V.ref.inj z).symm⟩ (by rw [List.length_map, List.length_take]; exact small1000 (by omega))
        refine ⟨R, acc, _, rfl, rfl, a1, a2, _, rfl, ?_⟩
        rw [List.take_succ, eq, List.map_append]
        exact a3
    rintro σ H1 ⟨v7, rfl, b1⟩
    rw [lq, List.take_length] at b1
    obtain ⟨s1, ys1, eR, p1⟩ := b1.fin (stx_Ls stb_TQ)
    have l1 := paired_len p1
    rw [List.length_map] at l1
    clear b1
    refine ⟨_, rfl, R, rfl, ⟨_, SqL.of eR⟩, fun D hD => lc_list (K := K) (a := R) (xs := ys1) (fun i H' => ∃ tss, BX (NX TQ) H1 D tss H' ∧ Paired (Sorted q (n * c)) (qss.take i) tss) ⟨[], BX.start hD, .nil⟩ (fun i H' _ ⟨_, b, _⟩ => SqL.of (b.same _ _ eR)) ?_ ?_⟩
    · rintro i u H2 hu1 ⟨tss, b, ps⟩
      obtain ⟨tq, e1, f1⟩ := paired_at p1 hu1
      have hil : i < qss.length := by
        have := (List.getElem?_eq_some_iff.mp hu1).1
        omega
      have eq := List.getElem?_eq_getElem hil
      rw [List.getElem?_map, eq] at e1
      cases e1
      have qo := ok.qok _ (List.mem_of_getElem? eq)
      obtain ⟨uc, us, rfl, huc, hup⟩ := f1
      have lt : tss.length = i := by
        have := paired_len ps
        rw [List.length_take] at this
        omega
      have nod : ((qss[i]).map (tbl q (n * c))).Nodup := tbl_nodup q2 (ris_nodup qo.1) fun m hm r hr => (qo.2.2.2 m hm).2 r hr
      refine ⟨rfl, _, rfl, uc, us, _, rfl, b.same _ _ huc, paired_mono (fun _ _ z => stb_TQ _ _ _ _ (TK.of b.same) z) hup, nod, by rw [List.length_map]; have := qo.2.2.1; omega, fun y m H3 s3 hm ri pm => ?_⟩
      obtain ⟨rys, eD, _⟩ := id b.ex
      obtain ⟨acc, a1, a2, a3⟩ := b.put (stx_NX stb_TQ) hD s3 (y := y) (z := m) ⟨hm, nf_off hm (s3 _ _ eD)⟩ (by rw [lt]; exact small1000 (by omega))
      refine ⟨acc, a1, a2, tss ++ [m], a3, ?_⟩
      rw [List.take_succ, eq]
      exact paired_app ps (.cons ⟨pm, ri⟩ .nil)
    rintro H2 ⟨tss, b2, ps⟩
    rw [l1, List.take_length] at ps
    obtain ⟨s2, ys2, eD, p2⟩ := b2.fin (stx_NX stb_TQ)
    clear b2
    refine ⟨D, _, rfl, .inl ⟨SqL.of eD, fun T hT => ?_⟩⟩
    have s3 : Same H1 (upd H2 T (.tup ys2)) := s2.trans (same_new hT)
    have p2 : Paired (NF TQ (upd H2 T (.tup ys2))) ys2 tss := paired_mono (fun _ _ z => z.same (sm_of stb_TQ) (same_new hT)) p2
    have eT : upd H2 T (.tup ys2) T = some (.tup ys2) := upd_same
    generalize upd H2 T (.tup ys2) = H3 at s3 p2 eT ⊢
    have p1 : Paired (LF TQ H3) ys1 (qss.map fun qs => qs.map (tbl q (n * c))) := paired_mono (fun _ _ z => z.same (sm_of stb_TQ) s3) p1
    have eR := s3 _ _ eR
    have s3 := s1.trans s3
    refine ⟨(by show 0 ≤ sizeLine; decide), fun W hW => ?_⟩
    have s4 := s3.trans (same_new (o := .lst []) hW)
    refine ⟨_, rfl, da, rfl, ⟨_, SqT.of (s4 _ _ hda)⟩, for_tup (K := K) (a := da) (xs := dxs) (fun i σ H' => ∃ v10 v11 v12, σ = [some (.ref l), some (.int (q : Int)), some (.int (n : Int)), some (.int (c : Int)), some (.ref qa), some (.ref da), some (.ref R), v7, some (.ref T), some (.ref W), v10, v11, v12, none, none, none] ∧
      BX (fun _ => TD) H3 W ((ds.take i).map (rnd q (n * c) qss tss)) H') ⟨none, none, none, rfl, BX.start hW⟩ (fun i σ H' _ ⟨_, _, _, _, b⟩ => SqT.of (b.same _ _ (s3 _ _ hda))) ?_ ?_⟩
    · rintro i u σ H4 hu1 ⟨v10, v11, v12, rfl, b⟩
      obtain ⟨d, e1, dc, yv, rfl, hdc, ba, bxs, rfl, hba, hbp⟩ := paired_at hdp hu1
      have s5 := s3.trans b.same
      have dk := ok.dok d (List.mem_of_getElem? e1)
      have hil : i < ds.length := (List.getElem?_eq_some_iff.mp e1).1
      have lb := paired_len hbp
      refine ⟨dc, _, rfl, SqT.of (s5 _ _ hdc), rfl, _, _, rfl, _, _, rfl, rfl, ?_⟩
      refine ⟨_, rfl, ba, rfl, ⟨_, SqT.of (s5 _ _ hba)⟩, fun E2 hE2 => lc_tup (K := K) (a := ba) (xs := bxs) (fun k H' => BX (fun _ => T1) H4 E2 ((d.2.take k).map (rnr q (n * c) qss tss)) H') (BX.start hE2) (fun k H' _ g => SqT.of (g.same _ _ (s5 _ _ hba))) ?_ ?_⟩
      · rintro k y H5 hy g
        obtain ⟨r, er, fr⟩ := paired_at hbp hy
        have s6 := s5.trans g.same
        have s36 := b.same.trans g.same
        have rk := dk.2.2.2.2 r (List.mem_of_getElem? er)
        have hkl : k < d.2.length := (List.getElem?_eq_some_iff.mp er).1
        obtain ⟨rc, rxs, rfl, hrc, hrp⟩ := id fr
        have erx := fi_map hrp
        subst erx
        have rl : r.length = qss.length := by rw [rk.1, lens_len]
        refine ⟨rfl, _, rfl, rc, _, rfl, .inr (SqT.of (s6 _ _ hrc)), ?_⟩
        rw [List.length_map, rl]
        refine ⟨(qss.length : Int), rfl, by omega, by omega, fun D3 hD3 => lc_range (lo := 0) (n := qss.length) (fun j H' => BX (fun _ => FI) H5 D3 ((rnr q (n * c) qss tss r).take j) H') (BX.start hD3) ?_ ?_⟩
        · intro j H6 hj z
          rw [Int.zero_add]
          have s7 := s6.trans z.same
          have s37 := s36.trans z.same
          obtain ⟨qs, ts, k', m, z1, z2, so, z3, z4, z5, z6⟩ := rnr_ok (n := c) ps rk hj
          obtain ⟨w1, hw1, fw⟩ := paired_of p2 z2
          obtain ⟨w2, hw2, gw⟩ := paired_of p1 (show (qss.map fun qs => qs.map (tbl q (n * c)))[j]? = some (qs.map (tbl q (n * c))) by rw [List.getElem?_map, z1]; rfl)
          have fw := fw.same (sm_of stb_TQ) s37
          have gw := gw.same (sm_of stb_TQ) s37
          obtain ⟨c1, o1, x1, rfl, hc1, ho1, hx1⟩ := id fw
          obtain ⟨c2, x2, rfl, hc2, hx2⟩ := id gw
          obtain ⟨w3, hw3, hq3⟩ := paired_of hx2 (show (qs.map (tbl q (n * c)))[k']? = some (tbl q (n * c) m) by rw [List.getElem?_map, z5]; rfl)
          have qo := ok.qok qs (List.mem_of_getElem? z1)
          refine ⟨rfl, ?_⟩
          refine ⟨_, rfl, _, rfl, T, _, _, _, rfl, rfl, SqT.of (s37 _ _ eT), atI_nat hw1, ⟨c1, o1, x1, rfl, hc1, ho1⟩, ?_⟩
          refine ⟨_, rfl, _, rfl, R, _, _, _, rfl, rfl, SqL.of (s37 _ _ eR), atI_nat hw2, ?_⟩
          refine ⟨_, rfl, _, rfl, rc, _, _, .int (at0 r j), rfl, rfl, SqT.of (s7 _ _ hrc), atI_nat (take_map_at r.length (r := r) (i := j) (by omega)), c2, _, _, w3, rfl, rfl, SqL.of hc2, ?_, ?_⟩
          · rw [z3]
            exact atI_nat hw3
          refine ⟨w3, ts, tbl q (n * c) m, plc ts (tbl q (n * c) m), rfl, fw, hq3, so.nodup, so.at_ z5, by rw [so.len]; have := qo.2.2.1; omega, ?_⟩
          have e9 : (rnr q (n * c) qss tss r)[j]? = some ((plc ts (tbl q (n * c) m) : Nat) : Int) := by
            rw [List.getElem?_eq_getElem (by rw [rnr_len]; exact hj), ← z6, at0_lt (by rw [rnr_len]; exact hj)]
          obtain ⟨acc, a1, a2, a3⟩ := z.put (stx_of stb_FI) hD3 (Same.refl _) (y := .int ((plc ts (tbl q (n * c) m) : Nat) : Int)) (z := ((plc ts (tbl q (n * c) m) : Nat) : Int)) rfl (by rw [List.length_take]; exact small1000 (by omega))
          refine ⟨acc, a1, a2, ?_⟩
          rw [List.take_succ, e9]
          exact a3
        · intro H6 z
          rw [← rnr_len (q := q) (t := n * c) (qss := qss) (tss := tss) (r := r), List.take_length] at z
          obtain ⟨s7, zs, eD3, pz⟩ := z.fin (stx_of stb_FI)
          refine ⟨D3, _, rfl, .inl ⟨SqL.of eD3, fun U hU => ?_⟩⟩
          obtain ⟨acc, a1, a2, a3⟩ := g.put (stx_of stb1) hE2 (s7.trans (same_new (o := .tup zs) hU)) (y := .ref U) (z := rnr q (n * c) qss tss r) ⟨U, zs, rfl, upd_same, pz⟩ (by rw [List.length_map, List.length_take]; exact small1000 (by have := dk.2.1; omega))
          refine ⟨acc, a1, a2, ?_⟩
          rw [List.take_succ, er, List.map_append]
          exact a3
      · intro H5 g
        rw [lb, List.take_length] at g
        obtain ⟨s6, zs, eE2, pz⟩ := g.fin (stx_of stb1)
        obtain ⟨wys, eW, _⟩ := id b.ex
        refine ⟨_, rfl, .inl ⟨rfl, _, SqL.of (s6 _ _ eW)⟩, _, rfl, _, rfl, E2, _, rfl, .inl ⟨SqL.of eE2, fun U hU => ?_⟩⟩
        have s7 := s6.trans (same_new (o := .tup zs) hU)
        have t7 : T2 (upd H5 U (.tup zs)) (.ref U) (d.2.map (rnr q (n * c) qss tss)) := ⟨U, zs, rfl, upd_same, paired_mono (fun _ _ z => stb1 _ _ _ _ (TK.new hU) z) pz⟩
        generalize upd H5 U (.tup zs) = H6 at s7 t7 ⊢
        refine ⟨(by show 2 ≤ sizeLine; decide), fun Z hZ => ?_⟩
        obtain ⟨acc, a1, a2, a3⟩ := b.put (stx_of stb_TD) hW (s7.trans (same_new (o := .tup [.int d.1, .ref U]) hZ)) (y := .ref Z) (z := rnd q (n * c) qss tss d) ⟨Z, .ref U, rfl, upd_same, stb2 _ _ _ _ (TK.new hZ) t7⟩ (by rw [List.length_map, List.length_take]; exact small1000 (by have := ok.d4; omega))
        refine ⟨W, acc, _, rfl, rfl, a1, a2, _, _, _, rfl, ?_⟩
        rw [List.take_succ, e1, List.map_append]
        exact a3
    · rintro σ H4 ⟨v10, v11, v12, rfl, b⟩
      rw [ed, List.take_length] at b
      obtain ⟨s4, zs, eW, pz⟩ := b.fin (stx_of stb_TD)
      refine ⟨_, rfl, _, rfl, _, rfl, _, rfl, _, rfl, W, _, rfl, .inl ⟨SqL.of eW, fun U hU => ?_⟩⟩
      have s5 := s4.trans (same_new (o := .tup zs) hU)
      have t5 : TF TD (upd H4 U (.tup zs)) (.ref U) (ds.map (rnd q (n * c) qss tss)) := ⟨U, zs, rfl, upd_same, paired_mono (fun _ _ z => stb_TD _ _ _ _ (TK.new hU) z) pz⟩
      generalize upd H4 U (.tup zs) = H5 at s5 t5 ⊢
      refine ⟨(by show 5 ≤ sizeLine; decide), fun Z hZ => ?_⟩
      have s6 := s5.trans (same_new (o := .lst [.int q, .int n, .int c, .ref T, .ref U]) hZ)
      exact kk Z T U tss _ (s3.trans s6) ps ⟨upd_same, ⟨T, ys2, rfl, s6 _ _ eT, paired_mono (fun _ _ z => z.same (sm_of stb_TQ) s6) p2⟩, stb_TF stb_TD _ _ _ _ (TK.new hZ) t5⟩
end
end WU

set_option maxRecDepth 100000
set_option maxHeartbeats 8000000
namespace WU
open PySem PySem.Spec PyProof.Rows L2
theorem lib_new2 {K : PySem.W.Frag} {L : Addr} {H : Hp} {a x dx : Addr} {p : Int} {n : Nat} {rs : List V} {bs : List (List Int)} {Q : VK} {E : XK} (hp : p ∈ primes) (ha : H a = some (.lst rs) ∨ H a = some (.tup rs)) (hP : Paired (SB H) rs bs) (g : LGood p n bs)
    (hx : H x = none) (hdx : H dx = none) (ne : dx ≠ x) (k : ∀ H', Same H H' → LibAt L H' x p n bs → Q .non H') : spLbI K L [.ref x, .int p, .ref a] (upd (upd H dx (.own x)) x (.ins L dx [])) Q E := by
  have s1 : Same H (upd (upd H dx (.own x)) x (.ins L dx [])) := (same_new hdx).trans (same_new (by rw [upd_ne (Ne.symm ne)]; exact hx))
  refine ⟨x, dx, a, p, rs, bs, n, rfl, upd_same, hp, ha.imp (s1 _ _) (s1 _ _), paired_mono (fun _ _ q => q.same s1) hP, g, fun H' hL k' => k H' (fun b o hb => ?_) hL⟩
  exact k' _ _ (ne_of_none hb hx) (s1 _ _ hb)

theorem szs_six {p : Int} {n c : Nat} (h : (p, n, c) ∈ szs) : n * c ≤ 6 ∧ n ≤ 4 ∧ c ≤ 6 := by
  have z : ∀ z ∈ szs, z.2.1 * z.2.2 ≤ 6 ∧ z.2.1 ≤ 4 ∧ z.2.2 ≤ 6 := by decide +kernel
  exact z _ h
theorem pair_one {q t : Nat} : ∀ {qss : List (List (List (List Int)))} {tss uss : List (List (Nat × List (List Int)))}, Paired (Sorted q t) qss tss → Paired (Sorted q t) qss uss → tss = uss
  | _, _, _, .nil, h => by cases h; rfl
  | _, _, _, .cons a t, h => by
    cases h with
    | cons b s => rw [a.one b, pair_one t s]
/-- the questions that a row of asks names -/
def qms (qss : List (List (List (List Int)))) (r : List Int) : List (List (List Int)) := (List.range qss.length).map fun j => (qss.getD j []).getD (at0 r j).toNat []
theorem qms_len {qss : List (List (List (List Int)))} {r : List Int} : (qms qss r).length = qss.length := by unfold qms; rw [List.length_map, List.length_range]
theorem qms_at {qss : List (List (List (List Int)))} {r : List Int} {j k : Nat} {qs : List (List (List Int))} {m : List (List Int)} (h1 : qss[j]? = some qs) (h2 : at0 r j = (k : Int)) (h3 : qs[k]? = some m) : (qms qss r)[j]? = some m := by
  have hj : j < qss.length := (List.getElem?_eq_some_iff.mp h1).1
  unfold qms
  rw [List.getElem?_map, List.getElem?_range hj]
  show some ((qss.getD j []).getD (at0 r j).toNat []) = some m
  rw [h2, Int.toNat_natCast, List.getD_eq_getElem?_getD, List.getD_eq_getElem?_getD, h1]
  show some ((qs[k]?).getD []) = some m
  rw [h3]
  rfl
theorem hsL_at {k j : Nat} (h : j < k) : at0 (hsL k) j = (j : Int) := by
  unfold hsL
  rw [at0_lt (by rw [List.length_map, List.length_range]; exact h), List.getElem_map, List.getElem_range]
theorem hsL_len {k : Nat} : (hsL k).length = k := by unfold hsL; rw [List.length_map, List.length_range]
section
variable {q t c : Nat} {qss : List (List (List (List Int)))} {tss : List (List (Nat × List (List Int)))} {r : List Int}
theorem asks_pl (h : Paired (Sorted q t) qss tss) (hr : r.length = (lens qss).length ∧ ∀ j, j < (lens qss).length → 0 ≤ at0 r j ∧ at0 r j < at0 (lens qss) j) (h9 : qss.length ≤ 400) (hm : ∀ qs ∈ qss, ∀ m ∈ qs, m.length ≤ 200) : Asks qss (hsL qss.length) r (qms qss r) := by
  refine ⟨by rw [hsL_len, qms_len], by rw [qms_len, hr.1, lens_len], by rw [qms_len]; exact h9, fun m hm' => ?_, fun j m e => ?_⟩
  · obtain ⟨j, e⟩ := List.mem_iff_getElem?.mp hm'
    have hj : j < qss.length := by
      have := (List.getElem?_eq_some_iff.mp e).1
      rwa [qms_len] at this
    obtain ⟨qs, ts, k, m', z1, z2, so, z3, z4, z5, z6⟩ := rnr_ok (n := 0) h hr hj
    cases (qms_at z1 z3 z5).symm.trans e
    exact hm qs (List.mem_of_getElem? z1) _ (List.mem_of_getElem? z5)
  · have hj : j < qss.length := by
      have := (List.getElem?_eq_some_iff.mp e).1
      rwa [qms_len] at this
    obtain ⟨qs, ts, k, m', z1, z2, so, z3, z4, z5, z6⟩ := rnr_ok (n := 0) h hr hj
    cases (qms_at z1 z3 z5).symm.trans e
    exact ⟨j, k, qs, hsL_at hj, z3, z1, z5⟩
theorem asks_tp (h : Paired (Sorted q t) qss tss) (hr : r.length = (lens qss).length ∧ ∀ j, j < (lens qss).length → 0 ≤ at0 r j ∧ at0 r j < at0 (lens qss) j) (h9 : qss.length ≤ 400) : AsksT tss (hsL tss.length) (rnr q t qss tss r) ((qms qss r).map (tbl q t)) := by
  have el := paired_len h
  refine ⟨by rw [hsL_len, List.length_map, qms_len, el], by rw [rnr_len, List.length_map, qms_len], by rw [List.length_map, qms_len]; exact h9, fun j m e => ?_⟩
  have hj : j < qss.length := by
    have := (List.getElem?_eq_some_iff.mp e).1
    rwa [List.length_map, qms_len] at this
  obtain ⟨qs, ts, k, m', z1, z2, so, z3, z4, z5, z6⟩ := rnr_ok (n := 0) h hr hj
  rw [List.getElem?_map, qms_at z1 z3 z5] at e
  cases e
  exact ⟨j, plc ts (tbl q t m'), ts, hsL_at (by omega), z6, z2, so.at_ z5⟩
end
theorem eqrQ {H : Hp} {u v : V} {x : Nat × List (List Int)} (a : TQ H u x) (b : TQ H v x) (hr : ∀ r ∈ x.2, r.length ≤ 10000) (h : x.2.length ≤ 10000) : EqR 3 H u v := by
  obtain ⟨c, y, rfl, hc, ty⟩ := a
  obtain ⟨e, z, rfl, he, tz⟩ := b
  exact .inr ⟨c, e, _, _, rfl, rfl, .inl hc, .inl he, .cons (.inl ⟨_, rfl, rfl⟩) (.cons (eqr2 ty tz hr h) .nil), by show 2 ≤ 10000; decide⟩
theorem eqrD {H : Hp} {u v : V} {d : Int × List (List Int)} (a : TD H u d) (b : TD H v d) (hr : ∀ r ∈ d.2, r.length ≤ 10000) (h : d.2.length ≤ 10000) : EqR 3 H u v := by
  obtain ⟨c, y, rfl, hc, ty⟩ := a
  obtain ⟨e, z, rfl, he, tz⟩ := b
  exact .inr ⟨c, e, _, _, rfl, rfl, .inl hc, .inl he, .cons (.inl ⟨_, rfl, rfl⟩) (.cons (eqr2 ty tz hr h) .nil), by show 2 ≤ 10000; decide⟩
theorem eqrDs {H : Hp} {u v : V} {ds : List (Int × List (List Int))} (a : TF TD H u ds) (b : TF TD H v ds) (hm : ∀ d ∈ ds, d.2.length ≤ 10000 ∧ ∀ r ∈ d.2, r.length ≤ 10000) (h : ds.length ≤ 10000) : EqR 4 H u v :=
  eqr_RF (B := fun d => d.2.length ≤ 10000 ∧ ∀ r ∈ d.2, r.length ≤ 10000) (fun _ _ _ hb x y => eqrD x y hb.2 hb.1) (tf_rf a) (tf_rf b) hm h
theorem eqrQs {H : Hp} {u v : V} {tss : List (List (Nat × List (List Int)))} (a : TF (TF TQ) H u tss) (b : TF (NF TQ) H v tss) (hm : ∀ ts ∈ tss, ts.length ≤ 10000 ∧ ∀ x ∈ ts, x.2.length ≤ 10000 ∧ ∀ r ∈ x.2, r.length ≤ 10000) (h : tss.length ≤ 10000) : EqR 5 H u v :=
  eqr_RF (B := fun ts => ts.length ≤ 10000 ∧ ∀ x ∈ ts, x.2.length ≤ 10000 ∧ ∀ r ∈ x.2, r.length ≤ 10000) (fun _ _ _ hb x y => eqr_RF (B := fun x => x.2.length ≤ 10000 ∧ ∀ r ∈ x.2, r.length ≤ 10000) (fun _ _ _ hb x y => eqrQ x y hb.2 hb.1) (tf_rf x) y.rf hb.2 hb.1) (tf_rf a) (tf_rf b) hm h
theorem eqr4 {H : Hp} {u v : V} {q : List (List (List (List Int)))} (a : T4 H u q) (b : T4 H v q) (hm : ∀ m ∈ q, m.length ≤ 10000 ∧ ∀ r ∈ m, r.length ≤ 10000 ∧ ∀ l ∈ r, l.length ≤ 10000) (h : q.length ≤ 10000) : EqR 4 H u v :=
  eqr_RF (B := fun m => m.length ≤ 10000 ∧ ∀ r ∈ m, r.length ≤ 10000 ∧ ∀ l ∈ r, l.length ≤ 10000) (fun _ _ _ hb x y => eqr3 x y hb.2 hb.1) (tf_rf a) (tf_rf b) hm h
theorem td_ws {H : Hp} : ∀ {xs : List V} {ds : List (Int × List (List Int))}, Paired (TD H) xs ds → Paired (fun v (w : Int) => ∃ e y, v = .ref e ∧ H e = some (.tup [.int w, y])) xs (ds.map (·.1))
  | _, _, .nil => .nil
  | _, _, .cons ⟨c, y, e, h, _⟩ t => .cons ⟨c, y, e, h⟩ (td_ws t)
section
variable {P : Program} {w : World} {K : PySem.W.Frag} {mg : Str → Option Value} {base : Heap} {L LT LL : Addr}
/-- a right plan stands to its parts -/
theorem is_pl {H : Hp} {x l : Addr} {p : Int} {n c : Nat} {qv dv : V} {qss : List (List (List (List Int)))} {ds : List (Int × List (List Int))} (C : PlC K mg L) (hpl : PlAt L H x p n c qss ds) (hpt : PtAt H l p n c qv dv qss ds) (ok : Lpk p n c qss ds) : IsAt K H x l := by
  obtain ⟨dx, q0, d0, hx, hq, hd⟩ := hpl
  obtain ⟨hl, hq2, hd2⟩ := hpt
  obtain ⟨qa, qxs, rfl, hqa, hqp⟩ := id hq2
  obtain ⟨da, dxs, rfl, hda, hdp⟩ := id hd2
  have h6 := szs_ok ok.sz
  have h7 := mul_le_100 h6.2.2.2.1 h6.2.2.2.2
  have hq3 := ok.q3
  have hd4 := ok.d4
  refine ⟨L, dx, qa, da, p, n, c, qss.length, q0, d0, qxs, dxs, ds.map (·.1), C.px, hx, hl, hqa, paired_len hqp, hda, td_ws hdp, by rw [List.length_map]; omega, (eqr4 hq hq2 (fun m hm => ?_) (by omega)).le 1, (eqrDs hd hd2 (fun d hd => ?_) (by omega)).le 1⟩
  · obtain ⟨_, _, h3, h4⟩ := ok.qok m hm
    exact ⟨by omega, fun r hr => ⟨by have := (h4 r hr).1; omega, fun l hl => by rw [((h4 r hr).2 l hl).1]; omega⟩⟩
  · obtain ⟨_, h2, _, h4, h5⟩ := ok.dok d hd
    refine ⟨by omega, fun r hr => ?_⟩
    rw [(h5 r hr).1, lens_len]
    omega
/-- a right plan of tables stands to its parts -/
theorem is_tp {H : Hp} {x l qa da : Addr} {p : Int} {n c : Nat} {tss : List (List (Nat × List (List Int)))} {ds : List (Int × List (List Int))} (C : TpC K mg LT) (hpl : TpAt LT H x p n c tss ds) (hpt : TtAt H l p n c qa da tss ds) (ok : Tok p n c tss ds) : IsAt K H x l := by
  obtain ⟨dx, q0, d0, hx, hq, hd⟩ := hpl
  obtain ⟨hl, hq2, hd2⟩ := hpt
  obtain ⟨_, qxs, e1, hqa, hqp⟩ := id hq2
  cases e1
  obtain ⟨_, dxs, e2, hda, hdp⟩ := id hd2
  cases e2
  have hq9 := ok.q9
  have hd9 := ok.d9
  refine ⟨LT, dx, qa, da, p, n, c, tss.length, q0, d0, qxs, dxs, ds.map (·.1), C.px, hx, hl, hqa, paired_len hqp, hda, td_ws hdp, by rw [List.length_map]; omega, eqrQs hq hq2 (fun ts hts => ?_) (by omega), (eqrDs hd hd2 (fun d hd => ?_) (by omega)).le 1⟩
  · obtain ⟨_, h3, h4⟩ := ok.qok ts hts
    refine ⟨by omega, fun x hx => ?_⟩
    obtain ⟨z1, z2, z3, z4⟩ := h4 x hx
    exact ⟨by omega, fun r hr => by rw [(z2 r hr).1]; omega⟩
  · obtain ⟨_, h2, _, h4, h5⟩ := ok.dok d hd
    refine ⟨by omega, fun r hr => ?_⟩
    rw [(h5 r hr).1, lens_len]
    omega
end
end WU

set_option maxRecDepth 100000
set_option maxHeartbeats 16000000
namespace WU
open PySem PySem.Spec PyProof.Rows L2
theorem scLaw : FnScope ["script", "hand", "parts", "plan", "due", "found", "step", "library", "wish", "draw"] ["script"] (defScope sLaw) := ⟨rfl, rfl, rfl, by decide +kernel, rfl, by decide +kernel, by decide +kernel⟩
def CalE (P : Program) (w : World) (K : PySem.W.Frag) (mg : Str → Option Value) (base : Heap) (k : Nat) (x : Str) (ps : List Str) (sp : Sp) : Prop := ∃ f fd, Cal P w K mg base k x f fd ps sp
/-- a Plan is made -/
structure PlMk (P : Program) (w : World) (K : PySem.W.Frag) (mg : Str → Option Value) (base : Heap) (L fL : Addr) (fdL : FuncData) : Prop where
  made : Mk K L fL
  gI : FnOk P w K mg base (L2.CX P w) 8 fL fdL ["self", "p", "book_length", "book_count", "questions", "draws"] (spPI L)
  bI : L2.Binds K fdL ["self", "p", "book_length", "book_count", "questions", "draws"] []
structure LbMk (P : Program) (w : World) (K : PySem.W.Frag) (mg : Str → Option Value) (base : Heap) (LL fL : Addr) (fdL : FuncData) : Prop where
  made : Mk K LL fL
  gI : FnOk P w K mg base (L2.CX P w) 6 fL fdL ["self", "p", "books"] (spLbI K LL)
  bI : L2.Binds K fdL ["self", "p", "books"] []
/-- a method of a class -/
structure MeB (P : Program) (w : World) (K : PySem.W.Frag) (mg : Str → Option Value) (base : Heap) (k : Nat) (L : Addr) (nm : Str) (ps : List Str) (sp : Sp) (f : Addr) (fd : FuncData) : Prop where
  m : Meth K L nm f
  g : FnOk P w K mg base (L2.CX P w) k f fd ps sp
  b : L2.Binds K fd ps []
/-- __eq__ of a class -/
structure EqB (P : Program) (w : World) (K : PySem.W.Frag) (mg : Str → Option Value) (base : Heap) (L f : Addr) (fd : FuncData) : Prop where
  hs : PySem.W.findIn K (.ref L) "__eq__" = some (some (.ref f))
  hf : PySem.W.isFn K (.ref f) = true
  g : FnOk P w K mg base (L2.CX P w) 1 f fd ["self", "other"] (spNe K L)
  b : L2.Binds K fd ["self", "other"] []
/-- what the law calls -/
structure LC (P : Program) (w : World) (K : PySem.W.Frag) (mg : Str → Option Value) (base : Heap) (L LT LL : Addr) : Prop where
  B : Blt5 mg
  cP : PlC K mg L
  cT : TpC K mg LT
  cL : LibC K mg LL
  iP : IsC K L
  iT : IsC K LT
  kTT : PySem.W.kitOne K (.ref LT) (.ref LT) = some true
  kPT : PySem.W.kitOne K (.ref L) (.ref LT) = some false
  kTP : PySem.W.kitOne K (.ref LT) (.ref L) = some false
  nTP : PySem.W.notFirst K LT (.ref L) = true
  nPT : PySem.W.notFirst K L (.ref LT) = true
  eP : ∃ f fd, EqB P w K mg base L f fd
  eT : ∃ f fd, EqB P w K mg base LT f fd
  mP : ∃ f fd, MeB P w K mg base 10 L "answers" ["self", "wish", "draw", "library"] (spAn K L LL) f fd
  mT : ∃ f fd, MeB P w K mg base 10 LT "answers" ["self", "wish", "draw", "library"] (spAnT K LT LL) f fd
  draws : CalE P w K mg base 1 "_law_draws" ["script", "many"] (spDraws K 700)
  parts : CalE P w K mg base 3 "_law_parts" ["hand"] spLPt
  books : CalE P w K mg base 2 "_law_books" ["hand", "p", "count", "size"] spBk
  power : CalE P w K mg base 1 "_law_power" ["p", "many"] spLpw
  tables : CalE P w K mg base 4 "_law_tables" ["parts"] spLtb
  asT : CalE P w K mg base 11 "as_table" ["plan"] (spAt L LT)
  is : CalE P w K mg base 7 "_law_is_plan" ["plan", "parts"] (spLis K)
  same : CalE P w K mg base 6 "_law_same" ["found", "due"] (spSr 5)
  mkP : ∃ f fd, PlMk P w K mg base L f fd
  mkL : ∃ f fd, LbMk P w K mg base LL f fd
def spLaw (K : PySem.W.Frag) : Sp := fun vs H Q _ => ∃ (a : Addr) (ns : List Int), vs = [.ref a] ∧ SqL K H a (ns.map V.int) ∧ ns.length ≤ 63 ∧ ∀ H', Q (.bl true) H'
/-- what stands throughout -/
structure Lw (L LT : Addr) (H : Hp) (a d x l y : Addr) (p : Int) (n c : Nat) (qv dv : V) (qss : List (List (List (List Int)))) (ds : List (Int × List (List Int))) (tss : List (List (Nat × List (List Int)))) (es : List (Int × List (List Int))) : Prop where
  hand : HandAt H a d
  pl : PlAt L H x p n c qss ds
  pt : PtAt H l p n c qv dv qss ds
  tp : TpAt LT H y p n c tss es
  ne : l ≠ a
section
variable {L LT : Addr} {H H' : Hp} {a d x l y : Addr} {p : Int} {n c : Nat} {qv dv : V} {qss : List (List (List (List Int)))} {ds : List (Int × List (List Int))} {tss : List (List (Nat × List (List Int)))} {es : List (Int × List (List Int))}
theorem Lw.same (h : Lw L LT H a d x l y p n c qv dv qss ds tss es) (s : Same H H') : Lw L LT H' a d x l y p n c qv dv qss ds tss es := ⟨h.hand.same s, h.pl.same s, h.pt.same s, h.tp.same s, h.ne⟩
theorem Lw.keep (h : Lw L LT H a d x l y p n c qv dv qss ds tss es) (k : Keep a H H') (hh : HandAt H' a d) : Lw L LT H' a d x l y p n c qv dv qss ds tss es := by
  have tk := h.hand.tk k
  obtain ⟨⟨ds', i, h1, h1'⟩, ⟨dx, q0, d0, hx, hq, hd⟩, hpt, ⟨dx2, q2, d2, hx2, hq2, hd2⟩, ne⟩ := h
  exact ⟨hh, ⟨dx, q0, d0, k _ _ (fun z => by rw [z, h1] at hx; cases hx) hx, stb4 _ _ _ _ tk hq, stb_TF stb_TD _ _ _ _ tk hd⟩, ⟨k _ _ ne hpt.at_, stb4 _ _ _ _ tk hpt.q, stb_TF stb_TD _ _ _ _ tk hpt.d⟩,
    ⟨dx2, q2, d2, k _ _ (fun z => by rw [z, h1] at hx2; cases hx2) hx2, stb_TF (stb_TF stb_TQ) _ _ _ _ tk hq2, stb_TF stb_TD _ _ _ _ tk hd2⟩, ne⟩
end
section
variable {P : Program} {w : World} {K : PySem.W.Frag} {mg : Str → Option Value} {base : Heap} {L LT LL : Addr}
theorem ok_Law {f : Addr} {fd : FuncData} (F : FnS K "law" sLaw f fd) (C0 : LC P w K mg base L LT LL) : FnOk P w K mg base CX0 13 f fd ["script"] (spLaw K) := by
  refine F.ok scLaw (fun vs H Q E h => ?_) (fun cdv A outer s H vs Q E hr h => ?_)
  · obtain ⟨a, ns, rfl, _⟩ := h
    rfl
  · obtain ⟨a0, ns, rfl, hS, hl, kk⟩ := h
    have nd := scLaw.nd
    have B := C0.B
    have C := C0.cP
    have CT := C0.cT
    have CL := C0.cL
    obtain ⟨_, _, CD⟩ := C0.draws
    obtain ⟨_, _, CPt⟩ := C0.parts
    obtain ⟨_, _, CBk⟩ := C0.books
    obtain ⟨_, _, CLw⟩ := C0.power
    obtain ⟨_, _, CTb⟩ := C0.tables
    obtain ⟨_, _, CAt⟩ := C0.asT
    obtain ⟨_, _, CIp⟩ := C0.is
    obtain ⟨_, _, CS⟩ := C0.same
    obtain ⟨_, _, Mm⟩ := C0.mkP
    obtain ⟨_, _, CLm⟩ := C0.mkL
    obtain ⟨_, _, PE⟩ := C0.eP
    obtain ⟨_, _, TE⟩ := C0.eT
    obtain ⟨_, _, Mp⟩ := C0.mP
    obtain ⟨_, _, Mt⟩ := C0.mT
    refine ⟨_, (pss_cons (ps_set (i := 1) nd rfl (Or.inl rfl) (pe_lst (pa_cons (pe_cal CD (hr.mono (by decide)) (pa_cons (pv 0) (pa_cons pe_int pa_nil)) passU) (pa_cons pe_int pa_nil))))
      (pss_cons (ps_set (i := 2) nd rfl (Or.inl rfl) (pe_cal CPt (hr.mono (by decide)) (pa_cons (pv 1) pa_nil) passU))
      (pss_cons (ps_if (pt_cmpR op_gt (pe_cal CLw (hr.mono (by decide)) (pa_cons (pe_ix (ix_listK (K := K)) (pv 2) pe_int (fun _ _ => rfl)) (pa_cons (pe_op op_mul (pe_ix (ix_listK (K := K)) (pv 2) pe_int (fun _ _ => rfl)) (pe_ix (ix_listK (K := K)) (pv 2) pe_int (fun _ _ => rfl))) pa_nil)) passU) pe_int (nomark _)) (pss_one (ps_ret pe_bl)) pss_nil)
      (pss_cons (ps_set (i := 3) nd rfl (Or.inl rfl) (pe_make (E := E0) Mm.made Mm.gI (hr.mono (by decide)) (by rfl) C.g Mm.bI .nil passU (pa_cons (pe_ix (ix_listK (K := K)) (pv 2) pe_int (fun _ _ => rfl)) (pa_cons (pe_ix (ix_listK (K := K)) (pv 2) pe_int (fun _ _ => rfl)) (pa_cons (pe_ix (ix_listK (K := K)) (pv 2) pe_int (fun _ _ => rfl)) (pa_cons (pe_ix (ix_listK (K := K)) (pv 2) pe_int (fun _ _ => rfl)) (pa_cons (pe_ix (ix_listK (K := K)) (pv 2) pe_int (fun _ _ => rfl)) pa_nil)))))))
      (pss_cons (ps_set (i := 4) nd rfl (Or.inl rfl) (pe_cal CTb (hr.mono (by decide)) (pa_cons (pv 2) pa_nil) passU))
      (pss_cons (ps_set (i := 5) nd rfl (Or.inl rfl) (pe_cal CAt (hr.mono (by decide)) (pa_cons (pv 3) pa_nil) passU))
      (pss_cons (ps_if (PW.pt (pw_or (pt_not (pt_val (pe_callB (isiK (K := K)) (by rfl) B.isi (by decide +kernel) (pa_cons (pv 5) (pa_cons (pe_glob (v := .ref LT) rfl CT.g rfl) pa_nil))))) (pw_or1 (pt_not (pt_val (pe_cal CIp (hr.mono (by decide)) (pa_cons (pv 5) (pa_cons (pv 4) pa_nil)) passU)))))) (pss_one (ps_ret pe_bl)) pss_nil)
      (pss_cons (ps_if (PW.pt (pw_or (pt_cmpR op_notBl (pe_cmpR (op_ins (K := K) TE.hs TE.hf TE.g TE.b (hr.mono (by decide))) (pv 5) (pv 3) (nomark _)) pe_bl (nomark _)) (pw_or1 (pt_cmpR op_notBl (pe_cmpR (op_ins (K := K) PE.hs PE.hf PE.g PE.b (hr.mono (by decide))) (pv 3) (pv 5) (nomark _)) pe_bl (nomark _))))) (pss_one (ps_ret pe_bl)) pss_nil)
      (pss_cons (ps_for (passes_of rfl) rfl (pi_range1 rfl B.range (pa_cons pe_int pa_nil)) (pg_name (i := 6) nd rfl (Or.inl rfl)) (pss_cons (ps_set (i := 7) nd rfl (Or.inl rfl) (pe_make (E := E0) CLm.made CLm.gI (hr.mono (by decide)) (by rfl) CL.g CLm.bI .nil passU (pa_cons (pe_ix (ix_listK (K := K)) (pv 2) pe_int (fun _ _ => rfl)) (pa_cons (pe_cal CBk (hr.mono (by decide)) (pa_cons (pv 1) (pa_cons (pe_ix (ix_listK (K := K)) (pv 2) pe_int (fun _ _ => rfl)) (pa_cons (pe_ix (ix_listK (K := K)) (pv 2) pe_int (fun _ _ => rfl)) (pa_cons (pe_ix (ix_listK (K := K)) (pv 2) pe_int (fun _ _ => rfl)) pa_nil)))) passU) pa_nil))))
      (pss_one (ps_for (passes_of rfl) rfl (pi_range1 rfl B.range (pa_cons (pe_ix (ix_listK (K := K)) (pv 2) pe_int (fun _ _ => rfl)) pa_nil)) (pg_name (i := 8) nd rfl (Or.inl rfl)) (pss_one (ps_for (passes_of rfl) rfl (pi_range1 rfl B.range (pa_cons (pe_callB (len_seqK (K := K)) (by rfl) B.len (by decide +kernel) (pa_cons (pe_ix (ix_listK (K := K)) (pv 2) pe_int (fun _ _ => rfl)) pa_nil)) pa_nil)) (pg_name (i := 9) nd rfl (Or.inl rfl)) (pss_one (ps_if (pt_not (pt_val (pe_cal CS (hr.mono (by decide)) (pa_cons (pe_meth (E := E0) (pv 5) CT.cl Mt.m Mt.g (hr.mono (by decide)) Mt.b .nil passU (pa_cons (pv 8) (pa_cons (pv 9) (pa_cons (pv 7) pa_nil)))) (pa_cons (pe_meth (E := E0) (pv 3) C.cl Mp.m Mp.g (hr.mono (by decide)) Mp.b .nil passU (pa_cons (pv 8) (pa_cons (pv 9) (pa_cons (pv 7) pa_nil)))) pa_nil)) passU))) (pss_one (ps_ret pe_bl)) pss_nil))))))))
      (pss_one (ps_ret (pe_cal CIp (hr.mono (by decide)) (pa_cons (pv 3) (pa_cons (pv 2) pa_nil)) passU)))))))))))), ?_⟩
    refine ⟨_, rfl, a0, ns, rfl, hS, hl, fun d ds0 H1 s1 nd1 e1 nn ln => ⟨(by show 2 ≤ sizeLine; decide), fun a ha => ?_⟩⟩
    have hh1 : HandAt (upd H1 a (.lst [.ref d, .int 0])) a d := ⟨ds0, 0, upd_same, by rw [upd_ne (ne_of_none e1 ha)]; exact e1, nn, Int.le_refl 0⟩
    generalize upd H1 a (.lst [.ref d, .int 0]) = H2 at hh1 ⊢
    refine ⟨_, rfl, a, d, rfl, hh1, fun l H3 p n c qv dv qss ds hpt ok nla hh3 k3 => ?_⟩
    obtain ⟨hp, n0, c0, n10, c10⟩ := szs_ok ok.sz
    obtain ⟨nc6, n4, c6⟩ := szs_six ok.sz
    have hb := fld_le hp
    obtain ⟨q, rfl⟩ : ∃ q : Nat, p = (q : Int) := ⟨p.toNat, by omega⟩
    obtain ⟨qa, qxs, eqa, hqa, hqp⟩ := id hpt.q
    obtain ⟨da, dxs, eda, hda, hdp⟩ := id hpt.d
    subst eqa eda
    have i0 : ∀ {H' : Hp}, H' l = some (.lst [.int q, .int n, .int c, .ref qa, .ref da]) → SqL K H' l [.int q, .int n, .int c, .ref qa, .ref da] := fun h => SqL.of h
    refine ⟨_, rfl, l, _, (0 : Int), _, rfl, rfl, i0 hpt.at_, rfl, _, rfl, l, _, (1 : Int), _, rfl, rfl, i0 hpt.at_, rfl, _, rfl, l, _, (2 : Int), _, rfl, rfl, i0 hpt.at_, rfl, _, _, rfl, rfl, .inl ⟨by omega, by omega⟩, ?_⟩
    refine ⟨q, n * c, (by show [V.int q, V.int ((n : Int) * (c : Int))] = _; rw [Int.natCast_mul]), by omega, by omega, nc6, _, _, rfl, rfl, _, rfl, ?_⟩
    by_cases hpw : 64 < q ^ (n * c)
    · exact iteTb (decide_eq_true (by omega)) (kk _)
    refine iteFb (decide_eq_false (by omega)) ?_
    have hpw : q ^ (n * c) ≤ 64 := by omega
    have enc : n * c = c * n := Nat.mul_comm n c
    refine ⟨_, rfl, l, _, (0 : Int), _, rfl, rfl, i0 hpt.at_, rfl, _, rfl, l, _, (1 : Int), _, rfl, rfl, i0 hpt.at_, rfl, _, rfl, l, _, (2 : Int), _, rfl, rfl, i0 hpt.at_, rfl, _, rfl, l, _, (3 : Int), _, rfl, rfl, i0 hpt.at_, rfl, _, rfl, l, _, (4 : Int), _, rfl, rfl, i0 hpt.at_, rfl, fun x dx hx hdx hne => ?_⟩
    have sN : Same H3 (upd (upd H3 dx (.own x)) x (.ins L dx [])) := (same_new hdx).trans (same_new (by rw [upd_ne (Ne.symm hne)]; exact hx))
    have nxk : ∀ {H'}, Keep x (upd (upd H3 dx (.own x)) x (.ins L dx [])) H' → Same H3 H' := fun {H'} k b o hb => k _ _ (ne_of_none hb hx) (sN _ _ hb)
    refine ⟨x, dx, (q : Int), n, c, _, _, qss, ds, rfl, upd_same, stb4 _ _ _ _ (TK.of sN) hpt.q, stb_TF stb_TD _ _ _ _ (TK.of sN) hpt.d, ok.ok, fun H4 hpl k4 => ⟨rfl, ?_⟩⟩
    have s4 := nxk k4
    have hh4 := hh3.same s4
    have hpt := hpt.same s4
    clear nxk sN s4 k4 hqa hqp hda hdp
    refine ⟨_, rfl, l, q, n, c, _, _, qss, ds, rfl, hpt, ok, nc6, hpw, fun l2 qb db tss H5 s5 ps ht => ?_⟩
    have hpt := hpt.same s5
    have hpl := hpl.same s5
    have hh5 := hh4.same s5
    have qm2 : ∀ qs ∈ qss, ∀ m ∈ qs, m.length ≤ 2 := fun qs hqs m hm => ((ok.qok qs hqs).2.2.2 m hm).1
    have q3 := ok.q3
    refine ⟨_, rfl, x, q, n, c, qss, ds, rfl, hpl, ok.ok, ⟨nc6, n4, by rw [← enc]; exact hpw, fun qs hqs m hm => by have := qm2 qs hqs m hm; omega⟩, fun y uss H6 hyn s6 ps2 htp tok => ?_⟩
    rw [← enc] at ps2 htp tok
    cases pair_one ps ps2
    have w6 : Lw L LT H6 a d x l y q n c (.ref qa) (.ref da) qss ds tss (ds.map (rnd q (n * c) qss tss)) := ⟨hh5.same s6, hpl.same s6, hpt.same s6, htp, nla⟩
    have ht : TtAt H6 l2 q n c qb db tss (ds.map (rnd q (n * c) qss tss)) := ⟨s6 _ _ ht.at_, by
      obtain ⟨c, xs, e, h, p⟩ := ht.q
      exact ⟨c, xs, e, s6 _ _ h, paired_mono (fun _ _ z => z.same (sm_of stb_TQ) s6) p⟩, stb_TF stb_TD _ _ _ _ (TK.of s6) ht.d⟩
    clear hpt hpl hh5 hh4 hh3 hh1 htp s6 s5
    obtain ⟨dy, y1, y2, hy, _, _⟩ := id w6.tp
    obtain ⟨dx', x1, x2, hx', _, _⟩ := id w6.pl
    refine ⟨_, rfl, _, _, _, _, _, rfl, .own LT, C0.iT.ty hy, C0.kTT, _, rfl, iteF ?_⟩
    refine ⟨_, rfl, _, rfl, y, l2, rfl, is_tp CT w6.tp ht tok, fun H7 s7 => ?_⟩
    refine ⟨_, rfl, iteF ?_⟩
    have w7 := w6.same s7
    have hy := s7 _ _ hy
    have hx' := s7 _ _ hx'
    clear w6 ht
    refine ⟨_, rfl, _, rfl, y, dy, _, x, L, dx', _, rfl, rfl, hy, hx', C0.nTP, y, x, L, dx', _, rfl, hx', C0.iP, C0.kPT, ⟨_, rfl⟩, false, false, rfl, rfl, ?_⟩
    refine ⟨_, rfl, iteFb rfl ?_⟩
    refine ⟨_, rfl, _, rfl, x, dx', _, y, LT, dy, _, rfl, rfl, hx', hy, C0.nPT, x, y, LT, dy, _, rfl, hy, C0.iT, C0.kTP, ⟨_, rfl⟩, false, false, rfl, rfl, ?_⟩
    refine ⟨_, rfl, iteFb rfl ?_⟩
    refine ⟨(3 : Int), rfl, by decide, by decide, for_range (lo := 0) (n := 3) (fun i σ H' => ∃ (v6 v7 v8 v9 : Option V), σ = [some (.ref a0), some (.ref a), some (.ref l), some (.ref x), some (.ref l2), some (.ref y), v6, v7, v8, v9] ∧ Lw L LT H' a d x l y q n c (.ref qa) (.ref da) qss ds tss (ds.map (rnd q (n * c) qss tss))) ⟨none, none, none, none, rfl, w7⟩ ?_ ?_⟩
    · rintro i σ H8 hi ⟨v6, v7, v8, v9, rfl, w8⟩
      refine ⟨_, rfl, l, _, (0 : Int), _, rfl, rfl, i0 w8.pt.at_, rfl, ?_⟩
      refine ⟨_, rfl, _, rfl, l, _, (0 : Int), _, rfl, rfl, i0 w8.pt.at_, rfl, _, rfl, l, _, (2 : Int), _, rfl, rfl, i0 w8.pt.at_, rfl, _, rfl, l, _, (1 : Int), _, rfl, rfl, i0 w8.pt.at_, rfl, ?_⟩
      refine ⟨a, d, (q : Int), c, n, rfl, w8.hand, by omega, by omega, by omega, fun r bs H9 hbk lb ltb hh9 k9 => ?_⟩
      have w9 := w8.keep k9 hh9
      obtain ⟨rs, hr1, hr2⟩ := id hbk
      have good : LGood (q : Int) n bs := ⟨fun z => by rw [z] at lb; exact absurd lb (by intro z; have : 0 = c := z; omega), n0, by omega, by omega, ltb⟩
      refine fun lib dl hx' hdx' hne' => lib_new2 hp (.inr hr1) (paired_mono (fun _ _ q => q.sb) hr2) good hx' hdx' hne' fun H10 s10 hlib => ⟨rfl, ?_⟩
      have w10 := w9.same s10
      refine ⟨_, rfl, l, _, (2 : Int), _, rfl, rfl, i0 w10.pt.at_, rfl, (c : Int), rfl, by omega, by omega, for_range (lo := 0) (n := c) (fun k σ H' => ∃ (v8 v9 : Option V), σ = [some (.ref a0), some (.ref a), some (.ref l), some (.ref x), some (.ref l2), some (.ref y), some (.int (0 + (i : Int))), some (.ref lib), v8, v9] ∧ Same H10 H') ⟨v8, v9, rfl, Same.refl _⟩ ?_ ?_⟩
      · rintro k σ H11 hk ⟨v8, v9, rfl, s11⟩
        rw [Int.zero_add, Int.zero_add]
        have w11 := w10.same s11
        obtain ⟨_, dx9, e9, hda9, hdp9⟩ := id w11.pt.d
        cases e9
        refine ⟨_, rfl, l, _, (4 : Int), _, rfl, rfl, i0 w11.pt.at_, rfl, da, _, rfl, .inr (SqT.of hda9), (ds.length : Int), by rw [paired_len hdp9], by omega, by have := ok.d4; omega, for_range (lo := 0) (n := ds.length) (fun j σ H' => ∃ (v9 : Option V), σ = [some (.ref a0), some (.ref a), some (.ref l), some (.ref x), some (.ref l2), some (.ref y), some (.int (i : Int)), some (.ref lib), some (.int (k : Int)), v9] ∧ Same H10 H') ⟨v9, rfl, s11⟩ ?_ ?_⟩
        · rintro j σ H12 hj ⟨v9, rfl, s12⟩
          rw [Int.zero_add]
          have w12 := w10.same s12
          have hlib12 := hlib.same s12
          have ed := List.getElem?_eq_getElem hj
          have dk := ok.dok _ (List.mem_of_getElem? ed)
          have hkr : k < (ds[j]).2.length := by rw [dk.2.1]; exact hk
          have er := List.getElem?_eq_getElem hkr
          have rk := dk.2.2.2.2 _ (List.mem_of_getElem? er)
          have fll : Ltr (q : Int) (n * c) bs.flatten := ⟨by rw [flat_len fun b hb => (ltb b hb).1, lb, Nat.mul_comm], fun z hz => by
            obtain ⟨b, hb, hz⟩ := List.mem_flatten.mp hz
            exact (ltb b hb).2 z hz⟩
          have a1 := asks_pl ps rk (by omega) (fun qs hqs m hm => by have := qm2 qs hqs m hm; omega)
          have a2 := asks_tp ps rk (by omega)
          obtain ⟨dy, y1, y2, hy, _, _⟩ := id w12.tp
          refine ⟨_, rfl, y, dy, _, rfl, hy, pf_no (by decide +kernel) (by decide +kernel) (by decide +kernel) (by decide +kernel) (by decide +kernel) (by decide +kernel) (by decide +kernel), _, rfl, _, rfl, _, rfl, ?_⟩
          refine ⟨y, _, _, _, (q : Int), n, c, tss, _, rfl, w12.tp, tok, ty3_int _, ty3_int _, fun z => ?_, fun _ z => ?_, fun i' j' d' r' z1 z2 z3 z4 => .inr ⟨lib, (q : Int), n, bs, rfl, hlib12, ltb, fun z => absurd ⟨rfl, lb, rfl⟩ z, fun _ => ?_⟩⟩
          · rw [isBel_nat hk] at z
            cases z
          · rw [List.length_map, isBel_nat hj] at z
            cases z
          have e1 : k = i' := Int.natCast_inj.mp (V.int.inj z1)
          subst e1
          have e2 : j = j' := Int.natCast_inj.mp (V.int.inj z2)
          subst e2
          rw [List.getElem?_map, ed] at z3
          cases z3
          have z4 : ((ds[j]).2.map (rnr q (n * c) qss tss))[k]? = some r' := z4
          rw [List.getElem?_map, er] at z4
          cases z4
          refine ⟨_, a2, by rw [rnr_len, List.length_map, qms_len], fun u H13 s13 tu => ?_⟩
          have s13' := s12.trans s13
          have w13 := w10.same s13'
          obtain ⟨dx3, x1, x2, hx3, _, _⟩ := id w13.pl
          refine ⟨_, rfl, x, dx3, _, rfl, hx3, pf_no (by decide +kernel) (by decide +kernel) (by decide +kernel) (by decide +kernel) (by decide +kernel) (by decide +kernel) (by decide +kernel), _, rfl, _, rfl, _, rfl, ?_⟩
          refine ⟨x, _, _, _, (q : Int), n, c, qss, ds, rfl, w13.pl, ok.ok, ty3_int _, ty3_int _, fun z => ?_, fun _ z => ?_, fun i' j' d' r' z1 z2 z3 z4 => .inr ⟨lib, (q : Int), n, bs, rfl, hlib.same s13', fun b hb => (ltb b hb).1, fun z => absurd ⟨rfl, lb, rfl⟩ z, fun _ => ?_⟩⟩
          · rw [isBel_nat hk] at z
            cases z
          · rw [isBel_nat hj] at z
            cases z
          have e1 : k = i' := Int.natCast_inj.mp (V.int.inj z1)
          subst e1
          have e2 : j = j' := Int.natCast_inj.mp (V.int.inj z2)
          subst e2
          cases ed.symm.trans z3
          cases er.symm.trans z4
          refine ⟨_, a1, by rw [qms_len, rk.1, lens_len], fun v H14 s14 tv => ?_⟩
          have e3 : ((qms qss ((ds[j]).2[k])).map (tbl q (n * c))).map (ansT (q : Int) bs.flatten) = (qms qss ((ds[j]).2[k])).map (ans (q : Int) (n * c) bs.flatten) := by
            rw [List.map_map]
            refine List.map_congr_left fun m _ => ?_
            exact tbl_ans (by omega) fll m
          rw [e3] at tu
          have tu := stb2 _ _ _ _ (TK.of s14) tu
          have lm : ∀ z ∈ (qms qss ((ds[j]).2[k])).map (ans (q : Int) (n * c) bs.flatten), z.length ≤ 10000 := fun z hz => by
            obtain ⟨m, hm, rfl⟩ := List.mem_map.mp hz
            rw [ans_len]
            have := a1.2.2.2.1 m hm
            omega
          refine ⟨u, v, rfl, (eqr2 tu tv lm (by rw [List.length_map, qms_len]; omega)).le 3, _, rfl, iteF ⟨_, rfl, s13'.trans s14⟩⟩
        · rintro σ H12 ⟨v9, rfl, s12⟩
          exact ⟨_, v9, rfl, s12⟩
      · rintro σ H11 ⟨v8, v9, rfl, s11⟩
        exact ⟨_, _, _, _, rfl, w10.same s11⟩
    · rintro σ H8 ⟨v6, v7, v8, v9, rfl, w8⟩
      exact ⟨_, rfl, _, rfl, x, l, rfl, is_pl C w8.pl w8.pt ok, fun H9 _ => kk _⟩
end
end WU

set_option maxRecDepth 100000
set_option maxHeartbeats 0
namespace WU
open PySem PySem.Spec PyProof.Rows L2
def dG (x : Str) (i : Nat) : He.DefD := ⟨(x, none), x, x, defArgs (top i), defBody (top i), defScope (top i), [], []⟩
def dM (c m : Str) (i j : Nat) (q : Str) (ds : List He.Dv) : He.DefD := ⟨(c, some m), m, q, defArgs (inClass (top i) j), defBody (inClass (top i) j), defScope (inClass (top i) j), ds, []⟩
def fn : List He.DefD := ([dG "is_integer" 2, dG "is_number" 3, dG "is_below" 4, dG "is_sequence" 6, dG "are_letters" 8, dG "is_field" 20, dG "check_field" 21, dG "is_positive" 5, dG "are_books" 25, dG "letters_of" 26, dG "cut_in_books" 27, dG "rows_below" 9, dG "every_library" 24, dG "_is_row" 33, dG "is_matrix" 29, dG "width_of_rows" 32] : List He.DefD) ++ ([dG "check_matrix" 31, dG "is_rising" 7, dG "check_sizes" 37, dG "check_places" 39, dG "members_of" 38, dG "_is_framed" 52, dG "is_draw" 44, dG "check_draws" 40, dG "kept_questions" 41, dG "kept_draws" 42, dG "weight_of" 43, dG "check_wish" 45, dG "check_ask" 46, dG "check_question" 47, dG "check_library" 48, dG "_products" 34] : List He.DefD) ++ ([dG "products" 30, dG "_is_question" 59, dG "power_up_to" 11, dG "number_of_digits" 10, dG "_tabled_questions" 60, dG "_renumbered" 61, dG "as_table" 56, dG "_law_draws" 63, dG "_law_take" 64, dG "_law_product" 70, dG "_law_answer" 71, dG "_law_rising" 68, dG "_law_books" 65, dG "_law_library_size" 66, dG "_law_questions" 67, dG "_law_parts" 69] : List He.DefD) ++ ([dG "_law_letters" 74, dG "_law_power" 75, dG "_law_pair" 76, dG "_law_tables" 77, dG "_law_same" 72, dG "_law_is_plan" 73, dG "law" 78, ⟨("are_questions_plans", none), "_are_questions", "_are_questions", defArgs (top 50), defBody (top 50), defScope (top 50), [], []⟩, ⟨("are_questions_tables", none), "_are_questions", "_are_questions", defArgs (top 57), defBody (top 57), defScope (top 57), [], []⟩, dM "InvalidNumber" "__init__" 14 0 "InvalidNumber.__init__" [], dM "InvalidLibrary" "__init__" 16 0 "InvalidLibrary.__init__" [], dM "InvalidMatrix" "__init__" 15 0 "InvalidMatrix.__init__" [], dM "Library" "__init__" 23 0 "Library.__init__" [], dM "Plan" "__init__" 36 0 "Plan.__init__" [], dM "Plan" "__eq__" 36 1 "Plan.__eq__" [], dM "Plan" "asked" 36 2 "Plan.asked" []] : List He.DefD) ++ ([dM "Plan" "answer" 36 5 "Plan.answer" [], dM "Plan" "answers" 36 6 "Plan.answers" [], dM "TablePlan" "__init__" 55 0 "TablePlan.__init__" [], dM "TablePlan" "__eq__" 55 1 "TablePlan.__eq__" [], dM "TablePlan" "asked" 55 2 "TablePlan.asked" [], dM "TablePlan" "answer" 55 4 "TablePlan.answer" [], dM "TablePlan" "answers" 55 5 "TablePlan.answers" []] : List He.DefD)
def frees : List Str := ["isinstance", "int", "bool", "len", "abs", "range", "tuple", "list", "all", "any", "zip", "max", "min", "sum", "enumerate", "sorted"]
def dOL : He5.DefA := { at_ := fun K => He5.wf K (He.ga K "Library") "classmethod" "of_letters", name := "of_letters", qual := "Library.of_letters", params := defArgs sLibrary_of_letters, body := defBody sLibrary_of_letters, scope := defScope sLibrary_of_letters }
def globs : List Str := (["is_integer", "is_number", "is_below", "is_sequence", "are_letters", "is_field", "check_field", "is_positive", "are_books", "letters_of", "cut_in_books", "rows_below", "every_library", "_is_row", "is_matrix", "width_of_rows"] : List Str) ++ (["check_matrix", "is_rising", "check_sizes", "check_places", "members_of", "_is_framed", "is_draw", "check_draws", "kept_questions", "kept_draws", "weight_of", "check_wish", "check_ask", "check_question", "check_library", "_products"] : List Str) ++ (["products", "_is_question", "power_up_to", "number_of_digits", "_tabled_questions", "_renumbered", "as_table", "_law_draws", "_law_take", "_law_product", "_law_answer", "_law_rising", "_law_books", "_law_library_size", "_law_questions", "_law_parts"] : List Str) ++ (["_law_letters", "_law_power", "_law_pair", "_law_tables", "_law_same", "_law_is_plan", "law", "are_questions_plans", "are_questions_tables", "PRIMES", "Plan", "TablePlan", "Library"] : List Str)
def isB0 (o : Option Bool) (b : Bool) : Bool := decide (o = some b)
def exmB (K : PySem.W.Frag) (x y : Str) (b : Bool) : Bool := isB0 (PySem.W.exmOne K (.ref (He.ga K x)) (.ref (He.ga K y))) b
theorem cread_new {K : PySem.W.Frag} {C : Addr} (h : PySem.W.readsIn K C (.type "type") = true) : ClX.CRead K C (.type "type") := by
  refine ⟨h, ?_⟩
  unfold PySem.W.readsIn at h
  obtain ⟨h, _⟩ := and2 h
  obtain ⟨h, _⟩ := and2 h
  obtain ⟨h, h3⟩ := and2 h
  obtain ⟨_, h2⟩ := and2 h
  unfold PySem.W.specialIn
  rw [beq_iff_eq.mp h2, Option.bind_some]
  exact beq_iff_eq.mp h3
/-- the global x is the number n -/
def intB (K : PySem.W.Frag) (x : Str) (n : Int) : Bool := match PySem.W.nsIn K mainGlobals x with
  | some (some (.int i _)) => decide (i = n)
  | _ => false
theorem intB_ok {K : PySem.W.Frag} {h : Heap} {mg : Str → Option Value} (X : K.In h) (G : h.Ns mainGlobals mg) {x : Str} {n : Int} (e : intB K x n = true) : ∃ t, mg x = some (.int n t) := by
  unfold intB at e
  split at e
  · rename_i i t q
    have := of_decide_eq_true e
    subst this
    exact ⟨t, PySem.W.mg_of X G q⟩
  · cases e
def olB (K : PySem.W.Frag) (S : Addr) : Bool := PySem.W.readsIn K S (.type "type") && (He5.wrapB K S "classmethod" "classmethod.__get__" "of_letters" && PySem.W.fnIn K (He5.wf K S "classmethod" "of_letters"))
def plB (K : PySem.W.Frag) (S : Addr) : Bool := (He.Fa.cls "Plan").ok K && ((He.Fa.noat "Plan" "p").ok K && ((He.Fa.noat "Plan" "book_length").ok K && ((He.Fa.noat "Plan" "book_count").ok K && ((He.Fa.noat "Plan" "house_count").ok K && ((He.Fa.noat "Plan" "questions").ok K && ((He.Fa.noat "Plan" "draws").ok K && ((He.Fa.noat "Plan" "weight").ok K && ((He.Fa.mkr "Plan").ok K && ((He.Fa.meth "Plan" "asked").ok K && ((He.Fa.meth "Plan" "answer").ok K && ((He.Fa.meth "Plan" "answers").ok K && (decide (PySem.W.findIn K (.ref S) "__class__" = some (some (.builtin "object.__class__"))) && (isB0 (PySem.W.mroIn K S (.type "object")) true)))))))))))))
def tpB (K : PySem.W.Frag) (S : Addr) : Bool := (He.Fa.cls "TablePlan").ok K && ((He.Fa.noat "TablePlan" "p").ok K && ((He.Fa.noat "TablePlan" "book_length").ok K && ((He.Fa.noat "TablePlan" "book_count").ok K && ((He.Fa.noat "TablePlan" "house_count").ok K && ((He.Fa.noat "TablePlan" "questions").ok K && ((He.Fa.noat "TablePlan" "draws").ok K && ((He.Fa.noat "TablePlan" "weight").ok K && ((He.Fa.mkr "TablePlan").ok K && ((He.Fa.meth "TablePlan" "asked").ok K && ((He.Fa.meth "TablePlan" "answer").ok K && ((He.Fa.meth "TablePlan" "answers").ok K && (decide (PySem.W.findIn K (.ref S) "__class__" = some (some (.builtin "object.__class__"))) && (isB0 (PySem.W.mroIn K S (.type "object")) true)))))))))))))
def lbB (K : PySem.W.Frag) (S : Addr) : Bool := (He.Fa.cls "Library").ok K && ((He.Fa.noat "Library" "p").ok K && ((He.Fa.noat "Library" "books").ok K && ((He.Fa.noat "Library" "book_count").ok K && ((He.Fa.noat "Library" "book_length").ok K && ((He.Fa.noat "Library" "letters").ok K && ((He.Fa.mkr "Library").ok K && (decide (PySem.W.findIn K (.ref S) "__class__" = some (some (.builtin "object.__class__"))) && (decide (PySem.W.specialIn K (.builtin "object.__class__") "__get__" = some (some (.builtin "getset_descriptor.__get__"))) && (isB0 (PySem.W.takesIn K (.builtin "object.__class__")) true && (isB0 (PySem.W.mroIn K S (.type "object")) true && (isB0 (PySem.W.kitOne K (.ref S) (.ref S)) true)))))))))))
def xB (K : PySem.W.Frag) (S T : Addr) : Bool := isB0 (PySem.W.kitOne K (.ref T) (.ref T)) true && (isB0 (PySem.W.kitOne K (.ref S) (.ref T)) false && (isB0 (PySem.W.kitOne K (.ref T) (.ref S)) false && (PySem.W.notFirst K T (.ref S) && (PySem.W.notFirst K S (.ref T) && (decide (PySem.W.findIn K (.ref S) "__eq__" = some (some (.ref (He.ma K S "__eq__")))) && (PySem.W.isFn K (.ref (He.ma K S "__eq__")) && (decide (PySem.W.findIn K (.ref T) "__eq__" = some (some (.ref (He.ma K T "__eq__")))) && (PySem.W.isFn K (.ref (He.ma K T "__eq__"))))))))))
def ex (K : PySem.W.Frag) : Bool := freeB K frees && (globB K globs && (exc1B K "InvalidNumber" "value" && (xfB K (He.ga K "InvalidNumber") && (exc1B K "InvalidLibrary" "value" && (xfB K (He.ga K "InvalidLibrary") && (exc1B K "InvalidMatrix" "value" && (xfB K (He.ga K "InvalidMatrix") && (exmB K "InvalidNumber" "InvalidNumber" true && (exmB K "InvalidNumber" "InvalidLibrary" false && (exmB K "InvalidNumber" "InvalidMatrix" false && (exmB K "InvalidLibrary" "InvalidNumber" false && (exmB K "InvalidLibrary" "InvalidLibrary" true && (exmB K "InvalidLibrary" "InvalidMatrix" false && (exmB K "InvalidMatrix" "InvalidNumber" false && (exmB K "InvalidMatrix" "InvalidLibrary" false && (exmB K "InvalidMatrix" "InvalidMatrix" true && (He.tupB K "PRIMES" (primes.map He.Dv.int) && (plB K (He.ga K "Plan") && (tpB K (He.ga K "TablePlan") && (lbB K (He.ga K "Library") && (olB K (He.ga K "Library") && (xB K (He.ga K "Plan") (He.ga K "TablePlan") && (intB K "MOST_LIBRARIES" 4096)))))))))))))))))))))))
theorem getG {K : PySem.W.Frag} (c : He.SaysD [] fn K) (i : Nat) {x : Str} {j : Nat} (h : fn[i]? = some (dG x j)) : ∃ fd, FnS K x (top j) (He.ga K x) fd := c.def_ i h
theorem getM {K : PySem.W.Frag} (c : He.SaysD [] fn K) (i : Nat) {cl m q : Str} {ds : List He.Dv} {j k : Nat} (h : fn[i]? = some (dM cl m j k q ds)) :
    ∃ fd, FunD K m q (defArgs (inClass (top j) k)) (defBody (inClass (top j) k)) (defScope (inClass (top j) k)) (ds.map (He.Dv.v K)) [] (He.ma K (He.ga K cl) m) fd := c.def_ i h
theorem facts {P : Program} {w : World} {K : PySem.W.Frag} {h : Heap} {mg : Str → Option Value} {fa : Addr} (X : K.In h) (G : h.Ns mainGlobals mg) (hfa : mg "law" = some (.ref fa)) (c : He.SaysD [] fn K) (ca : He5.SaysA [] [dOL] K) (e : ex K = true) :
    ∃ fd : FuncData, (∀ (s : Shared) (v : Value), BindsTo s fd ⟨[v], []⟩ [("script", v)]) ∧ ∀ base : Heap, K.In base → base.Ns mainGlobals mg → FnOk P w K mg base CX0 13 fa fd ["script"] (spLaw K) := by
  obtain ⟨e0, e⟩ := and2 e
  obtain ⟨e1, e⟩ := and2 e
  obtain ⟨e2, e⟩ := and2 e
  obtain ⟨e3, e⟩ := and2 e
  obtain ⟨e4, e⟩ := and2 e
  obtain ⟨e5, e⟩ := and2 e
  obtain ⟨e6, e⟩ := and2 e
  obtain ⟨e7, e⟩ := and2 e
  obtain ⟨e8, e⟩ := and2 e
  obtain ⟨e9, e⟩ := and2 e
  obtain ⟨e10, e⟩ := and2 e
  obtain ⟨e11, e⟩ := and2 e
  obtain ⟨e12, e⟩ := and2 e
  obtain ⟨e13, e⟩ := and2 e
  obtain ⟨e14, e⟩ := and2 e
  obtain ⟨e15, e⟩ := and2 e
  obtain ⟨e16, e⟩ := and2 e
  obtain ⟨e17, e⟩ := and2 e
  obtain ⟨e18, e⟩ := and2 e
  obtain ⟨e19, e⟩ := and2 e
  obtain ⟨e20, e⟩ := and2 e
  obtain ⟨e21, e⟩ := and2 e
  obtain ⟨e22, e23⟩ := and2 e
  have fr : ∀ {x : Str}, x ∈ frees → mg x = none := fun hx => freeB_ok X G e0 hx
  have gl : ∀ {x : Str}, x ∈ globs → mg x = some (.ref (He.ga K x)) := fun hx => globB_ok X G e1 hx
  have b0 : ∀ {o : Option Bool} {b : Bool}, isB0 o b = true → o = some b := fun h => of_decide_eq_true h
  have TInvalidNumber : Exc1 K mg "InvalidNumber" "value" := exc1B_ok X G e2
  have XInvalidNumber := xfB_ok e3
  have TInvalidLibrary : Exc1 K mg "InvalidLibrary" "value" := exc1B_ok X G e4
  have XInvalidLibrary := xfB_ok e5
  have TInvalidMatrix : Exc1 K mg "InvalidMatrix" "value" := exc1B_ok X G e6
  have XInvalidMatrix := xfB_ok e7
  have xInvalidNumber_InvalidNumber := b0 e8
  have xInvalidNumber_InvalidLibrary := b0 e9
  have xInvalidNumber_InvalidMatrix := b0 e10
  have xInvalidLibrary_InvalidNumber := b0 e11
  have xInvalidLibrary_InvalidLibrary := b0 e12
  have xInvalidLibrary_InvalidMatrix := b0 e13
  have xInvalidMatrix_InvalidNumber := b0 e14
  have xInvalidMatrix_InvalidLibrary := b0 e15
  have xInvalidMatrix_InvalidMatrix := b0 e16
  have tP : ∀ H, SqT K H (He.ga K "PRIMES") (primes.map V.int) := fun H => He.tupB_ok e17 H
  obtain ⟨p1, p⟩ := and2 e18
  obtain ⟨p2, p⟩ := and2 p
  obtain ⟨p3, p⟩ := and2 p
  obtain ⟨p4, p⟩ := and2 p
  obtain ⟨p5, p⟩ := and2 p
  obtain ⟨p6, p⟩ := and2 p
  obtain ⟨p7, p⟩ := and2 p
  obtain ⟨p8, p⟩ := and2 p
  obtain ⟨p9, p⟩ := and2 p
  obtain ⟨p10, p⟩ := and2 p
  obtain ⟨p11, p⟩ := and2 p
  obtain ⟨p12, p⟩ := and2 p
  obtain ⟨p13, p14⟩ := and2 p
  obtain ⟨q1, q⟩ := and2 e19
  obtain ⟨q2, q⟩ := and2 q
  obtain ⟨q3, q⟩ := and2 q
  obtain ⟨q4, q⟩ := and2 q
  obtain ⟨q5, q⟩ := and2 q
  obtain ⟨q6, q⟩ := and2 q
  obtain ⟨q7, q⟩ := and2 q
  obtain ⟨q8, q⟩ := and2 q
  obtain ⟨q9, q⟩ := and2 q
  obtain ⟨q10, q⟩ := and2 q
  obtain ⟨q11, q⟩ := and2 q
  obtain ⟨q12, q⟩ := and2 q
  obtain ⟨q13, q14⟩ := and2 q
  obtain ⟨l1, l⟩ := and2 e20
  obtain ⟨l2, l⟩ := and2 l
  obtain ⟨l3, l⟩ := and2 l
  obtain ⟨l4, l⟩ := and2 l
  obtain ⟨l5, l⟩ := and2 l
  obtain ⟨l6, l⟩ := and2 l
  obtain ⟨l7, l⟩ := and2 l
  obtain ⟨l8, l⟩ := and2 l
  obtain ⟨l9, l⟩ := and2 l
  obtain ⟨l10, l⟩ := and2 l
  obtain ⟨l11, l12⟩ := and2 l
  obtain ⟨y1, y⟩ := and2 e21
  obtain ⟨y2, y3⟩ := and2 y
  obtain ⟨x1, x⟩ := and2 e22
  obtain ⟨x2, x⟩ := and2 x
  obtain ⟨x3, x⟩ := and2 x
  obtain ⟨x4, x⟩ := and2 x
  obtain ⟨x5, x⟩ := and2 x
  obtain ⟨x6, x⟩ := and2 x
  obtain ⟨x7, x⟩ := and2 x
  obtain ⟨x8, x9⟩ := and2 x
  obtain ⟨_, gM⟩ := intB_ok X G e23
  obtain ⟨fd_is_integer, F_is_integer⟩ := getG c 0 (x := "is_integer") (j := 2) rfl
  obtain ⟨fd_is_number, F_is_number⟩ := getG c 1 (x := "is_number") (j := 3) rfl
  obtain ⟨fd_is_below, F_is_below⟩ := getG c 2 (x := "is_below") (j := 4) rfl
  obtain ⟨fd_is_sequence, F_is_sequence⟩ := getG c 3 (x := "is_sequence") (j := 6) rfl
  obtain ⟨fd_are_letters, F_are_letters⟩ := getG c 4 (x := "are_letters") (j := 8) rfl
  obtain ⟨fd_is_field, F_is_field⟩ := getG c 5 (x := "is_field") (j := 20) rfl
  obtain ⟨fd_check_field, F_check_field⟩ := getG c 6 (x := "check_field") (j := 21) rfl
  obtain ⟨fd_is_positive, F_is_positive⟩ := getG c 7 (x := "is_positive") (j := 5) rfl
  obtain ⟨fd_are_books, F_are_books⟩ := getG c 8 (x := "are_books") (j := 25) rfl
  obtain ⟨fd_letters_of, F_letters_of⟩ := getG c 9 (x := "letters_of") (j := 26) rfl
  obtain ⟨fd_cut_in_books, F_cut_in_books⟩ := getG c 10 (x := "cut_in_books") (j := 27) rfl
  obtain ⟨fd_rows_below, F_rows_below⟩ := getG c 11 (x := "rows_below") (j := 9) rfl
  obtain ⟨fd_every_library, F_every_library⟩ := getG c 12 (x := "every_library") (j := 24) rfl
  obtain ⟨fd__is_row, F__is_row⟩ := getG c 13 (x := "_is_row") (j := 33) rfl
  obtain ⟨fd_is_matrix, F_is_matrix⟩ := getG c 14 (x := "is_matrix") (j := 29) rfl
  obtain ⟨fd_width_of_rows, F_width_of_rows⟩ := getG c 15 (x := "width_of_rows") (j := 32) rfl
  obtain ⟨fd_check_matrix, F_check_matrix⟩ := getG c 16 (x := "check_matrix") (j := 31) rfl
  obtain ⟨fd_is_rising, F_is_rising⟩ := getG c 17 (x := "is_rising") (j := 7) rfl
  obtain ⟨fd_check_sizes, F_check_sizes⟩ := getG c 18 (x := "check_sizes") (j := 37) rfl
  obtain ⟨fd_check_places, F_check_places⟩ := getG c 19 (x := "check_places") (j := 39) rfl
  obtain ⟨fd_members_of, F_members_of⟩ := getG c 20 (x := "members_of") (j := 38) rfl
  obtain ⟨fd__is_framed, F__is_framed⟩ := getG c 21 (x := "_is_framed") (j := 52) rfl
  obtain ⟨fd_is_draw, F_is_draw⟩ := getG c 22 (x := "is_draw") (j := 44) rfl
  obtain ⟨fd_check_draws, F_check_draws⟩ := getG c 23 (x := "check_draws") (j := 40) rfl
  obtain ⟨fd_kept_questions, F_kept_questions⟩ := getG c 24 (x := "kept_questions") (j := 41) rfl
  obtain ⟨fd_kept_draws, F_kept_draws⟩ := getG c 25 (x := "kept_draws") (j := 42) rfl
  obtain ⟨fd_weight_of, F_weight_of⟩ := getG c 26 (x := "weight_of") (j := 43) rfl
  obtain ⟨fd_check_wish, F_check_wish⟩ := getG c 27 (x := "check_wish") (j := 45) rfl
  obtain ⟨fd_check_ask, F_check_ask⟩ := getG c 28 (x := "check_ask") (j := 46) rfl
  obtain ⟨fd_check_question, F_check_question⟩ := getG c 29 (x := "check_question") (j := 47) rfl
  obtain ⟨fd_check_library, F_check_library⟩ := getG c 30 (x := "check_library") (j := 48) rfl
  obtain ⟨fd__products, F__products⟩ := getG c 31 (x := "_products") (j := 34) rfl
  obtain ⟨fd_products, F_products⟩ := getG c 32 (x := "products") (j := 30) rfl
  obtain ⟨fd__is_question, F__is_question⟩ := getG c 33 (x := "_is_question") (j := 59) rfl
  obtain ⟨fd_power_up_to, F_power_up_to⟩ := getG c 34 (x := "power_up_to") (j := 11) rfl
  obtain ⟨fd_number_of_digits, F_number_of_digits⟩ := getG c 35 (x := "number_of_digits") (j := 10) rfl
  obtain ⟨fd__tabled_questions, F__tabled_questions⟩ := getG c 36 (x := "_tabled_questions") (j := 60) rfl
  obtain ⟨fd__renumbered, F__renumbered⟩ := getG c 37 (x := "_renumbered") (j := 61) rfl
  obtain ⟨fd_as_table, F_as_table⟩ := getG c 38 (x := "as_table") (j := 56) rfl
  obtain ⟨fd__law_draws, F__law_draws⟩ := getG c 39 (x := "_law_draws") (j := 63) rfl
  obtain ⟨fd__law_take, F__law_take⟩ := getG c 40 (x := "_law_take") (j := 64) rfl
  obtain ⟨fd__law_product, F__law_product⟩ := getG c 41 (x := "_law_product") (j := 70) rfl
  obtain ⟨fd__law_answer, F__law_answer⟩ := getG c 42 (x := "_law_answer") (j := 71) rfl
  obtain ⟨fd__law_rising, F__law_rising⟩ := getG c 43 (x := "_law_rising") (j := 68) rfl
  obtain ⟨fd__law_books, F__law_books⟩ := getG c 44 (x := "_law_books") (j := 65) rfl
  obtain ⟨fd__law_library_size, F__law_library_size⟩ := getG c 45 (x := "_law_library_size") (j := 66) rfl
  obtain ⟨fd__law_questions, F__law_questions⟩ := getG c 46 (x := "_law_questions") (j := 67) rfl
  obtain ⟨fd__law_parts, F__law_parts⟩ := getG c 47 (x := "_law_parts") (j := 69) rfl
  obtain ⟨fd__law_letters, F__law_letters⟩ := getG c 48 (x := "_law_letters") (j := 74) rfl
  obtain ⟨fd__law_power, F__law_power⟩ := getG c 49 (x := "_law_power") (j := 75) rfl
  obtain ⟨fd__law_pair, F__law_pair⟩ := getG c 50 (x := "_law_pair") (j := 76) rfl
  obtain ⟨fd__law_tables, F__law_tables⟩ := getG c 51 (x := "_law_tables") (j := 77) rfl
  obtain ⟨fd__law_same, F__law_same⟩ := getG c 52 (x := "_law_same") (j := 72) rfl
  obtain ⟨fd__law_is_plan, F__law_is_plan⟩ := getG c 53 (x := "_law_is_plan") (j := 73) rfl
  obtain ⟨fd_law, F_law⟩ := getG c 54 (x := "law") (j := 78) rfl
  obtain ⟨fd_are_questions_plans, F_are_questions_plans⟩ : ∃ fd, FnS K "_are_questions" (top 50) (He.ga K "are_questions_plans") fd := c.def_ 55 rfl
  obtain ⟨fd_are_questions_tables, F_are_questions_tables⟩ : ∃ fd, FnS K "_are_questions" (top 57) (He.ga K "are_questions_tables") fd := c.def_ 56 rfl
  obtain ⟨fd_Library_of_letters, F_Library_of_letters⟩ := ca.def_ 0 (d := dOL) rfl
  obtain ⟨fd_InvalidNumber___init__, F_InvalidNumber___init__⟩ := getM c 57 (cl := "InvalidNumber") (m := "__init__") (q := "InvalidNumber.__init__") (ds := []) (j := 14) (k := 0) rfl
  obtain ⟨fd_InvalidLibrary___init__, F_InvalidLibrary___init__⟩ := getM c 58 (cl := "InvalidLibrary") (m := "__init__") (q := "InvalidLibrary.__init__") (ds := []) (j := 16) (k := 0) rfl
  obtain ⟨fd_InvalidMatrix___init__, F_InvalidMatrix___init__⟩ := getM c 59 (cl := "InvalidMatrix") (m := "__init__") (q := "InvalidMatrix.__init__") (ds := []) (j := 15) (k := 0) rfl
  obtain ⟨fd_Library___init__, F_Library___init__⟩ := getM c 60 (cl := "Library") (m := "__init__") (q := "Library.__init__") (ds := []) (j := 23) (k := 0) rfl
  obtain ⟨fd_Plan___init__, F_Plan___init__⟩ := getM c 61 (cl := "Plan") (m := "__init__") (q := "Plan.__init__") (ds := []) (j := 36) (k := 0) rfl
  obtain ⟨fd_Plan___eq__, F_Plan___eq__⟩ := getM c 62 (cl := "Plan") (m := "__eq__") (q := "Plan.__eq__") (ds := []) (j := 36) (k := 1) rfl
  obtain ⟨fd_Plan_asked, F_Plan_asked⟩ := getM c 63 (cl := "Plan") (m := "asked") (q := "Plan.asked") (ds := []) (j := 36) (k := 2) rfl
  obtain ⟨fd_Plan_answer, F_Plan_answer⟩ := getM c 64 (cl := "Plan") (m := "answer") (q := "Plan.answer") (ds := []) (j := 36) (k := 5) rfl
  obtain ⟨fd_Plan_answers, F_Plan_answers⟩ := getM c 65 (cl := "Plan") (m := "answers") (q := "Plan.answers") (ds := []) (j := 36) (k := 6) rfl
  obtain ⟨fd_TablePlan___init__, F_TablePlan___init__⟩ := getM c 66 (cl := "TablePlan") (m := "__init__") (q := "TablePlan.__init__") (ds := []) (j := 55) (k := 0) rfl
  obtain ⟨fd_TablePlan___eq__, F_TablePlan___eq__⟩ := getM c 67 (cl := "TablePlan") (m := "__eq__") (q := "TablePlan.__eq__") (ds := []) (j := 55) (k := 1) rfl
  obtain ⟨fd_TablePlan_asked, F_TablePlan_asked⟩ := getM c 68 (cl := "TablePlan") (m := "asked") (q := "TablePlan.asked") (ds := []) (j := 55) (k := 2) rfl
  obtain ⟨fd_TablePlan_answer, F_TablePlan_answer⟩ := getM c 69 (cl := "TablePlan") (m := "answer") (q := "TablePlan.answer") (ds := []) (j := 55) (k := 4) rfl
  obtain ⟨fd_TablePlan_answers, F_TablePlan_answers⟩ := getM c 70 (cl := "TablePlan") (m := "answers") (q := "TablePlan.answers") (ds := []) (j := 55) (k := 5) rfl
  have efa := hfa.symm.trans (gl (x := "law") (by decide +kernel))
  cases efa
  have bl := FunD.bindsA (ps := ["script"]) F_law fun _ _ _ _ _ _ us hl => match us, hl with | [_], _ => rfl
  refine ⟨fd_law, fun s v => bl s [v] rfl, fun base _ _ => ?_⟩
  have GInvalidNumber := ok_init1 (P := P) (w := w) (K := K) (mg := mg) (base := base) (C := He.ga K "InvalidNumber") F_InvalidNumber___init__ scInvalidNumber bodyInvalidNumber
  have bdInvalidNumber : Binds K fd_InvalidNumber___init__ ["self", "value"] [] := FunD.bindsN F_InvalidNumber___init__ fun _ _ _ _ _ _ us hl => match us, hl with | [_, _], _ => rfl
  have GInvalidLibrary := ok_init1 (P := P) (w := w) (K := K) (mg := mg) (base := base) (C := He.ga K "InvalidLibrary") F_InvalidLibrary___init__ scInvalidLibrary bodyInvalidLibrary
  have bdInvalidLibrary : Binds K fd_InvalidLibrary___init__ ["self", "value"] [] := FunD.bindsN F_InvalidLibrary___init__ fun _ _ _ _ _ _ us hl => match us, hl with | [_, _], _ => rfl
  have GInvalidMatrix := ok_init1 (P := P) (w := w) (K := K) (mg := mg) (base := base) (C := He.ga K "InvalidMatrix") F_InvalidMatrix___init__ scInvalidMatrix bodyInvalidMatrix
  have bdInvalidMatrix : Binds K fd_InvalidMatrix___init__ ["self", "value"] [] := FunD.bindsN F_InvalidMatrix___init__ fun _ _ _ _ _ _ us hl => match us, hl with | [_, _], _ => rfl
  have B : Blt5 mg := { isi := fr (by decide +kernel), int := fr (by decide +kernel), bool := fr (by decide +kernel), len := fr (by decide +kernel), abs := fr (by decide +kernel), range := fr (by decide +kernel), tuple := fr (by decide +kernel), lst := fr (by decide +kernel), all := fr (by decide +kernel), any := fr (by decide +kernel), zip := fr (by decide +kernel), max := fr (by decide +kernel), min := fr (by decide +kernel), sum := fr (by decide +kernel) }
  have B4 : Blt4 mg := B.toBlt4
  have B3 : Blt3 mg := B4.toBlt3
  have B2 : Blt2 mg := B3.toBlt2
  have B0 : Blt mg := B2.toBlt
  have CP : PlC K mg (He.ga K "Plan") := { g := gl (by decide +kernel), cl := He.cls_ok p1, nP := He.noat_ok p2, nL := He.noat_ok p3, nC := He.noat_ok p4, nH := He.noat_ok p5, nQ := He.noat_ok p6, nD := He.noat_ok p7, nW := He.noat_ok p8 }
  have MK_Plan := He.mkr_ok p9
  have m_Plan_asked := He.meth_ok p10
  have m_Plan_answer := He.meth_ok p11
  have m_Plan_answers := He.meth_ok p12
  have ICP : IsC K (He.ga K "Plan") := { cl := He.cls_ok p1, ha := of_decide_eq_true p13, hn := of_decide_eq_true l9, htk := b0 l10, hm := b0 p14 }
  have CTp : TpC K mg (He.ga K "TablePlan") := { g := gl (by decide +kernel), cl := He.cls_ok q1, nP := He.noat_ok q2, nL := He.noat_ok q3, nC := He.noat_ok q4, nH := He.noat_ok q5, nQ := He.noat_ok q6, nD := He.noat_ok q7, nW := He.noat_ok q8 }
  have MK_TablePlan := He.mkr_ok q9
  have m_TablePlan_asked := He.meth_ok q10
  have m_TablePlan_answer := He.meth_ok q11
  have m_TablePlan_answers := He.meth_ok q12
  have ICTp : IsC K (He.ga K "TablePlan") := { cl := He.cls_ok q1, ha := of_decide_eq_true q13, hn := of_decide_eq_true l9, htk := b0 l10, hm := b0 q14 }
  have CLb : LibC K mg (He.ga K "Library") := { g := gl (by decide +kernel), cl := He.cls_ok l1, nP := He.noat_ok l2, nB := He.noat_ok l3, nC := He.noat_ok l4, nL := He.noat_ok l5, nT := He.noat_ok l6, ha := of_decide_eq_true l8, hn := of_decide_eq_true l9, htk := b0 l10, hm := b0 l11, kS := b0 l12 }
  have MK_Library := He.mkr_ok l7
  have C_is_integer := cal_mk (P := P) (w := w) (mg := mg) (base := base) (x := "is_integer") F_is_integer (gl (by decide +kernel)) (ok_isInt F_is_integer B0) fun _ _ _ _ _ _ us hl => match us, hl with | [_], _ => rfl
  have C_is_number := cal_mk (P := P) (w := w) (mg := mg) (base := base) (x := "is_number") F_is_number (gl (by decide +kernel)) (ok_isNum F_is_number C_is_integer) fun _ _ _ _ _ _ us hl => match us, hl with | [_], _ => rfl
  have C_is_below := cal_mk (P := P) (w := w) (mg := mg) (base := base) (x := "is_below") F_is_below (gl (by decide +kernel)) (ok_isBel F_is_below C_is_number) fun _ _ _ _ _ _ us hl => match us, hl with | [_, _], _ => rfl
  have C_is_sequence := cal_mk (P := P) (w := w) (mg := mg) (base := base) (x := "is_sequence") F_is_sequence (gl (by decide +kernel)) (ok_seq F_is_sequence B3) fun _ _ _ _ _ _ us hl => match us, hl with | [_], _ => rfl
  have C_are_letters := cal_mk (P := P) (w := w) (mg := mg) (base := base) (x := "are_letters") F_are_letters (gl (by decide +kernel)) (ok_lets F_are_letters B3 C_is_sequence C_is_below) fun _ _ _ _ _ _ us hl => match us, hl with | [_, _, _], _ => rfl
  have C_is_field := cal_mk (P := P) (w := w) (mg := mg) (base := base) (x := "is_field") F_is_field (gl (by decide +kernel)) (ok_isFld F_is_field C_is_integer (gl (by decide +kernel)) tP) fun _ _ _ _ _ _ us hl => match us, hl with | [_], _ => rfl
  have C_check_field := cal_mk (P := P) (w := w) (mg := mg) (base := base) (x := "check_field") F_check_field (gl (by decide +kernel)) (ok_check F_check_field C_is_field TInvalidNumber GInvalidNumber bdInvalidNumber) fun _ _ _ _ _ _ us hl => match us, hl with | [_], _ => rfl
  have C_is_positive := cal_mk (P := P) (w := w) (mg := mg) (base := base) (x := "is_positive") F_is_positive (gl (by decide +kernel)) (ok_Po F_is_positive C_is_integer) fun _ _ _ _ _ _ us hl => match us, hl with | [_], _ => rfl
  have C_are_books := cal_mk (P := P) (w := w) (mg := mg) (base := base) (x := "are_books") F_are_books (gl (by decide +kernel)) (ok_AB F_are_books B3 C_is_sequence C_are_letters) fun _ _ _ _ _ _ us hl => match us, hl with | [_, _], _ => rfl
  have C_letters_of := cal_mk (P := P) (w := w) (mg := mg) (base := base) (x := "letters_of") F_letters_of (gl (by decide +kernel)) (ok_LO F_letters_of B3) fun _ _ _ _ _ _ us hl => match us, hl with | [_], _ => rfl
  have g_Library___init__ := ok_LI (P := P) (w := w) (mg := mg) (base := base) F_Library___init__ B3 CLb C_check_field C_are_books C_letters_of
  have b_Library___init__ : L2.Binds K fd_Library___init__ ["self", "p", "books"] [] := FunD.bindsN F_Library___init__ fun _ _ _ _ _ _ us hl => match us, hl with | [_, _, _], _ => rfl
  have C_cut_in_books := cal_mk (P := P) (w := w) (mg := mg) (base := base) (x := "cut_in_books") F_cut_in_books (gl (by decide +kernel)) (ok_Cut F_cut_in_books B3) fun _ _ _ _ _ _ us hl => match us, hl with | [_, _], _ => rfl
  have g_Library_of_letters := ok_OL (P := P) (w := w) (mg := mg) (base := base) F_Library_of_letters C_check_field C_cut_in_books MK_Library g_Library___init__ b_Library___init__
  have b_Library_of_letters : L2.Binds K fd_Library_of_letters ["cls", "p", "book_length", "letters"] [] := FunD.bindsN F_Library_of_letters fun _ _ _ _ _ _ us hl => match us, hl with | [_, _, _, _], _ => rfl
  have OL : OLM P w K mg base (He.ga K "Library") _ _ := { r := cread_new y1, c := He5.cmet_of y2 y3, F := WU.FnOk.raw0 g_Library_of_letters b_Library_of_letters }
  have C_rows_below := cal_mk (P := P) (w := w) (mg := mg) (base := base) (x := "rows_below") F_rows_below (gl (by decide +kernel)) (ok_Rb F_rows_below B3) fun _ _ _ _ _ _ us hl => match us, hl with | [_, _], _ => rfl
  have C_every_library := cal_mk (P := P) (w := w) (mg := mg) (base := base) (x := "every_library") F_every_library (gl (by decide +kernel)) (ok_Ev F_every_library B3 CLb C_check_field OL C_rows_below) fun _ _ _ _ _ _ us hl => match us, hl with | [_, _, _], _ => rfl
  have C__is_row := cal_mk (P := P) (w := w) (mg := mg) (base := base) (x := "_is_row") F__is_row (gl (by decide +kernel)) (ok_row F__is_row B4 C_are_letters) fun _ _ _ _ _ _ us hl => match us, hl with | [_, _, _], _ => rfl
  have C_is_matrix := cal_mk (P := P) (w := w) (mg := mg) (base := base) (x := "is_matrix") F_is_matrix (gl (by decide +kernel)) (ok_mat F_is_matrix B4 C__is_row) fun _ _ _ _ _ _ us hl => match us, hl with | [_, _, _], _ => rfl
  have C_width_of_rows := cal_mk (P := P) (w := w) (mg := mg) (base := base) (x := "width_of_rows") F_width_of_rows (gl (by decide +kernel)) (ok_wid F_width_of_rows B4) fun _ _ _ _ _ _ us hl => match us, hl with | [_], _ => rfl
  have C_check_matrix := cal_mk (P := P) (w := w) (mg := mg) (base := base) (x := "check_matrix") F_check_matrix (gl (by decide +kernel)) (ok_chk F_check_matrix C_check_field C_is_matrix C_width_of_rows TInvalidMatrix GInvalidMatrix bdInvalidMatrix) fun _ _ _ _ _ _ us hl => match us, hl with | [_, _], _ => rfl
  have C_is_rising := cal_mk (P := P) (w := w) (mg := mg) (base := base) (x := "is_rising") F_is_rising (gl (by decide +kernel)) (ok_Ri F_is_rising B4) fun _ _ _ _ _ _ us hl => match us, hl with | [_], _ => rfl
  have C_check_sizes := cal_mk (P := P) (w := w) (mg := mg) (base := base) (x := "check_sizes") F_check_sizes (gl (by decide +kernel)) (ok_Sz F_check_sizes C_is_field C_is_positive) fun _ _ _ _ _ _ us hl => match us, hl with | [_, _, _], _ => rfl
  have C_check_places := cal_mk (P := P) (w := w) (mg := mg) (base := base) (x := "check_places") F_check_places (gl (by decide +kernel)) (ok_Ps F_check_places) fun _ _ _ _ _ _ us hl => match us, hl with | [_, _], _ => rfl
  have C_members_of := cal_mk (P := P) (w := w) (mg := mg) (base := base) (x := "members_of") F_members_of (gl (by decide +kernel)) (ok_Mb F_members_of B4 C_is_sequence) fun _ _ _ _ _ _ us hl => match us, hl with | [_], _ => rfl
  have C__is_framed := cal_mk (P := P) (w := w) (mg := mg) (base := base) (x := "_is_framed") F__is_framed (gl (by decide +kernel)) (ok_Fr F__is_framed B4 C_is_sequence C_is_positive) fun _ _ _ _ _ _ us hl => match us, hl with | [_, _, _], _ => rfl
  have b_are_questions_plans : L2.Binds K fd_are_questions_plans ["p", "columns", "value"] [] := FunD.bindsN F_are_questions_plans fun _ _ _ _ _ _ us hl => match us, hl with | [_, _, _], _ => rfl
  have C_are_questions_plans : Cal P w K mg base 7 "are_questions_plans" _ fd_are_questions_plans ["p", "columns", "value"] spQu := ⟨gl (by decide +kernel), F_are_questions_plans.kp, b_are_questions_plans, ok_Qu F_are_questions_plans B4 C_is_sequence C_is_matrix C_is_rising⟩
  have C_is_draw := cal_mk (P := P) (w := w) (mg := mg) (base := base) (x := "is_draw") F_is_draw (gl (by decide +kernel)) (ok_Idr F_is_draw B4 C__is_framed C_is_below) fun _ _ _ _ _ _ us hl => match us, hl with | [_, _, _], _ => rfl
  have C_check_draws := cal_mk (P := P) (w := w) (mg := mg) (base := base) (x := "check_draws") F_check_draws (gl (by decide +kernel)) (ok_Cd F_check_draws B4 C_check_places C_members_of C_is_draw) fun _ _ _ _ _ _ us hl => match us, hl with | [_, _, _], _ => rfl
  have C_kept_questions := cal_mk (P := P) (w := w) (mg := mg) (base := base) (x := "kept_questions") F_kept_questions (gl (by decide +kernel)) (ok_Kq stb2 F_kept_questions B4) fun _ _ _ _ _ _ us hl => match us, hl with | [_], _ => rfl
  have C_kept_draws := cal_mk (P := P) (w := w) (mg := mg) (base := base) (x := "kept_draws") F_kept_draws (gl (by decide +kernel)) (ok_Kd2 F_kept_draws B4) fun _ _ _ _ _ _ us hl => match us, hl with | [_], _ => rfl
  have C_weight_of := cal_mk (P := P) (w := w) (mg := mg) (base := base) (x := "weight_of") F_weight_of (gl (by decide +kernel)) (ok_Wt F_weight_of B) fun _ _ _ _ _ _ us hl => match us, hl with | [_], _ => rfl
  have g_Plan___init__ := ok_PI (P := P) (w := w) (mg := mg) (base := base) F_Plan___init__ B CP C_check_sizes C_check_places C_members_of C_are_questions_plans C_check_draws C_kept_questions C_kept_draws C_weight_of
  have b_Plan___init__ : L2.Binds K fd_Plan___init__ ["self", "p", "book_length", "book_count", "questions", "draws"] [] := FunD.bindsN F_Plan___init__ fun _ _ _ _ _ _ us hl => match us, hl with | [_, _, _, _, _, _], _ => rfl
  have C_check_wish := cal_mk (P := P) (w := w) (mg := mg) (base := base) (x := "check_wish") F_check_wish (gl (by decide +kernel)) (ok_CW F_check_wish CP C_is_below TInvalidNumber GInvalidNumber bdInvalidNumber) fun _ _ _ _ _ _ us hl => match us, hl with | [_, _], _ => rfl
  have C_check_ask := cal_mk (P := P) (w := w) (mg := mg) (base := base) (x := "check_ask") F_check_ask (gl (by decide +kernel)) (ok_CA F_check_ask B4 CP C_is_below C_check_wish TInvalidNumber GInvalidNumber bdInvalidNumber) fun _ _ _ _ _ _ us hl => match us, hl with | [_, _, _], _ => rfl
  have C_check_question := cal_mk (P := P) (w := w) (mg := mg) (base := base) (x := "check_question") F_check_question (gl (by decide +kernel)) (ok_CQ F_check_question B4 CP C_is_below TInvalidNumber GInvalidNumber bdInvalidNumber) fun _ _ _ _ _ _ us hl => match us, hl with | [_, _, _], _ => rfl
  have C_check_library := cal_mk (P := P) (w := w) (mg := mg) (base := base) (x := "check_library") F_check_library (gl (by decide +kernel)) (ok_CL F_check_library B4 CP CLb TInvalidLibrary GInvalidLibrary bdInvalidLibrary) fun _ _ _ _ _ _ us hl => match us, hl with | [_, _], _ => rfl
  have C__products := cal_mk (P := P) (w := w) (mg := mg) (base := base) (x := "_products") F__products (gl (by decide +kernel)) (ok_Pr1 F__products B) fun _ _ _ _ _ _ us hl => match us, hl with | [_, _, _], _ => rfl
  have C_products := cal_mk (P := P) (w := w) (mg := mg) (base := base) (x := "products") F_products (gl (by decide +kernel)) (ok_Px F_products C_check_matrix C__products) fun _ _ _ _ _ _ us hl => match us, hl with | [_, _, _], _ => rfl
  have g_Plan_asked := ok_Ad (P := P) (w := w) (mg := mg) (base := base) F_Plan_asked CP C_check_ask
  have b_Plan_asked : L2.Binds K fd_Plan_asked ["self", "wish", "draw"] [] := FunD.bindsN F_Plan_asked fun _ _ _ _ _ _ us hl => match us, hl with | [_, _, _], _ => rfl
  have g_Plan_answer := ok_Aw (P := P) (w := w) (mg := mg) (base := base) F_Plan_answer B4 CP CLb C_check_question C_check_library C_products
  have b_Plan_answer : L2.Binds K fd_Plan_answer ["self", "house", "question", "library"] [] := FunD.bindsN F_Plan_answer fun _ _ _ _ _ _ us hl => match us, hl with | [_, _, _, _], _ => rfl
  have g_Plan_answers := ok_An (P := P) (w := w) (mg := mg) (base := base) F_Plan_answers B4 (fr (by decide +kernel)) CP C_check_library m_Plan_asked g_Plan_asked b_Plan_asked m_Plan_answer g_Plan_answer b_Plan_answer
  have b_Plan_answers : L2.Binds K fd_Plan_answers ["self", "wish", "draw", "library"] [] := FunD.bindsN F_Plan_answers fun _ _ _ _ _ _ us hl => match us, hl with | [_, _, _, _], _ => rfl
  have C_is_rising_spRiL := cal_mk (P := P) (w := w) (mg := mg) (base := base) (x := "is_rising") F_is_rising (gl (by decide +kernel)) (ok_RiL stb_TQ dtQ ordQ F_is_rising B4) fun _ _ _ _ _ _ us hl => match us, hl with | [_], _ => rfl
  have C__is_question := cal_mk (P := P) (w := w) (mg := mg) (base := base) (x := "_is_question") F__is_question (gl (by decide +kernel)) (ok_Q1 F__is_question B4 C_is_number C_is_matrix) fun _ _ _ _ _ _ us hl => match us, hl with | [_, _, _], _ => rfl
  have b_are_questions_tables : L2.Binds K fd_are_questions_tables ["p", "libraries", "value"] [] := FunD.bindsN F_are_questions_tables fun _ _ _ _ _ _ us hl => match us, hl with | [_, _, _], _ => rfl
  have C_are_questions_tables : Cal P w K mg base 8 "are_questions_tables" _ fd_are_questions_tables ["p", "libraries", "value"] spQt := ⟨gl (by decide +kernel), F_are_questions_tables.kp, b_are_questions_tables, ok_Qt F_are_questions_tables B4 C_is_sequence C__is_question C_is_rising_spRiL⟩
  have C_members_of_spMbL := cal_mk (P := P) (w := w) (mg := mg) (base := base) (x := "members_of") F_members_of (gl (by decide +kernel)) (ok_MbL F_members_of B4 C_is_sequence) fun _ _ _ _ _ _ us hl => match us, hl with | [_], _ => rfl
  have C__is_framed_spFrL := cal_mk (P := P) (w := w) (mg := mg) (base := base) (x := "_is_framed") F__is_framed (gl (by decide +kernel)) (ok_FrL F__is_framed B4 C_is_sequence C_is_positive) fun _ _ _ _ _ _ us hl => match us, hl with | [_, _, _], _ => rfl
  have C_is_draw_spIdrL := cal_mk (P := P) (w := w) (mg := mg) (base := base) (x := "is_draw") F_is_draw (gl (by decide +kernel)) (ok_IdrL F_is_draw B4 C__is_framed_spFrL C_is_below) fun _ _ _ _ _ _ us hl => match us, hl with | [_, _, _], _ => rfl
  have C_check_draws_spCdL := cal_mk (P := P) (w := w) (mg := mg) (base := base) (x := "check_draws") F_check_draws (gl (by decide +kernel)) (ok_CdL stb_TQ F_check_draws B4 C_check_places C_members_of_spMbL C_is_draw_spIdrL) fun _ _ _ _ _ _ us hl => match us, hl with | [_, _, _], _ => rfl
  have C_kept_draws_spKdL := cal_mk (P := P) (w := w) (mg := mg) (base := base) (x := "kept_draws") F_kept_draws (gl (by decide +kernel)) (ok_KdL F_kept_draws B4) fun _ _ _ _ _ _ us hl => match us, hl with | [_], _ => rfl
  have C_weight_of_spWtL := cal_mk (P := P) (w := w) (mg := mg) (base := base) (x := "weight_of") F_weight_of (gl (by decide +kernel)) (ok_WtL F_weight_of B) fun _ _ _ _ _ _ us hl => match us, hl with | [_], _ => rfl
  have C_kept_questions_spKqL := cal_mk (P := P) (w := w) (mg := mg) (base := base) (x := "kept_questions") F_kept_questions (gl (by decide +kernel)) (ok_KqL stb_TQ F_kept_questions B4) fun _ _ _ _ _ _ us hl => match us, hl with | [_], _ => rfl
  have C_power_up_to := cal_mk (P := P) (w := w) (mg := mg) (base := base) (x := "power_up_to") F_power_up_to (gl (by decide +kernel)) (ok_Pw F_power_up_to) fun _ _ _ _ _ _ us hl => match us, hl with | [_, _, _], _ => rfl
  have C_number_of_digits := cal_mk (P := P) (w := w) (mg := mg) (base := base) (x := "number_of_digits") F_number_of_digits (gl (by decide +kernel)) (ok_Nd F_number_of_digits) fun _ _ _ _ _ _ us hl => match us, hl with | [_, _], _ => rfl
  have g_TablePlan___init__ := ok_TI (P := P) (w := w) (mg := mg) (base := base) F_TablePlan___init__ B CTp gM C_check_sizes C_check_places C_members_of_spMbL C_are_questions_tables C_check_draws_spCdL C_kept_questions_spKqL C_kept_draws_spKdL C_weight_of_spWtL C_power_up_to
  have b_TablePlan___init__ : L2.Binds K fd_TablePlan___init__ ["self", "p", "book_length", "book_count", "questions", "draws"] [] := FunD.bindsN F_TablePlan___init__ fun _ _ _ _ _ _ us hl => match us, hl with | [_, _, _, _, _, _], _ => rfl
  have C_check_wish_spCWT := cal_mk (P := P) (w := w) (mg := mg) (base := base) (x := "check_wish") F_check_wish (gl (by decide +kernel)) (ok_CWT F_check_wish CTp C_is_below TInvalidNumber GInvalidNumber bdInvalidNumber) fun _ _ _ _ _ _ us hl => match us, hl with | [_, _], _ => rfl
  have C_check_ask_spCAsT := cal_mk (P := P) (w := w) (mg := mg) (base := base) (x := "check_ask") F_check_ask (gl (by decide +kernel)) (ok_CAT F_check_ask B4 CTp C_is_below C_check_wish_spCWT TInvalidNumber GInvalidNumber bdInvalidNumber) fun _ _ _ _ _ _ us hl => match us, hl with | [_, _, _], _ => rfl
  have C_check_question_spCQT := cal_mk (P := P) (w := w) (mg := mg) (base := base) (x := "check_question") F_check_question (gl (by decide +kernel)) (ok_CQT F_check_question B4 CTp C_is_below TInvalidNumber GInvalidNumber bdInvalidNumber) fun _ _ _ _ _ _ us hl => match us, hl with | [_, _, _], _ => rfl
  have C_check_library_spCLT := cal_mk (P := P) (w := w) (mg := mg) (base := base) (x := "check_library") F_check_library (gl (by decide +kernel)) (ok_CLT F_check_library B4 CTp CLb TInvalidLibrary GInvalidLibrary bdInvalidLibrary) fun _ _ _ _ _ _ us hl => match us, hl with | [_, _], _ => rfl
  have g_TablePlan_asked := ok_AdT (P := P) (w := w) (mg := mg) (base := base) F_TablePlan_asked CTp C_check_ask_spCAsT
  have b_TablePlan_asked : L2.Binds K fd_TablePlan_asked ["self", "wish", "draw"] [] := FunD.bindsN F_TablePlan_asked fun _ _ _ _ _ _ us hl => match us, hl with | [_, _, _], _ => rfl
  have g_TablePlan_answer := ok_AwT (P := P) (w := w) (mg := mg) (base := base) F_TablePlan_answer B4 CTp CLb C_check_question_spCQT C_check_library_spCLT C_number_of_digits
  have b_TablePlan_answer : L2.Binds K fd_TablePlan_answer ["self", "house", "question", "library"] [] := FunD.bindsN F_TablePlan_answer fun _ _ _ _ _ _ us hl => match us, hl with | [_, _, _, _], _ => rfl
  have g_TablePlan_answers := ok_AnT (P := P) (w := w) (mg := mg) (base := base) F_TablePlan_answers B4 (fr (by decide +kernel)) CTp C_check_library_spCLT m_TablePlan_asked g_TablePlan_asked b_TablePlan_asked m_TablePlan_answer g_TablePlan_answer b_TablePlan_answer
  have b_TablePlan_answers : L2.Binds K fd_TablePlan_answers ["self", "wish", "draw", "library"] [] := FunD.bindsN F_TablePlan_answers fun _ _ _ _ _ _ us hl => match us, hl with | [_, _, _, _], _ => rfl
  have TMk : TpMk P w K mg base (He.ga K "TablePlan") _ _ := { made := MK_TablePlan, gI := g_TablePlan___init__, bI := b_TablePlan___init__ }
  have C__tabled_questions := cal_mk (P := P) (w := w) (mg := mg) (base := base) (x := "_tabled_questions") F__tabled_questions (gl (by decide +kernel)) (ok_Tq F__tabled_questions B4 (fr (by decide +kernel)) CP m_Plan_answer g_Plan_answer b_Plan_answer) fun _ _ _ _ _ _ us hl => match us, hl with | [_, _, _], _ => rfl
  have C__renumbered := cal_mk (P := P) (w := w) (mg := mg) (base := base) (x := "_renumbered") F__renumbered (gl (by decide +kernel)) (ok_Rn F__renumbered B4) fun _ _ _ _ _ _ us hl => match us, hl with | [_, _], _ => rfl
  have C_as_table := cal_mk (P := P) (w := w) (mg := mg) (base := base) (x := "as_table") F_as_table (gl (by decide +kernel)) (ok_At F_as_table B4 (fr (by decide +kernel)) CP CTp TMk C_every_library C__tabled_questions C__renumbered) fun _ _ _ _ _ _ us hl => match us, hl with | [_], _ => rfl
  have C__law_draws := cal_mk (P := P) (w := w) (mg := mg) (base := base) (x := "_law_draws") F__law_draws (gl (by decide +kernel)) (ok_draws (many := 700) F__law_draws B2 (by decide) (by decide)) fun _ _ _ _ _ _ us hl => match us, hl with | [_, _], _ => rfl
  have C__law_take := cal_mk (P := P) (w := w) (mg := mg) (base := base) (x := "_law_take") F__law_take (gl (by decide +kernel)) (ok_take F__law_take B2) fun _ _ _ _ _ _ us hl => match us, hl with | [_, _], _ => rfl
  have C__law_product := cal_mk (P := P) (w := w) (mg := mg) (base := base) (x := "_law_product") F__law_product (gl (by decide +kernel)) (ok_LP F__law_product B) fun _ _ _ _ _ _ us hl => match us, hl with | [_, _, _], _ => rfl
  have C__law_answer := cal_mk (P := P) (w := w) (mg := mg) (base := base) (x := "_law_answer") F__law_answer (gl (by decide +kernel)) (ok_LA F__law_answer B C__law_product) fun _ _ _ _ _ _ us hl => match us, hl with | [_, _, _], _ => rfl
  have C__law_rising := cal_mk (P := P) (w := w) (mg := mg) (base := base) (x := "_law_rising") F__law_rising (gl (by decide +kernel)) (ok_Rs F__law_rising B4) fun _ _ _ _ _ _ us hl => match us, hl with | [_], _ => rfl
  have C__law_books := cal_mk (P := P) (w := w) (mg := mg) (base := base) (x := "_law_books") F__law_books (gl (by decide +kernel)) (ok_Bk F__law_books B3 C__law_take) fun _ _ _ _ _ _ us hl => match us, hl with | [_, _, _, _], _ => rfl
  have C__law_library_size := cal_mk (P := P) (w := w) (mg := mg) (base := base) (x := "_law_library_size") F__law_library_size (gl (by decide +kernel)) (ok_Lz F__law_library_size B4 C__law_take) fun _ _ _ _ _ _ us hl => match us, hl with | [_], _ => rfl
  have C__law_questions := cal_mk (P := P) (w := w) (mg := mg) (base := base) (x := "_law_questions") F__law_questions (gl (by decide +kernel)) (ok_LQ F__law_questions B4 C__law_take C__law_rising) fun _ _ _ _ _ _ us hl => match us, hl with | [_, _, _], _ => rfl
  have C__law_parts := cal_mk (P := P) (w := w) (mg := mg) (base := base) (x := "_law_parts") F__law_parts (gl (by decide +kernel)) (ok_LPt F__law_parts B4 C__law_take C__law_library_size C__law_questions) fun _ _ _ _ _ _ us hl => match us, hl with | [_], _ => rfl
  have C__law_rising_spRsN := cal_mk (P := P) (w := w) (mg := mg) (base := base) (x := "_law_rising") F__law_rising (gl (by decide +kernel)) (ok_RsN stb_TQ dtQ ordQ layQ.inj F__law_rising B4) fun _ _ _ _ _ _ us hl => match us, hl with | [_], _ => rfl
  have C__law_letters := cal_mk (P := P) (w := w) (mg := mg) (base := base) (x := "_law_letters") F__law_letters (gl (by decide +kernel)) (ok_Llt F__law_letters B) fun _ _ _ _ _ _ us hl => match us, hl with | [_, _, _], _ => rfl
  have C__law_power := cal_mk (P := P) (w := w) (mg := mg) (base := base) (x := "_law_power") F__law_power (gl (by decide +kernel)) (ok_Lpw F__law_power B) fun _ _ _ _ _ _ us hl => match us, hl with | [_, _], _ => rfl
  have C__law_pair := cal_mk (P := P) (w := w) (mg := mg) (base := base) (x := "_law_pair") F__law_pair (gl (by decide +kernel)) (ok_Lpr F__law_pair B C__law_power C__law_letters C__law_answer) fun _ _ _ _ _ _ us hl => match us, hl with | [_, _, _], _ => rfl
  have C__law_tables := cal_mk (P := P) (w := w) (mg := mg) (base := base) (x := "_law_tables") F__law_tables (gl (by decide +kernel)) (ok_Ltb F__law_tables B4 C__law_pair C__law_rising_spRsN) fun _ _ _ _ _ _ us hl => match us, hl with | [_], _ => rfl
  have b_same : L2.Binds K fd__law_same ["found", "due"] [] := FunD.bindsN F__law_same fun _ _ _ _ _ _ us hl => match us, hl with | [_, _], _ => rfl
  have C_same : Cal P w K mg base 6 "_law_same" _ fd__law_same ["found", "due"] (spSr 5) := ⟨gl (by decide +kernel), F__law_same.kp, b_same, ok_Sr F__law_same B3 (gl (by decide +kernel)) b_same 5⟩
  have C__law_is_plan := cal_mk (P := P) (w := w) (mg := mg) (base := base) (x := "_law_is_plan") F__law_is_plan (gl (by decide +kernel)) (ok_Lis F__law_is_plan B C_same) fun _ _ _ _ _ _ us hl => match us, hl with | [_, _], _ => rfl
  have g_Plan___eq__ := ok_Pe (P := P) (w := w) (mg := mg) (base := base) F_Plan___eq__ B CP
  have b_Plan___eq__ : L2.Binds K fd_Plan___eq__ ["self", "other"] [] := FunD.bindsN F_Plan___eq__ fun _ _ _ _ _ _ us hl => match us, hl with | [_, _], _ => rfl
  have g_TablePlan___eq__ := ok_Te (P := P) (w := w) (mg := mg) (base := base) F_TablePlan___eq__ B CTp
  have b_TablePlan___eq__ : L2.Binds K fd_TablePlan___eq__ ["self", "other"] [] := FunD.bindsN F_TablePlan___eq__ fun _ _ _ _ _ _ us hl => match us, hl with | [_, _], _ => rfl
  exact ok_Law F_law { B := B, cP := CP, cT := CTp, cL := CLb, iP := ICP, iT := ICTp, kTT := b0 x1, kPT := b0 x2, kTP := b0 x3, nTP := x4, nPT := x5, eP := ⟨_, _, { hs := of_decide_eq_true x6, hf := x7, g := g_Plan___eq__, b := b_Plan___eq__ }⟩, eT := ⟨_, _, { hs := of_decide_eq_true x8, hf := x9, g := g_TablePlan___eq__, b := b_TablePlan___eq__ }⟩, mP := ⟨_, _, { m := m_Plan_answers, g := g_Plan_answers, b := b_Plan_answers }⟩, mT := ⟨_, _, { m := m_TablePlan_answers, g := g_TablePlan_answers, b := b_TablePlan_answers }⟩, draws := ⟨_, _, C__law_draws⟩, parts := ⟨_, _, C__law_parts⟩, books := ⟨_, _, C__law_books⟩, power := ⟨_, _, C__law_power⟩, tables := ⟨_, _, C__law_tables⟩, asT := ⟨_, _, C_as_table⟩, is := ⟨_, _, C__law_is_plan⟩, same := ⟨_, _, C_same⟩, mkP := ⟨_, _, { made := MK_Plan, gI := g_Plan___init__, bI := b_Plan___init__ }⟩, mkL := ⟨_, _, { made := MK_Library, gI := g_Library___init__, bI := b_Library___init__ }⟩ }
end WU

namespace WU
open PySem PySem.Spec PyProof.Rows L2
theorem walk {l : PySem.W.OpenLaw} {q : Program} {loose : List Str} {XP : (Str → Option Value) → Heap → Prop} {YP : World → Heap → Prop} {d : DefRec} {K : Params → PySem.W.Frag} (hn : l.most = some 63) (hdf : d.params.defaults = []) (hname : d.name = ("law" : Str))
    (hY : ∀ (w : World) (h : Heap), YP w h → (K w.params).In h) (hD : ∀ w : World, He.SaysD [] fn (K w.params)) (hA : ∀ w : World, He5.SaysA [] [dOL] (K w.params)) (hE : ∀ w : World, ex (K w.params) = true) :
    PySem.W.WalkO q loose XP YP l.row.toRowW d [] (fun f vs => PySem.call f vs) :=
  L2.walk_of (n := 63) (k := 13) (x := "script") (CX := fun _ => CX0) (sp := fun w => spLaw (K w.params)) hn (by decide) hdf ⟨rfl, by decide, by decide⟩ hY
    (fun w mg fa h KX G hmg => facts KX G (by rw [← hname]; exact hmg) (hD w) (hA w) (hE w)) (fun _ _ a ns hl _ hS => ⟨a, ns, rfl, hS, hl, fun _ => rfl⟩) fun _ _ _ _ _ z => z
end WU
open PySem PySem.W PyProof.Rows
set_option maxRecDepth 100000 in
set_option maxHeartbeats 0 in
theorem PySem.Challenge.cw_wishunseen_k17_a_linear_plan_as_a_table_holds : PySem.Challenge.rw_wishunseen_k17_a_linear_plan_as_a_table.Holds := by
  w_on; o_law; k_head; (case hw => w_witness2)
  k_fill
  refine WU.walk (l := PySem.Challenge.rw_wishunseen_k17_a_linear_plan_as_a_table) rfl rfl (by rfl) (fun w h Y => PySem.W.kIn_of Y) ?D ?A ?E
  case D =>
    intro w
    show He.obsD [] WU.fn _ = He.valD WU.fn
    kernel_rfl
  case A =>
    intro w
    show He5.obsA [] [WU.dOL] _ = He5.valA [WU.dOL]
    kernel_rfl
  case E =>
    intro w
    kernel_rfl

