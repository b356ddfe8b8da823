import PyProof.Rows.All
import Wide.All
import OpenK.AllK
import Wide.FinOn
import HandS.Base
import HandS.Call
import HandS.Exc
import HandS.List
import HandS.Comp
import HandS.Ends
import HandS.ExcOwn
import HandS.ExcInit
import HandS.OwnEq
import HandS.Words
import HandS.Defaults
import HandS.Head0
import HandS.Head1
import HandS.Head2
import HandS.HeadHook1
import HandS.HeadHook2
import HandS.IsInst
import HandS.ExcField
import HandS.Conv
import HandS.WordsExc
import HandS.Star
import HandS.TupAny
import HandS.Gcd
import KE.DataAny
import HandS.TupMul
import HandS.TupLen
import HandS.DictTup
import HandS.Zip
import HandS.Iter
import HandS.Dict
import HandS.Walk
import HandS.HeadEnd
import PySem.Challenge.RW_wishunseen_k04_reduced_rows_and_ranks
set_option Elab.async false
set_option linter.all false
set_option maxRecDepth 100000
set_option maxHeartbeats 4000000
/-! try with several clauses «except C as n», and with clauses without a name among them -/
namespace WU
open PySem PySem.Spec PyProof.Rows L2
/-- a clause: the class, its name's slot (if it has one), what the suite does -/
abbrev Cl := Value × Option Nat × (Addr → Value → Option Addr → TS)
/-- behind a named suite the slot is empty -/
def wiped (i : Nat) (D : Ends) : Ends := { nx := fun z h => D.nx (z.set i none) h, rt := D.rt, bk := fun z h => D.bk (z.set i none) h, ct := fun z h => D.ct (z.set i none) h }
def suiteOf (i : Option Nat) (ts : TS) (D : Ends) (σ : L2.St) (H : Hp) (a : Addr) : Prop :=
  match i with
  | some j => ts (wiped j D) (σ.set j (some (V.ref a))) H
  | none => ts D σ H
/-- what the clauses wish of an exception that leaves the body -/
def wCls (K : PySem.W.Frag) (Wout : WX) (D : Ends) : List Cl → WX
  | [] => Wout
  | q :: r => fun cls d σ H => ∃ b, PySem.W.exmOne K cls q.1 = some b ∧ (b = true → ∀ a, H a = none → suiteOf q.2.1 (q.2.2 a cls d) D σ H a) ∧ (b = false → wCls K Wout D r cls d σ H)
inductive Clauses (X : Cx) : List ExceptHandler → List Cl → Prop
  | nil : Clauses X [] []
  | named {x n : Str} {i : Nat} {c : Value} {ts : Addr → Value → Option Addr → TS} {b : Stmt} {su : List Stmt} {p q : Pos} {hs : List ExceptHandler} {l : List Cl}
      (hi : X.N[i]? = some n) (hl : X.env.kindOf n = some .local) (hc : Names X x c)
      (hsu : ∀ (a : Addr) (oe : Obj) (cls : Value) (d : Option Addr) (pn : List (Addr × Obj)), Zc cls d oe → (∃ vs, oe.data = .fields vs) → PSs (X.suite a ((a, oe) :: pn)) (b :: su) (ts a cls d))
      (r : Clauses X hs l) : Clauses X (.ExceptHandler (some (.Name x p)) (some n) (b :: su) q :: hs) ((c, some i, ts) :: l)
section
variable {X : Cx} {body : List Stmt} {h₀ : ExceptHandler} {hds : List ExceptHandler} {l : List Cl} {pos : Pos} {tb : WX → TS} {Wout : WX}
theorem ps_try_cls (hst : X.stack = X.env :: X.outer) (hfr : X.env.frame = some X.env.locals) (hN : X.N.Nodup) (tk : Takes X Wout)
    (hb : ∀ (W : WX) (pn : List (Addr × Obj)) (xe : Value → Shared → Prop), Takes (X.tr pn xe) W →
      PassesOwn (model X.prog X.w) X.A X.env xe → PSs (X.tr pn xe) body (tb W))
    (hh : Clauses X (h₀ :: hds) l) : PS X (.Try body (h₀ :: hds) [] [] pos) (fun D σ H => tb (wCls X.K Wout D l) D σ H) := by
  constructor
  intro pins s σ H D I h
  have okX := I.ok
  have frA : X.A.frames = some (X.env :: X.outer) := okX.frames.trans (congrArg some hst)
  apply wpAny_Try_except
  let xe1 : Value → Shared → Prop := fun e s₁ => wpAny (model X.prog X.w) X.A (noteFrame e X.env) (fun _ s₂ =>
    wpAny (model X.prog X.w) X.A (setFlight e none) (fun _ s₃ => wpAny (model X.prog X.w) X.A (handleBy e X.env (h₀ :: hds))
      (SP X pins D) X.xe s₃) X.xe s₂) X.xe s₁
  have taken : Takes (X.tr (X.pn ++ pins) xe1) (wCls X.K Wout D l) := by
    rintro u st ⟨a, B, sI, pins', σ', H', cls, d, rfl, J', nb, up, sky, na, os, ag, wish⟩
    have J : Inv X pins σ' H' sI := J'.ofTry okX
    rw [show (X.tr (X.pn ++ pins) xe1).stack = X.env :: X.outer from hst] at sky
    show wpAny (model X.prog X.w) X.A (noteFrame (Value.ref a) X.env) _ _ _
    refine Sky.land Zc.steady frA hfr sky fun hA flA upA => ?_
    have JA : Inv X pins σ' H' { st with heap := hA } := J.landed nb flA.1 (up.trans upA) os ag
    obtain ⟨oA, vA, eA, zA, dA⟩ := flA.there
    have offF : a ∉ frs (X.env :: X.outer) := fun hm => by
      obtain ⟨_, o', e', hn⟩ := flA.2.2.1.mem hm
      cases eA.symm.trans e'
      exact hn _ dA
    have offL : a ≠ X.env.locals := by
      rintro rfl
      exact offF (List.mem_filterMap.mpr ⟨X.env, .head _, hfr⟩)
    have offO : a ∉ X.fs := fun hm => by
      obtain ⟨en, hen, q⟩ := List.mem_filterMap.mp hm
      exact offF (List.mem_filterMap.mpr ⟨en, .tail _ hen, q⟩)
    have SA := JA.suite eA dA na offL offO
    have isT : PySem.W.Looks (model X.prog X.w) hA (typeOf (.ref a)) cls := by
      intro A Q E s2 kk q
      refine wpAny_typeOf_ref (kk _ _ eA) ?_
      rw [zA.1]
      exact q
    have onward : ∀ {hs : List ExceptHandler} {l' : List Cl}, Clauses X hs l' → wCls X.K Wout D l' cls d σ' H' →
        wpAny (model X.prog X.w) X.A (handleBy (.ref a) X.env hs) (SP X pins D) X.xe { st with heap := hA } := by
      intro hs l' hk
      induction hk with
      | nil =>
        intro wout
        apply wpAny_handleBy_nil
        obtain ⟨_, _, _, oe, vs, T, oT, tt, he, hz, hd, h1, hr⟩ := id flA
        unfold PySem.passOn
        apply wpAny_bind
        refine wpAny_field he hd h1 ?_
        have nn : ¬ ((Value.ref T == Value.none) = true) := by simp
        rw [if_neg nn]
        have fin : wpAny (model X.prog X.w) X.A (setFlight (.ref a) X.env.frame) (fun _ s4 =>
            wpAny (model X.prog X.w) X.A (throw (.ref a) : Sem Flow) (SP X pins D) X.xe s4) X.xe { st with heap := hA } := by
          rw [hfr]
          refine HandSPX.setFlight_upZ flA fun hB hhB upB => ?_
          apply wpAny_throw
          apply tk
          refine ⟨a, B, sI, pins, σ', H', cls, d, rfl, J, nb, (up.trans upA).trans upB, ?_, na, os, ag, wout⟩
          right; right
          rw [hst]
          exact hhB
        first
          | exact wpAny_bind (wpAny_pure (wpAny_bind fin))
          | exact wpAny_bind fin
      | @named x n i c ts b su p q hs2 l2 hi hl hc hsu r ih =>
        rintro ⟨yes, hyn, onYes, onNo⟩
        refine wpAny_handleBy_cons (codeAny_handlers_test ?_) (by intro z; cases z)
        have hits := PySem.W.exm_one (M := model X.prog X.w) JA.kIn isT hyn
        have asked : ∀ {Q E : Value → Shared → Prop}, Q c { st with heap := hA } →
            wpAny (model X.prog X.w) (X.A.mark (some (.ref a))) (eval (.Name x p) X.env) Q E { st with heap := hA } := by
          intro Q E q
          obtain ⟨g1, g2, g3⟩ := hc
          rcases g3 with g3 | ⟨g3, g4, g5⟩
          · exact ld_glob (X := X.suite a ((a, oA) :: (X.pn ++ pins))) SA g1 g3 q g2
          · exact ld_blt (X := X.suite a ((a, oA) :: (X.pn ++ pins))) SA g1 g3 g4 q g5 g2
        apply asked
        refine hits.here ?_
        cases yes with
        | false => exact ih (onNo rfl)
        | true =>
          apply codeAny_handlers_suite_as
          refine HandSPX.lands_againZ flA fun hB flB upB => ?_
          have JB : Inv X pins σ' H' { st with heap := hB } := J.landed nb flB.1 ((up.trans upA).trans upB) os ag
          obtain ⟨oB, vB, eB, zB, dB⟩ := flB.there
          have SB := JB.suite eB dB na offL offO
          refine store_ok (X := X.suite a ((a, oB) :: (X.pn ++ pins))) (v := .ref a) SB hN hi (Or.inl hl) rfl (fun s5 S5 => ?_) (Or.inr hl)
          have runs := (hsu a oB cls d (X.pn ++ pins) zB ⟨_, dB⟩).run [] s5 _ H' _ S5 (onYes rfl a na)
          refine wpAny_mono runs (fun f s6 hsp => ?_) fun _ _ z => z.elim
          have left_ : ∀ {σ6 : L2.St} {H6 : Hp} {Q : Shared → Prop}, Inv (X.suite a ((a, oB) :: (X.pn ++ pins))) [] σ6 H6 s6 →
              (∀ s7, Inv X pins (σ6.set i none) H6 s7 → Q s7) →
              wpAny (model X.prog X.w) X.A (do bindName X.env n .none; unbindBehindTheSuite X.env n q) (fun _ s7 => Q s7) X.xe s6 :=
            fun S6 k => gone_ok (S6.unsuite okX) hN hi hl k
          match f, hsp with
          | .next, ⟨σ6, H6, S6, q6⟩ => exact left_ S6 fun s7 J7 => ⟨_, _, J7, q6⟩
          | .brk, ⟨σ6, H6, S6, q6⟩ => exact left_ S6 fun s7 J7 => ⟨_, _, J7, q6⟩
          | .cont, ⟨σ6, H6, S6, q6⟩ => exact left_ S6 fun s7 J7 => ⟨_, _, J7, q6⟩
          | .ret u, ⟨v6, σ6, H6, S6, r6, q6⟩ => exact left_ S6 fun s7 J7 => ⟨_, _, _, J7, r6, q6⟩
    exact onward hh wish
  have body_ := (hb _ (X.pn ++ pins) xe1 taken PassesOwn.looking).run [] s σ H D (I.toTry _) h
  refine wpAny_mono body_ (fun f s1 hsp => ?_) fun _ _ z => z
  match f, hsp with
  | .next, ⟨σ', H', J', q⟩ => exact wpAny_execs_nil ⟨σ', H', J'.ofTry okX, q⟩
  | .brk, ⟨σ', H', J', q⟩ => exact ⟨σ', H', J'.ofTry okX, q⟩
  | .cont, ⟨σ', H', J', q⟩ => exact ⟨σ', H', J'.ofTry okX, q⟩
  | .ret u, ⟨v, σ', H', J', r, q⟩ => exact ⟨v, σ', H', J'.ofTry okX, r, q⟩
end
end WU

set_option maxRecDepth 100000
set_option maxHeartbeats 4000000
namespace WU
open PySem PySem.Spec PyProof.Rows L2
/-! ### the head's facts -/
/-- the facts of the defs, and one more Bool -/
def hookB (n : Nat) (fn : List He.DefD) (ex : PySem.W.Frag → Bool) : PySem.W.Hook where
  α := He.AlD × Bool
  obs := fun s => (He.obsDG n [] fn s.heap.get?, ex (He.frG s.heap.get? (He.asD s.heap.get? n)))
  val := fun _ => (He.valD fn, true)
  says := fun _ h => ∃ K : PySem.W.Frag, K.In h ∧ He.SaysD [] fn K ∧ ex K = true
  of := fun _ _ e => ⟨_, He.frG_in, congrArg Prod.fst e, congrArg Prod.snd e⟩
  keeps := fun _ _ _ ⟨K, hK, c⟩ k => ⟨K, PySem.W.Frag.In.keeps hK k, c⟩
def obB (n : Nat) (fn : List He.DefD) (ex : PySem.W.Frag → Bool) (s : PySem.W.SharedT) : He.AlD × Bool :=
  (He.obsDG n [] fn (HandSHeadRun.getT s), ex (He.frG (HandSHeadRun.getT s) (He.asD (HandSHeadRun.getT s) n)))
theorem obB_eq {n : Nat} {fn : List He.DefD} {ex : PySem.W.Frag → Bool} (s : PySem.W.SharedT) : obB n fn ex s = (hookB n fn ex).obs s.abs := by
  have e : HandSHeadRun.getT s = s.abs.heap.get? := funext (HandSHeadRun.getT_eq s)
  unfold obB
  rw [e]
  rfl
theorem and2 {a b : Bool} (h : (a && b) = true) : a = true ∧ b = true := Bool.and_eq_true_iff.mp h
/-- names that the module leaves to the built-ins; names that stand for objects -/
def freeB (K : PySem.W.Frag) (xs : List Str) : Bool := xs.all fun x => decide (PySem.W.nsIn K mainGlobals x = some none)
def globB (K : PySem.W.Frag) (xs : List Str) : Bool := xs.all fun x => decide (PySem.W.nsIn K mainGlobals x = some (some (.ref (He.ga K x))))
section
variable {K : PySem.W.Frag} {h : Heap} {mg : Str → Option Value}
theorem freeB_ok (X : K.In h) (G : h.Ns mainGlobals mg) {xs : List Str} (c : freeB K xs = true) {x : Str} (hx : x ∈ xs) : mg x = none :=
  PySem.W.mg_none_of X G (of_decide_eq_true (List.all_eq_true.mp c x hx))
theorem globB_ok (X : K.In h) (G : h.Ns mainGlobals mg) {xs : List Str} (c : globB K xs = true) {x : Str} (hx : x ∈ xs) : mg x = some (.ref (He.ga K x)) :=
  PySem.W.mg_of X G (of_decide_eq_true (List.all_eq_true.mp c x hx))
end
/-! ### an own exception class over ValueError (or over own ones that are) -/
def oexShape (C : Addr) : Option Obj → Bool
  | some ⟨.type t, _, .cls ⟨_, _, .ref C' :: bm, _, _, true, _, _, _, _, false⟩, ⟨[_, _, _, _, some (.builtin id), _]⟩⟩ =>
    decide (t = "type") && (decide (C' = C) && (decide (id = "ValueError.__new__") && PySem.HandSPX.refsVE bm))
  | _ => false
def oexB (K : PySem.W.Frag) (C : Addr) : Bool :=
  oexShape C (K.lookup C) && (decide (PySem.W.findIn K (.ref C) "__setattr__" = some (some (.builtin "object.__setattr__"))) &&
    (decide (PySem.W.subIn K (.ref C) (.type "BaseException") = some true) && (decide (PySem.W.typeIn K (.ref C) = some (.type "type")) && PySem.W.keepIn K (.ref C))))
theorem oexB_ok {K : PySem.W.Frag} {C : Addr} (h : oexB K C = true) : OexC K C := by
  obtain ⟨h1, h⟩ := and2 h
  obtain ⟨h2, h⟩ := and2 h
  obtain ⟨h3, h⟩ := and2 h
  obtain ⟨h4, h5⟩ := and2 h
  refine ⟨?_, of_decide_eq_true h2, of_decide_eq_true h3, of_decide_eq_true h4, h5⟩
  unfold oexShape at h1
  split at h1
  · rename_i t dd nm bs C' bm N q sn sub ab col k0 k1 k2 k3 id k5 heq
    obtain ⟨e1, h1⟩ := and2 h1
    obtain ⟨e2, h1⟩ := and2 h1
    obtain ⟨e3, e4⟩ := and2 h1
    have q1 := of_decide_eq_true e1
    have q2 := of_decide_eq_true e2
    have q3 := of_decide_eq_true e3
    subst q1 q2 q3
    exact ⟨_, _, _, _, _, _, _, _, _, _, _, _, _, _, _, heq, e4⟩
  · cases h1
/-- what every body asks of an exception class X whose __init__ stands at fI and keeps one field f -/
structure Exc1 (K : PySem.W.Frag) (mg : Str → Option Value) (x : Str) (f : Str) : Prop where
  glob : mg x = some (.ref (He.ga K x))
  oex : OexC K (He.ga K x)
  no : PySem.W.findIn K (.ref (He.ga K x)) f = some none
  init : PySem.W.findIn K (.ref (He.ga K x)) "__init__" = some (some (.ref (He.ma K (He.ga K x) "__init__")))
  tI : PySem.W.typeIn K (.ref (He.ma K (He.ga K x) "__init__")) = some (.type "function")
def exc1B (K : PySem.W.Frag) (x f : Str) : Bool :=
  decide (PySem.W.nsIn K mainGlobals x = some (some (.ref (He.ga K x)))) && (oexB K (He.ga K x) && (decide (PySem.W.findIn K (.ref (He.ga K x)) f = some none) &&
    (decide (PySem.W.findIn K (.ref (He.ga K x)) "__init__" = some (some (.ref (He.ma K (He.ga K x) "__init__")))) && decide (PySem.W.typeIn K (.ref (He.ma K (He.ga K x) "__init__")) = some (.type "function")))))
theorem exc1B_ok {K : PySem.W.Frag} {h : Heap} {mg : Str → Option Value} (X : K.In h) (G : h.Ns mainGlobals mg) {x f : Str} (c : exc1B K x f = true) : Exc1 K mg x f := by
  obtain ⟨h1, c⟩ := and2 c
  obtain ⟨h2, c⟩ := and2 c
  obtain ⟨h3, c⟩ := and2 c
  obtain ⟨h4, h5⟩ := and2 c
  exact ⟨PySem.W.mg_of X G (of_decide_eq_true h1), oexB_ok h2, of_decide_eq_true h3, of_decide_eq_true h4, of_decide_eq_true h5⟩
/-- an if whose test is known by an equation -/
theorem iteTb {c : Bool} {A B : Prop} (hc : c = true) (h : A) : if c = true then A else B := by
  rw [if_pos hc]
  exact h
theorem iteFb {c : Bool} {A B : Prop} (hc : c = false) (h : B) : if c = true then A else B := by
  rw [if_neg (by rw [hc]; decide)]
  exact h
theorem iteD {c : Prop} [Decidable c] {A B : Prop} (h1 : c → A) (h2 : ¬ c → B) : if decide c = true then A else B := by
  by_cases h : c
  · rw [decide_eq_true h]
    exact iteT (h1 h)
  · rw [decide_eq_false h]
    exact iteF (h2 h)
theorem ixN_at {n q : Nat} (h : q < n) : ixN n (q : Int) = some q := by
  unfold ixN
  rw [if_pos (by omega), if_pos (by omega)]
  simp
/-! ### calls -/
/-- the name x stands for a def that keeps sp -/
structure Cal (P : Program) (w : World) (K : PySem.W.Frag) (mg : Str → Option Value) (base : Heap) (k : Nat) (x : Str) (f : Addr) (fd : FuncData) (ps : List Str) (sp : Sp) : Prop where
  glob : mg x = some (.ref f)
  kp : PySem.W.keepIn K (.ref f) = true
  binds : Binds K fd ps []
  ok : FnOk P w K mg base (L2.CX P w) k f fd ps sp
theorem passU {X : Cx} : Passes (L2.CX X.prog X.w) X E0 := fun _ _ _ _ _ _ _ ⟨_, _, _, _, _, _, _, _, _, _, _, _, z⟩ => z.elim
section
variable {X : Cx} {k : Nat} {x : Str} {f : Addr} {fd : FuncData} {ps : List Str} {sp : Sp} {E : XK} {e : Expr} {es : List Expr} {t : TA} {p pos : Pos}
theorem pe_cal (C : Cal X.prog X.w X.K X.mg X.base k x f fd ps sp) (hr : Room k X.A) (ha : PA X (e :: es) t) (hx : Passes (L2.CX X.prog X.w) X E) (hg : Gl X x := by rfl) (hdb : (x == ("__debug__" : Str)) = false := by decide)
    (he : starEach (e :: es) X.env = (false, eval e X.env) :: starEach es X.env := by rfl) (hpl : (backTo pos (starEach es X.env)).any (·.1) = false := by rfl) :
    PE X (.Call (.Name x p) (e :: es) [] pos) (tCall sp [] E t) := pe_call C.ok hr hg C.glob C.kp C.binds .nil hx ha hdb he hpl
theorem pe_calS {W : WX} (C : Cal X.prog X.w X.K X.mg X.base k x f fd ps sp) (hr : Room k X.A) (ha : PA X (e :: es) t) (tk : Takes X W) (hg : Gl X x := by rfl) (hdb : (x == ("__debug__" : Str)) = false := by decide)
    (he : starEach (e :: es) X.env = (false, eval e X.env) :: starEach es X.env := by rfl) (hpl : (backTo pos (starEach es X.env)).any (·.1) = false := by rfl) :
    PE X (.Call (.Name x p) (e :: es) [] pos) (tCallS sp (WE W) t) := pe_callS C.ok hr hg C.glob C.kp C.binds (fun σ => passAt tk σ) ha hdb he hpl
end
/-! ### raise X(e), X's __init__ keeping one field -/
/-- self.f = value -/
def spInit1 (K : PySem.W.Frag) (C : Addr) (f : Str) : Sp := fun vs H Q _ => ∃ (a : Addr) (y : V), vs = [.ref a, y] ∧ OexC K C ∧ PySem.W.findIn K (.ref C) f = some none ∧ H a = some (exo a C none) ∧
  ∀ dx, H dx = none → dx ≠ a → Q .non (upd (upd H dx (exd dx [(f, y)])) a (exo a C (some dx)))
/-- the reading: the error's class, its own dict, the heap behind -/
def tMk1 (C : Addr) (f : Str) (ta : TA) : L2.St → Hp → XK → Prop := fun σ H Q => ta σ H fun vs H1 => ∃ v, vs = [v] ∧ ∀ d H', Same H1 H' → H1 d = none → H' d = some (.xd [(f, v)]) → Q (.ref C) (some d) H'
/-- a reading that may be weakened -/
def lax (ta : TA) : TA := fun σ H Q => ∃ Q0 : List V → Hp → Prop, ta σ H Q0 ∧ ∀ vs H1, Q0 vs H1 → Q vs H1
theorem pa_lax {X : Cx} {es : List Expr} {ta : TA} (ha : PA X es ta) : PA X es (lax ta) :=
  ⟨fun pos pins s σ H Q I h => by
    obtain ⟨Q0, h0, hq⟩ := h
    refine wpAny_mono (ha.run pos pins s σ H Q0 I h0) (fun us s1 hu => ?_) fun _ _ z => z
    obtain ⟨vs, H1, I1, r, q⟩ := hu
    exact ⟨vs, H1, I1, r, hq vs H1 q⟩⟩
section
variable {X : Cx} {k : Nat} {x f : Str} {fd : FuncData} {q : Str} {e : Expr} {ta : TA} {p pos pos2 : Pos}
theorem pmk_1 (T : Exc1 X.K X.mg x f) (F : FnOk X.prog X.w X.K X.mg X.base (L2.CX X.prog X.w) k (He.ma X.K (He.ga X.K x) "__init__") fd ["self", q] (spInit1 X.K (He.ga X.K x) f)) (b : Binds X.K fd ["self", q] [])
    (hr : Room (k + 1) X.A) (ha : PA X [e] ta) (hg : Gl X x := by rfl) (hdb : (x == ("__debug__" : Str)) = false := by decide)
    (he : starEach (e :: []) X.env = (false, eval e X.env) :: starEach [] X.env := by rfl) (hpl : (backTo pos (starEach [] X.env)).any (·.1) = false := by rfl) :
    PMk X (.Call (.Name x p) [e] [] pos) (tMk1 (He.ga X.K x) f ta) := by
  intro pins s σ H Q I h
  refine pmk_oex (CX := L2.CX X.prog X.w) (dvs := []) T.oex T.init T.tI F hr b .nil passU hg T.glob (pa_lax ha) hdb he hpl pins s σ H Q I ⟨_, h, fun vs H1 hv => ?_⟩
  obtain ⟨v, rfl, kk⟩ := hv
  refine ⟨(show 1 ≤ 1000 by decide), fun a na => ⟨a, v, rfl, T.oex, T.no, upd_same, fun dx ndx hdx => ⟨rfl, dx, [(f, v)], upd_same, by rw [upd_ne hdx, upd_same], ?_, ?_⟩⟩⟩
  · rw [upd_ne hdx] at ndx
    exact ndx
  · rw [upd_ne hdx] at ndx
    refine kk dx _ (fun c o hc => ?_) ndx upd_same
    have c1 : c ≠ dx := ne_of_none hc ndx
    have c2 : c ≠ a := ne_of_none hc na
    rw [upd_ne c1, del_ne c2, upd_ne c2, upd_ne c1, upd_ne c2]
    exact hc
theorem ps_raise1 {W : WX} (hc : X.calm = true) (tk : Takes X W) (T : Exc1 X.K X.mg x f) (F : FnOk X.prog X.w X.K X.mg X.base (L2.CX X.prog X.w) k (He.ma X.K (He.ga X.K x) "__init__") fd ["self", q] (spInit1 X.K (He.ga X.K x) f)) (b : Binds X.K fd ["self", q] [])
    (hr : Room (k + 1) X.A) (ha : PA X [e] ta) (hg : Gl X x := by rfl) (hdb : (x == ("__debug__" : Str)) = false := by decide)
    (he : starEach (e :: []) X.env = (false, eval e X.env) :: starEach [] X.env := by rfl) (hpl : (backTo pos (starEach [] X.env)).any (·.1) = false := by rfl) :
    PS X (.Raise (some (.Call (.Name x p) [e] [] pos)) none pos2) (fun _ σ H => tMk1 (He.ga X.K x) f ta σ H fun cls d H' => W cls d σ H') :=
  ps_raise hc tk (pmk_1 T F b hr ha hg hdb he hpl)
end
end WU

namespace WU
open PySem PySem.Spec PyProof.Rows L2
def top (i : Nat) : Stmt := PySem.Challenge.pw_wishunseen_k04_reduced_rows_and_ranks.main.body.getD i (.Pass ⟨0, 0, 0, 0⟩)
abbrev s_wall : Stmt := top 1
abbrev sInvalidNumber_init : Stmt := inClass (top 4) 0
abbrev sInvalidShare_init : Stmt := inClass (top 5) 0
abbrev sInvalidMatrix_init : Stmt := inClass (top 6) 0
abbrev sUndefined_init : Stmt := inClass (top 7) 0
abbrev sIsInt : Stmt := top 9
abbrev sIsNum : Stmt := top 10
abbrev sIsBel : Stmt := top 11
abbrev sSeq : Stmt := top 12
abbrev sLets : Stmt := top 13
abbrev s_figures_of : Stmt := top 14
abbrev sIsFld : Stmt := top 17
abbrev sCheck : Stmt := top 18
abbrev sInv : Stmt := top 19
abbrev s_is_matrix : Stmt := top 21
abbrev s_reduced_rows : Stmt := top 22
abbrev s_rank_of : Stmt := top 23
abbrev s_check_matrix : Stmt := top 24
abbrev s_width_of_rows : Stmt := top 25
abbrev s_is_row : Stmt := top 26
abbrev s_reduced : Stmt := top 27
abbrev s_led_by_one : Stmt := top 28
abbrev s_cleared : Stmt := top 29
abbrev s_less : Stmt := top 30
abbrev sShare_init : Stmt := inClass (top 32) 0
abbrev sShare_add : Stmt := inClass (top 32) 1
abbrev sShare_radd : Stmt := inClass (top 32) 2
abbrev sShare_sub : Stmt := inClass (top 32) 3
abbrev sShare_rsub : Stmt := inClass (top 32) 4
abbrev sShare_mul : Stmt := inClass (top 32) 5
abbrev sShare_rmul : Stmt := inClass (top 32) 6
abbrev sShare_neg : Stmt := inClass (top 32) 7
abbrev sShare_eq : Stmt := inClass (top 32) 8
abbrev sShare_bool : Stmt := inClass (top 32) 9
abbrev sShare_str : Stmt := inClass (top 32) 10
abbrev sShare_over : Stmt := inClass (top 32) 11
abbrev sShare_below : Stmt := inClass (top 32) 12
abbrev sShare_told : Stmt := inClass (top 32) 13
abbrev s_is_term : Stmt := top 33
abbrev s_as_share : Stmt := top 34
abbrev s_signed_figures : Stmt := top 35
abbrev sDraws : Stmt := top 37
abbrev sTake : Stmt := top 38
abbrev sOdd : Stmt := top 39
abbrev sLF : Stmt := top 40
abbrev sLFd : Stmt := top 41
abbrev sLN : Stmt := top 42
abbrev s_law_matrix : Stmt := top 43
abbrev s_law_bad_matrix : Stmt := top 44
abbrev sLI : Stmt := top 45
abbrev s_law_reduced : Stmt := top 46
abbrev s_law_same : Stmt := top 47
abbrev s_law_all_sums : Stmt := top 48
abbrev s_law_told : Stmt := top 49
abbrev s_law_right : Stmt := top 50
abbrev sLaw : Stmt := top 51
theorem scInvalidNumber : FnScope ["self", "value"] ["self", "value"] (defScope sInvalidNumber_init) := ⟨rfl, rfl, rfl, by decide +kernel, rfl, by decide +kernel, by decide +kernel⟩
theorem bodyInvalidNumber (X : Cx) (hN : X.N = (["self", "value"] : List Str)) (hs : X.env.scope = defScope sInvalidNumber_init) : PSs X (defBody sInvalidNumber_init) (tOst X.K "value" (tVar 0) (tVar 1)) :=
  pss_one (ps_ost (pv 0 (by rw [hN] <;> rfl) (by rw [hs]; exact .inl rfl)) (pv 1 (by rw [hN] <;> rfl) (by rw [hs]; exact .inl rfl)))
theorem scInvalidShare : FnScope ["self", "value"] ["self", "value"] (defScope sInvalidShare_init) := ⟨rfl, rfl, rfl, by decide +kernel, rfl, by decide +kernel, by decide +kernel⟩
theorem bodyInvalidShare (X : Cx) (hN : X.N = (["self", "value"] : List Str)) (hs : X.env.scope = defScope sInvalidShare_init) : PSs X (defBody sInvalidShare_init) (tOst X.K "value" (tVar 0) (tVar 1)) :=
  pss_one (ps_ost (pv 0 (by rw [hN] <;> rfl) (by rw [hs]; exact .inl rfl)) (pv 1 (by rw [hN] <;> rfl) (by rw [hs]; exact .inl rfl)))
theorem scInvalidMatrix : FnScope ["self", "value"] ["self", "value"] (defScope sInvalidMatrix_init) := ⟨rfl, rfl, rfl, by decide +kernel, rfl, by decide +kernel, by decide +kernel⟩
theorem bodyInvalidMatrix (X : Cx) (hN : X.N = (["self", "value"] : List Str)) (hs : X.env.scope = defScope sInvalidMatrix_init) : PSs X (defBody sInvalidMatrix_init) (tOst X.K "value" (tVar 0) (tVar 1)) :=
  pss_one (ps_ost (pv 0 (by rw [hN] <;> rfl) (by rw [hs]; exact .inl rfl)) (pv 1 (by rw [hN] <;> rfl) (by rw [hs]; exact .inl rfl)))
theorem scUndefined : FnScope ["self", "what"] ["self", "what"] (defScope sUndefined_init) := ⟨rfl, rfl, rfl, by decide +kernel, rfl, by decide +kernel, by decide +kernel⟩
theorem bodyUndefined (X : Cx) (hN : X.N = (["self", "what"] : List Str)) (hs : X.env.scope = defScope sUndefined_init) : PSs X (defBody sUndefined_init) (tOst X.K "what" (tVar 0) (tVar 1)) :=
  pss_one (ps_ost (pv 0 (by rw [hN] <;> rfl) (by rw [hs]; exact .inl rfl)) (pv 1 (by rw [hN] <;> rfl) (by rw [hs]; exact .inl rfl)))
end WU

set_option maxRecDepth 100000
set_option maxHeartbeats 4000000
namespace WU
open PySem PySem.Spec PyProof.Rows L2
abbrev FnS (K : PySem.W.Frag) (x : Str) (st : Stmt) (f : Addr) (fd : FuncData) : Prop := FunD K x x (defArgs st) (defBody st) (defScope st) [] [] f fd
theorem small4k {n : Nat} (h : n ≤ 4000) : n < sizeLine := Nat.lt_of_le_of_lt h (by decide)
/-! ### any values -/
def isIB : V → Bool
  | .int _ => true
  | .bl _ => true
  | _ => false
def isB : V → Bool
  | .bl _ => true
  | _ => false
def isI : V → Bool
  | .int _ => true
  | _ => false
/-- the value has a type, of which int and bool are known -/
def Ty3 (K : PySem.W.Frag) (H : Hp) (v : V) : Prop := ∃ t, TyX K H v t ∧ PySem.W.kitOne K t (.type "int") = some (isIB v) ∧ PySem.W.kitOne K t (.type "bool") = some (isB v)
section
variable {K : PySem.W.Frag} {H : Hp}
theorem ty3_int (i : Int) : Ty3 K H (.int i) := ⟨_, .base (.int i), kit_ty (show kitB "int" "int" = some true by decide +kernel), kit_ty (show kitB "int" "bool" = some false by decide +kernel)⟩
theorem ty3_bl (b : Bool) : Ty3 K H (.bl b) := ⟨_, .base (.bl b), kit_ty (show kitB "bool" "int" = some true by decide +kernel), kit_ty (show kitB "bool" "bool" = some true by decide +kernel)⟩
theorem ty3_non : Ty3 K H .non := ⟨_, .base .non, kit_ty (show kitB "NoneType" "int" = some false by decide +kernel), kit_ty (show kitB "NoneType" "bool" = some false by decide +kernel)⟩
theorem ty3_str (z : Str) : Ty3 K H (.str z) := ⟨_, .base (.str z), kit_ty (show kitB "str" "int" = some false by decide +kernel), kit_ty (show kitB "str" "bool" = some false by decide +kernel)⟩
theorem ty3_lst {a : Addr} {xs : List V} (e : H a = some (.lst xs)) : Ty3 K H (.ref a) := ⟨_, .base (.lst e), kit_ty (show kitB "list" "int" = some false by decide +kernel), kit_ty (show kitB "list" "bool" = some false by decide +kernel)⟩
theorem ty3_tup {a : Addr} {xs : List V} (e : H a = some (.tup xs)) : Ty3 K H (.ref a) := ⟨_, .base (.tup e), kit_ty (show kitB "tuple" "int" = some false by decide +kernel), kit_ty (show kitB "tuple" "bool" = some false by decide +kernel)⟩
end
section
variable {P : Program} {w : World} {K : PySem.W.Frag} {mg : Str → Option Value} {base : Heap}
structure Blt (mg : Str → Option Value) : Prop where
  isi : mg "isinstance" = none
  int : mg "int" = none
  bool : mg "bool" = none
def spIsInt (K : PySem.W.Frag) : Sp := fun vs H Q _ => ∃ v, vs = [v] ∧ Ty3 K H v ∧ Q (.bl (isI v)) H
theorem scIsInt : FnScope ["value"] ["value"] (defScope sIsInt) := ⟨rfl, rfl, rfl, by decide +kernel, rfl, by decide +kernel, by decide +kernel⟩
theorem ok_isInt {f : Addr} {fd : FuncData} (F : FnS K "is_integer" sIsInt f fd) (B : Blt mg) : FnOk P w K mg base (L2.CX P w) 1 f fd ["value"] (spIsInt K) := by
  refine F.ok scIsInt (fun vs H Q E h => ?_) (fun cdv A outer s H vs Q E hr h => ?_)
  · obtain ⟨v, rfl, _⟩ := h
    rfl
  · obtain ⟨v, rfl, ⟨t, ht, h1, h2⟩, k⟩ := h
    refine ⟨_, pss_one (ps_ret (pe_and (pe_callB call_isi (by rfl) B.isi (by decide +kernel) (pa_cons (pv 0) (pa_cons (pe_bltn (v := .ty "int") (by rfl) B.int (by decide +kernel) rfl) pa_nil)))
      (pe_one (pe_not (pe_callB call_isi (by rfl) B.isi (by decide +kernel) (pa_cons (pv 0) (pa_cons (pe_bltn (v := .ty "bool") (by rfl) B.bool (by decide +kernel) rfl) pa_nil))))))), ?_⟩
    refine ⟨_, rfl, _, _, _, _, _, rfl, .ty "int", ht, h1, _, rfl, ?_⟩
    cases v with
    | int n =>
      refine iteT ⟨_, rfl, _, _, _, _, _, rfl, .ty "bool", ht, h2, _, rfl, k⟩
    | bl b => exact iteT ⟨_, rfl, _, _, _, _, _, rfl, .ty "bool", ht, h2, _, rfl, k⟩
    | _ => exact iteF k
theorem bN {x : Str} {st : Stmt} {f : Addr} {fd : FuncData} {ps : List Str} (F : FnS K x st f fd)
    (h : ∀ (kV doc pm : Value) (an : Option Addr) (cdv ct : Value) (us : List Value), us.length = ps.length → bindArgs (PySem.W.fnOf x x (defArgs st) (defBody st) (defScope st) .none kV doc pm an cdv ct) ⟨us, []⟩ = pure (ps.zip us)) : Binds K fd ps [] := F.bindsN h
theorem cal_mk {x : Str} {st : Stmt} {f : Addr} {fd : FuncData} {ps : List Str} {k : Nat} {sp : Sp} (F : FnS K x st f fd) (g : mg x = some (.ref f)) (ok : FnOk P w K mg base (L2.CX P w) k f fd ps sp)
    (h : ∀ (kV doc pm : Value) (an : Option Addr) (cdv ct : Value) (us : List Value), us.length = ps.length → bindArgs (PySem.W.fnOf x x (defArgs st) (defBody st) (defScope st) .none kV doc pm an cdv ct) ⟨us, []⟩ = pure (ps.zip us)) : Cal P w K mg base k x f fd ps sp :=
  ⟨g, F.kp, F.bindsN h, ok⟩
/-- whether it is a number; .. below n -/
def isN : V → Bool
  | .int i => decide (0 ≤ i)
  | _ => false
def isBel (n : Int) : V → Bool
  | .int i => decide (0 ≤ i) && decide (i < n)
  | _ => false
def spIsNum (K : PySem.W.Frag) : Sp := fun vs H Q _ => ∃ v, vs = [v] ∧ Ty3 K H v ∧ Q (.bl (isN v)) H
def spIsBel (K : PySem.W.Frag) : Sp := fun vs H Q _ => ∃ v n, vs = [v, .int n] ∧ Ty3 K H v ∧ Q (.bl (isBel n v)) H
theorem scIsNum : FnScope ["value"] ["value"] (defScope sIsNum) := ⟨rfl, rfl, rfl, by decide +kernel, rfl, by decide +kernel, by decide +kernel⟩
theorem ok_isNum {f f1 : Addr} {fd fd1 : FuncData} (F : FnS K "is_number" sIsNum f fd) (C1 : Cal P w K mg base 1 "is_integer" f1 fd1 ["value"] (spIsInt K)) : FnOk P w K mg base (L2.CX P w) 2 f fd ["value"] (spIsNum K) := by
  refine F.ok scIsNum (fun vs H Q E h => ?_) (fun cdv A outer s H vs Q E hr h => ?_)
  · obtain ⟨v, rfl, _⟩ := h
    rfl
  · obtain ⟨v, rfl, ht, k⟩ := h
    refine ⟨_, pss_one (ps_ret (pe_and (pe_cal C1 hr (pa_cons (pv 0) pa_nil) passU) (pe_one (pe_cmp (pc_ge (pv 0) pe_int))))), ?_⟩
    refine ⟨_, rfl, v, rfl, ht, _, rfl, ?_⟩
    cases v with
    | int n => exact iteT ⟨_, rfl, _, _, rfl, rfl, k⟩
    | _ => exact iteF k
theorem scIsBel : FnScope ["value", "limit"] ["value", "limit"] (defScope sIsBel) := ⟨rfl, rfl, rfl, by decide +kernel, rfl, by decide +kernel, by decide +kernel⟩
theorem ok_isBel {f f1 : Addr} {fd fd1 : FuncData} (F : FnS K "is_below" sIsBel f fd) (C1 : Cal P w K mg base 2 "is_number" f1 fd1 ["value"] (spIsNum K)) : FnOk P w K mg base (L2.CX P w) 3 f fd ["value", "limit"] (spIsBel K) := by
  refine F.ok scIsBel (fun vs H Q E h => ?_) (fun cdv A outer s H vs Q E hr h => ?_)
  · obtain ⟨v, n, rfl, _⟩ := h
    rfl
  · obtain ⟨v, n, rfl, ht, k⟩ := h
    refine ⟨_, pss_one (ps_ret (pe_and (pe_cal C1 hr (pa_cons (pv 0) pa_nil) passU) (pe_one (pe_cmp (pc_lt (pv 0) (pv 1)))))), ?_⟩
    refine ⟨_, rfl, v, rfl, ht, _, rfl, ?_⟩
    cases v with
    | int i =>
      have k' : Q (.bl (decide (0 ≤ i) && decide (i < n))) H := k
      show if decide (0 ≤ i) = true then _ else _
      by_cases h0 : 0 ≤ i
      · rw [decide_eq_true h0] at k' ⊢
        exact iteT ⟨_, rfl, _, rfl, _, _, rfl, rfl, k'⟩
      · rw [decide_eq_false h0] at k' ⊢
        exact iteF k'
    | _ => exact iteF k
/-- the primes to 31 -/
def primes : List Int := [2, 3, 5, 7, 11, 13, 17, 19, 23, 29, 31]
def isFld : V → Bool
  | .int i => inV (.int i) (primes.map V.int)
  | _ => false
def spIsFld (K : PySem.W.Frag) : Sp := fun vs H Q _ => ∃ v, vs = [v] ∧ Ty3 K H v ∧ Q (.bl (isFld v)) H
theorem scIsFld : FnScope ["p"] ["p"] (defScope sIsFld) := ⟨rfl, rfl, rfl, by decide +kernel, rfl, by decide +kernel, by decide +kernel⟩
theorem ok_isFld {f f1 fP : Addr} {fd fd1 : FuncData} (F : FnS K "is_field" sIsFld f fd) (C1 : Cal P w K mg base 1 "is_integer" f1 fd1 ["value"] (spIsInt K)) (gP : mg "PRIMES" = some (.ref fP)) (tP : ∀ H, SqT K H fP (primes.map V.int)) :
    FnOk P w K mg base (L2.CX P w) 2 f fd ["p"] (spIsFld K) := by
  refine F.ok scIsFld (fun vs H Q E h => ?_) (fun cdv A outer s H vs Q E hr h => ?_)
  · obtain ⟨v, rfl, _⟩ := h
    rfl
  · obtain ⟨v, rfl, ht, k⟩ := h
    refine ⟨_, pss_one (ps_ret (pe_and (pe_cal C1 hr (pa_cons (pv 0) pa_nil) passU) (pe_one (pe_cmpR op_in_seq (pv 0) (pe_glob (v := .ref fP) rfl gP rfl) rfl)))), ?_⟩
    refine ⟨_, rfl, v, rfl, ht, _, rfl, ?_⟩
    cases v with
    | int n => exact iteT ⟨_, rfl, _, _, rfl, .inr (tP H), rfl, by decide, k⟩
    | _ => exact iteF k
/-- an error of class C with its own dict at d, in a heap that has grown -/
def Errs (C : Addr) (f : Str) (v : V) (H : Hp) (E : XK) : Prop := ∀ d H', Same H H' → H d = none → H' d = some (.xd [(f, v)]) → E (.ref C) (some d) H'
def spCheck (K : PySem.W.Frag) : Sp := fun vs H Q E => ∃ v, vs = [v] ∧ Ty3 K H v ∧ (isFld v = true → Q .non H) ∧ (isFld v = false → Errs (He.ga K "InvalidNumber") "value" v H E)
theorem scCheck : FnScope ["p"] ["p"] (defScope sCheck) := ⟨rfl, rfl, rfl, by decide +kernel, rfl, by decide +kernel, by decide +kernel⟩
theorem ok_check {f f1 : Addr} {fd fd1 fdI : FuncData} (F : FnS K "check_field" sCheck f fd) (C1 : Cal P w K mg base 2 "is_field" f1 fd1 ["p"] (spIsFld K)) (T : Exc1 K mg "InvalidNumber" "value")
    (FI : FnOk P w K mg base (L2.CX P w) 1 (He.ma K (He.ga K "InvalidNumber") "__init__") fdI ["self", "value"] (spInit1 K (He.ga K "InvalidNumber") "value")) (bI : Binds K fdI ["self", "value"] []) :
    FnOk P w K mg base (L2.CX P w) 3 f fd ["p"] (spCheck K) := by
  refine F.ok scCheck (fun vs H Q E h => ?_) (fun cdv A outer s H vs Q E hr h => ?_)
  · obtain ⟨v, rfl, _⟩ := h
    rfl
  · obtain ⟨v, rfl, ht, kY, kN⟩ := h
    refine ⟨_, pss_one (ps_if (pt_not (pt_val (pe_cal C1 hr (pa_cons (pv 0) pa_nil) passU))) (pss_one (ps_raise1 rfl (takes_of rfl rfl rfl rfl) T FI bI hr (pa_cons (pv 0) pa_nil))) pss_nil), ?_⟩
    refine ⟨_, rfl, v, rfl, ht, _, rfl, ?_⟩
    cases e : isFld v with
    | true => exact iteF (kY e)
    | false => exact iteT ⟨_, rfl, v, rfl, kN e⟩
end
section
variable {P : Program} {w : World} {K : PySem.W.Frag} {mg : Str → Option Value} {base : Heap}
/-! ### the errors' __init__ -/
theorem ok_init1 {st : Stmt} {qual fld par : Str} {f C : Addr} {fd : FuncData} (F : FunD K "__init__" qual (defArgs st) (defBody st) (defScope st) [] [] f fd) (S : FnScope (("self" : Str) :: [par]) (("self" : Str) :: [par]) (defScope st))
    (body : ∀ X : Cx, X.N = (("self" : Str) :: [par]) → X.env.scope = defScope st → PSs X (defBody st) (tOst X.K fld (tVar 0) (tVar 1))) :
    FnOk P w K mg base (L2.CX P w) 1 f fd (("self" : Str) :: [par]) (spInit1 K C fld) := by
  refine F.ok S (fun vs H Q E h => ?_) (fun cdv A outer s H vs Q E hr h => ?_)
  · obtain ⟨a, y, rfl, _⟩ := h
    rfl
  · obtain ⟨a, y, rfl, hC, hno, ha, k⟩ := h
    refine ⟨_, body _ rfl rfl, ?_⟩
    exact ⟨_, rfl, _, rfl, a, C, rfl, hC, hno, .inl ⟨ha, fun dx n ne => k dx n ne⟩⟩
theorem fld_mem {p : Int} (h : isFld (.int p) = true) : p ∈ primes := by
  have h' : ((primes.map V.int).any fun y => eqV y (.int p)) = true := h
  obtain ⟨y, hy, e⟩ := List.any_eq_true.mp h'
  obtain ⟨q, hq, rfl⟩ := List.mem_map.mp hy
  have e' : (q == p) = true := e
  rw [← beq_iff_eq.mp e']
  exact hq
theorem mem_fld {p : Int} (h : p ∈ primes) : isFld (.int p) = true := by
  show ((primes.map V.int).any fun y => eqV y (.int p)) = true
  exact List.any_eq_true.mpr ⟨.int p, List.mem_map.mpr ⟨p, h, rfl⟩, by show (p == p) = true; simp⟩
theorem fld_le {p : Int} (h : p ∈ primes) : 2 ≤ p ∧ p ≤ 31 := by
  have all : ∀ q ∈ primes, 2 ≤ q ∧ q ≤ 31 := by decide
  exact all p h
/-- the built-ins that the law's helpers call -/
structure Blt2 (mg : Str → Option Value) : Prop extends Blt mg where
  len : mg "len" = none
  abs : mg "abs" = none
  range : mg "range" = none
  tuple : mg "tuple" = none
/-- numbers from 0 on -/
def Nn (ns : List Int) : Prop := ∀ n ∈ ns, 0 ≤ n
/-- _law_draws(script, many) -/
def spDraws (K : PySem.W.Frag) (many : Int) : Sp := fun vs H Q _ => ∃ (a : Addr) (ns : List Int), vs = [.ref a, .int many] ∧ SqL K H a (ns.map V.int) ∧ ns.length ≤ 63 ∧
  ∀ p ds H', Same H H' → H p = none → H' p = some (.lst (ds.map V.int)) → Nn ds → ds.length ≤ many.toNat → Q (.ref p) H'
theorem scDraws : FnScope ["script", "many", "cell", "rests", "draws", "k", "at", "mixed"] ["script", "many"] (defScope sDraws) := ⟨rfl, rfl, rfl, by decide +kernel, rfl, by decide +kernel, by decide +kernel⟩
def rMd : R2 := rI (fun _ j => j ≠ 0) fun i j => .int (i.fmod j)
def rDv : R2 := rI CDivN fun i j => .int (i.fdiv j)
def rMl : R2 := rI CMul fun i j => .int (i * j)
def rAd : R2 := rI0 fun i j => .int (i + j)
def tI1 (t : TE) : TE := tCB (fun xs H Q => (∃ i, xs = [V.int i] ∧ Q (.int i) H) ∨ ∃ k, xs = [V.bl k] ∧ Q (.int (if k then 1 else 0)) H) (tCons t tNil)
/-- the end of a turn: two mixings, one number put behind the others -/
def tTail (K : PySem.W.Frag) : TS := tSeq (tAsg (tOp rMd (tI1 (tOp rAd (tOp rAd (tOp rMl (tVar 2) (tC (.int 48271))) (tOp rMl (tVar 5) (tC (.int 69621)))) (tC (.int 11)))) (tC (.int 2147483647))) (gName 7))
  (tSeq (tAsg (tOp rMd (tI1 (tOp rAd (tOp rDv (tOp rMl (tVar 7) (tVar 7)) (tC (.int 4096))) (tVar 7))) (tC (.int 2147483629))) (gName 7))
    (tDrop (tBM K "list" rAppend (tVar 4) (tCons (tOp rMd (tI1 (tOp rAd (tOp rDv (tOp rMl (tVar 7) (tVar 7)) (tC (.int 4096))) (tOp rMl (tVar 5) (tC (.int 7919))))) (tC (.int 2147483629))) tNil))))
theorem fmod_bd (x : Int) {m : Int} (h : 0 < m) : 0 ≤ x.fmod m ∧ x.fmod m < m := ⟨Int.fmod_nonneg_of_pos x h, Int.fmod_lt_of_pos x h⟩
theorem tail_ok {D : Ends} {s0 s1 s3 s6 s7 : Option V} {c k : Int} {L : Addr} {ds : List Int} {H : Hp} (hL : H L = some (.lst (ds.map V.int))) (hl : ds.length ≤ 4000)
    (kk : ∀ (x : Int) (y : Option V), 0 ≤ x → D.nx [s0, s1, some (.int c), s3, some (.ref L), some (.int k), s6, y] (upd H L (.lst ((ds ++ [x]).map V.int)))) :
    tTail K D [s0, s1, some (.int c), s3, some (.ref L), some (.int k), s6, s7] H := by
  have b1 := fmod_bd (c * 48271 + k * 69621 + 11) (m := 2147483647) (by decide)
  refine ⟨_, rfl, _, _, rfl, rfl, .inr ⟨by decide, by decide⟩, _, rfl, _, _, rfl, rfl, .inr ⟨by decide, by decide⟩, _, _, rfl, rfl, _, _, rfl, rfl, .inl ⟨_, rfl, _, _, rfl, rfl, (show (2147483647 : Int) ≠ 0 by decide), ?_⟩⟩
  dsimp only
  generalize (c * 48271 + k * 69621 + 11).fmod 2147483647 = m at b1 ⊢
  have b2 := fmod_bd ((m * m).fdiv 4096 + m) (m := 2147483629) (by decide)
  refine ⟨_, rfl, _, rfl, _, _, rfl, rfl, .inl ⟨by omega, by omega⟩, _, _, rfl, rfl, ⟨by decide, by decide⟩, _, rfl, _, _, rfl, rfl, .inl ⟨_, rfl, _, _, rfl, rfl, (show (2147483629 : Int) ≠ 0 by decide), ?_⟩⟩
  dsimp only
  generalize ((m * m).fdiv 4096 + m).fmod 2147483629 = n at b2 ⊢
  refine ⟨_, rfl, .inl ⟨rfl, _, SqL.of hL⟩, ?_⟩
  refine ⟨_, rfl, _, rfl, _, _, rfl, rfl, .inl ⟨by omega, by omega⟩, _, _, rfl, rfl, ⟨by decide, by decide⟩, _, rfl, _, _, rfl, rfl, .inr ⟨by decide, by decide⟩, _, _, rfl, rfl, .inl ⟨_, rfl, _, _, rfl, rfl, (show (2147483629 : Int) ≠ 0 by decide), ?_⟩⟩
  refine ⟨L, _, _, rfl, rfl, hL, ?_, ?_⟩
  · rw [List.length_map]
    exact small4k hl
  · have b3 := fmod_bd ((n * n).fdiv 4096 + k * 7919) (m := 2147483629) (by decide)
    have q := kk _ (some (.int n)) b3.1
    rw [List.map_append] at q
    exact q
theorem ok_draws {f : Addr} {fd : FuncData} (F : FnS K "_law_draws" sDraws f fd) (B : Blt2 mg) {many : Int} (hm0 : 0 ≤ many) (hm : many ≤ 4000) : FnOk P w K mg base (L2.CX P w) 1 f fd ["script", "many"] (spDraws K many) := by
  refine F.ok scDraws (fun vs H Q E h => ?_) (fun cdv A outer s H vs Q E hr h => ?_)
  · obtain ⟨a, ns, rfl, _⟩ := h
    rfl
  · obtain ⟨a, ns, rfl, hS, hl, k⟩ := h
    have nd := scDraws.nd
    refine ⟨_, (pss_cons (ps_setLc (i := 3) (own := [("cell", 2)]) (g := gName 2) (by rfl) nd rfl rfl (sw_true rfl rfl rfl (by decide +kernel)) (pi_list (pv 0)) (blkOk_by (own := [("cell", 2)]) (N := ["script", "many", "cell", "rests", "draws", "k", "at", "mixed"]) (sc := defScope sDraws) (by decide +kernel)) (fun _ _ _ _ _ => pg_name (i := 2) nd rfl (Or.inl rfl)) (fun _ _ _ _ _ => pts_nil) (fun _ _ _ _ _ => (pe_callB call_abs (by rfl) B.abs (by decide +kernel) (pa_cons (pe_callTy call_int1 (by rfl) B.int (by decide +kernel) (pa_cons (pv 2) pa_nil)) pa_nil))))
      (pss_cons (ps_set (i := 4) nd rfl (Or.inl rfl) (pe_lst pa_nil))
      (pss_cons (ps_for (passes_of rfl) rfl (pi_range1 rfl B.range (pa_cons (pv 1) pa_nil)) (pg_name (i := 5) nd rfl (Or.inl rfl)) (pss_cons (ps_set (i := 2) nd rfl (Or.inl rfl) (pv 5))
      (pss_cons (ps_if (pt_cmpR op_gt (pe_callB call_len_seq (by rfl) B.len (by decide +kernel) (pa_cons (pv 0) pa_nil)) pe_int (nomark _)) (pss_cons (ps_set (i := 6) nd rfl (Or.inl rfl) (pe_op op_modN (pv 5) (pe_callB call_len_seq (by rfl) B.len (by decide +kernel) (pa_cons (pv 0) pa_nil))))
      (pss_cons (ps_set (i := 2) nd rfl (Or.inl rfl) (pe_callTy call_int1 (by rfl) B.int (by decide +kernel) (pa_cons (pe_ix ix_list (pv 0) (pv 6) (fun _ _ => rfl)) pa_nil)))
      (pss_one (ps_if (PW.pt (pw_and (pt_cmpR op_ge (pv 2) (pe_op op_pow pe_int pe_int) (nomark _)) (pw_and1 (pt_cmpR op_gt (pe_ix ix_list (pv 3) (pv 6) (fun _ _ => rfl)) pe_int (nomark _))))) (pss_cons (ps_expr (pe_bm PySem.F.plainAttrs_list PySem.F.slot_list_append PySem.F.type_list_append mt_append (pv 4) (pa_cons (pe_op op_modN (pe_callTy call_int1 (by rfl) B.int (by decide +kernel) (pa_cons (pe_ix ix_list (pv 3) (pv 6) (fun _ _ => rfl)) pa_nil)) pe_int) pa_nil)))
      (pss_cons (ps_asg (pe_op op_fdivN (pe_callTy call_int1 (by rfl) B.int (by decide +kernel) (pa_cons (pe_ix ix_list (pv 3) (pv 6) (fun _ _ => rfl)) pa_nil)) pe_int) (pg_sub (pv 3) (pv 6) set_list))
      (pss_one ps_continue))) pss_nil)))) pss_nil)
      (pss_cons (ps_set (i := 7) nd rfl (Or.inl rfl) (pe_op op_modN (pe_callTy call_int1 (by rfl) B.int (by decide +kernel) (pa_cons (pe_op op_add (pe_op op_add (pe_op op_mul (pv 2) pe_int) (pe_op op_mul (pv 5) pe_int)) pe_int) pa_nil)) pe_int))
      (pss_cons (ps_set (i := 7) nd rfl (Or.inl rfl) (pe_op op_modN (pe_callTy call_int1 (by rfl) B.int (by decide +kernel) (pa_cons (pe_op op_add (pe_op op_fdivN (pe_op op_mul (pv 7) (pv 7)) pe_int) (pv 7)) pa_nil)) pe_int))
      (pss_one (ps_expr (pe_bm PySem.F.plainAttrs_list PySem.F.slot_list_append PySem.F.type_list_append mt_append (pv 4) (pa_cons (pe_op op_modN (pe_callTy call_int1 (by rfl) B.int (by decide +kernel) (pa_cons (pe_op op_add (pe_op op_fdivN (pe_op op_mul (pv 7) (pv 7)) pe_int) (pe_op op_mul (pv 5) pe_int)) pa_nil)) pe_int) pa_nil)))))))))
      (pss_one (ps_ret (pv 4)))))), ?_⟩
    refine ⟨_, rfl, a, rfl, ⟨_, hS⟩, fun D hD => lc_list (K := K) (a := a) (xs := ns.map V.int) (fun i H' => Same H H' ∧ ∃ rs : List Int, H' D = some (.lst (rs.map V.int)) ∧ rs.length = i ∧ Nn rs)
      ⟨fun c o hc => by rw [upd_ne (ne_of_none hc hD)]; exact hc, [], upd_same, rfl, fun n hn => by cases hn⟩ (fun i H' _ z => z.1.seq hS) ?_ ?_⟩
    · rintro i x H' hi ⟨s1, rs, e, l, n⟩
      obtain ⟨z, hz, rfl⟩ : ∃ z, ns[i]? = some z ∧ x = V.int z := by
        rw [List.getElem?_map] at hi
        cases q : ns[i]? with
        | none => rw [q] at hi; cases hi
        | some z => rw [q] at hi; exact ⟨z, rfl, (Option.some.inj hi).symm⟩
      have hi2 : i < ns.length := (List.getElem?_eq_some_iff.mp hz).1
      refine ⟨rfl, _, rfl, .inl ⟨z, rfl, z, rfl, _, e, ?_, fun c o hc => ?_, rs ++ [if z < 0 then -z else z], ?_, ?_, ?_⟩⟩
      · rw [List.length_map]
        exact small4k (by omega)
      · rw [upd_ne (ne_of_none hc hD)]
        exact s1 c o hc
      · rw [upd_same, List.map_append]
        rfl
      · rw [List.length_append, l]
        rfl
      · intro m hm
        rcases List.mem_append.mp hm with hm | hm
        · exact n m hm
        · rw [List.mem_singleton.mp hm]
          split <;> omega
    · rintro H1 ⟨s1, rs, e, l, n⟩
      rw [List.length_map] at l
      refine ⟨(by show 0 ≤ sizeLine; omega), fun L hL => ?_⟩
      have hDL : D ≠ L := ne_of_none e hL
      have hL0 : H L = none := s1.free hL
      refine ⟨_, rfl, many, rfl, (by omega), (by omega), for_range (lo := 0) (n := many.toNat) (fun i σ H' => ∃ (v2 v5 v6 v7 : Option V) (rs ds : List Int), σ = [some (.ref a), some (.int many), v2, some (.ref D), some (.ref L), v5, v6, v7] ∧ Same H H' ∧
        H' D = some (.lst (rs.map V.int)) ∧ rs.length = ns.length ∧ Nn rs ∧ H' L = some (.lst (ds.map V.int)) ∧ Nn ds ∧ ds.length ≤ i)
        ⟨none, none, none, none, rs, [], rfl, fun c o hc => by rw [upd_ne (ne_of_none hc hL0)]; exact s1 c o hc, by rw [upd_ne hDL]; exact e, l, n, upd_same, (fun m hm => nomatch hm), Nat.le_refl _⟩ ?_ ?_⟩
      · rintro i σ H2 hi ⟨v2, v5, v6, v7, rs, ds, rfl, s2, eD, lD, nD, eL, nL, lL⟩
        have s2S := s2.seq hS
        have put : ∀ (x : Int) (v2 v5 v6 v7 : Option V), 0 ≤ x → ∃ (v2' v5' v6' v7' : Option V) (rs' ds' : List Int), [some (V.ref a), some (V.int many), v2, some (V.ref D), some (V.ref L), v5, v6, v7] = [some (V.ref a), some (V.int many), v2', some (V.ref D), some (V.ref L), v5', v6', v7'] ∧
            Same H (upd H2 L (.lst ((ds ++ [x]).map V.int))) ∧ upd H2 L (.lst ((ds ++ [x]).map V.int)) D = some (.lst (rs'.map V.int)) ∧ rs'.length = ns.length ∧ Nn rs' ∧ upd H2 L (.lst ((ds ++ [x]).map V.int)) L = some (.lst (ds'.map V.int)) ∧ Nn ds' ∧ ds'.length ≤ i + 1 := by
          intro x v2 v5 v6 v7 hx
          refine ⟨v2, v5, v6, v7, rs, ds ++ [x], rfl, fun c o hc => by rw [upd_ne (ne_of_none hc hL0)]; exact s2 c o hc, by rw [upd_ne hDL]; exact eD, lD, nD, upd_same, ?_, by rw [List.length_append]; show ds.length + 1 ≤ i + 1; omega⟩
          intro m hm
          rcases List.mem_append.mp hm with hm | hm
          · exact nL m hm
          · rw [List.mem_singleton.mp hm]
            exact hx
        refine ⟨_, rfl, _, rfl, _, _, rfl, .inl s2S, _, _, rfl, rfl, _, rfl, ?_⟩
        rw [List.length_map]
        by_cases h0 : ns.length = 0
        · rw [decide_eq_false (by omega)]
          refine iteF ?_
          show tTail K _ [some (.ref a), some (.int many), some (.int _), some (.ref D), some (.ref L), some (.int _), _, _] H2
          exact tail_ok eL (by omega) fun x y hx => put x _ _ _ y hx
        · rw [decide_eq_true (by omega)]
          refine iteT ?_
          refine ⟨_, rfl, _, rfl, _, _, rfl, .inl s2S, _, _, rfl, rfl, (by rw [List.length_map]; omega), ?_⟩
          have bq := fmod_bd (0 + (i : Int)) (m := ((ns.map V.int).length : Int)) (by rw [List.length_map]; omega)
          obtain ⟨q, hq⟩ : ∃ q : Nat, (0 + (i : Int)).fmod ((ns.map V.int).length : Int) = (q : Int) := ⟨((0 + (i : Int)).fmod ((ns.map V.int).length : Int)).toNat, by omega⟩
          rw [hq] at bq
          have hql : q < ns.length := by
            have := bq.2
            rw [List.length_map] at this
            omega
          have e1 : (ns.map V.int)[q]? = some (V.int ns[q]) := by rw [List.getElem?_map, List.getElem?_eq_getElem hql] <;> rfl
          have e2 : (rs.map V.int)[q]? = some (V.int (rs[q]'(by omega))) := by rw [List.getElem?_map, List.getElem?_eq_getElem (by omega)] <;> rfl
          refine ⟨_, rfl, _, rfl, a, _, _, _, rfl, rfl, s2S, (by rw [hq]; exact atI_nat e1), .inl ⟨_, rfl, ?_⟩⟩
          have ea2 : atI (rs.map V.int) ((0 + (i : Int)).fmod ((ns.map V.int).length : Int)) = some (.int (rs[q]'(by omega))) := by rw [hq]; exact atI_nat e2
          have nq : 0 ≤ rs[q]'(by omega) := nD _ (List.getElem_mem _)
          refine ⟨_, rfl, _, _, rfl, rfl, ⟨by decide, by decide, by decide⟩, _, _, rfl, rfl, _, rfl, ?_⟩
          refine iteD (fun hc => ?_) (fun hc => ?_)
          · refine ⟨_, rfl, _, rfl, D, _, _, _, rfl, rfl, SqL.of eD, ea2, _, _, rfl, rfl, _, rfl, ?_⟩
            refine iteD (fun hd => ?_) (fun hd => ?_)
            · refine ⟨_, rfl, .inl ⟨rfl, _, SqL.of eL⟩, _, rfl, _, rfl, D, _, _, _, rfl, rfl, SqL.of eD, ea2, .inl ⟨_, rfl, _, _, rfl, rfl, (show (1000003 : Int) ≠ 0 by decide), L, _, _, rfl, rfl, eL, (by rw [List.length_map]; exact small4k (by omega)), ?_⟩⟩
              have eD2 : ∀ o, upd H2 L o D = some (.lst (rs.map V.int)) := fun o => by rw [upd_ne hDL]; exact eD
              refine ⟨_, rfl, _, rfl, D, _, _, _, rfl, rfl, SqL.of (eD2 _), ea2, .inl ⟨_, rfl, _, _, rfl, rfl, ⟨by decide, by decide⟩, _, rfl, _, rfl, D, _, _, q, rfl, rfl, eD2 _, (by rw [hq, List.length_map]; exact ixN_at (by omega)), ?_⟩⟩
              have b4 := fmod_bd (rs[q]'(by omega)) (m := 1000003) (by decide)
              have b5 : 0 ≤ (rs[q]'(by omega)).fdiv 1000003 := Int.fdiv_nonneg nq (by decide)
              have hDc : ∀ {c : Addr} {o : HO}, H c = some o → c ≠ D := fun hc => ne_of_none hc hD
              refine ⟨_, _, _, _, rs.set q ((rs[q]'(by omega)).fdiv 1000003), ds ++ [(rs[q]'(by omega)).fmod 1000003], rfl, fun c o hc => ?_, ?_, ?_, ?_, ?_, ?_, ?_⟩
              · rw [upd_ne (hDc hc), upd_ne (ne_of_none hc hL0)]
                exact s2 c o hc
              · rw [upd_same, List.map_set]
              · rw [List.length_set]
                exact lD
              · intro m hm
                rcases List.mem_or_eq_of_mem_set hm with h | h
                · exact nD m h
                · rw [h]; exact b5
              · rw [upd_ne hDL.symm, upd_same, List.map_append]
                rfl
              · intro m hm
                rcases List.mem_append.mp hm with hm | hm
                · exact nL m hm
                · rw [List.mem_singleton.mp hm]
                  exact b4.1
              · rw [List.length_append]
                show ds.length + 1 ≤ i + 1
                omega
            · show tTail K _ [some (.ref a), some (.int many), some (.int _), some (.ref D), some (.ref L), some (.int _), _, _] H2
              exact tail_ok eL (by omega) fun x y hx => put x _ _ _ y hx
          · show tTail K _ [some (.ref a), some (.int many), some (.int _), some (.ref D), some (.ref L), some (.int _), _, _] H2
            exact tail_ok eL (by omega) fun x y hx => put x _ _ _ y hx
      · rintro σ H2 ⟨v2, v5, v6, v7, rs, ds, rfl, s2, eD, lD, nD, eL, nL, lL⟩
        exact ⟨_, rfl, k L ds H2 s2 hL0 eL nL lL⟩
/-- the hand: the draws and the place in them -/
def HandAt (H : Hp) (a d : Addr) : Prop := ∃ (ds : List Int) (i : Int), H a = some (.lst [.ref d, .int i]) ∧ H d = some (.lst (ds.map V.int)) ∧ Nn ds ∧ 0 ≤ i
theorem hand_ne {H : Hp} {a d : Addr} {ds : List Int} {i : Int} (h1 : H a = some (.lst [.ref d, .int i])) (h2 : H d = some (.lst (ds.map V.int))) : a ≠ d := by
  refine ne_of h1 h2 fun z => ?_
  have z' : [V.ref d, V.int i] = ds.map V.int := HO.lst.inj z
  cases ds with
  | nil => cases z'
  | cons x r =>
    have z2 : V.ref d = V.int x := (List.cons.inj z').1
    cases z2
/-- all but what stands at a is as it was -/
def Keep (a : Addr) (H H' : Hp) : Prop := ∀ b o, b ≠ a → H b = some o → H' b = some o
theorem Keep.refl {a : Addr} {H : Hp} : Keep a H H := fun _ _ _ h => h
theorem Keep.trans {a : Addr} {H H1 H2 : Hp} (x : Keep a H H1) (y : Keep a H1 H2) : Keep a H H2 := fun b o n h => y b o n (x b o n h)
theorem Keep.of {a : Addr} {H H' : Hp} (h : Same H H') : Keep a H H' := fun b o _ e => h b o e
theorem Keep.new {a p : Addr} {o : HO} {H : Hp} (h : H p = none) : Keep a H (upd H p o) := fun b u _ e => by rw [upd_ne (ne_of_none e h)]; exact e
theorem same_new {p : Addr} {o : HO} {H : Hp} (h : H p = none) : Same H (upd H p o) := fun b u e => by rw [upd_ne (ne_of_none e h)]; exact e
theorem HandAt.same {H H' : Hp} {a d : Addr} (h : HandAt H a d) (s : Same H H') : HandAt H' a d := by
  obtain ⟨ds, i, h1, h2, h3, h4⟩ := h
  exact ⟨ds, i, s _ _ h1, s _ _ h2, h3, h4⟩
theorem HandAt.one {H : Hp} {a d : Addr} (h : HandAt H a d) : ∃ o, H a = some o := by
  obtain ⟨ds, i, h1, _⟩ := h
  exact ⟨_, h1⟩
theorem HandAt.two {H : Hp} {a d : Addr} (h : HandAt H a d) : ∃ o, H d = some o := by
  obtain ⟨ds, i, _, h2, _⟩ := h
  exact ⟨_, h2⟩
theorem HandAt.ne {H : Hp} {a d p : Addr} (h : HandAt H a d) (n : H p = none) : a ≠ p ∧ d ≠ p := by
  obtain ⟨o, e⟩ := h.one
  obtain ⟨u, e2⟩ := h.two
  exact ⟨ne_of_none e n, ne_of_none e2 n⟩
theorem HandAt.put {H : Hp} {a d p : Addr} {o : HO} (h : HandAt H a d) (n1 : a ≠ p) (n2 : d ≠ p) : HandAt (upd H p o) a d := by
  obtain ⟨ds, i, h1, h2, h3, h4⟩ := h
  exact ⟨ds, i, by rw [upd_ne n1]; exact h1, by rw [upd_ne n2]; exact h2, h3, h4⟩
theorem HandAt.new {H : Hp} {a d p : Addr} {o : HO} (h : HandAt H a d) (n : H p = none) : HandAt (upd H p o) a d := h.put (h.ne n).1 (h.ne n).2
def spTake : Sp := fun vs H Q _ => ∃ (a d : Addr) (many : Int), vs = [.ref a, .int many] ∧ 0 < many ∧ HandAt H a d ∧ ∀ r H', 0 ≤ r → r < many → HandAt H' a d → Keep a H H' → Q (.int r) H'
theorem scTake : FnScope ["hand", "many", "at", "draws"] ["hand", "many"] (defScope sTake) := ⟨rfl, rfl, rfl, by decide +kernel, rfl, by decide +kernel, by decide +kernel⟩
theorem ok_take {f : Addr} {fd : FuncData} (F : FnS K "_law_take" sTake f fd) (B : Blt2 mg) : FnOk P w K mg base (L2.CX P w) 1 f fd ["hand", "many"] spTake := by
  refine F.ok scTake (fun vs H Q E h => ?_) (fun cdv A outer s H vs Q E hr h => ?_)
  · obtain ⟨a, d, m, rfl, _⟩ := h
    rfl
  · obtain ⟨a, d, m, rfl, hm, ⟨ds, i, h1, h2, h3, h4⟩, k⟩ := h
    have nd := scTake.nd
    have nad := hand_ne h1 h2
    refine ⟨_, (pss_cons (ps_set (i := 2) nd rfl (Or.inl rfl) (pe_ix ix_list (pv 0) pe_int (fun _ _ => rfl)))
      (pss_cons (ps_asg (pe_op op_add (pv 2) pe_int) (pg_sub (pv 0) pe_int set_list))
      (pss_cons (ps_set (i := 3) nd rfl (Or.inl rfl) (pe_ix ix_list (pv 0) pe_int (fun _ _ => rfl)))
      (pss_cons (ps_if (pt_cmpR op_ge (pv 2) (pe_callB call_len_seq (by rfl) B.len (by decide +kernel) (pa_cons (pv 3) pa_nil)) (nomark _)) (pss_one (ps_ret pe_int)) pss_nil)
      (pss_one (ps_ret (pe_op op_modN (pe_op op_fdivN (pe_callTy call_int1 (by rfl) B.int (by decide +kernel) (pa_cons (pe_ix ix_list (pv 3) (pv 2) (fun _ _ => rfl)) pa_nil)) pe_int) (pv 1)))))))), ?_⟩
    refine ⟨_, rfl, a, _, _, _, rfl, rfl, SqL.of h1, atI_nat (j := 1) rfl, ?_⟩
    refine ⟨_, rfl, _, _, rfl, rfl, _, rfl, a, _, _, 1, rfl, rfl, h1, rfl, ?_⟩
    have h2' : ∀ o, upd H a o d = some (.lst (ds.map V.int)) := fun o => by rw [upd_ne nad.symm]; exact h2
    have done : ∀ r, 0 ≤ r → r < m → Q (.int r) (upd H a (.lst [.ref d, .int (i + 1)])) := fun r r0 r1 =>
      k r _ r0 r1 ⟨ds, i + 1, upd_same, h2' _, h3, by omega⟩ fun b o hb e => by rw [upd_ne hb]; exact e
    refine ⟨_, rfl, a, _, _, _, rfl, rfl, SqL.of upd_same, atI_nat (j := 0) rfl, ?_⟩
    refine ⟨_, rfl, _, rfl, d, _, rfl, .inl (SqL.of (h2' _)), _, _, rfl, rfl, _, rfl, ?_⟩
    rw [List.length_map]
    refine iteD (fun hc => ?_) (fun hc => ?_)
    · exact done 0 (by omega) (by omega)
    · obtain ⟨q, hq⟩ : ∃ q : Nat, i = (q : Int) := ⟨i.toNat, by omega⟩
      subst hq
      have hql : q < ds.length := by omega
      have e1 : (ds.map V.int)[q]? = some (V.int ds[q]) := by rw [List.getElem?_map, List.getElem?_eq_getElem hql] <;> rfl
      have b := fmod_bd (ds[q].fdiv 7) hm
      refine ⟨_, rfl, _, rfl, d, _, _, _, rfl, rfl, SqL.of (h2' _), atI_nat e1, .inl ⟨_, rfl, _, _, rfl, rfl, ⟨by decide, by decide⟩, _, rfl, _, _, rfl, rfl, (by omega), done _ b.1 b.2⟩⟩
theorem fld_all {p : Int} (h2 : 2 ≤ p) (h31 : p ≤ 31) : (isFld (.int p) = true → ∀ j : Nat, (j : Int) < p - 2 → ¬ p.fmod (2 + (j : Int)) = 0) ∧ (isFld (.int p) = false → ∃ j : Nat, (j : Int) < p - 2 ∧ p.fmod (2 + (j : Int)) = 0) := by
  have t1 : ∀ n ∈ List.range 32, isFld (.int (n : Int)) = true → ∀ j ∈ List.range 32, (j : Int) < (n : Int) - 2 → ¬ (n : Int).fmod (2 + (j : Int)) = 0 := by decide +kernel
  have t2 : ∀ n ∈ List.range 32, 2 ≤ n → isFld (.int (n : Int)) = false → ∃ j ∈ List.range 32, (j : Int) < (n : Int) - 2 ∧ (n : Int).fmod (2 + (j : Int)) = 0 := by decide +kernel
  obtain ⟨n, rfl⟩ : ∃ n : Nat, p = (n : Int) := ⟨p.toNat, by omega⟩
  have hn : n ∈ List.range 32 := List.mem_range.mpr (by omega)
  refine ⟨fun h j hj => t1 n hn h j (List.mem_range.mpr (by omega)) hj, fun h => ?_⟩
  obtain ⟨j, _, h1, h2⟩ := t2 n hn (by omega) h
  exact ⟨j, h1, h2⟩
theorem fld_out {p : Int} (h : p < 2 ∨ 31 < p) : isFld (.int p) = false := by
  cases e : isFld (.int p) with
  | false => rfl
  | true =>
    have := fld_le (fld_mem e)
    omega
theorem scLF : FnScope ["p", "d"] ["p"] (defScope sLF) := ⟨rfl, rfl, rfl, by decide +kernel, rfl, by decide +kernel, by decide +kernel⟩
theorem ok_LF {f : Addr} {fd : FuncData} (F : FnS K "_law_is_field" sLF f fd) (B : Blt2 mg) : FnOk P w K mg base (L2.CX P w) 1 f fd ["p"] (spIsFld K) := by
  refine F.ok scLF (fun vs H Q E h => ?_) (fun cdv A outer s H vs Q E hr h => ?_)
  · obtain ⟨v, rfl, _⟩ := h
    rfl
  · obtain ⟨v, rfl, ⟨t, ht, h1, h2⟩, k⟩ := h
    have nd := scLF.nd
    refine ⟨_, (pss_cons (ps_if (PW.pt (pw_or (pt_not (pt_val (pe_callB call_isi (by rfl) B.isi (by decide +kernel) (pa_cons (pv 0) (pa_cons (pe_bltn (v := .ty "int") (by rfl) B.int (by decide +kernel) rfl) pa_nil))))) (pw_or (pt_val (pe_callB call_isi (by rfl) B.isi (by decide +kernel) (pa_cons (pv 0) (pa_cons (pe_bltn (v := .ty "bool") (by rfl) B.bool (by decide +kernel) rfl) pa_nil)))) (pw_or (pt_cmpR op_lt (pv 0) pe_int (nomark _)) (pw_or1 (pt_cmpR op_gt (pv 0) pe_int (nomark _))))))) (pss_one (ps_ret pe_bl)) pss_nil)
      (pss_cons (ps_for (passes_of rfl) rfl (pi_range2 rfl B.range (pa_cons pe_int (pa_cons (pe_callTy call_int1 (by rfl) B.int (by decide +kernel) (pa_cons (pv 0) pa_nil)) pa_nil))) (pg_name (i := 1) nd rfl (Or.inl rfl)) (pss_one (ps_if (pt_cmpR op_eq (pe_op op_modN (pe_callTy call_int1 (by rfl) B.int (by decide +kernel) (pa_cons (pv 0) pa_nil)) (pv 1)) pe_int (nomark _)) (pss_one (ps_ret pe_bl)) pss_nil)))
      (pss_one (ps_ret pe_bl)))), ?_⟩
    refine ⟨_, rfl, _, _, _, _, _, rfl, .ty "int", ht, h1, _, rfl, ?_⟩
    cases v with
    | int p =>
      refine iteF ⟨_, rfl, _, _, _, _, _, rfl, .ty "bool", ht, h2, _, rfl, iteF ⟨_, rfl, _, _, rfl, rfl, _, rfl, iteD (fun hc => ?_) (fun hc => ⟨_, rfl, _, _, rfl, rfl, _, rfl, iteD (fun hd => ?_) (fun hd => ?_)⟩)⟩⟩
      · rw [fld_out (.inl hc)] at k
        exact k
      · rw [fld_out (.inr hd)] at k
        exact k
      · have fa := fld_all (p := p) (by omega) (by omega)
        refine ⟨_, rfl, .inl ⟨p, rfl, 2, p, rfl, (by omega), for_range (lo := 2) (n := (p - 2).toNat) (fun i σ H' => ∃ x, σ = [some (.int p), x] ∧ H' = H ∧ ∀ j : Nat, j < i → ¬ p.fmod (2 + (j : Int)) = 0) ⟨none, rfl, rfl, fun j hj => by omega⟩ ?_ ?_⟩⟩
        · rintro i σ H' hi ⟨x, rfl, rfl, hj⟩
          refine ⟨_, rfl, .inl ⟨p, rfl, _, rfl, _, _, rfl, rfl, (by omega), rfl, _, rfl, ?_⟩⟩
          refine iteD (fun he => ?_) (fun he => ?_)
          · have he' : p.fmod (2 + (i : Int)) = 0 := V.int.inj he
            have e : isFld (.int p) = false := by
              cases q : isFld (.int p) with
              | false => rfl
              | true => exact absurd he' (fa.1 q i (by omega))
            rw [e] at k
            exact k
          · refine ⟨_, rfl, rfl, fun j hjj => ?_⟩
            by_cases z : j = i
            · subst z
              exact fun q => he (congrArg V.int q)
            · exact hj j (by omega)
        · rintro σ H' ⟨x, rfl, rfl, hj⟩
          have e : isFld (.int p) = true := by
            cases q : isFld (.int p) with
            | true => rfl
            | false =>
              obtain ⟨j, h3, h4⟩ := fa.2 q
              exact absurd h4 (hj j (by omega))
          rw [e] at k
          exact k
    | bl b => exact iteF ⟨_, rfl, _, _, _, _, _, rfl, .ty "bool", ht, h2, _, rfl, iteT k⟩
    | _ => exact iteT k
def ups (n : Nat) : List Int := ((List.range n).filter fun (j : Nat) => isFld (.int (2 + (j : Int)))).map fun (j : Nat) => 2 + (j : Int)
theorem ups_succ (n : Nat) : ups (n + 1) = if isFld (.int (2 + (n : Int))) = true then ups n ++ [2 + (n : Int)] else ups n := by
  unfold ups
  rw [List.range_succ, List.filter_append, List.map_append]
  cases h : isFld (.int (2 + (n : Int))) <;> simp [h]
theorem ups_len (n : Nat) : (ups n).length ≤ n := by
  unfold ups
  rw [List.length_map]
  exact Nat.le_trans (List.length_filter_le _ _) (by simp)
theorem ups_all : ups 30 = primes := by decide +kernel
def spLFd : Sp := fun vs H Q _ => ∃ (a d : Addr), vs = [.ref a] ∧ HandAt H a d ∧ ∀ p H', p ∈ primes → HandAt H' a d → Keep a H H' → Q (.int p) H'
theorem scLFd : FnScope ["hand", "primes", "p"] ["hand"] (defScope sLFd) := ⟨rfl, rfl, rfl, by decide +kernel, rfl, by decide +kernel, by decide +kernel⟩
theorem ok_LFd {f fF fT : Addr} {fd fdF fdT : FuncData} (F : FnS K "_law_field" sLFd f fd) (B : Blt2 mg) (CF : Cal P w K mg base 1 "_law_is_field" fF fdF ["p"] (spIsFld K)) (CT : Cal P w K mg base 1 "_law_take" fT fdT ["hand", "many"] spTake) :
    FnOk P w K mg base (L2.CX P w) 2 f fd ["hand"] spLFd := by
  refine F.ok scLFd (fun vs H Q E h => ?_) (fun cdv A outer s H vs Q E hr h => ?_)
  · obtain ⟨a, d, rfl, _⟩ := h
    rfl
  · obtain ⟨a, d, rfl, hH, k⟩ := h
    have nd := scLFd.nd
    have hr1 := hr
    refine ⟨_, (pss_cons (ps_setLc (i := 1) (own := [("p", 2)]) (g := gName 2) (by rfl) nd rfl rfl (sw_true rfl rfl rfl (by decide +kernel)) (pi_range2 rfl B.range (pa_cons pe_int (pa_cons pe_int pa_nil))) (blkOk_by (own := [("p", 2)]) (N := ["hand", "primes", "p"]) (sc := defScope sLFd) (by decide +kernel)) (fun _ _ _ _ _ => pg_name (i := 2) nd rfl (Or.inl rfl)) (fun _ _ _ _ _ => pts_one (pt_val (pe_cal CF hr (pa_cons (pv 2) pa_nil) passU))) (fun _ _ _ _ _ => (pv 2)))
      (pss_one (ps_ret (pe_ix ix_list (pv 1) (pe_ix ix_list (pe_lst (pa_cons (pe_cal CT hr1 (pa_cons (pv 0) (pa_cons pe_int pa_nil)) passU) (pa_cons (pe_cal CT hr1 (pa_cons (pv 0) (pa_cons pe_int pa_nil)) passU) pa_nil))) (pe_cal CT hr1 (pa_cons (pv 0) (pa_cons pe_int pa_nil)) passU) (fun _ _ => rfl)) (fun _ _ => rfl))))), ?_⟩
    refine ⟨2, 32, rfl, (by omega), fun D hD => lc_range (lo := 2) (n := 30) (fun i H' => Same H H' ∧ H' D = some (.lst ((ups i).map V.int))) ⟨same_new hD, upd_same⟩ ?_ ?_⟩
    · rintro i H' hi ⟨s1, e⟩
      have eu := ups_succ i
      refine ⟨rfl, _, rfl, _, rfl, ty3_int _, _, rfl, ?_⟩
      cases q : isFld (.int (2 + (i : Int))) with
      | true =>
        rw [if_pos q] at eu
        refine iteT ⟨_, rfl, _, e, (by rw [List.length_map]; exact small4k (Nat.le_trans (ups_len i) (by omega))), fun c o hc => by rw [upd_ne (ne_of_none hc hD)]; exact s1 c o hc, ?_⟩
        rw [upd_same, eu, List.map_append]
        rfl
      | false =>
        rw [if_neg (by rw [q]; decide)] at eu
        refine iteF ⟨s1, ?_⟩
        rw [eu]
        exact e
    · rintro H1 ⟨s1, e⟩
      rw [ups_all] at e
      have h1 := hH.same s1
      refine ⟨_, rfl, _, rfl, a, d, 11, rfl, by decide, h1, fun r1 H2 a0 a1 h2 k2 => ⟨_, rfl, a, d, 3, rfl, by decide, h2, fun r2 H3 b0 b1 h3 k3 => ⟨(by show 2 ≤ sizeLine; decide), fun q hq => ⟨_, rfl, a, d, 2, rfl, by decide, h3.new hq, fun r3 H4 c0 c1 h4 k4 => ?_⟩⟩⟩⟩
      have nq := h3.ne hq
      have nD := hH.ne hD
      have eq : H4 q = some (.lst [.int r1, .int r2]) := k4 _ _ nq.1.symm upd_same
      have eD : H4 D = some (.lst (primes.map V.int)) := k4 _ _ nD.1.symm (by
        have e3 := k3 _ _ nD.1.symm (k2 _ _ nD.1.symm e)
        rw [upd_ne (ne_of_none e3 hq)]
        exact e3)
      have kk : Keep a H H4 := (Keep.of s1).trans (k2.trans (k3.trans ((Keep.new hq).trans k4)))
      have out : ∀ r : Int, 0 ≤ r → r < 11 → rIxL K (.ref D) (.int r) H4 Q := fun r z0 z1 => by
        obtain ⟨m, rfl⟩ : ∃ m : Nat, r = (m : Int) := ⟨r.toNat, by omega⟩
        have hm : m < primes.length := by show m < 11; omega
        have em : (primes.map V.int)[m]? = some (V.int primes[m]) := by rw [List.getElem?_map, List.getElem?_eq_getElem hm] <;> rfl
        exact ⟨D, _, _, _, rfl, rfl, SqL.of eD, atI_nat em, k _ _ (List.getElem_mem hm) h4 kk⟩
      have hc : r3 = 0 ∨ r3 = 1 := by omega
      rcases hc with rfl | rfl
      · exact ⟨q, _, _, .int r1, rfl, rfl, SqL.of eq, rfl, out r1 a0 a1⟩
      · exact ⟨q, _, _, .int r2, rfl, rfl, SqL.of eq, rfl, out r2 b0 (by omega)⟩
end
end WU

set_option maxRecDepth 100000
set_option maxHeartbeats 8000000
namespace WU
open PySem PySem.Spec PyProof.Rows L2
/-! ### walking what may be a list or a tuple -/
def iSeq (K : PySem.W.Frag) (tl : TE) : TI := fun σ H R => tl σ H fun x H1 => ∃ a, x = .ref a ∧ (((∃ xs, SqL K H1 a xs) ∧ R (Itl K a) H1) ∨ ((∃ xs, SqT K H1 a xs) ∧ R (Itt K a) H1))
theorem pi_seq {X : Cx} {tg l : Expr} {tl : TE} (hl : PE X l tl) : PI X tg l (iSeq X.K tl) := by
  constructor
  intro pins st σ H R I h
  refine thn (hl.run pins st σ H _ I h) fun v t1 ⟨x, H2, J, rx, a, ea, q⟩ => ?_
  subst ea
  cases rx
  have fresh : ∀ b ∈ [t1.heap.objs.size], FpOk X pins H2 b := fun b hb => by
    cases List.mem_singleton.mp hb
    exact J.fpOk (Nat.le_refl _) (J.hok.fresh (Nat.le_refl _))
  rcases q with ⟨⟨xs, hq⟩, q⟩ | ⟨⟨xs, hq⟩, q⟩
  · obtain ⟨its, rv, pl, _⟩ := J.list hq
    apply wpAny_pyIter_list pl.isList
    exact ⟨_, [t1.heap.objs.size], _, _, H2, rfl, J.kept (t' := t1.toks) fun b o e => Heap.get?_push_of_some _ e, turn_list a _, ⟨_, Heap.get?_push_size _ rfl, rfl, rfl⟩, fresh, q⟩
  · obtain ⟨its, rv, pl, _⟩ := J.tuple hq
    apply wpAny_pyIter_tuple (show t1.heap.IsTuple a its.toArray from pl)
    exact ⟨_, [t1.heap.objs.size], _, _, H2, rfl, J.kept (t' := t1.toks) fun b o e => Heap.get?_push_of_some _ e, turn_tuple a _, ⟨_, Heap.get?_push_size _ rfl, rfl, rfl⟩, fresh, q⟩
/-! ### data -/
def tyName : PyData → String
  | .none => "NoneType"
  | .bool _ => "bool"
  | .int _ => "int"
  | .str _ => "str"
  | .list _ => "list"
  | .tuple _ => "tuple"
  | .dict _ => "dict"
def isSeq : PyData → Bool
  | .list _ => true
  | .tuple _ => true
  | _ => false
def belD (p : Int) : PyData → Bool
  | .int i => decide (0 ≤ i) && decide (i < p)
  | _ => false
/-- whether it is a sequence of n letters -/
def letsD (p n : Int) : PyData → Bool
  | .list ds => decide ((ds.length : Int) = n) && ds.all (belD p)
  | .tuple ds => decide ((ds.length : Int) = n) && ds.all (belD p)
  | _ => false
def smallD : PyData → Prop
  | .list ds => ds.length ≤ 200
  | .tuple ds => ds.length ≤ 200
  | _ => True
section
variable {K : PySem.W.Frag} {H H' : Hp}
theorem sqL_ty {a : Addr} {xs : List V} (h : SqL K H a xs) : TyX K H (.ref a) (.type "list") := by
  rcases h with (h | ⟨o, h⟩) | ⟨o, its, n, h1, h2, _⟩
  · exact .base (.lst h)
  · exact .base (.frz h)
  · exact .kList h1 h2
theorem sqT_ty {a : Addr} {xs : List V} (h : SqT K H a xs) : TyX K H (.ref a) (.type "tuple") := by
  rcases h with (h | ⟨o, h⟩) | ⟨o, its, n, h1, h2, _⟩
  · exact .base (.tup h)
  · exact .fTuple h
  · exact .kTuple h1 h2
theorem dp_ty {v : V} {d : PyData} (h : Dp K H v d) : TyX K H v (.type (tyName d)) := by
  cases h with
  | non => exact .base .non
  | bl b => exact .base (.bl b)
  | int i => exact .base (.int i)
  | str x => exact .base (.str x)
  | lst h _ => exact sqL_ty h
  | tup h _ => exact sqT_ty h
theorem dp_ty3 {v : V} {d : PyData} (h : Dp K H v d) : Ty3 K H v := by
  have t := dp_ty h
  cases h with
  | non => exact ty3_non
  | bl b => exact ty3_bl b
  | int i => exact ty3_int i
  | str x => exact ty3_str x
  | lst h _ => exact ⟨_, t, kit_ty (show kitB "list" "int" = some false by decide +kernel), kit_ty (show kitB "list" "bool" = some false by decide +kernel)⟩
  | tup h _ => exact ⟨_, t, kit_ty (show kitB "tuple" "int" = some false by decide +kernel), kit_ty (show kitB "tuple" "bool" = some false by decide +kernel)⟩
theorem dp_bel {v : V} {d : PyData} (h : Dp K H v d) (p : Int) : isBel p v = belD p d := by
  cases h <;> rfl
theorem kit_seq {d : PyData} : (∀ kvs, d ≠ .dict kvs) → PySem.W.kitAny K (.type (tyName d)) [.type "list", .type "tuple"] = some (isSeq d) := by
  intro nd
  cases d with
  | none => exact kitAny_cons (b := false) (kit_ty (show kitB "NoneType" "list" = some false by decide +kernel)) (fun _ => kitAny_cons (b := false) (kit_ty (show kitB "NoneType" "tuple" = some false by decide +kernel)) (fun _ => kitAny_nil) (fun h => nomatch h)) (fun h => nomatch h)
  | bool b => exact kitAny_cons (b := false) (kit_ty (show kitB "bool" "list" = some false by decide +kernel)) (fun _ => kitAny_cons (b := false) (kit_ty (show kitB "bool" "tuple" = some false by decide +kernel)) (fun _ => kitAny_nil) (fun h => nomatch h)) (fun h => nomatch h)
  | int i => exact kitAny_cons (b := false) (kit_ty (show kitB "int" "list" = some false by decide +kernel)) (fun _ => kitAny_cons (b := false) (kit_ty (show kitB "int" "tuple" = some false by decide +kernel)) (fun _ => kitAny_nil) (fun h => nomatch h)) (fun h => nomatch h)
  | str x => exact kitAny_cons (b := false) (kit_ty (show kitB "str" "list" = some false by decide +kernel)) (fun _ => kitAny_cons (b := false) (kit_ty (show kitB "str" "tuple" = some false by decide +kernel)) (fun _ => kitAny_nil) (fun h => nomatch h)) (fun h => nomatch h)
  | list xs => exact kitAny_cons (b := true) (kit_ty (show kitB "list" "list" = some true by decide +kernel)) (fun h => nomatch h) (fun _ => rfl)
  | tuple xs => exact kitAny_cons (b := false) (kit_ty (show kitB "tuple" "list" = some false by decide +kernel)) (fun _ => kitAny_cons (b := true) (kit_ty (show kitB "tuple" "tuple" = some true by decide +kernel)) (fun h => nomatch h) (fun _ => rfl)) (fun h => nomatch h)
  | dict kvs => exact absurd rfl (nd kvs)
theorem dp_nodict {v : V} {d : PyData} (h : Dp K H v d) : ∀ kvs, d ≠ .dict kvs := fun kvs z => by
  subst z
  cases h
theorem sqL_same {a : Addr} {xs : List V} (h : SqL K H a xs) (s : Same H H') : SqL K H' a xs := SqL.ext h s
theorem sqT_same {a : Addr} {xs : List V} (h : SqT K H a xs) (s : Same H H') : SqT K H' a xs := SqT.ext h s
mutual
theorem dp_same (s : Same H H') : ∀ {v : V} {d : PyData}, Dp K H v d → Dp K H' v d
  | _, _, .non => .non
  | _, _, .bl b => .bl b
  | _, _, .int i => .int i
  | _, _, .str x => .str x
  | _, _, .lst h k => .lst (sqL_same h s) (dps_same s k)
  | _, _, .tup h k => .tup (sqT_same h s) (dps_same s k)
theorem dps_same (s : Same H H') : ∀ {vs : List V} {ds : List PyData}, DpAll K H vs ds → DpAll K H' vs ds
  | _, _, .nil => .nil
  | _, _, .cons h k => .cons (dp_same s h) (dps_same s k)
end
theorem dps_len : ∀ {vs : List V} {ds : List PyData}, DpAll K H vs ds → vs.length = ds.length
  | _, _, .nil => rfl
  | _, _, .cons _ k => congrArg Nat.succ (dps_len k)
theorem dps_at : ∀ {vs : List V} {ds : List PyData} {i : Nat} {v : V}, DpAll K H vs ds → vs[i]? = some v → ∃ d, ds[i]? = some d ∧ Dp K H v d
  | _, _, _, _, .nil, e => by cases e
  | _, _, 0, _, .cons h _, e => by
    cases e
    exact ⟨_, rfl, h⟩
  | _, _, i + 1, _, .cons _ k, e => dps_at (i := i) k e
end
structure Blt3 (mg : Str → Option Value) : Prop extends Blt2 mg where
  lst : mg "list" = none
  all : mg "all" = none
section
variable {P : Program} {w : World} {K : PySem.W.Frag} {mg : Str → Option Value} {base : Heap}
def spSeq (K : PySem.W.Frag) : Sp := fun vs H Q _ => ∃ v d, vs = [v] ∧ Dp K H v d ∧ ∀ H', Same H H' → Q (.bl (isSeq d)) H'
theorem scSeq : FnScope ["value"] ["value"] (defScope sSeq) := ⟨rfl, rfl, rfl, by decide +kernel, rfl, by decide +kernel, by decide +kernel⟩
theorem ok_seq {f : Addr} {fd : FuncData} (F : FnS K "is_sequence" sSeq f fd) (B : Blt3 mg) : FnOk P w K mg base (L2.CX P w) 1 f fd ["value"] (spSeq K) := by
  refine F.ok scSeq (fun vs H Q E h => ?_) (fun cdv A outer s H vs Q E hr h => ?_)
  · obtain ⟨v, d, rfl, _⟩ := h
    rfl
  · obtain ⟨v, d, rfl, hd, k⟩ := h
    refine ⟨_, (pss_one (ps_ret (pe_callB call_isiT (by rfl) B.isi (by decide +kernel) (pa_cons (pv 0) (pa_cons (pe_tup (pa_cons (pe_bltn (v := .ty "list") (by rfl) B.lst (by decide +kernel) rfl) (pa_cons (pe_bltn (v := .ty "tuple") (by rfl) B.tuple (by decide +kernel) rfl) pa_nil))) pa_nil))))), ?_⟩
    refine ⟨_, rfl, (by show 2 ≤ sizeLine; decide), fun t ht => ⟨v, t, _, _, _, _, rfl, upd_same, .cons (.ty "list") (.cons (.ty "tuple") .nil), dp_ty (dp_same (same_new ht) hd), kit_seq (dp_nodict hd), k _ (same_new ht)⟩⟩
def spLets (K : PySem.W.Frag) : Sp := fun vs H Q _ => ∃ (p n : Int) (v : V) (d : PyData), vs = [.int p, .int n, v] ∧ Dp K H v d ∧ smallD d ∧ ∀ H', Same H H' → Q (.bl (letsD p n d)) H'
theorem scLets : FnScope ["p", "count", "value", "letter"] ["p", "count", "value"] (defScope sLets) := ⟨rfl, rfl, rfl, by decide +kernel, rfl, by decide +kernel, by decide +kernel⟩
theorem ok_lets {f f1 f2 : Addr} {fd fd1 fd2 : FuncData} (F : FnS K "are_letters" sLets f fd) (B : Blt3 mg) (CS : Cal P w K mg base 1 "is_sequence" f1 fd1 ["value"] (spSeq K)) (CB : Cal P w K mg base 3 "is_below" f2 fd2 ["value", "limit"] (spIsBel K)) :
    FnOk P w K mg base (L2.CX P w) 4 f fd ["p", "count", "value"] (spLets K) := by
  refine F.ok scLets (fun vs H Q E h => ?_) (fun cdv A outer s H vs Q E hr h => ?_)
  · obtain ⟨p, n, v, d, rfl, _⟩ := h
    rfl
  · obtain ⟨p, n, v, d, rfl, hd, hz, k⟩ := h
    have nd := scLets.nd
    have hr1 := hr.mono (show 1 ≤ 3 by decide)
    refine ⟨_, (pss_one (ps_ret (pe_and (pe_cal CS hr1 (pa_cons (pv 2) pa_nil) passU) (pe_and (pe_cmpR op_eq (pe_callB call_len_seq (by rfl) B.len (by decide +kernel) (pa_cons (pv 2) pa_nil)) (pv 1) (nomark _)) (pe_one (pe_callB (cr_all rfl) (by rfl) B.all (by decide +kernel) (pa_cons (pe_lc (own := [("letter", 3)]) (g := gName 3) (by rfl) nd (pi_seq (pv 2)) (blkOk_by (own := [("letter", 3)]) (N := ["p", "count", "value", "letter"]) (sc := defScope sLets) (by decide +kernel)) (fun _ _ _ _ _ => pg_name (i := 3) nd rfl (Or.inl rfl)) (fun _ _ _ _ _ => pts_nil) (fun _ _ _ _ _ => (pe_cal CB hr (pa_cons (pv 3) (pa_cons (pv 0) pa_nil)) passU))) pa_nil))))))), ?_⟩
    refine ⟨_, rfl, v, d, rfl, hd, fun H1 s1 => ⟨_, rfl, ?_⟩⟩
    have cs : (isSeq d = false ∧ letsD p n d = false) ∨ ∃ a xs ds, v = .ref a ∧ (SqL K H a xs ∨ SqT K H a xs) ∧ DpAll K H xs ds ∧ ds.length ≤ 200 ∧ isSeq d = true ∧ letsD p n d = (decide ((ds.length : Int) = n) && ds.all (belD p)) := by
      cases hd with
      | non => exact .inl ⟨rfl, rfl⟩
      | bl b => exact .inl ⟨rfl, rfl⟩
      | int i => exact .inl ⟨rfl, rfl⟩
      | str x => exact .inl ⟨rfl, rfl⟩
      | lst h q => exact .inr ⟨_, _, _, rfl, .inl h, q, hz, rfl, rfl⟩
      | tup h q => exact .inr ⟨_, _, _, rfl, .inr h, q, hz, rfl, rfl⟩
    rcases cs with ⟨e1, e2⟩ | ⟨a, xs, ds, rfl, hx, hds, hl, e1, e2⟩
    · rw [e1]
      rw [e2] at k
      exact iteF (k H1 s1)
    · refine iteTb e1 ?_
      rw [e2] at k
      have el := dps_len hds
      have hx1 : SqL K H1 a xs ∨ SqT K H1 a xs := hx.imp (fun h => sqL_same h s1) fun h => sqT_same h s1
      refine ⟨_, rfl, a, xs, rfl, hx1, _, rfl, rfl, _, rfl, ?_⟩
      refine iteD (fun hc => ?_) (fun hc => ?_)
      · have hc' : ((ds.length : Nat) : Int) = n := by
          rw [← el]
          exact V.int.inj hc
        rw [decide_eq_true hc', Bool.true_and] at k
        have st0 : ∀ D, H1 D = none → Same H1 (upd H1 D (.lst [])) ∧ upd H1 D (.lst []) D = some (.lst ((ds.take 0).map fun d => V.bl (belD p d))) := fun D hD => ⟨same_new hD, upd_same⟩
        have turn : ∀ (D : Addr), H1 D = none → ∀ (i : Nat) (y : V) (H2 : Hp), xs[i]? = some y → Same H1 H2 ∧ H2 D = some (.lst ((ds.take i).map fun d => V.bl (belD p d))) →
            isBel p y = belD p (ds.getD i .none) ∧ Ty3 K H2 y ∧ ((ds.take i).map fun d => V.bl (belD p d)).length < sizeLine ∧ Same H1 (upd H2 D (.lst (((ds.take i).map fun d => V.bl (belD p d)) ++ [.bl (isBel p y)]))) ∧
              upd H2 D (.lst (((ds.take i).map fun d => V.bl (belD p d)) ++ [.bl (isBel p y)])) D = some (.lst ((ds.take (i + 1)).map fun d => V.bl (belD p d))) := by
          rintro D hD i y H2 hi ⟨s2, eD⟩
          obtain ⟨di, hdi, hy⟩ := dps_at hds hi
          have eb := dp_bel hy p
          have eg : ds.getD i .none = di := by rw [List.getD_eq_getElem?_getD, hdi] <;> rfl
          refine ⟨by rw [eg]; exact eb, dp_ty3 (dp_same (s1.trans s2) hy), ?_, ?_, ?_⟩
          · rw [List.length_map, List.length_take]
            exact small1000 (by omega)
          · exact fun c o hc => by rw [upd_ne (ne_of_none hc hD)]; exact s2 c o hc
          · rw [upd_same, List.take_succ, hdi, List.map_append, eb]
            rfl
        have fin : ∀ (D : Addr) (H2 : Hp), Same H1 H2 → H2 D = some (.lst ((ds.take xs.length).map fun d => V.bl (belD p d))) → rAll K [.ref D] H2 Q := by
          intro D H2 s2 eD
          rw [el, List.take_length] at eD
          refine ⟨D, ds.map (belD p), rfl, SqL.of (by rw [eD, List.map_map]; rfl), ?_⟩
          have ea : (ds.map (belD p)).all id = ds.all (belD p) := by rw [List.all_map]; rfl
          rw [ea]
          exact k H2 (s1.trans s2)
        refine ⟨_, rfl, a, rfl, ?_⟩
        rcases hx1 with h | h
        · refine .inl ⟨⟨_, h⟩, fun D hD => lc_list (K := K) (a := a) (xs := xs) (fun i H2 => Same H1 H2 ∧ H2 D = some (.lst ((ds.take i).map fun d => V.bl (belD p d)))) (st0 D hD) (fun i H2 _ z => sqL_same h z.1) ?_ (fun H2 z => fin D H2 z.1 z.2)⟩
          rintro i y H2 hi z
          obtain ⟨t1, t2, t3, t4, t5⟩ := turn D hD i y H2 hi z
          exact ⟨rfl, _, rfl, _, rfl, y, p, rfl, t2, _, z.2, t3, t4, t5⟩
        · refine .inr ⟨⟨_, h⟩, fun D hD => lc_tup (K := K) (a := a) (xs := xs) (fun i H2 => Same H1 H2 ∧ H2 D = some (.lst ((ds.take i).map fun d => V.bl (belD p d)))) (st0 D hD) (fun i H2 _ z => sqT_same h z.1) ?_ (fun H2 z => fin D H2 z.1 z.2)⟩
          rintro i y H2 hi z
          obtain ⟨t1, t2, t3, t4, t5⟩ := turn D hD i y H2 hi z
          exact ⟨rfl, _, rfl, _, rfl, y, p, rfl, t2, _, z.2, t3, t4, t5⟩
      · have hc' : ¬ ((ds.length : Nat) : Int) = n := fun z => hc (congrArg V.int (by rw [el]; exact z))
        rw [decide_eq_false hc', Bool.false_and] at k
        exact k H1 s1
end
end WU

set_option maxRecDepth 100000
set_option maxHeartbeats 4000000
namespace WU
open PySem PySem.Spec PyProof.Rows L2
section
variable {P : Program} {w : World} {K : PySem.W.Frag} {mg : Str → Option Value} {base : Heap}
/-! ### the errors' __init__ -/
/-! ### inverse_of -/
/-- whether 1 + j is an inverse -/
def hit (p a : Int) (j : Nat) : Bool := decide ((a * (1 + (j : Int))).fmod p = 1)
def cnd (p a : Int) (n : Nat) : List Int := ((List.range n).filter (hit p a)).map fun (j : Nat) => 1 + (j : Int)
theorem cnd_succ (p a : Int) (n : Nat) : cnd p a (n + 1) = if hit p a n = true then cnd p a n ++ [1 + (n : Int)] else cnd p a n := by
  unfold cnd
  rw [List.range_succ, List.filter_append, List.map_append]
  by_cases h : hit p a n = true
  · rw [if_pos h]
    simp [h]
  · rw [if_neg h]
    simp [h]
theorem cnd_len (p a : Int) (n : Nat) : (cnd p a n).length ≤ n := by
  unfold cnd
  rw [List.length_map]
  exact Nat.le_trans (List.length_filter_le _ _) (by simp)
theorem cnd_none (p a : Int) (n : Nat) (h : ∀ j, j < n → hit p a j = false) : cnd p a n = [] := by
  induction n with
  | zero => rfl
  | succ n ih =>
    rw [cnd_succ, ih fun j hj => h j (by omega), if_neg (by rw [h n (by omega)]; decide)]
theorem cnd_grow (p a : Int) (n : Nat) : ∀ m, ∃ l, cnd p a (n + m) = cnd p a n ++ l
  | 0 => ⟨[], by simp⟩
  | m + 1 => by
    obtain ⟨l, e⟩ := cnd_grow p a n m
    rw [show n + (m + 1) = n + m + 1 from rfl, cnd_succ, e]
    split
    · exact ⟨l ++ [1 + ((n + m : Nat) : Int)], by simp⟩
    · exact ⟨l, rfl⟩
/-- the inverse: the first one -/
def inv (p a : Int) : Int := (cnd p a (p - 1).toNat).headD 0
theorem inv_first {p a : Int} {n : Nat} (hn : n < (p - 1).toNat) (h : ∀ j, j < n → hit p a j = false) (hh : hit p a n = true) : inv p a = 1 + (n : Int) := by
  obtain ⟨l, e⟩ := cnd_grow p a (n + 1) ((p - 1).toNat - (n + 1))
  rw [show n + 1 + ((p - 1).toNat - (n + 1)) = (p - 1).toNat by omega] at e
  unfold inv
  rw [e, cnd_succ, if_pos hh, cnd_none p a n h]
  rfl
theorem inv_there {p a : Int} (hp : p ∈ primes) (h0 : 0 < a) (h1 : a < p) : ∃ l, cnd p a (p - 1).toNat = inv p a :: l := by
  have all : ∀ q ∈ primes, ∀ n ∈ List.range 31, ¬ n = 0 → (n : Int) < q → (cnd q n (q - 1).toNat).isEmpty = false := by decide +kernel
  have hb := fld_le hp
  have e := all p hp a.toNat (List.mem_range.mpr (by omega)) (by omega) (by omega)
  rw [show ((a.toNat : Nat) : Int) = a by omega] at e
  unfold inv
  cases q : cnd p a (p - 1).toNat with
  | nil =>
    rw [q] at e
    cases e
  | cons x l => exact ⟨l, rfl⟩
def spInv (K : PySem.W.Frag) : Sp := fun vs H Q E => ∃ v u, vs = [v, u] ∧ Ty3 K H v ∧ Ty3 K H u ∧ (isFld v = false → Errs (He.ga K "InvalidNumber") "value" v H E) ∧
  ∀ p, v = .int p → isFld v = true → (isBel p u = false → Errs (He.ga K "InvalidNumber") "value" u H E) ∧ (u = .int 0 → Errs (He.ga K "Undefined") "what" (.str "inverse") H E) ∧
    ∀ a, u = .int a → 0 < a → a < p → ∀ H', Same H H' → Q (.int (inv p a)) H'
theorem scInv : FnScope ["p", "a", "b"] ["p", "a"] (defScope sInv) := ⟨rfl, rfl, rfl, by decide +kernel, rfl, by decide +kernel, by decide +kernel⟩
theorem ok_inv {f f1 f2 : Addr} {fd fd1 fd2 fdI fdU : FuncData} (F : FnS K "inverse_of" sInv f fd) (C1 : Cal P w K mg base 3 "check_field" f1 fd1 ["p"] (spCheck K)) (C2 : Cal P w K mg base 3 "is_below" f2 fd2 ["value", "limit"] (spIsBel K))
    (T : Exc1 K mg "InvalidNumber" "value") (TU : Exc1 K mg "Undefined" "what") (gR : mg "range" = none)
    (FI : FnOk P w K mg base (L2.CX P w) 1 (He.ma K (He.ga K "InvalidNumber") "__init__") fdI ["self", "value"] (spInit1 K (He.ga K "InvalidNumber") "value")) (bI : Binds K fdI ["self", "value"] [])
    (FU : FnOk P w K mg base (L2.CX P w) 1 (He.ma K (He.ga K "Undefined") "__init__") fdU ["self", "what"] (spInit1 K (He.ga K "Undefined") "what")) (bU : Binds K fdU ["self", "what"] []) :
    FnOk P w K mg base (L2.CX P w) 4 f fd ["p", "a"] (spInv K) := by
  refine F.ok scInv (fun vs H Q E h => ?_) (fun cdv A outer s H vs Q E hr h => ?_)
  · obtain ⟨v, u, rfl, _⟩ := h
    rfl
  · obtain ⟨v, u, rfl, hv, hu, kF, kk⟩ := h
    have nd := scInv.nd
    have hr2 : Room 2 _ := hr.mono (by decide)
    refine ⟨_, pss_cons (ps_expr (pe_cal (E := E) C1 hr (pa_cons (pv 0) pa_nil) (passes_call (takes_of rfl rfl rfl rfl) (fun _ _ _ _ h => h))))
      (pss_cons (ps_if (pt_not (pt_val (pe_cal C2 hr (pa_cons (pv 1) (pa_cons (pv 0) pa_nil)) passU))) (pss_one (ps_raise1 rfl (takes_of rfl rfl rfl rfl) T FI bI hr2 (pa_cons (pv 1) pa_nil))) pss_nil)
      (pss_cons (ps_if (pt_cmpR op_eq (pv 1) pe_int (nomark _)) (pss_one (ps_raise1 rfl (takes_of rfl rfl rfl rfl) TU FU bU hr2 (pa_cons pe_str pa_nil))) pss_nil)
      (pss_one (ps_ret (pe_ix ix_list (pe_lc (own := [("b", 2)]) (g := gName 2) (by rfl) nd (pi_range2 (by rfl) gR (pa_cons pe_int (pa_cons (pv 0) pa_nil))) (blkOk_by (own := [("b", 2)]) (N := ["p", "a", "b"]) (sc := defScope sInv) (by decide +kernel))
        (fun _ _ _ _ _ => pg_name (i := 2) nd rfl (Or.inl rfl)) (fun _ _ _ _ _ => pts_one (pt_cmpR op_eq (pe_op op_modN (pe_op op_mul (pv 1) (pv 2)) (pv 0)) pe_int (nomark _))) (fun _ _ _ _ _ => pv 2)) pe_int (fun _ _ => rfl)))))), ?_⟩
    refine ⟨_, rfl, v, rfl, hv, fun e => ?_, kF⟩
    cases v with
    | int p =>
      obtain ⟨kB, k0, kI⟩ := kk p rfl e
      refine ⟨_, rfl, _, rfl, u, p, rfl, hu, _, rfl, ?_⟩
      cases eb : isBel p u with
      | false => exact iteT ⟨_, rfl, u, rfl, kB eb⟩
      | true =>
        refine iteF ?_
        cases u with
        | int a =>
          have eb' : (decide (0 ≤ a) && decide (a < p)) = true := eb
          obtain ⟨e0, e1⟩ := and2 eb'
          have h0 := of_decide_eq_true e0
          have h1 := of_decide_eq_true e1
          refine ⟨_, rfl, rfl, _, rfl, ?_⟩
          show if decide (V.int a = V.int 0) = true then _ else _
          by_cases ha : a = 0
          · subst ha
            exact iteT ⟨.str "inverse", rfl, k0 rfl⟩
          · rw [decide_eq_false fun z => ha (V.int.inj z)]
            refine iteF ?_
            have hp := fld_mem e
            have hb := fld_le hp
            refine ⟨_, rfl, ?_⟩
            refine ⟨1, p, rfl, (by omega), fun D hD => ?_⟩
            refine lc_range (lo := 1) (n := (p - 1).toNat) (fun i H' => Same H H' ∧ H' D = some (.lst ((cnd p a i).map V.int))) ⟨fun c o hc => by rw [upd_ne (ne_of_none hc hD)]; exact hc, upd_same⟩ ?_ ?_
            · rintro i H' hi ⟨s1, s2⟩
              refine ⟨rfl, ?_⟩
              refine ⟨_, rfl, _, rfl, a, _, rfl, rfl, .inl ⟨by omega, by omega⟩, _, rfl, _, p, rfl, rfl, (by omega), rfl, _, rfl, ?_⟩
              have ec := cnd_succ p a i
              have ed : decide (V.int ((a * (1 + (i : Int))).fmod p) = V.int 1) = hit p a i := by
                unfold hit
                by_cases z : (a * (1 + (i : Int))).fmod p = 1
                · rw [decide_eq_true z, decide_eq_true (congrArg V.int z)]
                · rw [decide_eq_false z, decide_eq_false fun q => z (V.int.inj q)]
              show if decide (V.int ((a * (1 + (i : Int))).fmod p) = V.int 1) = true then _ else _
              rw [ed]
              cases q : hit p a i with
              | true =>
                rw [if_pos q] at ec
                refine iteT ⟨_, rfl, _, s2, ?_, fun c o hc => ?_, ?_⟩
                · rw [List.length_map]
                  exact small1000 (Nat.le_trans (cnd_len p a i) (by omega))
                · rw [upd_ne (ne_of_none hc hD)]
                  exact s1 c o hc
                · rw [upd_same, ec, List.map_append]
                  rfl
              | false =>
                rw [if_neg (by rw [q]; decide)] at ec
                refine iteF ⟨s1, ?_⟩
                rw [ec]
                exact s2
            · rintro H' ⟨s1, s2⟩
              obtain ⟨l, el⟩ := inv_there hp (show 0 < a by omega) h1
              rw [el] at s2
              refine ⟨_, _, _, _, rfl, rfl, SqL.of s2, atI_nat (j := 0) rfl, kI a rfl (by omega) h1 H' s1⟩
        | _ => cases eb
    | _ => cases e
end
end WU

set_option maxRecDepth 100000
set_option maxHeartbeats 4000000
namespace WU
open PySem PySem.Spec PyProof.Rows L2
section
variable {P : Program} {w : World} {K : PySem.W.Frag} {mg : Str → Option Value} {base : Heap} {S : Addr}
/-- what is asked of the class Share, at S -/
structure ShC (K : PySem.W.Frag) (mg : Str → Option Value) (S : Addr) : Prop where
  g : mg "Share" = some (.ref S)
  cl : Cls K S
  nT : NoAttr K S "top"
  nB : NoAttr K S "bottom"
  ha : PySem.W.findIn K (.ref S) "__class__" = some (some (.builtin "object.__class__"))
  hn : PySem.W.specialIn K (.builtin "object.__class__") "__get__" = some (some (.builtin "getset_descriptor.__get__"))
  htk : PySem.W.takesIn K (.builtin "object.__class__") = some true
  hm : PySem.W.mroIn K S (.type "object") = some true
  kS : PySem.W.kitOne K (.ref S) (.ref S) = some true
  kI : PySem.W.kitOne K (.ref S) (.type "int") = some false
  kB : PySem.W.kitOne K (.ref S) (.type "bool") = some false
theorem nTB : ¬ (("top" : Str) = "bottom") := by decide +kernel
def shf (t b : Int) : List (Str × V) := putF "bottom" (.int b) (putF "top" (.int t) [])
theorem shf_top (t b : Int) : (shf t b).lookup ("top" : Str) = some (.int t) := by
  unfold shf
  rw [lookup_putF, if_neg nTB, lookup_putF, if_pos rfl]
theorem shf_bot (t b : Int) : (shf t b).lookup ("bottom" : Str) = some (.int b) := by
  unfold shf
  rw [lookup_putF, if_pos rfl]
/-- a Share stands at p -/
def ShAt (S : Addr) (H : Hp) (p : Addr) (t b : Int) : Prop := ∃ dx, H p = some (.ins S dx (shf t b))
theorem ShC.ty {H : Hp} {p : Addr} {t b : Int} (C : ShC K mg S) (h : ShAt S H p t b) : TyX K H (.ref p) (.ref S) := by
  obtain ⟨dx, h⟩ := h
  exact .base (.ins h C.cl C.ha C.hn C.htk C.hm)
theorem ShC.ty3 {H : Hp} {p : Addr} {t b : Int} (C : ShC K mg S) (h : ShAt S H p t b) : Ty3 K H (.ref p) := ⟨_, C.ty h, C.kI, C.kB⟩
def spSI (S : Addr) : Sp := fun vs H Q _ => ∃ (p dx : Addr) (n : Int), vs = [.ref p, .int n, .int 1] ∧ H p = some (.ins S dx []) ∧ 0 ≤ n ∧
  ∀ H', ShAt S H' p n 1 → (∀ b o, b ≠ p → H b = some o → H' b = some o) → Q .non H'
theorem scSI : FnScope ["self", "top", "bottom", "common"] ["self", "top", "bottom"] (defScope sShare_init) := ⟨rfl, rfl, rfl, by decide +kernel, rfl, by decide +kernel, by decide +kernel⟩
theorem ok_SI {f f1 : Addr} {fd fd1 : FuncData} (F : FunD K "__init__" "Share.__init__" (defArgs sShare_init) (defBody sShare_init) (defScope sShare_init) [.int 1] [] f fd) (C1 : Cal P w K mg base 1 "is_integer" f1 fd1 ["value"] (spIsInt K)) (C : ShC K mg S)
    (gG : mg "gcd" = some (.builtin "math.gcd")) : FnOk P w K mg base (L2.CX P w) 2 f fd ["self", "top", "bottom"] (spSI S) := by
  refine F.ok scSI (fun vs H Q E h => ?_) (fun cdv A outer s H vs Q E hr h => ?_)
  · obtain ⟨p, dx, n, rfl, _⟩ := h
    rfl
  · obtain ⟨p, dx, n, rfl, hp, hn, k⟩ := h
    have nd := scSI.nd
    refine ⟨_, pss_cons (ps_if (PW.pt (pw_or (pt_not (pt_val (pe_cal C1 hr (pa_cons (pv 1) pa_nil) passU))) (pw_or (pt_not (pt_val (pe_cal C1 hr (pa_cons (pv 2) pa_nil) passU))) (pw_or1 (pt_cmpR op_eq (pv 2) pe_int (nomark _)))))) (pss_one ps_never) pss_nil)
      (pss_cons (ps_set (i := 3) nd rfl (Or.inl rfl) (pe_ifExp (pt_cmpR op_gt (pv 2) pe_int (nomark _)) (pe_callBfun cr_gcd (by rfl) gG (pa_cons (pv 1) (pa_cons (pv 2) pa_nil))) (pe_un un_neg (pe_callBfun cr_gcd (by rfl) gG (pa_cons (pv 1) (pa_cons (pv 2) pa_nil))))))
      (pss_cons (ps_fld (pv 0) (pe_op op_fdivN (pv 1) (pv 3)) rfl)
      (pss_one (ps_fld (pv 0) (pe_op op_fdivN (pv 2) (pv 3)) rfl)))), ?_⟩
    have ti : ∀ i : Int, Ty3 K H (.int i) := ty3_int
    refine ⟨_, rfl, .int n, rfl, ti n, _, rfl, ?_⟩
    refine iteF ⟨_, rfl, .int 1, rfl, ti 1, _, rfl, iteF ⟨_, rfl, rfl, _, rfl, ?_⟩⟩
    rw [decide_eq_false fun z => absurd (V.int.inj z) (by decide)]
    refine iteF ⟨_, rfl, _, _, rfl, rfl, _, rfl, iteT ?_⟩
    refine ⟨_, rfl, _, rfl, n, 1, rfl, ?_⟩
    rw [show Nat.gcd n.natAbs (1 : Int).natAbs = 1 from Nat.gcd_one_right _]
    refine ⟨_, rfl, _, rfl, n, ((1 : Nat) : Int), rfl, rfl, ⟨by decide, by decide⟩, _, rfl, p, S, dx, [], rfl, hp, C.cl, C.nT, (by show 0 < 1000; decide), ?_⟩
    refine ⟨_, rfl, _, rfl, 1, ((1 : Nat) : Int), rfl, rfl, ⟨by decide, by decide⟩, _, rfl, p, S, dx, _, rfl, upd_same, C.cl, C.nB, (by show 1 < 1000; decide), ?_⟩
    have q1 : n.fdiv ((1 : Nat) : Int) = n := Int.fdiv_one n
    have q2 : (1 : Int).fdiv ((1 : Nat) : Int) = 1 := rfl
    dsimp only
    rw [q1, q2]
    exact k _ ⟨dx, upd_same⟩ fun b o hb e => by rw [upd_ne hb, upd_ne hb]; exact e
theorem scSE : FnScope ["self", "other"] ["self", "other"] (defScope sShare_eq) := ⟨rfl, rfl, rfl, by decide +kernel, rfl, by decide +kernel, by decide +kernel⟩
/-- two Shares of the same numbers -/
def ShR (S : Addr) : Addr → Addr → Hp → Prop := fun a b H => ∃ t u, ShAt S H a t u ∧ ShAt S H b t u
theorem ok_SE {f : Addr} {fd : FuncData} (F : FunD K "__eq__" "Share.__eq__" (defArgs sShare_eq) (defBody sShare_eq) (defScope sShare_eq) [] [] f fd) (C : ShC K mg S) (B : Blt mg) : FnOk P w K mg base (L2.CX P w) 1 f fd ["self", "other"] (spEq (ShR S)) := by
  refine F.ok scSE (fun vs H Q E h => ?_) (fun cdv A outer s H vs Q E hr h => ?_)
  · obtain ⟨a, b, rfl, _⟩ := h
    rfl
  · obtain ⟨a, b, rfl, ⟨t, u, h1, h2⟩, k⟩ := h
    refine ⟨_, pss_cons (ps_if (pt_val (pe_callB call_isi (by rfl) B.isi (by decide +kernel) (pa_cons (pv 1) (pa_cons (pe_glob (v := .ref S) rfl C.g rfl) pa_nil))))
      (pss_one (ps_ret (pe_and (pe_cmp (pc_eqI (pe_fld (pv 0) rfl) (pe_fld (pv 1) rfl))) (pe_one (pe_cmp (pc_eqI (pe_fld (pv 0) rfl) (pe_fld (pv 1) rfl))))))) pss_nil) (pss_one ps_never), ?_⟩
    refine ⟨_, rfl, _, _, _, _, _, rfl, .own S, C.ty h2, C.kS, _, rfl, iteT ?_⟩
    obtain ⟨dx, e1⟩ := h1
    obtain ⟨dy, e2⟩ := h2
    refine ⟨_, rfl, a, S, dx, _, _, rfl, e1, C.cl, C.nT, shf_top t u, _, rfl, b, S, dy, _, _, rfl, e2, C.cl, C.nT, shf_top t u, _, _, rfl, rfl, _, rfl, ?_⟩
    refine iteTb (decide_eq_true (rfl : t = t)) ⟨_, rfl, a, S, dx, _, _, rfl, e1, C.cl, C.nB, shf_bot t u, _, rfl, b, S, dy, _, _, rfl, e2, C.cl, C.nB, shf_bot t u, _, _, rfl, rfl, ?_⟩
    have k' := k H Ext.rfl'
    rw [← decide_eq_true (rfl : u = u)] at k'
    exact k'
end
end WU

set_option maxRecDepth 100000
set_option maxHeartbeats 8000000
namespace WU
open PySem PySem.Spec PyProof.Rows L2
section
variable {P : Program} {w : World} {K : PySem.W.Frag} {mg : Str → Option Value} {base : Heap} {S : Addr}
/-- flat, or an object -/
def FR (x : V) : Prop := flatV x = true ∨ ∃ p, x = .ref p
/-- one of the odd values, none of them the hand at a -/
def OddV (S a : Addr) (H : Hp) (v : V) : Prop := flatV v = true ∨ ∃ p, v = .ref p ∧ p ≠ a ∧ ((∃ t b, ShAt S H p t b) ∨ ∃ xs, (H p = some (.lst xs) ∨ H p = some (.tup xs)) ∧ ∀ x ∈ xs, FR x)
theorem OddV.keep {a : Addr} {H H' : Hp} {v : V} (h : OddV S a H v) (k : Keep a H H') : OddV S a H' v := by
  rcases h with h | ⟨p, rfl, ne, h⟩
  · exact .inl h
  · refine .inr ⟨p, rfl, ne, ?_⟩
    rcases h with ⟨t, b, dx, h⟩ | ⟨xs, h, hx⟩
    · exact .inl ⟨t, b, dx, k _ _ ne h⟩
    · exact .inr ⟨xs, h.elim (fun h => .inl (k _ _ ne h)) fun h => .inr (k _ _ ne h), hx⟩
theorem OddV.fr {a : Addr} {H : Hp} {v : V} (h : OddV S a H v) : FR v := by
  rcases h with h | ⟨p, rfl, _⟩
  · exact .inl h
  · exact .inr ⟨p, rfl⟩
theorem OddV.ty3 {a : Addr} {H : Hp} {v : V} (C : ShC K mg S) (h : OddV S a H v) : Ty3 K H v := by
  rcases h with h | ⟨p, rfl, _, h⟩
  · cases v with
    | non => exact ty3_non
    | bl b => exact ty3_bl b
    | int i => exact ty3_int i
    | str z => exact ty3_str z
    | _ => cases h
  · rcases h with ⟨t, b, h⟩ | ⟨xs, h | h, _⟩
    · exact C.ty3 h
    · exact ty3_lst h
    · exact ty3_tup h
theorem sh_make {H : Hp} {x y : Addr} {n : Int} {G : Hp → Prop} {E : XK} (hx : H x = none) (hy : H y = none) (hn : 0 ≤ n) (k : ∀ H', ShAt S H' x n 1 → Same H H' → G H') :
    spSI S [.ref x, .int n, .int 1] (upd (upd H y (.own x)) x (.ins S y [])) (fun v H2 => v = .non ∧ G H2) E :=
  ⟨x, y, n, rfl, upd_same, hn, fun H' sh kp => ⟨rfl, k H' sh fun b o hb => kp b o (ne_of_none hb hx) (by rw [upd_ne (ne_of_none hb hx), upd_ne (ne_of_none hb hy)]; exact hb)⟩⟩
theorem ShAt.same {H H' : Hp} {p : Addr} {t b : Int} (h : ShAt S H p t b) (s : Same H H') : ShAt S H' p t b := by
  obtain ⟨dx, e⟩ := h
  exact ⟨dx, s _ _ e⟩
def spOdd (S : Addr) (n : Nat) : Sp := fun vs H Q _ => ∃ (a d : Addr) (m : Int), vs = [.ref a, .int m] ∧ 0 ≤ m ∧ m < n ∧ HandAt H a d ∧ ∀ v H', OddV S a H' v → HandAt H' a d → Keep a H H' → Q v H'
theorem scOdd : FnScope ["hand", "depth", "kind", "parts", "values", "k"] ["hand", "depth"] (defScope sOdd) := ⟨rfl, rfl, rfl, by decide +kernel, rfl, by decide +kernel, by decide +kernel⟩
theorem ok_odd {f fT fI : Addr} {fd fdT fdI : FuncData} {dI : List Value} (F : FnS K "_law_odd" sOdd f fd) (B : Blt2 mg) (C : ShC K mg S) (CT : Cal P w K mg base 1 "_law_take" fT fdT ["hand", "many"] spTake)
    (MK : Mk K S fI) (GI : FnOk P w K mg base (L2.CX P w) 2 fI fdI ["self", "top", "bottom"] (spSI S)) (bI : Binds K fdI ["self", "top", "bottom"] dI) (vI : Vals [.int 1] dI) (n : Nat)
    (CO : Cal P w K mg base (3 + n) "_law_odd" f fd ["hand", "depth"] (spOdd S n)) : FnOk P w K mg base (L2.CX P w) (3 + n + 1) f fd ["hand", "depth"] (spOdd S (n + 1)) := by
  refine F.ok scOdd (fun vs H Q E h => ?_) (fun cdv A outer s H vs Q E hr h => ?_)
  · obtain ⟨a, d, m, rfl, _⟩ := h
    rfl
  · obtain ⟨a, d, m, rfl, m0, m1, hH, k⟩ := h
    have nd := scOdd.nd
    have hr1 := hr.mono (show 1 ≤ 3 + n by omega)
    have hr3 := hr.mono (show 3 ≤ 3 + n by omega)
    refine ⟨_, (pss_cons (ps_set (i := 2) nd rfl (Or.inl rfl) (pe_cal CT hr1 (pa_cons (pv 0) (pa_cons pe_int pa_nil)) passU))
      (pss_cons (ps_if (PW.pt (pw_and (pt_cmpR op_gt (pv 1) pe_int (nomark _)) (pw_and1 (pt_cmpR op_gt (pv 2) pe_int (nomark _))))) (pss_cons (ps_setLc (i := 3) (own := [("k", 5)]) (g := gName 5) (by rfl) nd rfl rfl (sw_true rfl rfl rfl (by decide +kernel)) (pi_range1 rfl B.range (pa_cons (pe_cal CT hr1 (pa_cons (pv 0) (pa_cons pe_int pa_nil)) passU) pa_nil)) (blkOk_by (own := [("k", 5)]) (N := ["hand", "depth", "kind", "parts", "values", "k"]) (sc := defScope sOdd) (by decide +kernel)) (fun _ _ _ _ _ => pg_name (i := 5) nd rfl (Or.inl rfl)) (fun _ _ _ _ _ => pts_nil) (fun _ _ _ _ _ => (pe_cal CO hr (pa_cons (pv 0) (pa_cons (pe_op op_sub (pv 1) pe_int) pa_nil)) passU)))
      (pss_one (ps_ret (pe_ix ix_list (pe_lst (pa_cons (pv 3) (pa_cons (pe_callTy call_tuple_of (by rfl) B.tuple (by decide +kernel) (pa_cons (pv 3) pa_nil)) pa_nil))) (pe_op op_sub (pv 2) pe_int) (fun _ _ => rfl))))) pss_nil)
      (pss_cons (ps_set (i := 4) nd rfl (Or.inl rfl) (pe_lst (pa_cons pe_bl (pa_cons pe_bl (pa_cons pe_non (pa_cons pe_str (pa_cons pe_str (pa_cons pe_int (pa_cons pe_int (pa_cons (pe_un un_neg pe_int) (pa_cons pe_int (pa_cons pe_int (pa_cons pe_int (pa_cons pe_int (pa_cons (pe_op op_pow pe_int pe_int) (pa_cons (pe_un un_neg (pe_op op_pow pe_int pe_int)) (pa_cons (pe_tup pa_nil) (pa_cons (pe_lst pa_nil) (pa_cons (pe_make MK GI hr3 (by rfl) C.g bI vI passU (pa_cons pe_int pa_nil)) (pa_cons (pe_make MK GI hr3 (by rfl) C.g bI vI passU (pa_cons pe_int pa_nil)) (pa_cons (pe_make MK GI hr3 (by rfl) C.g bI vI passU (pa_cons pe_int pa_nil)) pa_nil)))))))))))))))))))))
      (pss_one (ps_ret (pe_ix ix_list (pv 4) (pe_cal CT hr1 (pa_cons (pv 0) (pa_cons pe_int pa_nil)) passU) (fun _ _ => rfl))))))), ?_⟩
    refine ⟨_, rfl, a, d, 9, rfl, by decide, hH, fun kind H1 r0 r1 hH1 k1 => ?_⟩
    have vals : ∀ w3 : Option V, tSeq (tAsg (tLst (tCons (tC (.bl true)) (tCons (tC (.bl false)) (tCons (tC .non) (tCons (tC (.str "")) (tCons (tC (.str "a1")) (tCons (tC (.int 0)) (tCons (tC (.int 1)) (tCons (tUn (rU fun i => .int (-i)) (tC (.int 1))) (tCons (tC (.int 2)) (tCons (tC (.int 7)) (tCons (tC (.int 31)) (tCons (tC (.int 37))
        (tCons (tOp (rI CPow fun i j => .int (i ^ j.toNat)) (tC (.int 10)) (tC (.int 30))) (tCons (tUn (rU fun i => .int (-i)) (tOp (rI CPow fun i j => .int (i ^ j.toNat)) (tC (.int 10)) (tC (.int 30)))) (tCons (tTup tNil) (tCons (tLst tNil)
        (tCons (tMake S (spSI S) [.int 1] E0 (tCons (tC (.int 7)) tNil)) (tCons (tMake S (spSI S) [.int 1] E0 (tCons (tC (.int 1)) tNil)) (tCons (tMake S (spSI S) [.int 1] E0 (tCons (tC (.int 0)) tNil)) tNil)))))))))))))))))))) (gName 4))
        (tRet (tOp (rIxL K) (tVar 4) (tCall spTake [] E0 (tCons (tVar 0) (tCons (tC (.int 19)) tNil))))) { nx := fun _ H' => Q .non H', rt := Q } [some (.ref a), some (.int m), some (.int kind), w3, none, none] H1 := by
      intro w3
      refine ⟨_, rfl, _, _, rfl, rfl, ⟨by decide, by decide, by decide⟩, _, _, rfl, rfl, ⟨by decide, by decide, by decide⟩, _, rfl, (by show 0 ≤ sizeLine; omega), fun T hT => ⟨(by show 0 ≤ sizeLine; omega), fun L hL => fun x1 y1 hx1 hy1 n1 => ?_⟩⟩
      have n0 := hH1.ne hT
      have h0 := hH1.new (o := .tup []) hT
      have n0' := h0.ne hL
      have h0' := h0.new (o := .lst []) hL
      have s0 : Same H1 (upd (upd H1 T (.tup [])) L (.lst [])) := (same_new hT).trans (same_new hL)
      have eT : upd (upd H1 T (.tup [])) L (.lst []) T = some (.tup []) := by rw [upd_ne (ne_of_none upd_same hL), upd_same]
      have eL : upd (upd H1 T (.tup [])) L (.lst []) L = some (.lst []) := upd_same
      have nx1 := h0'.ne hx1
      refine sh_make hx1 hy1 (by decide) fun H2 sh1 s1 => ?_
      intro x2 y2 hx2 hy2 _
      have nx2 := (h0'.same s1).ne hx2
      refine sh_make hx2 hy2 (by decide) fun H3 sh2 s2 => ?_
      intro x3 y3 hx3 hy3 _
      have nx3 := ((h0'.same s1).same s2).ne hx3
      refine sh_make hx3 hy3 (by decide) fun H4 sh3 s3 => ?_
      have s14 : Same (upd (upd H1 T (.tup [])) L (.lst [])) H4 := (s1.trans s2).trans s3
      have h4 := h0'.same s14
      refine ⟨(by show 19 ≤ sizeLine; decide), fun Z hZ => ?_⟩
      have nZ := h4.ne hZ
      refine ⟨_, rfl, _, rfl, a, d, 19, rfl, by decide, h4.new hZ, fun r H5 r0 r1 h5 k5 => ?_⟩
      have kz : Keep a H4 H5 := (Keep.new hZ).trans k5
      have all : ∀ v ∈ ([.bl true, .bl false, .non, .str "", .str "a1", .int 0, .int 1, .int (-1), .int 2, .int 7, .int 31, .int 37, .int (10 ^ (30 : Int).toNat), .int (-(10 ^ (30 : Int).toNat)), .ref T, .ref L, .ref x1, .ref x2, .ref x3] : List V), OddV S a H5 v := by
        have fl : ∀ v, flatV v = true → OddV S a H5 v := fun v h => .inl h
        have e1 : ∀ p, a ≠ p → ShAt S H4 p 7 1 ∨ ShAt S H4 p 1 1 ∨ ShAt S H4 p 0 1 → OddV S a H5 (.ref p) := fun p ne h => by
          refine OddV.keep (H := H4) (.inr ⟨p, rfl, ne.symm, .inl ?_⟩) kz
          rcases h with h | h | h
          · exact ⟨_, _, h⟩
          · exact ⟨_, _, h⟩
          · exact ⟨_, _, h⟩
        intro v hv
        simp only [List.mem_cons, List.not_mem_nil, or_false] at hv
        rcases hv with rfl | rfl | rfl | rfl | rfl | rfl | rfl | rfl | rfl | rfl | rfl | rfl | rfl | rfl | rfl | rfl | rfl | rfl | rfl
        · exact fl _ rfl
        · exact fl _ rfl
        · exact fl _ rfl
        · exact fl _ rfl
        · exact fl _ rfl
        · exact fl _ rfl
        · exact fl _ rfl
        · exact fl _ rfl
        · exact fl _ rfl
        · exact fl _ rfl
        · exact fl _ rfl
        · exact fl _ rfl
        · exact fl _ rfl
        · exact fl _ rfl
        · exact OddV.keep (H := H4) (.inr ⟨_, rfl, n0.1.symm, .inr ⟨[], .inr (s14 _ _ eT), fun x hx => nomatch hx⟩⟩) kz
        · exact OddV.keep (H := H4) (.inr ⟨_, rfl, n0'.1.symm, .inr ⟨[], .inl (s14 _ _ eL), fun x hx => nomatch hx⟩⟩) kz
        · exact e1 _ nx1.1 (.inl ((sh1.same s2).same s3))
        · exact e1 _ nx2.1 (.inr (.inl (sh2.same s3)))
        · exact e1 _ nx3.1 (.inr (.inr sh3))
      obtain ⟨q, rfl⟩ : ∃ q : Nat, r = (q : Int) := ⟨r.toNat, by omega⟩
      have hq : q < 19 := by omega
      obtain ⟨v, hv⟩ : ∃ v, ([.bl true, .bl false, .non, .str "", .str "a1", .int 0, .int 1, .int (-1), .int 2, .int 7, .int 31, .int 37, .int (10 ^ (30 : Int).toNat), .int (-(10 ^ (30 : Int).toNat)), .ref T, .ref L, .ref x1, .ref x2, .ref x3] : List V)[q]? = some v := ⟨_, List.getElem?_eq_getElem (show q < 19 from hq)⟩
      have ez : H5 Z = some (.lst [.bl true, .bl false, .non, .str "", .str "a1", .int 0, .int 1, .int (-1), .int 2, .int 7, .int 31, .int 37, .int (10 ^ (30 : Int).toNat), .int (-(10 ^ (30 : Int).toNat)), .ref T, .ref L, .ref x1, .ref x2, .ref x3]) := k5 _ _ nZ.1.symm upd_same
      exact ⟨Z, _, _, v, rfl, rfl, SqL.of ez, atI_nat hv, k v H5 (all v (List.mem_of_getElem? hv)) h5 (k1.trans ((Keep.of (s0.trans s14)).trans kz))⟩
    refine ⟨_, rfl, _, _, rfl, rfl, _, rfl, iteD (fun hc => ⟨_, rfl, _, _, rfl, rfl, _, rfl, iteD (fun hd => ?_) (fun hd => ?_)⟩) (fun hc => ?_)⟩
    · refine ⟨_, rfl, a, d, 4, rfl, by decide, hH1, fun cnt H2 c0 c1 hH2 k2 => ⟨cnt, rfl, (by omega), (by omega), fun D hD => ?_⟩⟩
      obtain ⟨naD, ndD⟩ := hH2.ne hD
      refine lc_range (lo := 0) (n := cnt.toNat) (fun i H' => ∃ xs, H' D = some (.lst xs) ∧ xs.length = i ∧ (∀ x ∈ xs, FR x) ∧ HandAt H' a d ∧ Keep a H2 H') ⟨[], upd_same, rfl, (fun x hx => nomatch hx), hH2.new hD, Keep.new hD⟩ ?_ ?_
      · rintro i H3 hi ⟨xs, e, hl, hx, h3, k3⟩
        refine ⟨rfl, _, rfl, _, rfl, _, _, rfl, rfl, a, d, _, rfl, (by omega), (by omega), h3, fun v H4 o h4 k4 => ⟨xs, k4 _ _ naD.symm e, small1000 (by omega), xs ++ [v], upd_same, (by rw [List.length_append, hl]; rfl), ?_, h4.put naD ndD, ?_⟩⟩
        · intro x hm
          rcases List.mem_append.mp hm with hm | hm
          · exact hx x hm
          · rw [List.mem_singleton.mp hm]
            exact o.fr
        · intro b o hb hbo
          have nb : b ≠ D := ne_of_none hbo hD
          rw [upd_ne nb]
          exact k4 b o hb (k3 b o hb hbo)
      · rintro H3 ⟨xs, e, hl, hx, h3, k3⟩
        refine ⟨_, rfl, _, rfl, D, xs, rfl, .inl ⟨SqL.of e, fun T hT => ⟨(by show 2 ≤ sizeLine; decide), fun q hq => ?_⟩⟩⟩
        have nT := h3.ne hT
        have nq := (h3.new hT).ne hq
        have nDT : D ≠ T := ne_of_none e hT
        have nDq : D ≠ q := ne_of_none (show upd H3 T (.tup xs) D = some (.lst xs) by rw [upd_ne nDT]; exact e) hq
        have nTq : T ≠ q := ne_of_none (upd_same (H := H3) (a := T) (o := .tup xs)) hq
        have kk : Keep a H (upd (upd H3 T (.tup xs)) q (.lst [.ref D, .ref T])) := k1.trans (k2.trans (k3.trans ((Keep.new hT).trans (Keep.new hq))))
        have hh := (h3.new (o := .tup xs) hT).new (o := .lst [.ref D, .ref T]) hq
        have hk : kind = 7 ∨ kind = 8 := by omega
        rcases hk with rfl | rfl
        · refine ⟨_, rfl, _, _, rfl, rfl, q, _, _, .ref D, rfl, rfl, SqL.of upd_same, rfl, k _ _ (.inr ⟨D, rfl, naD.symm, .inr ⟨xs, .inl ?_, hx⟩⟩) hh kk⟩
          rw [upd_ne nDq, upd_ne nDT]
          exact e
        · refine ⟨_, rfl, _, _, rfl, rfl, q, _, _, .ref T, rfl, rfl, SqL.of upd_same, rfl, k _ _ (.inr ⟨T, rfl, nT.1.symm, .inr ⟨xs, .inr ?_, hx⟩⟩) hh kk⟩
          rw [upd_ne nTq, upd_same]
    · exact vals _
    · exact vals _
end
end WU

set_option maxRecDepth 100000
set_option maxHeartbeats 8000000
namespace WU
open PySem PySem.Spec PyProof.Rows L2
section
variable {P : Program} {w : World} {K : PySem.W.Frag} {mg : Str → Option Value} {base : Heap} {S : Addr}
def spLN (S : Addr) : Sp := fun vs H Q _ => ∃ (a d : Addr), vs = [.ref a] ∧ HandAt H a d ∧ ∀ v H', OddV S a H' v → isFld v = false → HandAt H' a d → Keep a H H' → Q v H'
theorem scLN : FnScope ["hand", "value"] ["hand"] (defScope sLN) := ⟨rfl, rfl, rfl, by decide +kernel, rfl, by decide +kernel, by decide +kernel⟩
theorem ok_LN {f fF fT fO fI : Addr} {fd fdF fdT fdO fdI : FuncData} {dI : List Value} (F : FnS K "_law_no_field" sLN f fd) (B : Blt2 mg) (C : ShC K mg S) (CF : Cal P w K mg base 1 "_law_is_field" fF fdF ["p"] (spIsFld K)) (CT : Cal P w K mg base 1 "_law_take" fT fdT ["hand", "many"] spTake)
    (CO : Cal P w K mg base 5 "_law_odd" fO fdO ["hand", "depth"] (spOdd S 2)) (MK : Mk K S fI) (GI : FnOk P w K mg base (L2.CX P w) 2 fI fdI ["self", "top", "bottom"] (spSI S)) (bI : Binds K fdI ["self", "top", "bottom"] dI) (vI : Vals [.int 1] dI) :
    FnOk P w K mg base (L2.CX P w) 6 f fd ["hand"] (spLN S) := by
  refine F.ok scLN (fun vs H Q E h => ?_) (fun cdv A outer s H vs Q E hr h => ?_)
  · obtain ⟨a, d, rfl, _⟩ := h
    rfl
  · obtain ⟨a, d, rfl, hH, k⟩ := h
    have nd := scLN.nd
    have hr1 := hr.mono (show 1 ≤ 5 by decide)
    have hr3 := hr.mono (show 3 ≤ 5 by decide)
    refine ⟨_, (pss_cons (ps_set (i := 1) nd rfl (Or.inl rfl) (pe_ix ix_list (pe_lst (pa_cons (pe_op op_sub (pe_cal CT hr1 (pa_cons (pv 0) (pa_cons pe_int pa_nil)) passU) pe_int) (pa_cons (pe_cal CO hr (pa_cons (pv 0) (pa_cons pe_int pa_nil)) passU) (pa_cons pe_int (pa_cons pe_int (pa_cons pe_int (pa_cons (pe_un un_neg pe_int) (pa_cons pe_int (pa_cons pe_int (pa_cons (pe_make MK GI hr3 (by rfl) C.g bI vI passU (pa_cons pe_int pa_nil)) (pa_cons (pe_make MK GI hr3 (by rfl) C.g bI vI passU (pa_cons pe_int pa_nil)) pa_nil))))))))))) (pe_cal CT hr1 (pa_cons (pv 0) (pa_cons pe_int pa_nil)) passU) (fun _ _ => rfl)))
      (pss_cons (ps_if (pt_val (pe_cal CF hr1 (pa_cons (pv 1) pa_nil) passU)) (pss_one (ps_ret pe_int)) pss_nil)
      (pss_one (ps_ret (pv 1))))), ?_⟩
    refine ⟨_, rfl, a, d, 60, rfl, by decide, hH, fun r1 H1 a0 a1 h1 k1 => ⟨_, _, rfl, rfl, _, rfl, a, d, 1, rfl, by decide, by decide, h1, fun o H2 oo h2 k2 => ⟨_, rfl, fun x1 y1 hx1 hy1 _ => ?_⟩⟩⟩
    have nx1 := h2.ne hx1
    refine sh_make hx1 hy1 (by decide) fun H3 sh1 s1 => ?_
    intro x2 y2 hx2 hy2 _
    have nx2 := (h2.same s1).ne hx2
    refine sh_make hx2 hy2 (by decide) fun H4 sh2 s2 => ⟨(by show 10 ≤ sizeLine; decide), fun Z hZ => ?_⟩
    have h4 := (h2.same s1).same s2
    have nZ := h4.ne hZ
    refine ⟨_, rfl, a, d, 10, rfl, by decide, h4.new hZ, fun r H5 c0 c1 h5 k5 => ?_⟩
    have kz : Keep a H4 H5 := (Keep.new hZ).trans k5
    have ez : H5 Z = some (.lst [.int (r1 - 9), o, .int 37, .int 1, .int 0, .int (-2), .int 33, .int 961, .ref x1, .ref x2]) := k5 _ _ nZ.1.symm upd_same
    have kk : Keep a H H5 := k1.trans (k2.trans ((Keep.of (s1.trans s2)).trans kz))
    have all : ∀ v ∈ ([.int (r1 - 9), o, .int 37, .int 1, .int 0, .int (-2), .int 33, .int 961, .ref x1, .ref x2] : List V), OddV S a H5 v := by
      have fl : ∀ v, flatV v = true → OddV S a H5 v := fun v h => .inl h
      intro v hv
      simp only [List.mem_cons, List.not_mem_nil, or_false] at hv
      rcases hv with rfl | rfl | rfl | rfl | rfl | rfl | rfl | rfl | rfl | rfl
      · exact fl _ rfl
      · exact (oo.keep (Keep.of (s1.trans s2))).keep kz
      · exact fl _ rfl
      · exact fl _ rfl
      · exact fl _ rfl
      · exact fl _ rfl
      · exact fl _ rfl
      · exact fl _ rfl
      · exact OddV.keep (H := H4) (.inr ⟨_, rfl, nx1.1.symm, .inl ⟨_, _, sh1.same s2⟩⟩) kz
      · exact OddV.keep (H := H4) (.inr ⟨_, rfl, nx2.1.symm, .inl ⟨_, _, sh2⟩⟩) kz
    obtain ⟨q, rfl⟩ : ∃ q : Nat, r = (q : Int) := ⟨r.toNat, by omega⟩
    have hq : q < 10 := by omega
    obtain ⟨v, hv⟩ : ∃ v, ([.int (r1 - 9), o, .int 37, .int 1, .int 0, .int (-2), .int 33, .int 961, .ref x1, .ref x2] : List V)[q]? = some v := ⟨_, List.getElem?_eq_getElem (show q < 10 from hq)⟩
    have ov := all v (List.mem_of_getElem? hv)
    refine ⟨Z, _, _, v, rfl, rfl, SqL.of ez, atI_nat hv, _, rfl, v, rfl, ov.ty3 C, _, rfl, ?_⟩
    cases e : isFld v with
    | true => exact iteT (k (.int 4) H5 (.inl rfl) (by decide) h5 kk)
    | false => exact iteF ⟨_, rfl, k v H5 ov e h5 kk⟩
def spLI : Sp := fun vs H Q _ => ∃ (a p : Int), vs = [.int a, .int p] ∧ p ∈ primes ∧ 0 < a ∧ a < p ∧ Q (.int (inv p a)) H
theorem scLI : FnScope ["a", "p", "b"] ["a", "p"] (defScope sLI) := ⟨rfl, rfl, rfl, by decide +kernel, rfl, by decide +kernel, by decide +kernel⟩
theorem cnd_hit {p a : Int} {n : Nat} {x : Int} {l : List Int} (h : cnd p a n = x :: l) : ∃ j : Nat, j < n ∧ hit p a j = true := by
  have hx : x ∈ cnd p a n := by rw [h]; exact List.mem_cons_self
  unfold cnd at hx
  obtain ⟨j, hj, _⟩ := List.mem_map.mp hx
  obtain ⟨h1, h2⟩ := List.mem_filter.mp hj
  exact ⟨j, List.mem_range.mp h1, h2⟩
theorem ok_LI {f : Addr} {fd : FuncData} (F : FnS K "_law_inverse" sLI f fd) (B : Blt2 mg) : FnOk P w K mg base (L2.CX P w) 1 f fd ["a", "p"] spLI := by
  refine F.ok scLI (fun vs H Q E h => ?_) (fun cdv A outer s H vs Q E hr h => ?_)
  · obtain ⟨a, p, rfl, _⟩ := h
    rfl
  · obtain ⟨a, p, rfl, hp, h0, h1, k⟩ := h
    have nd := scLI.nd
    have hb := fld_le hp
    refine ⟨_, (pss_cons (ps_for (passes_of rfl) rfl (pi_range2 rfl B.range (pa_cons pe_int (pa_cons (pv 1) pa_nil))) (pg_name (i := 2) nd rfl (Or.inl rfl)) (pss_one (ps_if (pt_cmpR op_eq (pe_op op_modN (pe_callTy call_int1 (by rfl) B.int (by decide +kernel) (pa_cons (pe_op op_mul (pv 0) (pv 2)) pa_nil)) (pv 1)) pe_int (nomark _)) (pss_one (ps_ret (pv 2))) pss_nil)))
      (pss_one (ps_ret pe_int))), ?_⟩
    refine ⟨_, rfl, 1, p, rfl, (by omega), for_range (lo := 1) (n := (p - 1).toNat) (fun i σ H' => ∃ x, σ = [some (.int a), some (.int p), x] ∧ H' = H ∧ ∀ j : Nat, j < i → hit p a j = false) ⟨none, rfl, rfl, fun j hj => by omega⟩ ?_ ?_⟩
    · rintro i σ H' hi ⟨x, rfl, rfl, hj⟩
      refine ⟨_, rfl, _, rfl, _, _, rfl, rfl, .inl ⟨by omega, by omega⟩, .inl ⟨_, rfl, _, rfl, _, _, rfl, rfl, (by omega), rfl, _, rfl, ?_⟩⟩
      refine iteD (fun he => ?_) (fun he => ?_)
      · have hh : hit p a i = true := decide_eq_true (V.int.inj he)
        rw [inv_first hi hj hh] at k
        exact ⟨_, rfl, k⟩
      · refine ⟨_, rfl, rfl, fun j hjj => ?_⟩
        by_cases z : j = i
        · subst z
          exact decide_eq_false fun q => he (congrArg V.int q)
        · exact hj j (by omega)
    · rintro σ H' ⟨x, rfl, rfl, hj⟩
      obtain ⟨l, el⟩ := inv_there hp h0 h1
      obtain ⟨j, hj1, hj2⟩ := cnd_hit el
      rw [hj j hj1] at hj2
      cases hj2
end
end WU

set_option maxRecDepth 100000
set_option maxHeartbeats 8000000
namespace WU
open PySem PySem.Spec PyProof.Rows L2
section
variable {X : Cx}
theorem dps_ints {K : PySem.W.Frag} {H : Hp} : ∀ ns : List Int, DpAll K H (ns.map V.int) (ns.map PyData.int)
  | [] => .nil
  | n :: ns => .cons (.int n) (dps_ints ns)
theorem plain_ints : ∀ ns : List Int, PyData.plainAll (ns.map PyData.int) = true
  | [] => rfl
  | n :: ns => plain_ints ns
theorem any_ints : ∀ ns : List Int, (ns.map PyData.int).any PyData.truthy = ns.any fun n => decide (n ≠ 0)
  | [] => rfl
  | n :: ns => by
    rw [List.map_cons, List.any_cons, List.any_cons, any_ints ns]
    congr 1
    show (n != 0) = _
    by_cases h : n = 0 <;> simp [h]
/-- any(a tuple of ints) -/
def rAnyT (K : PySem.W.Frag) : List V → Hp → VK → Prop := fun vs H Q => ∃ (a : Addr) (ns : List Int), vs = [V.ref a] ∧ SqT K H a (ns.map V.int) ∧ Q (.bl (ns.any fun n => decide (n ≠ 0))) H
theorem cr_anyT (hc : X.calm = true) : CallR X (.builtin "any") (rAnyT X.K) := by
  intro pins s σ H vs us Q I r h
  obtain ⟨a, ns, rfl, hs, q⟩ := h
  obtain ⟨its, rv, hl, _⟩ := I.tuple hs
  rw [Vals.ref1 r]
  obtain ⟨as, hr⟩ := Dp.readsAll I (ns.map PyData.int) _ its (dps_ints ns) rv
  refine PySem.W.any_tuple_data (I.ok.hd hc) (show s.heap.IsTuple a its.toArray from hl) hr (plain_ints ns) (fun x hx => ?_) fun h' tk hk => ?_
  · obtain ⟨n, _, rfl⟩ := List.mem_map.mp hx
    trivial
  · rw [any_ints]
    exact ⟨.bl _, H, I.kept fun b o eo => hk b o eo, rfl, q⟩
end
end WU

set_option maxRecDepth 100000
set_option maxHeartbeats 8000000
namespace WU
open PySem PySem.Spec PyProof.Rows L2
theorem tuple_mul1 (l : Addr) (items : Array Value) (n : Nat) (dd : Option Addr) (sl : Array (Option Value)) (u : Tok) :
    Meets (Builtin.«tuple.__mul__» ⟨[.ref l, .int 1 u], []⟩) (fun _ R s => s.heap.get? l = some { cls := .type "tuple", dict := dd, data := .seq items n, slots := sl } ∧ R (.ok (.ret (Value.ref l))) { s with heap := s.heap, toks := s.toks }) :=
  .of_wp fun prog w A R s h => by
    obtain ⟨hp, g, d, tk, os⟩ := s
    obtain ⟨hl, h⟩ := h
    have f1 := AutoSeq1.idx_int
    have c0 : (decide ((1 : Int) < -(2 ^ 63)) || decide ((1 : Int) ≥ 2 ^ 63)) = false := by decide
    have c1 : (items.isEmpty || (1 : Int) == 1) = true := by simp
    wp_walk using wpAny_loadPart' hl
    repeat (first
      | (refine wpAny_ite_false (decide_eq_false (by rw [c0]; exact Bool.false_ne_true)) ?_; wp_walk using wpAny_loadPart' hl)
      | (refine wpAny_ite_true (decide_eq_true c1) ?_; wp_walk using wpAny_loadPart' hl))
    exact ⟨_, rfl, h⟩
theorem tuple_mul0 (l : Addr) (items : Array Value) (n : Nat) (dd : Option Addr) (sl : Array (Option Value)) (u : Tok) (hi : items.isEmpty = false) :
    Meets (Builtin.«tuple.__mul__» ⟨[.ref l, .int 0 u], []⟩) (fun _ R s => s.heap.get? l = some { cls := .type "tuple", dict := dd, data := .seq items n, slots := sl } ∧
      R (.ok (.ret (Value.ref s.heap.objs.size))) { s with heap := s.heap.push { cls := Value.type "tuple", data := Data.seq #[] }, toks := s.toks }) :=
  .of_wp fun prog w A R s h => by
    obtain ⟨hp, g, d, tk, os⟩ := s
    obtain ⟨hl, h⟩ := h
    have f1 := AutoSeq1.idx_int
    have c0 : (decide ((0 : Int) < -(2 ^ 63)) || decide ((0 : Int) ≥ 2 ^ 63)) = false := by decide
    have c1 : (items.isEmpty || (0 : Int) == 1) = false := by rw [hi]; decide
    have c2 : (decide ((0 : Int) ≤ 0) || items.isEmpty) = true := by rw [decide_eq_true (Int.le_refl 0)]; rfl
    wp_walk using wpAny_loadPart' hl
    repeat (first
      | (refine wpAny_ite_false (decide_eq_false (by rw [c0]; exact Bool.false_ne_true)) ?_; wp_walk using wpAny_loadPart' hl)
      | (refine wpAny_ite_false (decide_eq_false (by rw [c1]; exact Bool.false_ne_true)) ?_; wp_walk using wpAny_loadPart' hl)
      | (refine wpAny_ite_true (decide_eq_true c2) ?_; wp_walk using wpAny_loadPart' hl))
    exact ⟨_, rfl, h⟩
/-- (v,) * k, k from 0 on -/
def rRepA (K : PySem.W.Frag) : R2 := fun x y H Q => ∃ (l : Addr) (k : Nat) (xs : List V), x = .ref l ∧ y = .int k ∧ H l = some (.tup xs) ∧ xs ≠ [] ∧ k ≤ 1000 ∧ xs.length ≤ 1000 ∧ ∀ p H', Same H H' → H' p = some (.tup (List.replicate k xs).flatten) → Q (.ref p) H'
section
variable {X : Cx}
theorem op_repA : OpR X (binaryOp .Mult) (rRepA X.K) := by
  intro pins s σ H x y v u Q I rx ry h
  obtain ⟨l, k, xs, rfl, rfl, hT, hne, h2, hz, q⟩ := h
  by_cases hk : 2 ≤ k
  · refine op_repT pins s σ H _ _ v u Q I rx ry ⟨l, (k : Int), xs, rfl, rfl, SqT.of hT, hne, by omega, by omega, hz, fun p hp => q p _ (same_new hp) ?_⟩
    rw [upd_same]
    rfl
  · cases rx
    obtain ⟨t, rfl⟩ := ry
    obtain ⟨its, r, ⟨⟨cls, dd, data, sl⟩, ho, hc, n, hd⟩, hs⟩ := I.tuple (SqT.of hT)
    simp only at hc hd
    subst hc hd
    have hle : its.length = xs.length := r.length.symm
    have hi : its.toArray.isEmpty = false := by
      cases its with
      | nil => exact absurd (List.eq_nil_of_length_eq_zero hle.symm) hne
      | cons a b => rfl
    have hk2 : k = 0 ∨ k = 1 := by omega
    rcases hk2 with rfl | rfl
    · refine wpAny_binaryOp_repeat_ref (T := "tuple") (U := "int") (by decide) ⟨_, ho, rfl⟩ (fun s' => typeIs_int s' 0 t) noFill_tuple_mul PySem.F.fills_int_mul PySem.F.slot_int_rmul repeat_tuple PySem.F.slot_int_index.lookup
        (call_meets PySem.F.slot_int_rmul (typeIs_int s 0 t) PySem.F.entry_int_rmul (PySem.F.args_int_rmul_2 _ _) (int_rmul_tuple 0 t l its.toArray n dd sl)
          ⟨ho, rfl, ⟨_, ho, rfl⟩, call_meets PySem.F.slot_tuple_mul ⟨_, ho, rfl⟩ PySem.F.entry_tuple_mul (PySem.F.args_tuple_mul_2 _ _) (tuple_mul0 l its.toArray n dd sl t hi) ⟨ho, ?_⟩⟩)
      refine ⟨.ref s.heap.objs.size, _, I.laid (t' := s.toks) (o := .tup []) (fun b ob q => Heap.get?_push_of_some _ q) (Nat.le_refl _) ?_, rfl, q _ _ (same_new (I.hok.fresh (Nat.le_refl _))) upd_same⟩
      exact ⟨Nat.zero_le _, [], .nil, IsTup.new _ _⟩
    · refine wpAny_binaryOp_repeat_ref (T := "tuple") (U := "int") (by decide) ⟨_, ho, rfl⟩ (fun s' => typeIs_int s' 1 t) noFill_tuple_mul PySem.F.fills_int_mul PySem.F.slot_int_rmul repeat_tuple PySem.F.slot_int_index.lookup
        (call_meets PySem.F.slot_int_rmul (typeIs_int s 1 t) PySem.F.entry_int_rmul (PySem.F.args_int_rmul_2 _ _) (int_rmul_tuple 1 t l its.toArray n dd sl)
          ⟨ho, rfl, ⟨_, ho, rfl⟩, call_meets PySem.F.slot_tuple_mul ⟨_, ho, rfl⟩ PySem.F.entry_tuple_mul (PySem.F.args_tuple_mul_2 _ _) (tuple_mul1 l its.toArray n dd sl t) ⟨ho, ?_⟩⟩)
      refine ⟨.ref l, H, I, rfl, q l H (Same.refl H) ?_⟩
      rw [hT]
      simp
end
end WU

set_option maxRecDepth 100000
set_option maxHeartbeats 4000000
namespace WU
open PySem PySem.Spec PyProof.Rows L2
/-! ### rows of letters, by places -/
def at0 (r : List Int) (k : Nat) : Int := r.getD k 0
/-- a row of n letters -/
def Ltr (p : Int) (n : Nat) (b : List Int) : Prop := b.length = n ∧ ∀ i ∈ b, 0 ≤ i ∧ i < p
theorem at0_lt {r : List Int} {k : Nat} (h : k < r.length) : at0 r k = r[k] := by
  unfold at0
  rw [List.getD_eq_getElem?_getD, List.getElem?_eq_getElem h]
  rfl
theorem at0_some {r : List Int} {k : Nat} (h : k < r.length) : r[k]? = some (at0 r k) := by
  rw [at0_lt h, List.getElem?_eq_getElem h]
theorem Ltr.bd {p : Int} {n k : Nat} {r : List Int} (h : Ltr p n r) (hk : k < n) : 0 ≤ at0 r k ∧ at0 r k < p := by
  have hl : k < r.length := by rw [h.1]; exact hk
  rw [at0_lt hl]
  exact h.2 _ (List.getElem_mem hl)
theorem row_ext {n : Nat} {r t : List Int} (hr : r.length = n) (ht : t.length = n) (h : ∀ k, k < n → at0 r k = at0 t k) : r = t := by
  refine List.ext_getElem (by rw [hr, ht]) fun k h1 h2 => ?_
  rw [← at0_lt h1, ← at0_lt h2]
  exact h k (by omega)
theorem ltr_of {p : Int} {n : Nat} {r : List Int} (hl : r.length = n) (h : ∀ k, k < n → 0 ≤ at0 r k ∧ at0 r k < p) : Ltr p n r := by
  refine ⟨hl, fun x hx => ?_⟩
  obtain ⟨k, hk, rfl⟩ := List.getElem_of_mem hx
  rw [← at0_lt hk]
  exact h k (by omega)
def zer (n : Nat) : List Int := List.replicate n 0
theorem zer_len {n : Nat} : (zer n).length = n := List.length_replicate
theorem zer_at {n k : Nat} : at0 (zer n) k = 0 := by
  unfold at0 zer
  rw [List.getD_eq_getElem?_getD, List.getElem?_replicate]
  split <;> rfl
/-- u + c r, by places -/
def addv (p : Int) (u : List Int) (c : Int) (r : List Int) : List Int := List.zipWith (fun a b => (a + c * b).fmod p) u r
theorem addv_len {p c : Int} {n : Nat} {u r : List Int} (hu : u.length = n) (hr : r.length = n) : (addv p u c r).length = n := by
  unfold addv
  rw [List.length_zipWith, hu, hr, Nat.min_self]
theorem addv_at {p c : Int} {n k : Nat} {u r : List Int} (hu : u.length = n) (hr : r.length = n) (hk : k < n) : at0 (addv p u c r) k = (at0 u k + c * at0 r k).fmod p := by
  rw [at0_lt (by rw [addv_len hu hr]; exact hk), at0_lt (r := u) (by omega), at0_lt (r := r) (by omega)]
  unfold addv
  rw [List.getElem_zipWith]
theorem fm_bd (x : Int) {p : Int} (h : 0 < p) : 0 ≤ x.fmod p ∧ x.fmod p < p := ⟨Int.fmod_nonneg_of_pos x h, Int.fmod_lt_of_pos x h⟩
theorem addv_ltr {p c : Int} {n : Nat} {u r : List Int} (hp : 0 < p) (hu : u.length = n) (hr : r.length = n) : Ltr p n (addv p u c r) :=
  ltr_of (addv_len hu hr) fun k hk => by rw [addv_at hu hr hk]; exact fm_bd _ hp
theorem zer_ltr {p : Int} {n : Nat} (hp : 0 < p) : Ltr p n (zer n) := ltr_of zer_len fun k _ => by rw [zer_at]; omega
/-! ### alike modulo p -/
def Cg (p a b : Int) : Prop := ∃ t, a = b + p * t
theorem Cg.rfl' {p a : Int} : Cg p a a := ⟨0, by omega⟩
theorem Cg.symm {p a b : Int} (h : Cg p a b) : Cg p b a := by
  obtain ⟨t, e⟩ := h
  exact ⟨-t, by rw [e, Int.mul_neg]; omega⟩
theorem Cg.trans {p a b c : Int} (h : Cg p a b) (k : Cg p b c) : Cg p a c := by
  obtain ⟨t, e⟩ := h
  obtain ⟨u, f⟩ := k
  exact ⟨t + u, by rw [e, f, Int.mul_add]; omega⟩
theorem Cg.add {p a b c d : Int} (h : Cg p a b) (k : Cg p c d) : Cg p (a + c) (b + d) := by
  obtain ⟨t, e⟩ := h
  obtain ⟨u, f⟩ := k
  exact ⟨t + u, by rw [e, f, Int.mul_add]; omega⟩
theorem Cg.mul {p a b : Int} (c : Int) (h : Cg p a b) : Cg p (c * a) (c * b) := by
  obtain ⟨t, e⟩ := h
  exact ⟨c * t, by rw [e, Int.mul_add, ← Int.mul_assoc, ← Int.mul_assoc, Int.mul_comm c p]⟩
theorem Cg.mulr {p a b : Int} (c : Int) (h : Cg p a b) : Cg p (a * c) (b * c) := by
  rw [Int.mul_comm a, Int.mul_comm b]
  exact h.mul c
theorem Cg.fm {p : Int} (a : Int) : Cg p (a.fmod p) a := ⟨-(a.fdiv p), by rw [Int.fmod_def, Int.mul_neg]; omega⟩
theorem Cg.eq {p a b : Int} (h : Cg p a b) (ha : 0 ≤ a ∧ a < p) (hb : 0 ≤ b ∧ b < p) : a = b := by
  obtain ⟨t, e⟩ := h
  have h1 : a % p = a := Int.emod_eq_of_lt ha.1 ha.2
  have h2 : b % p = b := Int.emod_eq_of_lt hb.1 hb.2
  rw [← h1, ← h2, e, Int.add_mul_emod_self_left]
theorem Cg.fmod {p a b : Int} (hp : 0 < p) (h : Cg p a b) : a.fmod p = b.fmod p := Cg.eq ((Cg.fm a).trans (h.trans (Cg.fm b).symm)) (fm_bd a hp) (fm_bd b hp)
theorem fm_id {p a : Int} (h : 0 ≤ a ∧ a < p) : a.fmod p = a := Cg.eq (Cg.fm a) (fm_bd a (by omega)) h
/-! ### what sums and multiples keep -/
def Lin (p : Int) (n : Nat) (S : List Int → Prop) : Prop := S (zer n) ∧ ∀ u r c, S u → S r → S (addv p u c r)
/-- spanned by rows -/
def Span (p : Int) (n : Nat) (rows : List (List Int)) (v : List Int) : Prop := ∀ S, Lin p n S → (∀ r ∈ rows, S r) → S v
theorem span_lin {p : Int} {n : Nat} {rows : List (List Int)} : Lin p n (Span p n rows) := ⟨fun S l _ => l.1, fun u r c hu hr S l h => l.2 u r c (hu S l h) (hr S l h)⟩
theorem span_mem {p : Int} {n : Nat} {rows : List (List Int)} {r : List Int} (h : r ∈ rows) : Span p n rows r := fun S _ k => k r h
theorem span_sub {p : Int} {n : Nat} {rows rows' : List (List Int)} (h : ∀ r ∈ rows, Span p n rows' r) {v : List Int} (hv : Span p n rows v) : Span p n rows' v := hv _ span_lin h
theorem ltr_lin {p : Int} {n : Nat} (hp : 0 < p) : Lin p n (Ltr p n) := ⟨zer_ltr hp, fun u r c hu hr => addv_ltr hp hu.1 hr.1⟩
/-! ### the elimination -/
def nz (r : List Int) : Bool := r.any fun n => decide (n ≠ 0)
def led (p : Int) (r : List Int) (j : Nat) : List Int := r.map fun l => (inv p (at0 r j) * l).fmod p
def less (p : Int) (r : List Int) (f : Int) (lead : List Int) : List Int := List.zipWith (fun a b => (a - f * b).fmod p) r lead
def clr (p : Int) (lead : List Int) (j : Nat) (r : List Int) : List Int := if at0 r j ≠ 0 then less p r (at0 r j) lead else r
def hot (j : Nat) (r : List Int) : Bool := decide (at0 r j ≠ 0)
/-- one column, as the law goes -/
def stp (p : Int) (j : Nat) (s : List (List Int) × List (List Int)) : List (List Int) × List (List Int) :=
  match s.1.findIdx? (hot j) with
  | none => s
  | some k => ((s.1.eraseIdx k).map fun r => less p r (at0 r j) (led p (s.1.getD k []) j), (s.2.map fun r => less p r (at0 r j) (led p (s.1.getD k []) j)) ++ [led p (s.1.getD k []) j])
def run (p : Int) (rows : List (List Int)) : Nat → List (List Int) × List (List Int)
  | 0 => (rows, [])
  | j + 1 => stp p j (run p rows j)
def wid (rows : List (List Int)) : Nat := (rows.head?.getD []).length
/-- the reduced rows -/
def red (p : Int) (rows : List (List Int)) : List (List Int) := (run p rows (wid rows)).2
theorem less_add (p f : Int) (r lead : List Int) : less p r f lead = addv p r (-f) lead := by
  unfold less addv
  congr 1
  funext a b
  rw [Int.neg_mul]
  rfl
theorem less_len {p f : Int} {n : Nat} {r lead : List Int} (hr : r.length = n) (hl : lead.length = n) : (less p r f lead).length = n := by
  rw [less_add]
  exact addv_len hr hl
theorem less_at {p f : Int} {n k : Nat} {r lead : List Int} (hr : r.length = n) (hl : lead.length = n) (hk : k < n) : at0 (less p r f lead) k = (at0 r k - f * at0 lead k).fmod p := by
  rw [less_add, addv_at hr hl hk, Int.neg_mul]
  rfl
theorem led_len {p : Int} {j n : Nat} {r : List Int} (hr : r.length = n) : (led p r j).length = n := by
  unfold led
  rw [List.length_map, hr]
theorem led_at {p : Int} {j n k : Nat} {r : List Int} (hr : r.length = n) (hk : k < n) : at0 (led p r j) k = (inv p (at0 r j) * at0 r k).fmod p := by
  rw [at0_lt (by rw [led_len hr]; exact hk), at0_lt (r := r) (k := k) (by omega)]
  unfold led
  rw [List.getElem_map]
theorem led_add {p : Int} {j n : Nat} {r : List Int} (hr : r.length = n) : led p r j = addv p (zer n) (inv p (at0 r j)) r := by
  refine row_ext (led_len hr) (addv_len zer_len hr) fun k hk => ?_
  rw [led_at hr hk, addv_at zer_len hr hk, zer_at, Int.zero_add]
/-- the inverse is one -/
theorem inv_mul {p a : Int} (hp : p ∈ primes) (h0 : 0 < a) (h1 : a < p) : (a * inv p a).fmod p = 1 := by
  have all : ∀ q ∈ primes, ∀ n ∈ List.range 31, ¬ n = 0 → (n : Int) < q → ((n : Int) * inv q n).fmod q = 1 := by decide +kernel
  have hb := fld_le hp
  have e := all p hp a.toNat (List.mem_range.mpr (by omega)) (by omega) (by omega)
  rw [show ((a.toNat : Nat) : Int) = a by omega] at e
  exact e
/-- what stands ahead of column j -/
structure Iv (p : Int) (n : Nat) (rows : List (List Int)) (j : Nat) (s : List (List Int) × List (List Int)) (pv : List Nat) : Prop where
  left : ∀ r ∈ s.1, Ltr p n r
  done : ∀ r ∈ s.2, Ltr p n r
  low : ∀ r ∈ s.1, ∀ k, k < j → at0 r k = 0
  len : pv.length = s.2.length
  plt : ∀ c ∈ pv, c < j
  one : ∀ (i l : Nat) (r : List Int) (c : Nat), s.2[i]? = some r → pv[l]? = some c → at0 r c = if i = l then 1 else 0
  to : ∀ r, r ∈ s.1 ∨ r ∈ s.2 → Span p n rows r
  of : ∀ r ∈ rows, Span p n (s.1 ++ s.2) r
theorem iv_zero {p : Int} {n : Nat} {rows : List (List Int)} (h : ∀ r ∈ rows, Ltr p n r) : Iv p n rows 0 (run p rows 0) [] where
  left := h
  done := fun r hr => nomatch hr
  low := fun r _ k hk => absurd hk (Nat.not_lt_zero _)
  len := rfl
  plt := fun c hc => nomatch hc
  one := fun i l r c hi _ => nomatch hi
  to := fun r hr => hr.elim span_mem fun z => nomatch z
  of := fun r hr => span_mem (List.mem_append.mpr (.inl hr))
theorem find_hot {j : Nat} {rows : List (List Int)} {k : Nat} (h : rows.findIdx? (hot j) = some k) : ∃ a r b, rows = a ++ r :: b ∧ a.length = k ∧ hot j r = true ∧ ∀ t ∈ a, hot j t = false := by
  rw [List.findIdx?_eq_some_iff_getElem] at h
  obtain ⟨hk, h1, h2⟩ := h
  refine ⟨rows.take k, rows[k], rows.drop (k + 1), ?_, by rw [List.length_take]; omega, h1, fun t ht => ?_⟩
  · rw [List.getElem_cons_drop, List.take_append_drop]
  · obtain ⟨i, hi, rfl⟩ := List.getElem_of_mem ht
    rw [List.length_take] at hi
    rw [List.getElem_take]
    have := h2 i (by omega)
    simpa using this
theorem erase_mid {α : Type} (a b : List α) (r : α) : (a ++ r :: b).eraseIdx a.length = a ++ b := by
  rw [List.eraseIdx_append_of_length_le (Nat.le_refl _), Nat.sub_self]
  rfl
theorem getD_mid (a b : List (List Int)) (r : List Int) : (a ++ r :: b).getD a.length [] = r := by
  rw [List.getD_eq_getElem?_getD, List.getElem?_append_right (Nat.le_refl _), Nat.sub_self]
  rfl
theorem stp_some {p : Int} {j : Nat} {a b d : List (List Int)} {r : List Int} (hr : hot j r = true) (ha : ∀ t ∈ a, hot j t = false) :
    stp p j (a ++ r :: b, d) = ((a ++ b).map fun t => less p t (at0 t j) (led p r j), (d.map fun t => less p t (at0 t j) (led p r j)) ++ [led p r j]) := by
  have e : (a ++ r :: b).findIdx? (hot j) = some a.length := by
    rw [List.findIdx?_eq_some_iff_getElem]
    refine ⟨by rw [List.length_append]; simp, by rw [List.getElem_append_right (Nat.le_refl _)]; simpa using hr, fun i hi => ?_⟩
    rw [List.getElem_append_left hi, ha _ (List.getElem_mem hi)]
    exact Bool.false_ne_true
  unfold stp
  simp only
  rw [e]
  simp only
  rw [erase_mid, getD_mid]
theorem stp_none {p : Int} {j : Nat} {s : List (List Int) × List (List Int)} (h : ∀ t ∈ s.1, hot j t = false) : stp p j s = s := by
  have e : s.1.findIdx? (hot j) = none := by
    rw [List.findIdx?_eq_none_iff]
    exact h
  unfold stp
  rw [e]
end WU

set_option maxRecDepth 100000
set_option maxHeartbeats 4000000
namespace WU
open PySem PySem.Spec PyProof.Rows L2
theorem prime_pos {p : Int} (hp : p ∈ primes) : 0 < p := by have := fld_le hp; omega
theorem fm_zero {p : Int} : (0 : Int).fmod p = 0 := Int.zero_fmod p
theorem fm_one {p : Int} (hp : p ∈ primes) : (1 : Int).fmod p = 1 := fm_id (by have := fld_le hp; omega)
theorem hot_ne {j : Nat} {r : List Int} (h : hot j r = true) : at0 r j ≠ 0 := of_decide_eq_true h
theorem hot_not {j : Nat} {r : List Int} (h : hot j r = false) : at0 r j = 0 := by
  have := of_decide_eq_false h
  simpa using this
theorem led_one {p : Int} {j n : Nat} {r : List Int} (hp : p ∈ primes) (hr : Ltr p n r) (hj : j < n) (h : hot j r = true) : at0 (led p r j) j = 1 := by
  have b := hr.bd hj
  have z := hot_ne h
  rw [led_at hr.1 hj, Int.mul_comm]
  exact inv_mul hp (by omega) b.2
theorem less_ltr {p f : Int} {n : Nat} {r lead : List Int} (hp : 0 < p) (hr : r.length = n) (hl : lead.length = n) : Ltr p n (less p r f lead) := by
  rw [less_add]
  exact addv_ltr hp hr hl
theorem led_ltr {p : Int} {j n : Nat} {r : List Int} (hp : 0 < p) (hr : r.length = n) : Ltr p n (led p r j) := by
  rw [led_add hr]
  exact addv_ltr hp zer_len hr
/-- a row with nothing at j stays as it is -/
theorem less_zero {p : Int} {n : Nat} {r lead : List Int} (hr : Ltr p n r) (hl : lead.length = n) : less p r 0 lead = r := by
  refine row_ext (less_len hr.1 hl) hr.1 fun k hk => ?_
  rw [less_at hr.1 hl hk, Int.zero_mul, Int.sub_zero]
  exact fm_id (hr.bd hk)
theorem clr_less {p : Int} {j n : Nat} {r lead : List Int} (hr : Ltr p n r) (hl : lead.length = n) : clr p lead j r = less p r (at0 r j) lead := by
  unfold clr
  by_cases h : at0 r j = 0
  · rw [if_neg (by simpa using h), h, less_zero hr hl]
  · rw [if_pos h]
/-- cleared of itself a row is nothing -/
theorem less_self {p : Int} {j n : Nat} {r : List Int} (hp : p ∈ primes) (hr : Ltr p n r) (hj : j < n) (h : hot j r = true) : less p r (at0 r j) (led p r j) = zer n := by
  have p0 := prime_pos hp
  refine row_ext (less_len hr.1 (led_len hr.1)) zer_len fun k hk => ?_
  have b := hr.bd hj
  have z := hot_ne h
  rw [less_at hr.1 (led_len hr.1) hk, zer_at, led_at hr.1 hk]
  have c1 : Cg p (at0 r j * inv p (at0 r j)) 1 := by
    rw [← inv_mul hp (show 0 < at0 r j by omega) b.2]
    exact (Cg.fm _).symm
  have c2 : Cg p (at0 r j * (inv p (at0 r j) * at0 r k).fmod p) (at0 r k) := by
    have := (Cg.fm (p := p) (inv p (at0 r j) * at0 r k)).mul (at0 r j)
    rw [← Int.mul_assoc] at this
    have c3 := c1.mulr (at0 r k)
    rw [Int.one_mul] at c3
    exact this.trans c3
  have c4 : Cg p (at0 r k - at0 r j * (inv p (at0 r j) * at0 r k).fmod p) 0 := by
    obtain ⟨t, e⟩ := c2
    exact ⟨-t, by rw [e, Int.mul_neg]; omega⟩
  rw [Cg.fmod p0 c4, fm_zero]
theorem nz_zer {n : Nat} : nz (zer n) = false := by
  unfold nz zer
  rw [List.any_eq_false]
  intro x hx
  rw [(List.mem_replicate.mp hx).2]
  decide
theorem nz_false {p : Int} {n : Nat} {r : List Int} (hr : r.length = n) (h : nz r = false) : r = zer n := by
  unfold nz at h
  rw [List.any_eq_false] at h
  refine List.eq_replicate_iff.mpr ⟨hr, fun x hx => ?_⟩
  have := h x hx
  simpa using this
theorem nz_hot {j n : Nat} {r : List Int} (hr : r.length = n) (hj : j < n) (h : hot j r = true) : nz r = true := by
  unfold nz
  rw [List.any_eq_true]
  exact ⟨r[j]'(by omega), List.getElem_mem _, by rw [← at0_lt (by omega)]; exact h⟩
theorem less_span {p f : Int} {n : Nat} {rows : List (List Int)} {r l : List Int} (hr : Span p n rows r) (hl : Span p n rows l) : Span p n rows (less p r f l) := by
  rw [less_add]
  exact span_lin.2 _ _ _ hr hl
theorem led_span {p : Int} {j n : Nat} {rows : List (List Int)} {r : List Int} (hl : r.length = n) (hr : Span p n rows r) : Span p n rows (led p r j) := by
  rw [led_add hl]
  exact span_lin.2 _ _ _ span_lin.1 hr
/-- and back: a row is what is left of it and its multiple -/
theorem less_back {p f : Int} {n : Nat} {r l : List Int} (hp : 0 < p) (hr : Ltr p n r) (hl : l.length = n) : r = addv p (less p r f l) f l := by
  have h1 := less_len (p := p) (f := f) hr.1 hl
  refine row_ext hr.1 (addv_len h1 hl) fun k hk => ?_
  rw [addv_at h1 hl hk, less_at hr.1 hl hk]
  have c : Cg p ((at0 r k - f * at0 l k).fmod p + f * at0 l k) (at0 r k) := by
    have := (Cg.fm (p := p) (at0 r k - f * at0 l k)).add (Cg.rfl' (p := p) (a := f * at0 l k))
    rw [Int.sub_add_cancel] at this
    exact this
  rw [Cg.fmod hp c, fm_id (hr.bd hk)]
theorem led_back {p : Int} {j n : Nat} {r : List Int} (hp : p ∈ primes) (hr : Ltr p n r) (hj : j < n) (h : hot j r = true) : r = addv p (zer n) (at0 r j) (led p r j) := by
  have p0 := prime_pos hp
  have e := less_back (f := at0 r j) p0 hr (led_len (p := p) (j := j) hr.1)
  rw [less_self hp hr hj h] at e
  exact e
theorem iv_step {p : Int} {n j : Nat} {rows : List (List Int)} {s : List (List Int) × List (List Int)} {pv : List Nat} (hp : p ∈ primes) (hj : j < n) (I : Iv p n rows j s pv) : ∃ pv', Iv p n rows (j + 1) (stp p j s) pv' := by
  have p0 := prime_pos hp
  cases e : s.1.findIdx? (hot j) with
  | none =>
    rw [List.findIdx?_eq_none_iff] at e
    rw [stp_none e]
    refine ⟨pv, I.left, I.done, fun r hr k hk => ?_, I.len, fun c hc => Nat.lt_succ_of_lt (I.plt c hc), I.one, I.to, I.of⟩
    by_cases z : k = j
    · rw [z]
      exact hot_not (e r hr)
    · exact I.low r hr k (by omega)
  | some k =>
    obtain ⟨a, r, b, ea, hk, hr, ha⟩ := find_hot e
    obtain ⟨l, d⟩ := s
    simp only at ea
    subst ea
    rw [stp_some hr ha]
    have hrm : r ∈ a ++ r :: b := List.mem_append.mpr (.inr (List.mem_cons_self))
    have hrL : Ltr p n r := I.left r hrm
    have hl : (led p r j).length = n := led_len hrL.1
    have sub : ∀ t ∈ a ++ b, t ∈ a ++ r :: b := fun t ht => by
      rcases List.mem_append.mp ht with h | h
      · exact List.mem_append.mpr (.inl h)
      · exact List.mem_append.mpr (.inr (List.mem_cons_of_mem _ h))
    have l1 := led_one hp hrL hj hr
    have lpv : ∀ c, c < j → at0 (led p r j) c = 0 := fun c hc => by
      rw [led_at hrL.1 (by omega), I.low r hrm c hc, Int.mul_zero, fm_zero]
    have tl : Span p n rows (led p r j) := led_span hrL.1 (I.to r (.inl hrm))
    refine ⟨pv ++ [j], ?_⟩
    constructor
    · intro t ht
      obtain ⟨u, hu, rfl⟩ := List.mem_map.mp ht
      exact less_ltr p0 (I.left u (sub u hu)).1 hl
    · intro t ht
      rcases List.mem_append.mp ht with h | h
      · obtain ⟨u, hu, rfl⟩ := List.mem_map.mp h
        exact less_ltr p0 (I.done u hu).1 hl
      · rw [List.mem_singleton.mp h]
        exact led_ltr p0 hrL.1
    · intro t ht k hk
      obtain ⟨u, hu, rfl⟩ := List.mem_map.mp ht
      have hu2 := I.left u (sub u hu)
      rw [less_at hu2.1 hl (by omega)]
      by_cases z : k = j
      · rw [z, l1, Int.mul_one, Int.sub_self, fm_zero]
      · rw [I.low u (sub u hu) k (by omega), lpv k (by omega), Int.mul_zero, Int.sub_zero, fm_zero]
    · rw [List.length_append, List.length_append, List.length_map, I.len]
      rfl
    · intro c hc
      rcases List.mem_append.mp hc with h | h
      · exact Nat.lt_succ_of_lt (I.plt c h)
      · rw [List.mem_singleton.mp h]
        exact Nat.lt_succ_self j
    · intro i m t c hi hm
      have hpl := I.len
      by_cases zi : i < d.length
      · rw [List.getElem?_append_left (by rw [List.length_map]; exact zi), List.getElem?_map] at hi
        obtain ⟨u, hu, rfl⟩ := Option.map_eq_some_iff.mp hi
        have hu2 := I.done u (List.mem_of_getElem? hu)
        by_cases zm : m < pv.length
        · rw [List.getElem?_append_left zm] at hm
          have hc := I.plt c (List.mem_of_getElem? hm)
          rw [less_at hu2.1 hl (by omega), lpv c hc, Int.mul_zero, Int.sub_zero, I.one i m u c hu hm]
          split
          · exact fm_one hp
          · exact fm_zero
        · have hm2 := (List.getElem?_eq_some_iff.mp hm).1
          rw [List.length_append] at hm2
          have em : m = pv.length := by
            have : m < pv.length + 1 := hm2
            omega
          rw [em, List.getElem?_append_right (Nat.le_refl _), Nat.sub_self] at hm
          cases hm
          rw [less_at hu2.1 hl hj, l1, Int.mul_one, Int.sub_self, fm_zero, if_neg (by simp only at hpl; omega)]
      · have hi2 := (List.getElem?_eq_some_iff.mp hi).1
        rw [List.length_append, List.length_map] at hi2
        have ei : i = d.length := by
          have : i < d.length + 1 := hi2
          omega
        rw [ei, List.getElem?_append_right (by rw [List.length_map]; exact Nat.le_refl _), List.length_map, Nat.sub_self] at hi
        cases hi
        by_cases zm : m < pv.length
        · rw [List.getElem?_append_left zm] at hm
          have hc := I.plt c (List.mem_of_getElem? hm)
          rw [lpv c hc, if_neg (by simp only at hpl; omega)]
        · have hm2 := (List.getElem?_eq_some_iff.mp hm).1
          rw [List.length_append] at hm2
          have em : m = pv.length := by
            have : m < pv.length + 1 := hm2
            omega
          rw [em, List.getElem?_append_right (Nat.le_refl _), Nat.sub_self] at hm
          cases hm
          rw [l1, if_pos (by simp only at hpl; omega)]
    · intro t ht
      rcases ht with h | h
      · obtain ⟨u, hu, rfl⟩ := List.mem_map.mp h
        exact less_span (I.to u (.inl (sub u hu))) tl
      · rcases List.mem_append.mp h with h | h
        · obtain ⟨u, hu, rfl⟩ := List.mem_map.mp h
          exact less_span (I.to u (.inr hu)) tl
        · rw [List.mem_singleton.mp h]
          exact tl
    · intro t ht
      refine span_sub (fun u hu => ?_) (I.of t ht)
      generalize hL : ((a ++ b).map fun t => less p t (at0 t j) (led p r j)) ++ ((d.map fun t => less p t (at0 t j) (led p r j)) ++ [led p r j]) = L
      have hlead : Span p n L (led p r j) := span_mem (by rw [← hL]; exact List.mem_append.mpr (.inr (List.mem_append.mpr (.inr (List.mem_singleton.mpr rfl)))))
      have back : ∀ u, Ltr p n u → less p u (at0 u j) (led p r j) ∈ L → Span p n L u := fun u hu hm => by
        rw [less_back (f := at0 u j) p0 hu hl]
        exact span_lin.2 _ _ _ (span_mem hm) hlead
      rcases List.mem_append.mp hu with h | h
      · have hab : u ∈ a ++ b ∨ u = r := by
          rcases List.mem_append.mp h with h | h
          · exact .inl (List.mem_append.mpr (.inl h))
          · rcases List.mem_cons.mp h with h | h
            · exact .inr h
            · exact .inl (List.mem_append.mpr (.inr h))
        rcases hab with h | rfl
        · exact back u (I.left u (sub u h)) (by rw [← hL]; exact List.mem_append.mpr (.inl (List.mem_map.mpr ⟨u, h, rfl⟩)))
        · rw [led_back hp hrL hj hr]
          exact span_lin.2 _ _ _ span_lin.1 hlead
      · exact back u (I.done u h) (by rw [← hL]; exact List.mem_append.mpr (.inr (List.mem_append.mpr (.inl (List.mem_map.mpr ⟨u, h, rfl⟩)))))
theorem iv_run {p : Int} {n : Nat} {rows : List (List Int)} (hp : p ∈ primes) (h : ∀ r ∈ rows, Ltr p n r) : ∀ j, j ≤ n → ∃ pv, Iv p n rows j (run p rows j) pv
  | 0, _ => ⟨[], iv_zero h⟩
  | j + 1, hj => by
    obtain ⟨pv, I⟩ := iv_run hp h j (by omega)
    exact iv_step hp (by omega) I
end WU

set_option maxRecDepth 100000
set_option maxHeartbeats 4000000
namespace WU
open PySem PySem.Spec PyProof.Rows L2
theorem filter_hot_nz {p : Int} {n j : Nat} {l : List (List Int)} (hl : ∀ r ∈ l, Ltr p n r) (hj : j < n) : (l.filter nz).filter (hot j) = l.filter (hot j) := by
  rw [List.filter_filter]
  refine List.filter_congr fun r hr => ?_
  cases h : hot j r with
  | false => rfl
  | true => rw [nz_hot (hl r hr).1 hj h] <;> rfl
theorem filter_first {j : Nat} {l : List (List Int)} {r : List Int} {t : List (List Int)} (h : l.filter (hot j) = r :: t) : ∃ a b, l = a ++ r :: b ∧ hot j r = true ∧ ∀ u ∈ a, hot j u = false := by
  induction l with
  | nil => cases h
  | cons x l ih =>
    rw [List.filter_cons] at h
    cases e : hot j x with
    | true =>
      rw [if_pos e] at h
      cases h
      exact ⟨[], l, rfl, e, fun u hu => nomatch hu⟩
    | false =>
      rw [if_neg (by rw [e]; decide)] at h
      obtain ⟨a, b, e1, e2, e3⟩ := ih h
      refine ⟨x :: a, b, by rw [e1]; rfl, e2, fun u hu => ?_⟩
      rcases List.mem_cons.mp hu with h | h
      · rw [h]
        exact e
      · exact e3 u h
/-- clearing and dropping, and dropping first -/
theorem clr_filter {p : Int} {n j : Nat} {lead : List Int} (hp : 0 < p) (hl : lead.length = n) : ∀ {l : List (List Int)}, (∀ r ∈ l, Ltr p n r) → ((l.filter nz).map (clr p lead j)).filter nz = (l.map fun t => less p t (at0 t j) lead).filter nz
  | [], _ => rfl
  | r :: l, h => by
    have hr := h r (List.mem_cons_self)
    have ih := clr_filter (j := j) hp hl (l := l) fun u hu => h u (List.mem_cons_of_mem _ hu)
    rw [List.filter_cons, List.map_cons, List.filter_cons, ← clr_less (j := j) hr hl]
    cases e : nz r with
    | true =>
      rw [if_pos rfl, List.map_cons, List.filter_cons, ih]
    | false =>
      rw [if_neg (by decide), ih]
      have z := nz_false (p := p) hr.1 e
      have c : clr p lead j r = r := by
        unfold clr
        rw [if_neg]
        rw [z, zer_at]
        decide
      rw [c, e, if_neg (by decide)]
theorem map_clr {p : Int} {n j : Nat} {lead : List Int} (hl : lead.length = n) {l : List (List Int)} (h : ∀ r ∈ l, Ltr p n r) : l.map (clr p lead j) = l.map fun t => less p t (at0 t j) lead :=
  List.map_congr_left fun r hr => clr_less (h r hr) hl
theorem less_mid {p : Int} {n j : Nat} {a b : List (List Int)} {r : List Int} (hp : p ∈ primes) (hr : Ltr p n r) (hj : j < n) (h : hot j r = true) :
    ((a ++ r :: b).map fun t => less p t (at0 t j) (led p r j)).filter nz = ((a ++ b).map fun t => less p t (at0 t j) (led p r j)).filter nz := by
  rw [List.map_append, List.map_append, List.map_cons, List.filter_append, List.filter_append, List.filter_cons, less_self hp hr hj h, nz_zer, if_neg (by decide)]
/-- what the program does at a column is what the law does -/
theorem sim {p : Int} {n j : Nat} {rows : List (List Int)} {s : List (List Int) × List (List Int)} {pv : List Nat} (hp : p ∈ primes) (hj : j < n) (I : Iv p n rows j s pv) :
    ((s.1.filter nz).filter (hot j) = [] → stp p j s = s) ∧ ∀ r t, (s.1.filter nz).filter (hot j) = r :: t → Ltr p n r ∧ hot j r = true ∧
      (((s.1.filter nz).map (clr p (led p r j) j)).filter nz = (stp p j s).1.filter nz) ∧ s.2.map (clr p (led p r j) j) ++ [led p r j] = (stp p j s).2 := by
  rw [filter_hot_nz I.left hj]
  refine ⟨fun e => stp_none fun t ht => ?_, fun r t e => ?_⟩
  · have := List.filter_eq_nil_iff.mp e t ht
    simpa using this
  · obtain ⟨a, b, e1, e2, e3⟩ := filter_first e
    obtain ⟨l, d⟩ := s
    simp only at e1
    subst e1
    have hr : Ltr p n r := I.left r (List.mem_append.mpr (.inr (List.mem_cons_self)))
    have hl : (led p r j).length = n := led_len hr.1
    refine ⟨hr, e2, ?_, ?_⟩
    · rw [clr_filter (prime_pos hp) hl I.left, less_mid hp hr hj e2, stp_some e2 e3]
    · rw [map_clr hl I.done, stp_some e2 e3]
theorem run_stay {p : Int} {rows : List (List Int)} {j : Nat} (h : ∀ t ∈ (run p rows j).1, ∀ i, hot i t = false) : ∀ m, run p rows (j + m) = run p rows j
  | 0 => rfl
  | m + 1 => by
    show stp p (j + m) (run p rows (j + m)) = _
    rw [run_stay h m]
    exact stp_none fun t ht => h t ht _
theorem zer_hot {n i : Nat} : hot i (zer n) = false := by
  unfold hot
  rw [zer_at]
  decide
/-- nothing left: the rest of the columns change nothing -/
theorem run_end {p : Int} {n j : Nat} {rows : List (List Int)} {pv : List Nat} (I : Iv p n rows j (run p rows j) pv) (hj : j ≤ n) (h : (run p rows j).1.filter nz = []) : (run p rows n).2 = (run p rows j).2 := by
  have st := run_stay (p := p) (rows := rows) (j := j) (fun t ht i => by
    have h1 := List.filter_eq_nil_iff.mp h t ht
    rw [nz_false (p := p) (I.left t ht).1 (by simpa using h1)]
    exact zer_hot) (n - j)
  rw [show j + (n - j) = n by omega] at st
  rw [st]
/-- something left: there is a column -/
theorem run_more {p : Int} {n j : Nat} {rows : List (List Int)} {s : List (List Int) × List (List Int)} {pv : List Nat} (I : Iv p n rows j s pv) (h : s.1.filter nz ≠ []) : j < n := by
  obtain ⟨r, t, e⟩ := List.exists_cons_of_ne_nil h
  have hm : r ∈ s.1.filter nz := by rw [e]; exact List.mem_cons_self
  obtain ⟨h1, h2⟩ := List.mem_filter.mp hm
  have hr := I.left r h1
  rcases Nat.lt_or_ge j n with q | q
  · exact q
  · exfalso
    unfold nz at h2
    rw [List.any_eq_true] at h2
    obtain ⟨x, hx, ne⟩ := h2
    obtain ⟨k, hk, rfl⟩ := List.getElem_of_mem hx
    rw [← at0_lt hk, I.low r h1 k (by have := hr.1; omega)] at ne
    cases ne
theorem run_nil {p : Int} {n : Nat} {rows : List (List Int)} (hp : p ∈ primes) (h : ∀ r ∈ rows, Ltr p n r) : ∃ pv, Iv p n rows n (run p rows n) pv ∧ ∀ t ∈ (run p rows n).1, t = zer n := by
  obtain ⟨pv, I⟩ := iv_run hp h n (Nat.le_refl n)
  refine ⟨pv, I, fun t ht => row_ext (I.left t ht).1 zer_len fun k hk => ?_⟩
  rw [I.low t ht k hk, zer_at]
/-! ### how many sums there are -/
def cmb (p : Int) (n : Nat) : List (List Int) → List Int → List Int
  | r :: rs, c :: cs => addv p (cmb p n rs cs) c r
  | _, _ => zer n
theorem cmb_ltr {p : Int} {n : Nat} (hp : 0 < p) : ∀ {rs : List (List Int)} {cs : List Int}, (∀ r ∈ rs, Ltr p n r) → Ltr p n (cmb p n rs cs)
  | [], _, _ => by
    unfold cmb
    exact zer_ltr hp
  | r :: rs, [], _ => by
    unfold cmb
    exact zer_ltr hp
  | r :: rs, c :: cs, h => addv_ltr hp (cmb_ltr hp fun u hu => h u (List.mem_cons_of_mem _ hu)).1 (h r (List.mem_cons_self)).1
theorem cmb_span {p : Int} {n : Nat} {R : List (List Int)} : ∀ {rs : List (List Int)} {cs : List Int}, (∀ r ∈ rs, Span p n R r) → Span p n R (cmb p n rs cs)
  | [], _, _ => by
    unfold cmb
    exact span_lin.1
  | r :: rs, [], _ => by
    unfold cmb
    exact span_lin.1
  | r :: rs, c :: cs, h => span_lin.2 _ _ _ (cmb_span fun u hu => h u (List.mem_cons_of_mem _ hu)) (h r (List.mem_cons_self))
/-- the sum at a place -/
def csum (k : Nat) : List (List Int) → List Int → Int
  | r :: rs, c :: cs => csum k rs cs + c * at0 r k
  | _, _ => 0
theorem cmb_at {p : Int} {n k : Nat} (hp : 0 < p) (hk : k < n) : ∀ {rs : List (List Int)} {cs : List Int}, (∀ r ∈ rs, Ltr p n r) → Cg p (at0 (cmb p n rs cs) k) (csum k rs cs)
  | [], _, _ => by
    unfold cmb csum
    rw [zer_at]
    exact Cg.rfl'
  | r :: rs, [], _ => by
    unfold cmb csum
    rw [zer_at]
    exact Cg.rfl'
  | r :: rs, c :: cs, h => by
    have ih := cmb_at hp hk (rs := rs) (cs := cs) fun u hu => h u (List.mem_cons_of_mem _ hu)
    have l1 := (cmb_ltr (p := p) (n := n) (cs := cs) hp fun u hu => h u (List.mem_cons_of_mem _ hu)).1
    show Cg p (at0 (addv p (cmb p n rs cs) c r) k) (csum k rs cs + c * at0 r k)
    rw [addv_at l1 (h r (List.mem_cons_self)).1 hk]
    exact (Cg.fm _).trans (ih.add Cg.rfl')
/-- rows with a 1 at an own place, and noughts at the others' -/
structure Piv (p : Int) (n : Nat) (rs : List (List Int)) (pv : List Nat) : Prop where
  ltr : ∀ r ∈ rs, Ltr p n r
  len : pv.length = rs.length
  plt : ∀ c ∈ pv, c < n
  one : ∀ (i l : Nat) (r : List Int) (c : Nat), rs[i]? = some r → pv[l]? = some c → at0 r c = if i = l then 1 else 0
theorem Piv.tail {p : Int} {n : Nat} {r : List Int} {rs : List (List Int)} {c : Nat} {pv : List Nat} (P : Piv p n (r :: rs) (c :: pv)) : Piv p n rs pv where
  ltr := fun u hu => P.ltr u (List.mem_cons_of_mem _ hu)
  len := Nat.succ.inj P.len
  plt := fun u hu => P.plt u (List.mem_cons_of_mem _ hu)
  one := fun i l u d hi hl => by
    have := P.one (i + 1) (l + 1) u d hi hl
    rw [this]
    by_cases z : i = l
    · rw [if_pos z, if_pos (by omega)]
    · rw [if_neg z, if_neg (by omega)]
theorem csum_zero {k : Nat} : ∀ {rs : List (List Int)} {cs : List Int}, (∀ r ∈ rs, at0 r k = 0) → csum k rs cs = 0
  | [], _, _ => by
    unfold csum
    rfl
  | r :: rs, [], _ => by
    unfold csum
    rfl
  | r :: rs, c :: cs, h => by
    unfold csum
    rw [csum_zero fun u hu => h u (List.mem_cons_of_mem _ hu), h r (List.mem_cons_self), Int.mul_zero]
    rfl
/-- at the own places stand the letters -/
theorem csum_piv {p : Int} {n : Nat} : ∀ {rs : List (List Int)} {pv : List Nat} {cs : List Int}, Piv p n rs pv → cs.length = rs.length → pv.map (fun c => csum c rs cs) = cs
  | [], pv, cs, P, h => by
    have h1 := List.eq_nil_of_length_eq_zero (h.trans rfl)
    have h2 := List.eq_nil_of_length_eq_zero (P.len.trans rfl)
    rw [h1, h2]
    rfl
  | r :: rs, pv, cs, P, h => by
    cases pv with
    | nil => exact absurd P.len (by simp)
    | cons c pv =>
      cases cs with
      | nil => exact absurd h (by simp)
      | cons d cs =>
        have ih := csum_piv P.tail (Nat.succ.inj h)
        rw [List.map_cons]
        have e0 : csum c (r :: rs) (d :: cs) = d := by
          show csum c rs cs + d * at0 r c = d
          rw [P.one 0 0 r c rfl rfl, if_pos rfl, Int.mul_one, csum_zero, Int.zero_add]
          intro u hu
          obtain ⟨i, hi⟩ := List.getElem?_of_mem hu
          rw [P.one (i + 1) 0 u c hi rfl, if_neg (by omega)]
        rw [e0]
        congr 1
        refine Eq.trans (List.map_congr_left fun e he => ?_) ih
        obtain ⟨l, hl⟩ := List.getElem?_of_mem he
        show csum e rs cs + d * at0 r e = csum e rs cs
        rw [P.one 0 (l + 1) r e rfl hl, if_neg (by omega), Int.mul_zero, Int.add_zero]
def pvs (pv : List Nat) (v : List Int) : List Int := pv.map fun c => at0 v c
/-- what the rows span, read by its own places -/
def Sv (p : Int) (n : Nat) (rs : List (List Int)) (pv : List Nat) (v : List Int) : Prop := Ltr p n v ∧ ∀ k, k < n → Cg p (at0 v k) (csum k rs (pvs pv v))
theorem csum_add {p c : Int} {n k : Nat} {u v : List Int} (hu : u.length = n) (hv : v.length = n) : ∀ {rs : List (List Int)} {pv : List Nat}, (∀ d ∈ pv, d < n) →
    Cg p (csum k rs (pvs pv (addv p u c v))) (csum k rs (pvs pv u) + c * csum k rs (pvs pv v))
  | [], pv, _ => by
    unfold csum
    rw [Int.mul_zero]
    exact Cg.rfl'
  | r :: rs, [], _ => by
    unfold pvs csum
    simp only [List.map_nil]
    rw [Int.mul_zero]
    exact Cg.rfl'
  | r :: rs, d :: pv, h => by
    have ih := csum_add (k := k) (c := c) (p := p) hu hv (rs := rs) (pv := pv) fun e he => h e (List.mem_cons_of_mem _ he)
    show Cg p (csum k rs (pvs pv (addv p u c v)) + at0 (addv p u c v) d * at0 r k) ((csum k rs (pvs pv u) + at0 u d * at0 r k) + c * (csum k rs (pvs pv v) + at0 v d * at0 r k))
    rw [addv_at hu hv (h d (List.mem_cons_self))]
    have c1 := ih.add ((Cg.fm (p := p) (at0 u d + c * at0 v d)).mulr (at0 r k))
    rw [Int.add_mul] at c1
    rw [Int.mul_add, ← Int.mul_assoc]
    rw [show csum k rs (pvs pv u) + at0 u d * at0 r k + (c * csum k rs (pvs pv v) + c * at0 v d * at0 r k) = csum k rs (pvs pv u) + c * csum k rs (pvs pv v) + (at0 u d * at0 r k + c * at0 v d * at0 r k) by omega]
    exact c1
theorem pvs_zer {n : Nat} {pv : List Nat} : pvs pv (zer n) = pv.map fun _ => 0 := List.map_congr_left fun c _ => zer_at
theorem csum_zer {k : Nat} : ∀ {rs : List (List Int)} {pv : List Nat}, csum k rs (pv.map fun _ => 0) = 0
  | [], _ => by
    unfold csum
    rfl
  | r :: rs, [] => by
    show csum k (r :: rs) [] = 0
    unfold csum
    rfl
  | r :: rs, d :: pv => by
    show csum k rs (pv.map fun _ => 0) + 0 * at0 r k = 0
    rw [csum_zer, Int.zero_mul]
    rfl
theorem sv_lin {p : Int} {n : Nat} {rs : List (List Int)} {pv : List Nat} (hp : 0 < p) (h : ∀ d ∈ pv, d < n) : Lin p n (Sv p n rs pv) := by
  refine ⟨⟨zer_ltr hp, fun k hk => ?_⟩, fun u r c hu hr => ⟨addv_ltr hp hu.1.1 hr.1.1, fun k hk => ?_⟩⟩
  · rw [zer_at, pvs_zer, csum_zer]
    exact Cg.rfl'
  · rw [addv_at hu.1.1 hr.1.1 hk]
    exact (Cg.fm _).trans (((hu.2 k hk).add ((hr.2 k hk).mul c)).trans (csum_add hu.1.1 hr.1.1 h).symm)
theorem sv_of {p : Int} {n : Nat} {rs : List (List Int)} {pv : List Nat} (hp : 0 < p) (P : Piv p n rs pv) {cs : List Int} (hl : cs.length = rs.length) (hc : ∀ c ∈ cs, 0 ≤ c ∧ c < p) : pvs pv (cmb p n rs cs) = cs := by
  have e := csum_piv P hl
  refine Eq.trans (List.map_congr_left fun c hc2 => ?_) e
  have b : ∀ i ∈ cs, 0 ≤ i ∧ i < p := hc
  have m : csum c rs cs ∈ cs := by
    rw [← e]
    exact List.mem_map.mpr ⟨c, hc2, by rw [e]⟩
  exact Cg.eq (cmb_at hp (P.plt c hc2) P.ltr) ((cmb_ltr hp P.ltr).bd (P.plt c hc2)) (b _ m)
theorem sv_back {p : Int} {n : Nat} {rs : List (List Int)} {pv : List Nat} (hp : 0 < p) (P : Piv p n rs pv) {v : List Int} (h : Sv p n rs pv v) : cmb p n rs (pvs pv v) = v :=
  row_ext (cmb_ltr hp P.ltr).1 h.1.1 fun k hk => Cg.eq ((cmb_at hp hk P.ltr).trans (h.2 k hk).symm) ((cmb_ltr hp P.ltr).bd hk) (h.1.bd hk)
end WU

set_option maxRecDepth 100000
set_option maxHeartbeats 4000000
namespace WU
open PySem PySem.Spec PyProof.Rows L2
theorem run_empty {p : Int} : ∀ j, run p [] j = ([], [])
  | 0 => rfl
  | j + 1 => by
    show stp p j (run p [] j) = _
    rw [run_empty j]
    exact stp_none fun t ht => nomatch ht
theorem red_run {p : Int} {n : Nat} {rows : List (List Int)} (h : ∀ r ∈ rows, Ltr p n r) : red p rows = (run p rows n).2 := by
  cases rows with
  | nil =>
    unfold red
    rw [run_empty, run_empty]
  | cons r t =>
    unfold red
    have : wid (r :: t) = n := (h r (List.mem_cons_self)).1
    rw [this]
/-- the reduced rows have own places, and span the same -/
theorem red_piv {p : Int} {n : Nat} {rows : List (List Int)} (hp : p ∈ primes) (h : ∀ r ∈ rows, Ltr p n r) : ∃ pv, Piv p n (red p rows) pv ∧ (∀ r ∈ red p rows, Span p n rows r) ∧ ∀ r ∈ rows, Span p n (red p rows) r := by
  obtain ⟨pv, I, hz⟩ := run_nil hp h
  rw [red_run h]
  refine ⟨pv, ⟨I.done, I.len, I.plt, I.one⟩, fun r hr => I.to r (.inr hr), fun r hr => ?_⟩
  refine span_sub (fun u hu => ?_) (I.of r hr)
  rcases List.mem_append.mp hu with q | q
  · rw [hz u q]
    exact span_lin.1
  · exact span_mem q
/-- the sums, row by row -/
def SpanR (p : Int) (n : Nat) : List (List Int) → List Int → Prop
  | [], v => v = zer n
  | r :: rs, v => ∃ u c, SpanR p n rs u ∧ 0 ≤ c ∧ c < p ∧ v = addv p u c r
theorem spanR_ltr {p : Int} {n : Nat} (hp : 0 < p) : ∀ {rs : List (List Int)} {v : List Int}, (∀ r ∈ rs, Ltr p n r) → SpanR p n rs v → Ltr p n v
  | [], v, _, h => by
    rw [show v = zer n from h]
    exact zer_ltr hp
  | r :: rs, v, hr, ⟨u, c, hu, _, _, e⟩ => by
    rw [e]
    exact addv_ltr hp (spanR_ltr hp (fun t ht => hr t (List.mem_cons_of_mem _ ht)) hu).1 (hr r (List.mem_cons_self)).1
theorem addv_zero {p : Int} {n : Nat} {u r : List Int} (hu : Ltr p n u) (hr : r.length = n) : addv p u 0 r = u := by
  refine row_ext (addv_len hu.1 hr) hu.1 fun k hk => ?_
  rw [addv_at hu.1 hr hk, Int.zero_mul, Int.add_zero]
  exact fm_id (hu.bd hk)
theorem addv_one {p : Int} {n : Nat} {r : List Int} (hr : Ltr p n r) : addv p (zer n) 1 r = r := by
  refine row_ext (addv_len zer_len hr.1) hr.1 fun k hk => ?_
  rw [addv_at zer_len hr.1 hk, zer_at, Int.one_mul, Int.zero_add]
  exact fm_id (hr.bd hk)
theorem addv_mix {p c d e : Int} {n : Nat} {u v r : List Int} (hp : 0 < p) (hu : u.length = n) (hv : v.length = n) (hr : r.length = n) :
    addv p (addv p u c r) d (addv p v e r) = addv p (addv p u d v) ((c + d * e).fmod p) r := by
  have l1 := addv_len (p := p) (c := c) hu hr
  have l2 := addv_len (p := p) (c := e) hv hr
  have l3 := addv_len (p := p) (c := d) hu hv
  refine row_ext (addv_len l1 l2) (addv_len l3 hr) fun k hk => ?_
  rw [addv_at l1 l2 hk, addv_at hu hr hk, addv_at hv hr hk, addv_at l3 hr hk, addv_at hu hv hk]
  refine Cg.fmod hp ?_
  have a1 := (Cg.fm (p := p) (at0 u k + c * at0 r k)).add ((Cg.fm (p := p) (at0 v k + e * at0 r k)).mul d)
  have a2 := (Cg.fm (p := p) (at0 u k + d * at0 v k)).add ((Cg.fm (p := p) (c + d * e)).mulr (at0 r k))
  refine a1.trans (Cg.trans ?_ a2.symm)
  have : at0 u k + c * at0 r k + d * (at0 v k + e * at0 r k) = at0 u k + d * at0 v k + (c + d * e) * at0 r k := by
    rw [Int.mul_add, Int.add_mul, Int.mul_assoc]
    omega
  rw [this]
  exact Cg.rfl'
theorem addv_fm {p c : Int} {n : Nat} {u r : List Int} (hp : 0 < p) (hu : u.length = n) (hr : r.length = n) : addv p u (c.fmod p) r = addv p u c r := by
  refine row_ext (addv_len hu hr) (addv_len hu hr) fun k hk => ?_
  rw [addv_at hu hr hk, addv_at hu hr hk]
  exact Cg.fmod hp (Cg.rfl'.add ((Cg.fm c).mulr _))
theorem spanR_zero {p : Int} {n : Nat} (hp : 0 < p) : ∀ {rs : List (List Int)}, (∀ r ∈ rs, Ltr p n r) → SpanR p n rs (zer n)
  | [], _ => rfl
  | r :: rs, h => ⟨zer n, 0, spanR_zero hp (fun t ht => h t (List.mem_cons_of_mem _ ht)), Int.le_refl _, hp, (addv_zero (zer_ltr hp) (h r (List.mem_cons_self)).1).symm⟩
theorem spanR_add {p : Int} {n : Nat} (hp : 0 < p) : ∀ {rs : List (List Int)}, (∀ r ∈ rs, Ltr p n r) → ∀ u v d, SpanR p n rs u → SpanR p n rs v → SpanR p n rs (addv p u d v)
  | [], _, u, v, d, hu, hv => by
    rw [show u = zer n from hu, show v = zer n from hv]
    show addv p (zer n) d (zer n) = zer n
    refine row_ext (addv_len zer_len zer_len) zer_len fun k hk => ?_
    rw [addv_at zer_len zer_len hk, zer_at, Int.mul_zero]
    exact fm_zero
  | r :: rs, h, u, v, d, ⟨u0, c, hu, c0, c1, eu⟩, ⟨v0, e, hv, e0, e1, ev⟩ => by
    have h2 : ∀ t ∈ rs, Ltr p n t := fun t ht => h t (List.mem_cons_of_mem _ ht)
    refine ⟨addv p u0 d v0, (c + d * e).fmod p, spanR_add hp h2 u0 v0 d hu hv, (fm_bd _ hp).1, (fm_bd _ hp).2, ?_⟩
    rw [eu, ev]
    exact addv_mix hp (spanR_ltr hp h2 hu).1 (spanR_ltr hp h2 hv).1 (h r (List.mem_cons_self)).1
theorem spanR_mem {p : Int} {n : Nat} (hp : 1 < p) : ∀ {rs : List (List Int)}, (∀ r ∈ rs, Ltr p n r) → ∀ r ∈ rs, SpanR p n rs r
  | [], _, _, h => nomatch h
  | t :: rs, h, r, hr => by
    have h2 : ∀ t ∈ rs, Ltr p n t := fun t ht => h t (List.mem_cons_of_mem _ ht)
    rcases List.mem_cons.mp hr with e | e
    · rw [e]
      exact ⟨zer n, 1, spanR_zero (by omega) h2, by omega, hp, (addv_one (h t (List.mem_cons_self))).symm⟩
    · exact ⟨r, 0, spanR_mem hp h2 r e, Int.le_refl _, by omega, (addv_zero (h2 r e) (h t (List.mem_cons_self)).1).symm⟩
theorem spanR_span {p : Int} {n : Nat} : ∀ {rs : List (List Int)} {v : List Int}, SpanR p n rs v → Span p n rs v
  | [], v, h => by
    rw [show v = zer n from h]
    exact span_lin.1
  | r :: rs, v, ⟨u, c, hu, _, _, e⟩ => by
    rw [e]
    exact span_lin.2 _ _ _ (span_sub (fun t ht => span_mem (List.mem_cons_of_mem _ ht)) (spanR_span hu)) (span_mem (List.mem_cons_self))
/-- all rows of m letters -/
def allc (p : Nat) : Nat → List (List Int)
  | 0 => [[]]
  | m + 1 => (List.range p).flatMap fun (c : Nat) => (allc p m).map fun t => (c : Int) :: t
theorem allc_mem {p : Nat} : ∀ {m : Nat} {cs : List Int}, cs ∈ allc p m ↔ cs.length = m ∧ ∀ c ∈ cs, 0 ≤ c ∧ c < (p : Int)
  | 0, cs => by
    show cs ∈ [[]] ↔ _
    rw [List.mem_singleton]
    constructor
    · rintro rfl
      exact ⟨rfl, fun c hc => nomatch hc⟩
    · rintro ⟨h, _⟩
      exact List.eq_nil_of_length_eq_zero h
  | m + 1, cs => by
    show cs ∈ (List.range p).flatMap _ ↔ _
    rw [List.mem_flatMap]
    constructor
    · rintro ⟨c, hc, h⟩
      obtain ⟨t, ht, rfl⟩ := List.mem_map.mp h
      obtain ⟨h1, h2⟩ := allc_mem.mp ht
      have := List.mem_range.mp hc
      refine ⟨by rw [List.length_cons, h1], fun d hd => ?_⟩
      rcases List.mem_cons.mp hd with e | e
      · rw [e]
        omega
      · exact h2 d e
    · rintro ⟨h1, h2⟩
      cases cs with
      | nil => cases h1
      | cons c t =>
        have b := h2 c (List.mem_cons_self)
        refine ⟨c.toNat, List.mem_range.mpr (by omega), List.mem_map.mpr ⟨t, allc_mem.mpr ⟨Nat.succ.inj h1, fun d hd => h2 d (List.mem_cons_of_mem _ hd)⟩, ?_⟩⟩
        rw [show ((c.toNat : Nat) : Int) = c by omega]
theorem allc_len {p : Nat} : ∀ m : Nat, (allc p m).length = p ^ m
  | 0 => rfl
  | m + 1 => by
    show ((List.range p).flatMap _).length = _
    rw [List.length_flatMap]
    have : (List.range p).map (fun (c : Nat) => ((allc p m).map fun t => (c : Int) :: t).length) = (List.range p).map fun _ => p ^ m := List.map_congr_left fun c _ => by rw [List.length_map, allc_len m]
    rw [this, List.map_const', List.length_range, List.sum_replicate_nat, Nat.pow_succ, Nat.mul_comm]
theorem nodup_map' {α β : Type} {f : α → β} : ∀ {l : List α}, (∀ a ∈ l, ∀ b ∈ l, f a = f b → a = b) → l.Nodup → (l.map f).Nodup
  | [], _, _ => by simp
  | x :: l, hi, h => by
    rw [List.map_cons, List.nodup_cons]
    rw [List.nodup_cons] at h
    refine ⟨fun hm => ?_, nodup_map' (fun a ha b hb => hi a (List.mem_cons_of_mem _ ha) b (List.mem_cons_of_mem _ hb)) h.2⟩
    obtain ⟨y, hy, e⟩ := List.mem_map.mp hm
    rw [hi y (List.mem_cons_of_mem _ hy) x (List.mem_cons_self) e] at hy
    exact h.1 hy
theorem nodup_flat {α : Type} {f : Nat → List α} : ∀ {l : List Nat}, l.Nodup → (∀ a ∈ l, (f a).Nodup) → (∀ a ∈ l, ∀ b ∈ l, a ≠ b → ∀ x ∈ f a, x ∉ f b) → (l.flatMap f).Nodup
  | [], _, _, _ => by simp
  | x :: l, h, h1, h2 => by
    rw [List.flatMap_cons, List.nodup_append]
    rw [List.nodup_cons] at h
    refine ⟨h1 x (List.mem_cons_self), nodup_flat h.2 (fun a ha => h1 a (List.mem_cons_of_mem _ ha)) (fun a ha b hb => h2 a (List.mem_cons_of_mem _ ha) b (List.mem_cons_of_mem _ hb)), fun a ha b hb e => ?_⟩
    subst e
    obtain ⟨y, hy, hb⟩ := List.mem_flatMap.mp hb
    exact h2 x (List.mem_cons_self) y (List.mem_cons_of_mem _ hy) (fun z => h.1 (z ▸ hy)) a ha hb
theorem allc_nodup {p : Nat} : ∀ m : Nat, (allc p m).Nodup
  | 0 => by
    show ([[]] : List (List Int)).Nodup
    simp
  | m + 1 => by
    refine nodup_flat List.nodup_range (fun c _ => nodup_map' (fun a _ b _ e => (List.cons.inj e).2) (allc_nodup m)) fun a _ b _ ne x hx hb => ?_
    obtain ⟨t, _, rfl⟩ := List.mem_map.mp hx
    obtain ⟨u, _, e⟩ := List.mem_map.mp hb
    exact ne (Int.ofNat.inj (List.cons.inj e).1).symm
theorem nodup_len {α : Type} [DecidableEq α] {l m : List α} (hl : l.Nodup) (hm : m.Nodup) (h : ∀ x, x ∈ l ↔ x ∈ m) : l.length = m.length :=
  ((List.perm_ext_iff_of_nodup hl hm).mpr h).length_eq
/-- as many sums as letters' rows as long as the rank -/
theorem count_sums {p : Int} {n : Nat} {rows : List (List Int)} (hp : p ∈ primes) (h : ∀ r ∈ rows, Ltr p n r) {keys : List (List Int)} (hn : keys.Nodup) (hk : ∀ v, v ∈ keys ↔ SpanR p n rows.reverse v) :
    keys.length = p.toNat ^ (red p rows).length := by
  have p0 := prime_pos hp
  have p1 := fld_le hp
  obtain ⟨pv, P, h1, h2⟩ := red_piv hp h
  have hrev : ∀ r ∈ rows.reverse, Ltr p n r := fun r hr => h r (List.mem_reverse.mp hr)
  have ep : ((p.toNat : Nat) : Int) = p := by omega
  rw [← allc_len]
  refine Eq.trans ?_ (List.length_map (as := allc p.toNat (red p rows).length) (cmb p n (red p rows)))
  refine nodup_len hn (nodup_map' (fun a ha b hb e => ?_) (allc_nodup _)) fun v => ?_
  · obtain ⟨a1, a2⟩ := allc_mem.mp ha
    obtain ⟨b1, b2⟩ := allc_mem.mp hb
    rw [ep] at a2 b2
    rw [← sv_of p0 P a1 a2, ← sv_of p0 P b1 b2, e]
  · rw [hk, List.mem_map]
    constructor
    · intro hv
      have sp := span_sub (rows' := red p rows) (fun r hr => h2 r (List.mem_reverse.mp hr)) (spanR_span hv)
      have svm : ∀ r ∈ red p rows, Sv p n (red p rows) pv r := by
        intro r hr
        refine ⟨P.ltr r hr, fun k hk2 => ?_⟩
        -- a reduced row is its own sum
        obtain ⟨i, hi⟩ := List.getElem?_of_mem hr
        have hil : i < (red p rows).length := (List.getElem?_eq_some_iff.mp hi).1
        have e : pvs pv r = (List.range (red p rows).length).map fun l => if i = l then 1 else 0 := by
          refine List.ext_getElem (by unfold pvs; rw [List.length_map, List.length_map, List.length_range, P.len]) fun l g1 g2 => ?_
          unfold pvs at g1 ⊢
          rw [List.length_map] at g1
          rw [List.getElem_map, List.getElem_map, List.getElem_range]
          exact P.one i l r _ hi (List.getElem?_eq_getElem g1)
        have key : ∀ (rs : List (List Int)) (i : Nat) (r : List Int), rs[i]? = some r → csum k rs ((List.range rs.length).map fun l => if i = l then 1 else 0) = at0 r k := by
          intro rs
          induction rs with
          | nil => intro i r hi; cases hi
          | cons t rs ih =>
            intro i r hi
            rw [List.length_cons, List.range_succ_eq_map, List.map_cons, List.map_map]
            show csum k rs ((List.range rs.length).map fun l => if i = l + 1 then 1 else 0) + (if i = 0 then 1 else 0) * at0 t k = at0 r k
            cases i with
            | zero =>
              cases hi
              rw [if_pos rfl, Int.one_mul]
              have z : ∀ (m : Nat) (rs : List (List Int)), csum k rs ((List.range m).map fun l => if 0 = l + 1 then (1 : Int) else 0) = 0 := by
                intro m rs
                have : ((List.range m).map fun l => if 0 = l + 1 then (1 : Int) else 0) = (List.range m).map fun _ => 0 := List.map_congr_left fun l _ => if_neg (by omega)
                rw [this]
                have q := csum_zer (k := k) (rs := rs) (pv := List.range m)
                exact q
              rw [z, Int.zero_add]
            | succ i =>
              rw [if_neg (by omega), Int.zero_mul, Int.add_zero]
              have : ((List.range rs.length).map fun l => if i + 1 = l + 1 then (1 : Int) else 0) = (List.range rs.length).map fun l => if i = l then 1 else 0 := List.map_congr_left fun l _ => by
                by_cases z : i = l
                · rw [if_pos z, if_pos (by omega)]
                · rw [if_neg z, if_neg (by omega)]
              rw [this]
              exact ih i r hi
        rw [e, key _ i r hi]
        exact Cg.rfl'
      have sv := sp _ (sv_lin p0 P.plt) svm
      refine ⟨pvs pv v, allc_mem.mpr ⟨by unfold pvs; rw [List.length_map, P.len], fun c hc => ?_⟩, sv_back p0 P sv⟩
      unfold pvs at hc
      obtain ⟨d, hd, rfl⟩ := List.mem_map.mp hc
      rw [ep]
      exact sv.1.bd (P.plt d hd)
    · rintro ⟨cs, _, rfl⟩
      have := cmb_span (p := p) (n := n) (cs := cs) h1
      exact this _ ⟨spanR_zero p0 hrev, fun u r c hu hr => spanR_add p0 hrev u r c hu hr⟩ fun r hr => spanR_mem (by omega) hrev r (List.mem_reverse.mpr hr)
end WU

set_option maxRecDepth 100000
set_option maxHeartbeats 8000000
namespace WU
open PySem PySem.Spec PyProof.Rows L2
/-! ### lists that are built turn by turn -/
theorem paired_mono {α β : Type} {F G : α → β → Prop} (f : ∀ a b, F a b → G a b) : ∀ {l : List α} {m : List β}, Paired F l m → Paired G l m
  | _, _, .nil => .nil
  | _, _, .cons h t => .cons (f _ _ h) (paired_mono f t)
theorem paired_len {α β : Type} {F : α → β → Prop} : ∀ {l : List α} {m : List β}, Paired F l m → l.length = m.length
  | _, _, .nil => rfl
  | _, _, .cons _ t => congrArg Nat.succ (paired_len t)
theorem paired_at {α β : Type} {F : α → β → Prop} : ∀ {l : List α} {m : List β} {i : Nat} {x : α}, Paired F l m → l[i]? = some x → ∃ y, m[i]? = some y ∧ F x y
  | _, _, _, _, .nil, e => by cases e
  | _, _, 0, _, .cons h _, e => by
    cases e
    exact ⟨_, rfl, h⟩
  | _, _, i + 1, _, .cons _ t, e => paired_at (i := i) t e
theorem paired_of {α β : Type} {F : α → β → Prop} : ∀ {l : List α} {m : List β} {i : Nat} {y : β}, Paired F l m → m[i]? = some y → ∃ x, l[i]? = some x ∧ F x y
  | _, _, _, _, .nil, e => by cases e
  | _, _, 0, _, .cons h _, e => by
    cases e
    exact ⟨_, rfl, h⟩
  | _, _, i + 1, _, .cons _ t, e => paired_of (i := i) t e
theorem paired_app {α β : Type} {F : α → β → Prop} : ∀ {l l' : List α} {m m' : List β}, Paired F l m → Paired F l' m' → Paired F (l ++ l') (m ++ m')
  | _, _, _, _, .nil, t => t
  | _, _, _, _, .cons h s, t => .cons h (paired_app s t)
theorem paired_take {α β : Type} {F : α → β → Prop} : ∀ {l : List α} {m : List β} (k : Nat), Paired F l m → Paired F (l.take k) (m.take k)
  | _, _, _, .nil => by rw [List.take_nil, List.take_nil]; exact .nil
  | _, _, 0, _ => .nil
  | _, _, k + 1, .cons h t => .cons h (paired_take k t)
theorem paired_drop {α β : Type} {F : α → β → Prop} : ∀ {l : List α} {m : List β} (k : Nat), Paired F l m → Paired F (l.drop k) (m.drop k)
  | _, _, _, .nil => by rw [List.drop_nil, List.drop_nil]; exact .nil
  | _, _, 0, h => h
  | _, _, k + 1, .cons _ t => paired_drop k t
/-- the relation stays where all but one other object stays -/
def Stab {α : Type} (F : Hp → V → α → Prop) : Prop := ∀ (D : Addr) (H H' : Hp) (y : V) (z : α), (∀ b o, b ≠ D → H b = some o → H' b = some o) → y ≠ .ref D → F H y z → F H' y z
theorem Stab.same {α : Type} {F : Hp → V → α → Prop} (st : Stab F) {H H' : Hp} {y : V} {z : α} (s : Same H H') {p : Addr} (n : y ≠ .ref p) (f : F H y z) : F H' y z := st p H H' y z (fun b o _ e => s b o e) n f
structure Bld {α : Type} (F : Hp → V → α → Prop) (H1 : Hp) (D : Addr) (zs : List α) (H : Hp) : Prop where
  same : Same H1 H
  ex : ∃ ys, H D = some (.lst ys) ∧ Paired (fun y z => F H y z ∧ y ≠ .ref D) ys zs
section
variable {α : Type} {F : Hp → V → α → Prop} {H1 H H' : Hp} {D : Addr} {zs : List α}
theorem Bld.start (hD : H1 D = none) : Bld F H1 D [] (upd H1 D (.lst [])) := ⟨same_new hD, [], upd_same, .nil⟩
theorem Bld.skip (b : Bld F H1 D zs H) (st : Stab F) (s : Same H H') : Bld F H1 D zs H' := by
  obtain ⟨s1, ys, e, p⟩ := b
  exact ⟨s1.trans s, ys, s _ _ e, paired_mono (fun y z q => ⟨st.same s q.2 q.1, q.2⟩) p⟩
theorem Bld.put {y : V} {z : α} (b : Bld F H1 D zs H) (st : Stab F) (hD : H1 D = none) (s : Same H H') (f : F H' y z) (ny : y ≠ .ref D) (hl : zs.length < sizeLine) :
    ∃ acc, H' D = some (.lst acc) ∧ acc.length < sizeLine ∧ Bld F H1 D (zs ++ [z]) (upd H' D (.lst (acc ++ [y]))) := by
  obtain ⟨s1, ys, e, p⟩ := b.skip st s
  refine ⟨ys, e, by rw [paired_len p]; exact hl, fun b o h => ?_, ys ++ [y], upd_same, ?_⟩
  · rw [upd_ne (ne_of_none h hD)]
    exact s1 _ _ h
  · have k : ∀ b o, b ≠ D → H' b = some o → upd H' D (.lst (ys ++ [y])) b = some o := fun b o n h => by rw [upd_ne n]; exact h
    exact paired_app (paired_mono (fun y z q => ⟨st D _ _ _ _ k q.2 q.1, q.2⟩) p) (.cons ⟨st D _ _ _ _ k ny f, ny⟩ .nil)
theorem Bld.fin (b : Bld F H1 D zs H) : Same H1 H ∧ ∃ ys, H D = some (.lst ys) ∧ Paired (F H) ys zs := by
  obtain ⟨s1, ys, e, p⟩ := b
  exact ⟨s1, ys, e, paired_mono (fun _ _ q => q.1) p⟩
end
/-- numbers as they are -/
def FI : Hp → V → Int → Prop := fun _ y z => y = .int z
theorem stab_FI : Stab FI := fun _ _ _ _ _ _ _ f => f
def FB : Hp → V → Bool → Prop := fun _ y z => y = .bl z
theorem stab_FB : Stab FB := fun _ _ _ _ _ _ _ f => f
theorem fi_map {H : Hp} : ∀ {ys : List V} {zs : List Int}, Paired (FI H) ys zs → ys = zs.map V.int
  | _, _, .nil => rfl
  | _, _, .cons h t => by
    rw [List.map_cons, fi_map t]
    congr 1
theorem fb_map {H : Hp} : ∀ {ys : List V} {zs : List Bool}, Paired (FB H) ys zs → ys = zs.map V.bl
  | _, _, .nil => rfl
  | _, _, .cons h t => by
    rw [List.map_cons, fb_map t]
    congr 1
/-- a row: a tuple of ints that is there -/
def FT : Hp → V → List Int → Prop := fun H y z => ∃ c, y = .ref c ∧ H c = some (.tup (z.map V.int))
theorem stab_FT : Stab FT := fun D H H' y z k n ⟨c, e, h⟩ => ⟨c, e, k _ _ (fun q => n (by rw [e, q])) h⟩
theorem FT.same {H H' : Hp} {y : V} {z : List Int} (h : FT H y z) (s : Same H H') : FT H' y z := by
  obtain ⟨c, e, h⟩ := h
  exact ⟨c, e, s _ _ h⟩
theorem FT.ne {H H1 : Hp} {y : V} {z : List Int} {D : Addr} (h : FT H y z) (n : H D = none) : y ≠ .ref D := by
  obtain ⟨c, rfl, h⟩ := h
  intro q
  cases q
  rw [h] at n
  cases n
theorem FT.neL {H : Hp} {y : V} {z : List Int} {D : Addr} {xs : List V} (h : FT H y z) (n : H D = some (.lst xs)) : y ≠ .ref D := by
  obtain ⟨c, rfl, h⟩ := h
  intro q
  cases q
  rw [h] at n
  cases n
theorem FT.new {H : Hp} {p : Addr} {z : List Int} : FT (upd H p (.tup (z.map V.int))) (.ref p) z := ⟨p, rfl, upd_same⟩
/-- a tuple of rows -/
def MT (H : Hp) (v : V) (rows : List (List Int)) : Prop := ∃ a ts, v = .ref a ∧ H a = some (.tup ts) ∧ Paired (FT H) ts rows
theorem MT.same {H H' : Hp} {v : V} {rows : List (List Int)} (h : MT H v rows) (s : Same H H') : MT H' v rows := by
  obtain ⟨a, ts, e, h, p⟩ := h
  exact ⟨a, ts, e, s _ _ h, paired_mono (fun _ _ q => q.same s) p⟩
/-! ### as data -/
def rowP (r : List Int) : PyData := .tuple (r.map PyData.int)
def MD (rows : List (List Int)) : PyData := .tuple (rows.map rowP)
theorem FT.dp {K : PySem.W.Frag} {H : Hp} {y : V} {z : List Int} (h : FT H y z) : Dp K H y (rowP z) := by
  obtain ⟨c, rfl, h⟩ := h
  exact .tup (SqT.of h) (dps_ints z)
theorem fts_dp {K : PySem.W.Frag} {H : Hp} : ∀ {ys : List V} {zs : List (List Int)}, Paired (FT H) ys zs → DpAll K H ys (zs.map rowP)
  | _, _, .nil => .nil
  | _, _, .cons h t => .cons h.dp (fts_dp t)
theorem MT.dp {K : PySem.W.Frag} {H : Hp} {v : V} {rows : List (List Int)} (h : MT H v rows) : Dp K H v (MD rows) := by
  obtain ⟨a, ts, rfl, h, p⟩ := h
  exact .tup (SqT.of h) (fts_dp p)
def rowD (p n : Int) : PyData → Bool
  | .tuple ds => letsD p n (.tuple ds)
  | _ => false
def matD (p n : Int) : PyData → Bool
  | .tuple ds => ds.all (rowD p n)
  | _ => false
def membs : PyData → List PyData
  | .tuple ds => ds
  | .list ds => ds
  | _ => []
def widD : PyData → Int
  | .tuple (.tuple ds :: _) => ds.length
  | _ => 0
def smallM (d : PyData) : Prop := smallD d ∧ ∀ r ∈ membs d, smallD r
theorem row_lets {p : Int} {n : Nat} {r : List Int} : rowD p n (rowP r) = true ↔ Ltr p n r := by
  show (decide (((r.map PyData.int).length : Int) = (n : Int)) && (r.map PyData.int).all (belD p)) = true ↔ _
  rw [Bool.and_eq_true, List.length_map, List.all_map, List.all_eq_true]
  constructor
  · rintro ⟨h1, h2⟩
    refine ⟨by have := of_decide_eq_true h1; omega, fun i hi => ?_⟩
    have := h2 i hi
    have e : (decide (0 ≤ i) && decide (i < p)) = true := this
    obtain ⟨a, b⟩ := and2 e
    exact ⟨of_decide_eq_true a, of_decide_eq_true b⟩
  · rintro ⟨h1, h2⟩
    refine ⟨decide_eq_true (by omega), fun i hi => ?_⟩
    obtain ⟨a, b⟩ := h2 i hi
    show (decide (0 ≤ i) && decide (i < p)) = true
    rw [decide_eq_true a, decide_eq_true b]
    rfl
theorem mat_rows {p : Int} {n : Nat} {rows : List (List Int)} (h : ∀ r ∈ rows, Ltr p n r) : matD p n (MD rows) = true := by
  show (rows.map rowP).all (rowD p n) = true
  rw [List.all_map, List.all_eq_true]
  exact fun r hr => row_lets.mpr (h r hr)
theorem wid_rows {p : Int} {n : Nat} {rows : List (List Int)} (h : ∀ r ∈ rows, Ltr p n r) : matD p (widD (MD rows)) (MD rows) = true := by
  cases rows with
  | nil => rfl
  | cons r t =>
    have : widD (MD (r :: t)) = (n : Int) := by
      show (((r.map PyData.int).length : Nat) : Int) = _
      rw [List.length_map, (h r (List.mem_cons_self)).1]
    rw [this]
    exact mat_rows h
theorem small_rows {p : Int} {n : Nat} {rows : List (List Int)} (h : ∀ r ∈ rows, Ltr p n r) (hn : n ≤ 200) (hm : rows.length ≤ 200) : smallM (MD rows) := by
  refine ⟨by show (rows.map rowP).length ≤ 200; rw [List.length_map]; exact hm, fun r hr => ?_⟩
  obtain ⟨t, ht, rfl⟩ := List.mem_map.mp (show r ∈ rows.map rowP from hr)
  show (t.map PyData.int).length ≤ 200
  rw [List.length_map, (h t ht).1]
  exact hn
end WU

set_option maxRecDepth 100000
set_option maxHeartbeats 8000000
namespace WU
open PySem PySem.Spec PyProof.Rows L2
structure Blt4 (mg : Str → Option Value) : Prop extends Blt3 mg where
  any : mg "any" = none
  zip : mg "zip" = none
  max : mg "max" = none
  min : mg "min" = none
section
variable {P : Program} {w : World} {K : PySem.W.Frag} {mg : Str → Option Value} {base : Heap} {S : Addr}
def isTup : PyData → Bool
  | .tuple _ => true
  | _ => false
theorem kit_tup {d : PyData} (nd : ∀ kvs, d ≠ .dict kvs) : PySem.W.kitOne K (.type (tyName d)) (.type "tuple") = some (isTup d) := by
  cases d with
  | none => exact kit_ty (show kitB "NoneType" "tuple" = some false by decide +kernel)
  | bool b => exact kit_ty (show kitB "bool" "tuple" = some false by decide +kernel)
  | int i => exact kit_ty (show kitB "int" "tuple" = some false by decide +kernel)
  | str x => exact kit_ty (show kitB "str" "tuple" = some false by decide +kernel)
  | list xs => exact kit_ty (show kitB "list" "tuple" = some false by decide +kernel)
  | tuple xs => exact kit_ty (show kitB "tuple" "tuple" = some true by decide +kernel)
  | dict kvs => exact absurd rfl (nd kvs)
def spRow (K : PySem.W.Frag) : Sp := fun vs H Q _ => ∃ (p n : Int) (v : V) (d : PyData), vs = [v, .int p, .int n] ∧ Dp K H v d ∧ smallD d ∧ ∀ H', Same H H' → Q (.bl (rowD p n d)) H'
theorem scRow : FnScope ["value", "p", "columns"] ["value", "p", "columns"] (defScope s_is_row) := ⟨rfl, rfl, rfl, by decide +kernel, rfl, by decide +kernel, by decide +kernel⟩
theorem ok_row {f f1 : Addr} {fd fd1 : FuncData} (F : FnS K "_is_row" s_is_row f fd) (B : Blt4 mg) (CL : Cal P w K mg base 4 "are_letters" f1 fd1 ["p", "count", "value"] (spLets K)) : FnOk P w K mg base (L2.CX P w) 5 f fd ["value", "p", "columns"] (spRow K) := by
  refine F.ok scRow (fun vs H Q E h => ?_) (fun cdv A outer s H vs Q E hr h => ?_)
  · obtain ⟨p, n, v, d, rfl, _⟩ := h
    rfl
  · obtain ⟨p, n, v, d, rfl, hd, hz, k⟩ := h
    refine ⟨_, (pss_one (ps_ret (pe_and (pe_callB call_isi (by rfl) B.isi (by decide +kernel) (pa_cons (pv 0) (pa_cons (pe_bltn (v := .ty "tuple") (by rfl) B.tuple (by decide +kernel) rfl) pa_nil))) (pe_one (pe_cal CL hr (pa_cons (pv 1) (pa_cons (pv 2) (pa_cons (pv 0) pa_nil))) passU))))), ?_⟩
    refine ⟨_, rfl, _, _, _, _, _, rfl, .ty "tuple", dp_ty hd, kit_tup (dp_nodict hd), _, rfl, ?_⟩
    cases hi : isTup d with
    | false =>
      refine iteF ?_
      have := k H (Same.refl H)
      cases d <;> first | exact this | cases hi
    | true =>
      refine iteT ⟨_, rfl, _, rfl, _, rfl, p, n, v, d, rfl, hd, hz, fun H' s1 => ?_⟩
      have := k H' s1
      cases d <;> first | exact this | cases hi
def spMat (K : PySem.W.Frag) : Sp := fun vs H Q _ => ∃ (p n : Int) (v : V) (d : PyData), vs = [v, .int p, .int n] ∧ Dp K H v d ∧ smallM d ∧ ∀ H', Same H H' → Q (.bl (matD p n d)) H'
theorem scMat : FnScope ["value", "p", "columns", "row"] ["value", "p", "columns"] (defScope s_is_matrix) := ⟨rfl, rfl, rfl, by decide +kernel, rfl, by decide +kernel, by decide +kernel⟩
theorem ok_mat {f f1 : Addr} {fd fd1 : FuncData} (F : FnS K "is_matrix" s_is_matrix f fd) (B : Blt4 mg) (CR : Cal P w K mg base 5 "_is_row" f1 fd1 ["value", "p", "columns"] (spRow K)) : FnOk P w K mg base (L2.CX P w) 6 f fd ["value", "p", "columns"] (spMat K) := by
  refine F.ok scMat (fun vs H Q E h => ?_) (fun cdv A outer s H vs Q E hr h => ?_)
  · obtain ⟨p, n, v, d, rfl, _⟩ := h
    rfl
  · obtain ⟨p, n, v, d, rfl, hd, hz, k⟩ := h
    have nd := scMat.nd
    refine ⟨_, (pss_one (ps_ret (pe_and (pe_callB call_isi (by rfl) B.isi (by decide +kernel) (pa_cons (pv 0) (pa_cons (pe_bltn (v := .ty "tuple") (by rfl) B.tuple (by decide +kernel) rfl) pa_nil))) (pe_one (pe_callB (cr_all rfl) (by rfl) B.all (by decide +kernel) (pa_cons (pe_lc (own := [("row", 3)]) (g := gName 3) (by rfl) nd (pi_tup (pv 0)) (blkOk_by (own := [("row", 3)]) (N := ["value", "p", "columns", "row"]) (sc := defScope s_is_matrix) (by decide +kernel)) (fun _ _ _ _ _ => (pg_name (i := 3) nd rfl (Or.inl rfl))) (fun _ _ _ _ _ => pts_nil) (fun _ _ _ _ _ => (pe_cal CR hr (pa_cons (pv 3) (pa_cons (pv 1) (pa_cons (pv 2) pa_nil))) passU))) pa_nil)))))), ?_⟩
    refine ⟨_, rfl, _, _, _, _, _, rfl, .ty "tuple", dp_ty hd, kit_tup (dp_nodict hd), _, rfl, ?_⟩
    cases hi : isTup d with
    | false =>
      refine iteF ?_
      have := k H (Same.refl H)
      cases d <;> first | exact this | cases hi
    | true =>
      refine iteT ?_
      cases hd with
      | tup hs ha =>
        rename_i a xs ds
        refine ⟨_, rfl, a, rfl, ⟨_, hs⟩, fun D hD => lc_tup (K := K) (a := a) (xs := xs) (fun i H' => Bld FB H D ((ds.take i).map (rowD p n)) H') (Bld.start hD) (fun i H' _ b => sqT_same hs b.same) ?_ ?_⟩
        · rintro i x H' hx b
          obtain ⟨e, he, hy⟩ := dps_at ha hx
          have hl : i < ds.length := (List.getElem?_eq_some_iff.mp he).1
          have hz1 : ds.length ≤ 200 := hz.1
          refine ⟨rfl, _, rfl, _, rfl, _, rfl, p, n, x, e, rfl, dp_same b.same hy, hz.2 e (List.mem_of_getElem? he), fun H2 s2 => ?_⟩
          have r := b.put (y := .bl (rowD p n e)) (z := rowD p n e) stab_FB hD s2 rfl (by intro z; cases z) (by rw [List.length_map, List.length_take]; exact small1000 (by omega))
          rw [List.take_succ, he, List.map_append]
          exact r
        · intro H' b
          obtain ⟨s1, ys, eD, py⟩ := b.fin
          rw [dps_len ha, List.take_length] at py
          have ey := fb_map py
          subst ey
          refine ⟨D, ds.map (rowD p n), rfl, SqL.of eD, ?_⟩
          have ea : (ds.map (rowD p n)).all id = ds.all (rowD p n) := by rw [List.all_map]; rfl
          rw [ea]
          exact k H' s1
      | _ => cases hi
def spWid (K : PySem.W.Frag) : Sp := fun vs H Q _ => ∃ (v : V) (d : PyData), vs = [v] ∧ Dp K H v d ∧ Q (.int (widD d)) H
theorem scWid : FnScope ["rows"] ["rows"] (defScope s_width_of_rows) := ⟨rfl, rfl, rfl, by decide +kernel, rfl, by decide +kernel, by decide +kernel⟩
theorem ok_wid {f : Addr} {fd : FuncData} (F : FnS K "width_of_rows" s_width_of_rows f fd) (B : Blt4 mg) : FnOk P w K mg base (L2.CX P w) 1 f fd ["rows"] (spWid K) := by
  refine F.ok scWid (fun vs H Q E h => ?_) (fun cdv A outer s H vs Q E hr h => ?_)
  · obtain ⟨v, d, rfl, _⟩ := h
    rfl
  · obtain ⟨v, d, rfl, hd, k⟩ := h
    refine ⟨_, (pss_cons (ps_if (PW.pt (pw_and (pt_val (pe_callB call_isi (by rfl) B.isi (by decide +kernel) (pa_cons (pv 0) (pa_cons (pe_bltn (v := .ty "tuple") (by rfl) B.tuple (by decide +kernel) rfl) pa_nil)))) (pw_and (pt_cmpR op_gt (pe_callB call_len_seq (by rfl) B.len (by decide +kernel) (pa_cons (pv 0) pa_nil)) pe_int (nomark _)) (pw_and1 (pt_val (pe_callB call_isi (by rfl) B.isi (by decide +kernel) (pa_cons (pe_ix ix_tup (pv 0) pe_int (fun _ _ => rfl)) (pa_cons (pe_bltn (v := .ty "tuple") (by rfl) B.tuple (by decide +kernel) rfl) pa_nil)))))))) (pss_one (ps_ret (pe_callB call_len_seq (by rfl) B.len (by decide +kernel) (pa_cons (pe_ix ix_tup (pv 0) pe_int (fun _ _ => rfl)) pa_nil)))) pss_nil)
      (pss_one (ps_ret pe_int))), ?_⟩
    refine ⟨_, rfl, _, _, _, _, _, rfl, .ty "tuple", dp_ty hd, kit_tup (dp_nodict hd), _, rfl, ?_⟩
    cases hd with
    | tup hs ha =>
      rename_i a xs ds
      refine iteT ⟨_, rfl, a, xs, rfl, .inr hs, _, _, rfl, rfl, _, rfl, ?_⟩
      cases ha with
      | nil => exact iteFb (decide_eq_false (by decide)) (iteF k)
      | cons h1 h2 =>
        rename_i x xs e ds
        refine iteTb (decide_eq_true (by show ((0 : Int) < ((x :: xs).length : Nat)); rw [List.length_cons]; omega)) ?_
        refine ⟨_, rfl, a, _, _, x, rfl, rfl, hs, atI_nat (j := 0) rfl, _, _, _, _, _, rfl, .ty "tuple", dp_ty h1, kit_tup (dp_nodict h1), _, rfl, ?_⟩
        cases h1 with
        | tup hs1 ha1 =>
          rename_i c ys es
          refine iteT ⟨_, rfl, a, _, _, _, rfl, rfl, hs, atI_nat (j := 0) rfl, c, ys, rfl, .inr hs1, ?_⟩
          rw [dps_len ha1]
          exact k
        | _ => exact iteF k
    | _ => exact iteF k
end
end WU

set_option maxRecDepth 100000
set_option maxHeartbeats 8000000
namespace WU
open PySem PySem.Spec PyProof.Rows L2
section
variable {P : Program} {w : World} {K : PySem.W.Frag} {mg : Str → Option Value} {base : Heap} {S : Addr}
theorem errs_same {C : Addr} {f : Str} {v : V} {H H' : Hp} {E : XK} (h : Errs C f v H E) (s : Same H H') : Errs C f v H' E := fun d H2 s2 n hd => h d H2 (s.trans s2) (s.free n) hd
/-- check_matrix(p, rows) -/
def spChk (K : PySem.W.Frag) : Sp := fun vs H Q E => ∃ (v u : V), vs = [v, u] ∧ Ty3 K H v ∧ (isFld v = false → Errs (He.ga K "InvalidNumber") "value" v H E) ∧
  ∀ p, v = .int p → isFld v = true → ∃ d, Dp K H u d ∧ smallM d ∧ (matD p (widD d) d = false → Errs (He.ga K "InvalidMatrix") "value" u H E) ∧ (matD p (widD d) d = true → ∀ H', Same H H' → Q .non H')
theorem scChk : FnScope ["p", "rows"] ["p", "rows"] (defScope s_check_matrix) := ⟨rfl, rfl, rfl, by decide +kernel, rfl, by decide +kernel, by decide +kernel⟩
theorem ok_chk {f f1 f2 f3 : Addr} {fd fd1 fd2 fd3 fdI : FuncData} (F : FnS K "check_matrix" s_check_matrix f fd) (CF : Cal P w K mg base 3 "check_field" f1 fd1 ["p"] (spCheck K)) (CM : Cal P w K mg base 6 "is_matrix" f2 fd2 ["value", "p", "columns"] (spMat K))
    (CW : Cal P w K mg base 1 "width_of_rows" f3 fd3 ["rows"] (spWid K)) (T : Exc1 K mg "InvalidMatrix" "value")
    (FI : FnOk P w K mg base (L2.CX P w) 1 (He.ma K (He.ga K "InvalidMatrix") "__init__") fdI ["self", "value"] (spInit1 K (He.ga K "InvalidMatrix") "value")) (bI : Binds K fdI ["self", "value"] []) :
    FnOk P w K mg base (L2.CX P w) 7 f fd ["p", "rows"] (spChk K) := by
  refine F.ok scChk (fun vs H Q E h => ?_) (fun cdv A outer s H vs Q E hr h => ?_)
  · obtain ⟨v, u, rfl, _⟩ := h
    rfl
  · obtain ⟨v, u, rfl, hv, kF, kk⟩ := h
    refine ⟨_, (pss_cons (ps_expr (pe_cal (E := E) CF (hr.mono (by decide)) (pa_cons (pv 0) pa_nil) (passes_call (takes_of rfl rfl rfl rfl) (fun _ _ _ _ h => h))))
      (pss_one (ps_if (pt_not (pt_val (pe_cal CM (hr.mono (by decide)) (pa_cons (pv 1) (pa_cons (pv 0) (pa_cons (pe_cal CW (hr.mono (by decide)) (pa_cons (pv 1) pa_nil) passU) pa_nil))) passU))) (pss_one (ps_raise1 rfl (takes_of rfl rfl rfl rfl) T FI bI (hr.mono (by decide)) (pa_cons (pv 1) pa_nil))) pss_nil))), ?_⟩
    refine ⟨_, rfl, v, rfl, hv, fun e => ?_, kF⟩
    cases v with
    | int p =>
      obtain ⟨d, hd, hz, kN, kY⟩ := kk p rfl e
      refine ⟨_, rfl, _, rfl, _, rfl, u, d, rfl, hd, p, widD d, u, d, rfl, hd, hz, fun H1 s1 => ⟨_, rfl, ?_⟩⟩
      cases em : matD p (widD d) d with
      | true => exact iteF (kY em H1 s1)
      | false => exact iteT ⟨_, rfl, u, rfl, errs_same (kN em) s1⟩
    | _ => cases e
/-- _less(p, row, factor, lead) -/
def spLess : Sp := fun vs H Q _ => ∃ (p f : Int) (n : Nat) (v u : V) (r l : List Int), vs = [.int p, v, .int f, u] ∧ FT H v r ∧ FT H u l ∧ p ∈ primes ∧ 0 ≤ f ∧ f < p ∧ r.length = n ∧ l.length = n ∧ n ≤ 200 ∧ (∀ x ∈ l, 0 ≤ x ∧ x < p) ∧
  ∀ y H', Same H H' → FT H' y (less p r f l) → Q y H'
theorem scLess : FnScope ["p", "row", "factor", "lead", "a", "b"] ["p", "row", "factor", "lead"] (defScope s_less) := ⟨rfl, rfl, rfl, by decide +kernel, rfl, by decide +kernel, by decide +kernel⟩
theorem walk_zipT {a b : Addr} {xs ys : List V} {n : Nat} (hn : n = min xs.length ys.length) : Walk (RZ.ItzT K a b) n (fun H => SqT K H a xs ∧ SqT K H b ys) (YPair (fun i => xs[i]?) (fun i => ys[i]?)) := by
  subst hn
  refine ⟨fun i _ hi q => ?_, fun _ q => ⟨xs, ys, q.1, q.2, by omega⟩, fun i H v H' _ q y => ?_⟩
  · have h1 : i < xs.length := by omega
    have h2 : i < ys.length := by omega
    exact ⟨xs, ys, xs[i], ys[i], q.1, q.2, by simp [h1], by simp [h2]⟩
  · obtain ⟨T, x, z, h1, h2, h3, h4, h5⟩ := y
    exact ⟨T, x, z, h1, h2, h3, h4 xs q.1, h5 ys q.2⟩
theorem take_map_at (n : Nat) {r : List Int} {i : Nat} (hi : i < r.length) : (r.map V.int)[i]? = some (.int (at0 r i)) := by
  rw [List.getElem?_map, at0_some hi]
  rfl
theorem take_at0 {r : List Int} {i : Nat} (hi : i < r.length) : r.take (i + 1) = r.take i ++ [at0 r i] := by
  rw [List.take_succ, at0_some hi]
  rfl
theorem ok_less {f : Addr} {fd : FuncData} (F : FnS K "_less" s_less f fd) (B : Blt4 mg) : FnOk P w K mg base (L2.CX P w) 1 f fd ["p", "row", "factor", "lead"] spLess := by
  refine F.ok scLess (fun vs H Q E h => ?_) (fun cdv A outer s H vs Q E hr h => ?_)
  · obtain ⟨p, f, n, v, u, r, l, rfl, _⟩ := h
    rfl
  · obtain ⟨p, f, n, v, u, r, l, rfl, ⟨c, rfl, hc⟩, ⟨e, rfl, he⟩, hp, f0, f1, hr1, hl1, hn, hl2, k⟩ := h
    have nd := scLess.nd
    have hb := fld_le hp
    refine ⟨_, (pss_one (ps_ret (pe_callTy call_tuple_of (by rfl) B.tuple (by decide +kernel) (pa_cons (pe_lc (own := [("a", 4), ("b", 5)]) (g := gTup K 2 (gCons (gName 4) (gCons (gName 5) gNil))) (by rfl) nd (RZ.pi_zipA (by rfl) B.zip (pa_cons (pv 1) (pa_cons (pv 3) pa_nil))) (blkOk_by (own := [("a", 4), ("b", 5)]) (N := ["p", "row", "factor", "lead", "a", "b"]) (sc := defScope s_less) (by decide +kernel)) (fun _ _ _ _ _ => (pg_tup rfl (pgs_cons (pg_name (i := 4) nd rfl (Or.inl rfl)) (pgs_cons (pg_name (i := 5) nd rfl (Or.inl rfl)) pgs_nil)))) (fun _ _ _ _ _ => pts_nil) (fun _ _ _ _ _ => (pe_op op_modN (pe_op op_sub (pv 4) (pe_op op_mul (pv 2) (pv 5))) (pv 0)))) pa_nil)))), ?_⟩
    refine ⟨_, rfl, _, rfl, c, e, _, _, rfl, .inr ⟨SqT.of hc, SqT.of he, fun D hD => lc_it (walk_zipT (xs := r.map V.int) (ys := l.map V.int) (n := n) (by rw [List.length_map, List.length_map]; omega)) (fun i H' => Bld FI H D ((less p r f l).take i) H')
      (Bld.start hD) (fun i H' _ b => ⟨SqT.of (b.same _ _ hc), SqT.of (b.same _ _ he)⟩) ?_ ?_⟩⟩
    · rintro i x H1 H2 hi b ⟨T, x1, x2, rfl, hT, rfl, g1, g2⟩
      cases (take_map_at n (r := r) (i := i) (by omega)).symm.trans g1
      cases (take_map_at n (r := l) (i := i) (by omega)).symm.trans g2
      have bl := hl2 (at0 l i) (by rw [at0_lt (by omega)]; exact List.getElem_mem _)
      refine ⟨T, _, rfl, SqT.of upd_same, rfl, _, _, rfl, _, _, rfl, rfl, rfl, ?_⟩
      refine ⟨_, rfl, _, rfl, _, rfl, _, _, rfl, rfl, .inl ⟨by omega, by omega⟩, _, _, rfl, rfl, _, rfl, _, p, rfl, rfl, by omega, ?_⟩
      have le : i < (less p r f l).length := by rw [less_len hr1 hl1]; exact hi
      rw [take_at0 le]
      exact b.put (y := .int ((at0 r i - f * at0 l i).fmod p)) (z := at0 (less p r f l) i) stab_FI hD (same_new hT) (by rw [less_at hr1 hl1 hi]; rfl) (by intro z; cases z) (by rw [List.length_take]; exact small1000 (by omega))
    · intro H1 b
      obtain ⟨s1, ys, eD, py⟩ := b.fin
      rw [List.take_of_length_le (by rw [less_len hr1 hl1]; exact Nat.le_refl _)] at py
      rw [fi_map py] at eD
      exact ⟨D, _, rfl, .inl ⟨SqL.of eD, fun q hq => k _ _ (s1.trans (same_new hq)) FT.new⟩⟩
end
end WU

set_option maxRecDepth 100000
set_option maxHeartbeats 8000000
namespace WU
open PySem PySem.Spec PyProof.Rows L2
/-! ### the rules whose readings name the written part, with K told (for use within the blocks of comprehensions) -/
section
variable {X : Cx} {K : PySem.W.Frag}
theorem ix_tupK (hK : X.K = K := by rfl) : IxR X (rIxT K) := hK ▸ ix_tup
theorem ix_listK (hK : X.K = K := by rfl) : IxR X (rIxL K) := hK ▸ ix_list
theorem cr_anyTK (hc : X.calm = true) (hK : X.K = K := by rfl) : CallR X (.builtin "any") (rAnyT K) := hK ▸ cr_anyT hc
theorem cr_allK (hc : X.calm = true) (hK : X.K = K := by rfl) : CallR X (.builtin "all") (rAll K) := hK ▸ cr_all hc
theorem cr_anyK (hc : X.calm = true) (hK : X.K = K := by rfl) : CallR X (.builtin "any") (rAny K) := hK ▸ cr_any hc
theorem cr_sumK (hc : X.calm = true) (hK : X.K = K := by rfl) : CallR X (.builtin "sum") (rSum K) := hK ▸ cr_sum hc
def rLenK (K : PySem.W.Frag) : List V → Hp → VK → Prop := fun xs H Q => ∃ p ys, xs = [.ref p] ∧ (SqL K H p ys ∨ SqT K H p ys) ∧ Q (.int ys.length) H
theorem len_seqK (hK : X.K = K := by rfl) : CallR X (.builtin "len") (rLenK K) := hK ▸ call_len_seq
def rListK (K : PySem.W.Frag) : List V → Hp → VK → Prop := fun xs H Q => ∃ p ys, xs = [.ref p] ∧ (SqL K H p ys ∨ SqT K H p ys) ∧ ∀ l, H l = none → Q (.ref l) (upd H l (.lst ys))
theorem list_ofK (hK : X.K = K := by rfl) : CallR X (.type "list") (rListK K) := hK ▸ call_list_of
def rTupK (K : PySem.W.Frag) : List V → Hp → VK → Prop := fun xs H Q => ∃ p ys, xs = [.ref p] ∧ ((SqL K H p ys ∧ ∀ l, H l = none → Q (.ref l) (upd H l (.tup ys))) ∨ (SqT K H p ys ∧ Q (.ref p) H))
theorem tup_ofK (hK : X.K = K := by rfl) : CallR X (.type "tuple") (rTupK K) := hK ▸ call_tuple_of
theorem isiK (hK : X.K = K := by rfl) : CallR X (.builtin "isinstance") (rIsi K) := hK ▸ call_isi
theorem sl_tupAK (hK : X.K = K := by rfl) : SlR X (rSlA K) := hK ▸ sl_tupA
theorem sl_listK (hK : X.K = K := by rfl) : SlR X (rSlL K) := hK ▸ sl_list
theorem op_catAK (hK : X.K = K := by rfl) : OpR X (binaryOp .Add) (rCatA K) := hK ▸ op_catA
theorem op_repAK (hK : X.K = K := by rfl) : OpR X (binaryOp .Mult) (rRepA K) := hK ▸ op_repA
theorem op_inK (hK : X.K = K := by rfl) : OpR X (compareOp .In) (rIn K false) := hK ▸ op_in_seq
theorem op_notInK (hK : X.K = K := by rfl) : OpR X (compareOp .NotIn) (rIn K true) := hK ▸ op_notIn_seq
theorem op_neDK (hu : X.A.units + 64 < cLine) (hK : X.K = K := by rfl) : OpR X (compareOp .NotEq) (rNeD K) := hK ▸ op_neD hu
theorem op_eqDK (hu : X.A.units + 64 < cLine) (hK : X.K = K := by rfl) : OpR X (compareOp .Eq) (rEqD K) := hK ▸ op_eqD hu
theorem pi_listK {tg l : Expr} {tl : TE} (hl : PE X l tl) (hK : X.K = K := by rfl) : PI X tg l (iList K tl) := hK ▸ pi_list hl
theorem pi_tupK {tg l : Expr} {tl : TE} (hl : PE X l tl) (hK : X.K = K := by rfl) : PI X tg l (iTup K tl) := hK ▸ pi_tup hl
theorem pi_seqK {tg l : Expr} {tl : TE} (hl : PE X l tl) (hK : X.K = K := by rfl) : PI X tg l (iSeq K tl) := hK ▸ pi_seq hl
theorem pg_tupK {es : List Expr} {k : Nat} {pos : Pos} {t : List V → L2.St → Hp → (L2.St → Hp → Prop) → Prop} {n : Nat} (h : PG X (.Tuple es k pos) (gTup X.K n t)) (hK : X.K = K := by rfl) : PG X (.Tuple es k pos) (gTup K n t) := hK ▸ h
theorem pe_bmK {o e : Expr} {es : List Expr} {to : TE} {t : TA} {name : Str} {apos cpos : Pos} {T id : String} {r : V → List V → Hp → VK → Prop} (h : PE X (.Call (.Attribute o name apos) (e :: es) [] cpos) (tBM X.K T r to t)) (hK : X.K = K := by rfl) :
    PE X (.Call (.Attribute o name apos) (e :: es) [] cpos) (tBM K T r to t) := hK ▸ h
theorem pe_fldK {e : Expr} {f : Str} {pos : Pos} {ta : TE} (he : PE X e ta) (hb : attributeBase e f X.env (eval e X.env) = eval e X.env) (hK : X.K = K := by rfl) : PE X (.Attribute e f pos) (tFld K ta f) := hK ▸ pe_fld he hb
end
end WU

set_option maxRecDepth 100000
set_option maxHeartbeats 8000000
namespace WU
open PySem PySem.Spec PyProof.Rows L2
section
variable {P : Program} {w : World} {K : PySem.W.Frag} {mg : Str → Option Value} {base : Heap} {S : Addr}
/-- _led_by_one(p, row, column) -/
def spLed : Sp := fun vs H Q _ => ∃ (p : Int) (n j : Nat) (v : V) (r : List Int), vs = [.int p, v, .int j] ∧ FT H v r ∧ p ∈ primes ∧ Ltr p n r ∧ n ≤ 200 ∧ j < n ∧ hot j r = true ∧ ∀ y H', Same H H' → FT H' y (led p r j) → Q y H'
theorem scLed : FnScope ["p", "row", "column", "factor", "letter"] ["p", "row", "column"] (defScope s_led_by_one) := ⟨rfl, rfl, rfl, by decide +kernel, rfl, by decide +kernel, by decide +kernel⟩
theorem isBel_in {p a : Int} (h0 : 0 ≤ a) (h1 : a < p) : isBel p (.int a) = true := by
  show (decide (0 ≤ a) && decide (a < p)) = true
  rw [decide_eq_true h0, decide_eq_true h1]
  rfl
theorem ok_led {f f1 : Addr} {fd fd1 : FuncData} (F : FnS K "_led_by_one" s_led_by_one f fd) (B : Blt4 mg) (CI : Cal P w K mg base 4 "inverse_of" f1 fd1 ["p", "a"] (spInv K)) : FnOk P w K mg base (L2.CX P w) 5 f fd ["p", "row", "column"] spLed := by
  refine F.ok scLed (fun vs H Q E h => ?_) (fun cdv A outer s H vs Q E hr h => ?_)
  · obtain ⟨p, n, j, v, r, rfl, _⟩ := h
    rfl
  · obtain ⟨p, n, j, v, r, rfl, ⟨c, rfl, hc⟩, hp, hL, hn, hj, hh, k⟩ := h
    have nd := scLed.nd
    have hb := fld_le hp
    refine ⟨_, (pss_cons (ps_set (i := 3) nd rfl (Or.inr rfl) (pe_cal CI (hr.mono (by decide)) (pa_cons (pv 0) (pa_cons (pe_ix (ix_tupK (K := K)) (pv 1) (pv 2) (fun _ _ => rfl)) pa_nil)) passU))
      (pss_one (ps_ret (pe_callTy call_tuple_of (by rfl) B.tuple (by decide +kernel) (pa_cons (pe_lc (own := [("letter", 4)]) (g := gName 4) (by rfl) nd (pi_tup (pv 1)) (blkOk_by (own := [("letter", 4)]) (N := ["p", "row", "column", "factor", "letter"]) (sc := defScope s_led_by_one) (by decide +kernel)) (fun _ _ _ _ _ => (pg_name (i := 4) nd rfl (Or.inl rfl))) (fun _ _ _ _ _ => pts_nil) (fun _ _ _ _ _ => (pe_op op_modN (pe_op op_mul (pv 3) (pv 4)) (pv 0)))) pa_nil))))), ?_⟩
    have hjl : j < r.length := by rw [hL.1]; exact hj
    have bj := hL.bd hj
    have z := hot_ne hh
    refine ⟨_, rfl, _, rfl, _, rfl, c, _, _, _, rfl, rfl, SqT.of hc, atI_nat (take_map_at n hjl), .int p, .int (at0 r j), rfl, ty3_int p, ty3_int _, (fun e => by rw [mem_fld hp] at e; cases e), ?_⟩
    intro p' ep _
    cases ep
    refine ⟨(fun e => by rw [isBel_in bj.1 bj.2] at e; cases e), (fun e => absurd (V.int.inj e) z), fun a ea a0 a1 H1 s1 => ?_⟩
    cases ea
    refine ⟨_, rfl, c, rfl, ⟨_, SqT.of (s1 _ _ hc)⟩, fun D hD => lc_tup (K := K) (a := c) (xs := r.map V.int) (fun i H' => Bld FI H1 D ((led p r j).take i) H') (Bld.start hD) (fun i H' _ b => SqT.of (b.same _ _ (s1 _ _ hc))) ?_ ?_⟩
    · intro i x H2 hx b
      have hi : i < r.length := by
        have := (List.getElem?_eq_some_iff.mp hx).1
        rw [List.length_map] at this
        exact this
      cases (take_map_at n hi).symm.trans hx
      have bi := hL.bd (k := i) (by rw [← hL.1]; exact hi)
      refine ⟨rfl, _, rfl, _, rfl, _, _, rfl, rfl, .inr ⟨by omega, by omega⟩, _, rfl, _, p, rfl, rfl, by omega, ?_⟩
      have le : i < (led p r j).length := by rw [led_len hL.1, ← hL.1]; exact hi
      rw [take_at0 le]
      exact b.put (y := .int ((inv p (at0 r j) * at0 r i).fmod p)) (z := at0 (led p r j) i) stab_FI hD (Same.refl _) (by rw [led_at hL.1 (by rw [← hL.1]; exact hi)]; rfl) (by intro z; cases z) (by rw [List.length_take]; exact small1000 (by rw [led_len hL.1] at le ⊢; omega))
    · intro H2 b
      obtain ⟨s2, ys, eD, py⟩ := b.fin
      rw [List.length_map, List.take_of_length_le (by rw [led_len hL.1, hL.1]; exact Nat.le_refl _)] at py
      rw [fi_map py] at eD
      exact ⟨D, _, rfl, .inl ⟨SqL.of eD, fun q hq => k _ _ (s1.trans (s2.trans (same_new hq))) FT.new⟩⟩
theorem iteND {c : Prop} [Decidable c] {A B : Prop} (h1 : ¬ c → A) (h2 : c → B) : if (!decide c) = true then A else B := by
  by_cases h : c
  · rw [decide_eq_true h]
    exact iteF (h2 h)
  · rw [decide_eq_false h]
    exact iteT (h1 h)
/-- a list of rows -/
def LT (H : Hp) (v : V) (rows : List (List Int)) : Prop := ∃ a ts, v = .ref a ∧ H a = some (.lst ts) ∧ Paired (FT H) ts rows
theorem LT.same {H H' : Hp} {v : V} {rows : List (List Int)} (h : LT H v rows) (s : Same H H') : LT H' v rows := by
  obtain ⟨a, ts, e, h, p⟩ := h
  exact ⟨a, ts, e, s _ _ h, paired_mono (fun _ _ q => q.same s) p⟩
/-- _cleared(p, rows, lead, column) -/
def spClr : Sp := fun vs H Q _ => ∃ (p : Int) (n j : Nat) (v u : V) (rows : List (List Int)) (l : List Int), vs = [.int p, v, u, .int j] ∧ LT H v rows ∧ FT H u l ∧ p ∈ primes ∧ (∀ r ∈ rows, Ltr p n r) ∧ Ltr p n l ∧ n ≤ 200 ∧ rows.length ≤ 200 ∧ j < n ∧
  ∀ y H', Same H H' → LT H' y (rows.map (clr p l j)) → Q y H'
theorem scClr : FnScope ["p", "rows", "lead", "column", "row"] ["p", "rows", "lead", "column"] (defScope s_cleared) := ⟨rfl, rfl, rfl, by decide +kernel, rfl, by decide +kernel, by decide +kernel⟩
theorem ok_clr {f f1 : Addr} {fd fd1 : FuncData} (F : FnS K "_cleared" s_cleared f fd) (CL : Cal P w K mg base 1 "_less" f1 fd1 ["p", "row", "factor", "lead"] spLess) : FnOk P w K mg base (L2.CX P w) 2 f fd ["p", "rows", "lead", "column"] spClr := by
  refine F.ok scClr (fun vs H Q E h => ?_) (fun cdv A outer s H vs Q E hr h => ?_)
  · obtain ⟨p, n, j, v, u, rows, l, rfl, _⟩ := h
    rfl
  · obtain ⟨p, n, j, v, u, rows, l, rfl, ⟨a, ts, rfl, ha, hts⟩, hu, hp, hR, hl, hn, hm, hj, k⟩ := h
    have nd := scClr.nd
    have hb := fld_le hp
    refine ⟨_, (pss_one (ps_ret (pe_lc (own := [("row", 4)]) (g := gName 4) (by rfl) nd (pi_list (pv 1)) (blkOk_by (own := [("row", 4)]) (N := ["p", "rows", "lead", "column", "row"]) (sc := defScope s_cleared) (by decide +kernel)) (fun _ _ _ _ _ => (pg_name (i := 4) nd rfl (Or.inl rfl))) (fun _ _ _ _ _ => pts_nil) (fun _ _ _ _ _ => (pe_ifExp (pt_cmpR op_ne (pe_ix (ix_tupK (K := K)) (pv 4) (pv 3) (fun _ _ => rfl)) pe_int (nomark _)) (pe_cal CL (hr.mono (by decide)) (pa_cons (pv 0) (pa_cons (pv 4) (pa_cons (pe_ix (ix_tupK (K := K)) (pv 4) (pv 3) (fun _ _ => rfl)) (pa_cons (pv 2) pa_nil)))) passU) (pv 4)))))), ?_⟩
    refine ⟨_, rfl, a, rfl, ⟨_, SqL.of ha⟩, fun D hD => lc_list (K := K) (a := a) (xs := ts) (fun i H' => Bld FT H D ((rows.take i).map (clr p l j)) H') (Bld.start hD) (fun i H' _ b => SqL.of (b.same _ _ ha)) ?_ ?_⟩
    · intro i x H1 hx b
      obtain ⟨r, hr0, hxr⟩ := paired_at hts hx
      have hx1 := hxr.same b.same
      obtain ⟨c, rfl, hc⟩ := id hx1
      have hrL := hR r (List.mem_of_getElem? hr0)
      have hjl : j < r.length := by rw [hrL.1]; exact hj
      have et : (rows.take (i + 1)).map (clr p l j) = (rows.take i).map (clr p l j) ++ [clr p l j r] := by
        rw [List.take_succ, hr0, List.map_append]
        rfl
      have hlen : ((rows.take i).map (clr p l j)).length < sizeLine := by
        rw [List.length_map, List.length_take]
        exact small1000 (by omega)
      have bj := hrL.bd hj
      rw [et]
      refine ⟨rfl, _, rfl, _, rfl, c, _, _, _, rfl, rfl, SqT.of hc, atI_nat (take_map_at n hjl), rfl, _, rfl, ?_⟩
      refine iteND (fun hz => ?_) (fun hz => ?_)
      · have hz' : at0 r j ≠ 0 := fun z => hz (congrArg V.int z)
        refine ⟨_, rfl, _, rfl, _, rfl, _, rfl, c, _, _, _, rfl, rfl, SqT.of hc, atI_nat (take_map_at n hjl), _, rfl, p, at0 r j, n, .ref c, u, r, l, rfl, hx1, hu.same b.same, hp, bj.1, bj.2, hrL.1, hl.1, hn, hl.2, fun y H2 s2 hy => ?_⟩
        have e : clr p l j r = less p r (at0 r j) l := by unfold clr; rw [if_pos hz']
        rw [e]
        exact b.put stab_FT hD s2 hy (hy.neL (s2 _ _ b.ex.choose_spec.1)) hlen
      · have hz' : at0 r j = 0 := V.int.inj hz
        have e : clr p l j r = r := by unfold clr; rw [if_neg (by simpa using hz')]
        rw [e]
        exact ⟨_, rfl, b.put stab_FT hD (Same.refl _) hx1 (hx1.neL b.ex.choose_spec.1) hlen⟩
    · intro H1 b
      obtain ⟨s1, ys, eD, py⟩ := b.fin
      rw [paired_len hts, List.take_length] at py
      exact k _ _ s1 ⟨D, ys, rfl, eD, py⟩
end
end WU

set_option maxRecDepth 100000
set_option maxHeartbeats 8000000
namespace WU
open PySem PySem.Spec PyProof.Rows L2
theorem take_filter {q : List Int → Bool} {rows : List (List Int)} {i : Nat} {r : List Int} (h : rows[i]? = some r) : (rows.take (i + 1)).filter q = (rows.take i).filter q ++ (if q r = true then [r] else []) := by
  rw [List.take_succ, h, List.filter_append]
  congr 1
  show List.filter q [r] = _
  rw [List.filter_cons]
  split <;> rfl
theorem filter_le {q : List Int → Bool} {rows : List (List Int)} {i : Nat} (h : rows.length ≤ 200) : ((rows.take i).filter q).length < sizeLine :=
  small1000 (Nat.le_trans (List.length_filter_le _ _) (by rw [List.length_take]; omega))
/-- lists built by a test, item by item -/
theorem bld_if {H1 H H' : Hp} {D : Addr} {q : List Int → Bool} {rows : List (List Int)} {i : Nat} {r : List Int} {y : V} (b : Bld FT H1 D ((rows.take i).filter q) H) (h : rows[i]? = some r) (hD : H1 D = none) (s : Same H H') (f : FT H' y r) (ny : y ≠ .ref D) (hl : rows.length ≤ 200) (e : q r = true) :
    ∃ acc, H' D = some (.lst acc) ∧ acc.length < sizeLine ∧ Bld FT H1 D ((rows.take (i + 1)).filter q) (upd H' D (.lst (acc ++ [y]))) := by
  rw [take_filter h, if_pos e]
  exact b.put stab_FT hD s f ny (filter_le hl)
theorem bld_not {H1 H H' : Hp} {D : Addr} {q : List Int → Bool} {rows : List (List Int)} {i : Nat} {r : List Int} (b : Bld FT H1 D ((rows.take i).filter q) H) (h : rows[i]? = some r) (s : Same H H') (e : q r = false) : Bld FT H1 D ((rows.take (i + 1)).filter q) H' := by
  rw [take_filter h, if_neg (by rw [e]; decide), List.append_nil]
  exact b.skip stab_FT s
section
variable {P : Program} {w : World} {K : PySem.W.Frag} {mg : Str → Option Value} {base : Heap} {S : Addr}
/-- _reduced(p, rows) -/
def spRed : Sp := fun vs H Q _ => ∃ (p : Int) (n : Nat) (v : V) (rows : List (List Int)), vs = [.int p, v] ∧ MT H v rows ∧ p ∈ primes ∧ (∀ r ∈ rows, Ltr p n r) ∧ n ≤ 200 ∧ rows.length ≤ 200 ∧ ∀ y H', Same H H' → MT H' y (red p rows) → Q y H'
theorem scRed : FnScope ["p", "rows", "left", "done", "column", "found", "lead", "row"] ["p", "rows"] (defScope s_reduced) := ⟨rfl, rfl, rfl, by decide +kernel, rfl, by decide +kernel, by decide +kernel⟩
theorem stp_len {p : Int} {j : Nat} {s : List (List Int) × List (List Int)} : (stp p j s).1.length + (stp p j s).2.length = s.1.length + s.2.length := by
  unfold stp
  split
  · rfl
  · rename_i k e
    obtain ⟨a, r, b, ea, hk, _, _⟩ := find_hot e
    rw [List.length_map, List.length_append, List.length_map, ea, ← hk, erase_mid, List.length_append, List.length_append]
    simp
    omega
theorem run_len {p : Int} {rows : List (List Int)} : ∀ j, (run p rows j).1.length + (run p rows j).2.length = rows.length
  | 0 => rfl
  | j + 1 => by
    show (stp p j (run p rows j)).1.length + (stp p j (run p rows j)).2.length = _
    rw [stp_len, run_len j]
theorem ok_red {f f1 f2 : Addr} {fd fd1 fd2 : FuncData} (F : FnS K "_reduced" s_reduced f fd) (B : Blt4 mg) (CL : Cal P w K mg base 5 "_led_by_one" f1 fd1 ["p", "row", "column"] spLed) (CC : Cal P w K mg base 2 "_cleared" f2 fd2 ["p", "rows", "lead", "column"] spClr) :
    FnOk P w K mg base (L2.CX P w) 6 f fd ["p", "rows"] spRed := by
  refine F.ok scRed (fun vs H Q E h => ?_) (fun cdv A outer s H vs Q E hr h => ?_)
  · obtain ⟨p, n, v, rows, rfl, _⟩ := h
    rfl
  · obtain ⟨p, n, v, rows, rfl, ⟨a, ts, rfl, ha, hts⟩, hp, hR, hn, hm, k⟩ := h
    have nd := scRed.nd
    have hb := fld_le hp
    refine ⟨_, (pss_cons (ps_setLc (i := 2) (own := [("row", 7)]) (g := gName 7) (by rfl) nd rfl rfl (sw_true rfl rfl rfl (by decide +kernel)) (pi_tupK (K := K) (pv 1)) (blkOk_by (own := [("row", 7)]) (N := ["p", "rows", "left", "done", "column", "found", "lead", "row"]) (sc := defScope s_reduced) (by decide +kernel)) (fun _ _ _ _ _ => (pg_name (i := 7) nd rfl (Or.inl rfl))) (fun _ _ _ _ _ => pts_one (pt_val (pe_callB (cr_anyTK (K := K) rfl) (by rfl) B.any (by decide +kernel) (pa_cons (pv 7) pa_nil)))) (fun _ _ _ _ _ => (pv 7)))
      (pss_cons (ps_set (i := 3) nd rfl (Or.inl rfl) (pe_lst pa_nil))
      (pss_cons (ps_set (i := 4) nd rfl (Or.inr rfl) pe_int)
      (pss_cons (ps_while (passes_of rfl) (pt_cmpR op_gt (pe_callB (len_seqK (K := K)) (by rfl) B.len (by decide +kernel) (pa_cons (pv 2) pa_nil)) pe_int (nomark _)) (pss_cons (ps_setLc (i := 5) (own := [("row", 7)]) (g := gName 7) (by rfl) nd rfl rfl (sw_true rfl rfl rfl (by decide +kernel)) (pi_listK (K := K) (pv 2)) (blkOk_by (own := [("row", 7)]) (N := ["p", "rows", "left", "done", "column", "found", "lead", "row"]) (sc := defScope s_reduced) (by decide +kernel)) (fun _ _ _ _ _ => (pg_name (i := 7) nd rfl (Or.inl rfl))) (fun _ _ _ _ _ => pts_one (pt_cmpR op_ne (pe_ix (ix_tupK (K := K)) (pv 7) (pv 4) (fun _ _ => rfl)) pe_int (nomark _))) (fun _ _ _ _ _ => (pv 7)))
      (pss_cons (ps_if (pt_cmpR op_gt (pe_callB (len_seqK (K := K)) (by rfl) B.len (by decide +kernel) (pa_cons (pv 5) pa_nil)) pe_int (nomark _)) (pss_cons (ps_set (i := 6) nd rfl (Or.inl rfl) (pe_cal CL (hr.mono (by decide)) (pa_cons (pv 0) (pa_cons (pe_ix (ix_listK (K := K)) (pv 5) pe_int (fun _ _ => rfl)) (pa_cons (pv 4) pa_nil))) passU))
      (pss_cons (ps_setLc (i := 2) (own := [("row", 7)]) (g := gName 7) (by rfl) nd rfl rfl (sw_true rfl rfl rfl (by decide +kernel)) (pi_listK (K := K) (pe_cal CC (hr.mono (by decide)) (pa_cons (pv 0) (pa_cons (pv 2) (pa_cons (pv 6) (pa_cons (pv 4) pa_nil)))) passU)) (blkOk_by (own := [("row", 7)]) (N := ["p", "rows", "left", "done", "column", "found", "lead", "row"]) (sc := defScope s_reduced) (by decide +kernel)) (fun _ _ _ _ _ => (pg_name (i := 7) nd rfl (Or.inl rfl))) (fun _ _ _ _ _ => pts_one (pt_val (pe_callB (cr_anyTK (K := K) rfl) (by rfl) B.any (by decide +kernel) (pa_cons (pv 7) pa_nil)))) (fun _ _ _ _ _ => (pv 7)))
      (pss_one (ps_set (i := 3) nd rfl (Or.inl rfl) (pe_lst (StX.pa_star (pe_cal CC (hr.mono (by decide)) (pa_cons (pv 0) (pa_cons (pv 3) (pa_cons (pv 6) (pa_cons (pv 4) pa_nil)))) passU) (pa_cons (pv 6) pa_nil))))))) pss_nil)
      (pss_one (ps_aug (i := 4) nd rfl (Or.inr rfl) pe_int ip_add)))))
      (pss_one (ps_ret (pe_callTy (tup_ofK (K := K)) (by rfl) B.tuple (by decide +kernel) (pa_cons (pv 3) pa_nil)))))))), ?_⟩
    refine ⟨_, rfl, a, rfl, ⟨_, SqT.of ha⟩, fun D hD => lc_tup (K := K) (a := a) (xs := ts) (fun i H' => Bld FT H D ((rows.take i).filter nz) H') (Bld.start hD) (fun i H' _ b => SqT.of (b.same _ _ ha)) ?_ ?_⟩
    · intro i x H1 hx b
      obtain ⟨r, hr0, hxr⟩ := paired_at hts hx
      have hx1 := hxr.same b.same
      obtain ⟨c, rfl, hc⟩ := id hx1
      refine ⟨rfl, _, rfl, c, r, rfl, SqT.of hc, _, rfl, ?_⟩
      cases e : nz r with
      | true => exact iteTb e ⟨_, rfl, bld_if b hr0 hD (Same.refl _) hx1 (hx1.neL b.ex.choose_spec.1) hm e⟩
      | false => exact iteFb e (bld_not b hr0 (Same.refl _) e)
    · intro H1 b
      obtain ⟨s1, ys, eD, py⟩ := b.fin
      rw [paired_len hts, List.take_length] at py
      refine ⟨(by show 0 ≤ sizeLine; decide), fun L hL => ?_⟩
      have s2 : Same H1 (upd H1 L (.lst [])) := same_new hL
      refine ⟨fun m σ H' => ∃ (j : Nat) (pv : List Nat) (x y : V) (f l rr : Option V), σ = [some (.int p), some (.ref a), some x, some y, some (.int j), f, l, rr] ∧ Same H H' ∧ LT H' x ((run p rows j).1.filter nz) ∧ LT H' y (run p rows j).2 ∧ Iv p n rows j (run p rows j) pv ∧ j ≤ n ∧ m = n - j,
        ⟨n - 0, 0, [], .ref D, .ref L, none, none, none, rfl, s1.trans s2, ⟨D, ys, rfl, s2 _ _ eD, paired_mono (fun _ _ q => q.same s2) py⟩, ⟨L, [], rfl, upd_same, .nil⟩, iv_zero hR, Nat.zero_le _, rfl⟩, ?_⟩
      rintro m σ H2 ⟨j, pv, x, y, fv, lv, rr, rfl, sH, ⟨X, xs, rfl, hX, hxs⟩, ⟨Y, yv, rfl, hY, hys⟩, I, hj, rfl⟩
      refine ⟨_, rfl, X, xs, rfl, .inl (SqL.of hX), _, _, rfl, rfl, _, rfl, ?_⟩
      have lx := paired_len hxs
      refine iteD (fun h0 => ?_) (fun h0 => ?_)
      · have hj1 : j < n := run_more I (fun z => by rw [z] at lx; rw [lx] at h0; exact absurd h0 (by decide))
        have hfl : ((run p rows j).1.filter nz).length ≤ 200 := Nat.le_trans (List.length_filter_le _ _) (by have := run_len (p := p) (rows := rows) j; omega)
        have hdl : (run p rows j).2.length ≤ 200 := by have := run_len (p := p) (rows := rows) j; omega
        obtain ⟨sm0, sm1⟩ := sim hp hj1 I
        obtain ⟨pv2, I2⟩ := iv_step hp hj1 I
        refine ⟨fun σ' H' => ∃ (pv : List Nat) (x y : V) (f l rr : Option V), σ' = [some (.int p), some (.ref a), some x, some y, some (.int (j + 1 : Nat)), f, l, rr] ∧ Same H H' ∧ LT H' x ((run p rows (j + 1)).1.filter nz) ∧ LT H' y (run p rows (j + 1)).2 ∧ Iv p n rows (j + 1) (run p rows (j + 1)) pv,
          fun σ' H' ⟨pv, x, y, f, l, rr, e, z1, z2, z3, z4⟩ => ⟨n - (j + 1), by omega, j + 1, pv, x, y, f, l, rr, e, z1, z2, z3, z4, by omega, rfl⟩, ?_⟩
        -- found
        refine ⟨_, rfl, X, rfl, ⟨_, SqL.of hX⟩, fun D2 hD2 => lc_list (K := K) (a := X) (xs := xs) (fun i H' => Bld FT H2 D2 ((((run p rows j).1.filter nz).take i).filter (hot j)) H') (Bld.start hD2) (fun i H' _ b => SqL.of (b.same _ _ hX)) ?_ ?_⟩
        · intro i x H3 hx b
          obtain ⟨r, hr0, hxr⟩ := paired_at hxs hx
          have hx1 := hxr.same b.same
          obtain ⟨c, rfl, hc⟩ := id hx1
          have hrL := I.left r (List.mem_filter.mp (List.mem_of_getElem? hr0)).1
          refine ⟨rfl, _, rfl, _, rfl, c, _, _, _, rfl, rfl, SqT.of hc, atI_nat (take_map_at n (r := r) (i := j) (by rw [hrL.1]; exact hj1)), rfl, _, rfl, ?_⟩
          refine iteND (fun hz => ?_) (fun hz => ?_)
          · have e : hot j r = true := decide_eq_true fun z => hz (congrArg V.int z)
            exact ⟨_, rfl, bld_if b hr0 hD2 (Same.refl _) hx1 (hx1.neL b.ex.choose_spec.1) hfl e⟩
          · have e : hot j r = false := decide_eq_false fun z => z (V.int.inj hz)
            exact bld_not b hr0 (Same.refl _) e
        · intro H3 b
          obtain ⟨s3, zs, eD2, pz⟩ := b.fin
          rw [lx, List.take_length] at pz
          have hX3 := s3 _ _ hX
          have hY3 := s3 _ _ hY
          have hxs3 := paired_mono (fun _ _ q => q.same s3) hxs
          have hys3 := paired_mono (fun _ _ q => q.same s3) hys
          refine ⟨_, rfl, D2, zs, rfl, .inl (SqL.of eD2), _, _, rfl, rfl, _, rfl, ?_⟩
          have lz := paired_len pz
          cases ef : ((run p rows j).1.filter nz).filter (hot j) with
          | nil =>
            rw [ef] at lz
            have es : run p rows (j + 1) = run p rows j := sm0 ef
            refine iteFb (decide_eq_false (by rw [lz]; decide)) ⟨_, rfl, _, _, rfl, rfl, ?_⟩
            refine ⟨pv2, .ref X, .ref Y, _, _, _, rfl, sH.trans s3, ?_, ?_, I2⟩
            · rw [es]
              exact ⟨X, xs, rfl, hX3, hxs3⟩
            · rw [es]
              exact ⟨Y, yv, rfl, hY3, hys3⟩
          | cons r t =>
            obtain ⟨hrL, hh, e1, e2⟩ := sm1 r t ef
            rw [ef] at lz pz
            cases pz with
            | cons hz1 hz2 =>
              rename_i z0 zt
              refine iteTb (decide_eq_true (by show (0 : Int) < ((z0 :: zt).length : Nat); rw [List.length_cons]; omega)) ?_
              refine ⟨_, rfl, _, rfl, D2, _, _, z0, rfl, rfl, SqL.of eD2, atI_nat (j := 0) rfl, _, rfl, p, n, j, z0, r, rfl, hz1, hp, hrL, hn, hj1, hh, fun lead H4 s4 hl => ?_⟩
              have hX4 := s4 _ _ hX3
              have hY4 := s4 _ _ hY3
              have hxs4 := paired_mono (fun _ _ q => q.same s4) hxs3
              have hys4 := paired_mono (fun _ _ q => q.same s4) hys3
              have hleadL : Ltr p n (led p r j) := led_ltr (prime_pos hp) hrL.1
              refine ⟨_, rfl, _, rfl, _, rfl, _, rfl, p, n, j, .ref X, lead, _, led p r j, rfl, ⟨X, xs, rfl, hX4, hxs4⟩, hl, hp, (fun u hu => I.left u (List.mem_filter.mp hu).1), hleadL, hn, hfl, hj1, fun y5 H5 s5 hy5 => ?_⟩
              obtain ⟨Y5, ws, rfl, hY5, hws⟩ := hy5
              have hl5 := hl.same s5
              have lw := paired_len hws
              refine ⟨Y5, rfl, ⟨_, SqL.of hY5⟩, fun D5 hD5 => lc_list (K := K) (a := Y5) (xs := ws) (fun i H' => Bld FT H5 D5 (((((run p rows j).1.filter nz).map (clr p (led p r j) j)).take i).filter nz) H') (Bld.start hD5) (fun i H' _ b => SqL.of (b.same _ _ hY5)) ?_ ?_⟩
              · intro i x H6 hx b
                obtain ⟨u, hu0, hxu⟩ := paired_at hws hx
                have hx1 := hxu.same b.same
                obtain ⟨c, rfl, hc⟩ := id hx1
                refine ⟨rfl, _, rfl, c, u, rfl, SqT.of hc, _, rfl, ?_⟩
                cases e : nz u with
                | true => exact iteTb e ⟨_, rfl, bld_if b hu0 hD5 (Same.refl _) hx1 (hx1.neL b.ex.choose_spec.1) (by rw [List.length_map]; exact hfl) e⟩
                | false => exact iteFb e (bld_not b hu0 (Same.refl _) e)
              · intro H6 b
                obtain ⟨s6, vs6, eD5, pv6⟩ := b.fin
                rw [lw, List.take_length, e1] at pv6
                have s46 := s5.trans s6
                refine ⟨_, rfl, _, rfl, _, rfl, _, rfl, p, n, j, .ref Y, lead, _, led p r j, rfl, ⟨Y, yv, rfl, s46 _ _ hY4, paired_mono (fun _ _ q => q.same s46) hys4⟩, hl.same s46, hp, I.done, hleadL, hn, hdl, hj1, fun y7 H7 s7 hy7 => ?_⟩
                obtain ⟨Y7, us, rfl, hY7, hus⟩ := hy7
                refine ⟨Y7, us, rfl, .inr (SqL.of hY7), _, rfl, ?_⟩
                have lu := paired_len hus
                rw [List.length_map] at lu
                refine ⟨(by rw [List.length_append, lu]; exact Nat.le_trans (Nat.add_le_add_right hdl _) (by show 201 ≤ sizeLine; decide)), fun Z hZ => ?_⟩
                have s8 : Same H7 (upd H7 Z (.lst (us ++ [lead]))) := same_new hZ
                refine ⟨_, rfl, _, _, rfl, rfl, ?_⟩
                refine ⟨pv2, .ref D5, .ref Z, _, _, _, rfl, (((sH.trans s3).trans s4).trans s46).trans (s7.trans s8), ?_, ?_, I2⟩
                · exact ⟨D5, vs6, rfl, (s7.trans s8) _ _ eD5, paired_mono (fun _ _ q => q.same (s7.trans s8)) pv6⟩
                · refine ⟨Z, us ++ [lead], rfl, upd_same, ?_⟩
                  show Paired (FT _) _ (stp p j (run p rows j)).2
                  rw [← e2]
                  exact paired_app (paired_mono (fun _ _ q => q.same s8) hus) (.cons ((hl.same s46).same (s7.trans s8)) .nil)
      · refine ⟨_, rfl, Y, yv, rfl, .inl ⟨SqL.of hY, fun q hq => k (.ref q) _ (sH.trans (same_new hq)) ⟨q, yv, rfl, upd_same, ?_⟩⟩⟩
        have hnil : (run p rows j).1.filter nz = [] := by
          cases e : (run p rows j).1.filter nz with
          | nil => rfl
          | cons r t =>
            exfalso
            rw [e] at lx
            exact h0 (by rw [lx, List.length_cons]; omega)
        rw [red_run hR, run_end I hj hnil]
        exact paired_mono (fun _ _ z => z.same (same_new hq)) hys
/-- reduced_rows(p, rows) and rank_of(p, rows) -/
def spRR (K : PySem.W.Frag) : Sp := fun vs H Q E => ∃ (v u : V), vs = [v, u] ∧ Ty3 K H v ∧ (isFld v = false → Errs (He.ga K "InvalidNumber") "value" v H E) ∧
  ∀ p, v = .int p → isFld v = true → (∃ d, Dp K H u d ∧ smallM d ∧ matD p (widD d) d = false ∧ Errs (He.ga K "InvalidMatrix") "value" u H E) ∨
    ∃ n rows, MT H u rows ∧ (∀ r ∈ rows, Ltr p n r) ∧ n ≤ 200 ∧ rows.length ≤ 200 ∧ ∀ y H', Same H H' → MT H' y (red p rows) → Q y H'
def spRk (K : PySem.W.Frag) : Sp := fun vs H Q E => ∃ (v u : V), vs = [v, u] ∧ Ty3 K H v ∧ (isFld v = false → Errs (He.ga K "InvalidNumber") "value" v H E) ∧
  ∀ p, v = .int p → isFld v = true → (∃ d, Dp K H u d ∧ smallM d ∧ matD p (widD d) d = false ∧ Errs (He.ga K "InvalidMatrix") "value" u H E) ∨
    ∃ n rows, MT H u rows ∧ (∀ r ∈ rows, Ltr p n r) ∧ n ≤ 200 ∧ rows.length ≤ 200 ∧ ∀ H', Same H H' → Q (.int (red p rows).length) H'
theorem scRR : FnScope ["p", "rows"] ["p", "rows"] (defScope s_reduced_rows) := ⟨rfl, rfl, rfl, by decide +kernel, rfl, by decide +kernel, by decide +kernel⟩
theorem scRk : FnScope ["p", "rows"] ["p", "rows"] (defScope s_rank_of) := ⟨rfl, rfl, rfl, by decide +kernel, rfl, by decide +kernel, by decide +kernel⟩
theorem ok_RR {f f1 f2 : Addr} {fd fd1 fd2 : FuncData} (F : FnS K "reduced_rows" s_reduced_rows f fd) (CM : Cal P w K mg base 7 "check_matrix" f1 fd1 ["p", "rows"] (spChk K)) (CR : Cal P w K mg base 6 "_reduced" f2 fd2 ["p", "rows"] spRed) :
    FnOk P w K mg base (L2.CX P w) 8 f fd ["p", "rows"] (spRR K) := by
  refine F.ok scRR (fun vs H Q E h => ?_) (fun cdv A outer s H vs Q E hr h => ?_)
  · obtain ⟨v, u, rfl, _⟩ := h
    rfl
  · obtain ⟨v, u, rfl, hv, kF, kk⟩ := h
    refine ⟨_, (pss_cons (ps_expr (pe_cal (E := E) CM (hr.mono (by decide)) (pa_cons (pv 0) (pa_cons (pv 1) pa_nil)) (passes_call (takes_of rfl rfl rfl rfl) (fun _ _ _ _ h => h))))
      (pss_one (ps_ret (pe_cal CR (hr.mono (by decide)) (pa_cons (pv 0) (pa_cons (pv 1) pa_nil)) passU)))), ?_⟩
    refine ⟨_, rfl, _, rfl, v, u, rfl, hv, kF, fun p ep e => ?_⟩
    subst ep
    rcases kk p rfl e with ⟨d, hd, hz, em, kE⟩ | ⟨n, rows, hM, hR, hn, hm, kY⟩
    · exact ⟨d, hd, hz, fun _ => kE, fun e2 => by rw [em] at e2; cases e2⟩
    · refine ⟨MD rows, hM.dp, small_rows hR hn hm, fun e2 => (by rw [wid_rows hR] at e2; cases e2), fun _ H1 s1 => ?_⟩
      exact ⟨_, rfl, _, rfl, p, n, u, rows, rfl, hM.same s1, fld_mem e, hR, hn, hm, fun y H2 s2 hy => kY y H2 (s1.trans s2) hy⟩
theorem ok_Rk {f f1 f2 : Addr} {fd fd1 fd2 : FuncData} (F : FnS K "rank_of" s_rank_of f fd) (B : Blt4 mg) (CM : Cal P w K mg base 7 "check_matrix" f1 fd1 ["p", "rows"] (spChk K)) (CR : Cal P w K mg base 6 "_reduced" f2 fd2 ["p", "rows"] spRed) :
    FnOk P w K mg base (L2.CX P w) 8 f fd ["p", "rows"] (spRk K) := by
  refine F.ok scRk (fun vs H Q E h => ?_) (fun cdv A outer s H vs Q E hr h => ?_)
  · obtain ⟨v, u, rfl, _⟩ := h
    rfl
  · obtain ⟨v, u, rfl, hv, kF, kk⟩ := h
    refine ⟨_, (pss_cons (ps_expr (pe_cal (E := E) CM (hr.mono (by decide)) (pa_cons (pv 0) (pa_cons (pv 1) pa_nil)) (passes_call (takes_of rfl rfl rfl rfl) (fun _ _ _ _ h => h))))
      (pss_one (ps_ret (pe_callB (len_seqK (K := K)) (by rfl) B.len (by decide +kernel) (pa_cons (pe_cal CR (hr.mono (by decide)) (pa_cons (pv 0) (pa_cons (pv 1) pa_nil)) passU) pa_nil))))), ?_⟩
    refine ⟨_, rfl, _, rfl, v, u, rfl, hv, kF, fun p ep e => ?_⟩
    subst ep
    rcases kk p rfl e with ⟨d, hd, hz, em, kE⟩ | ⟨n, rows, hM, hR, hn, hm, kY⟩
    · exact ⟨d, hd, hz, fun _ => kE, fun e2 => by rw [em] at e2; cases e2⟩
    · refine ⟨MD rows, hM.dp, small_rows hR hn hm, fun e2 => (by rw [wid_rows hR] at e2; cases e2), fun _ H1 s1 => ?_⟩
      refine ⟨_, rfl, _, rfl, p, n, u, rows, rfl, hM.same s1, fld_mem e, hR, hn, hm, fun y H2 s2 hy => ?_⟩
      obtain ⟨a, ts, rfl, ha, hts⟩ := hy
      refine ⟨a, ts, rfl, .inr (SqT.of ha), ?_⟩
      rw [paired_len hts]
      exact kY H2 (s1.trans s2)
end
end WU

set_option maxRecDepth 100000
set_option maxHeartbeats 8000000
namespace WU
open PySem PySem.Spec PyProof.Rows L2
/-- a statement whose next state is told more loosely -/
def tWk (t : TS) : TS := fun D σ H => ∃ P : L2.St → Hp → Prop, t { D with nx := P } σ H ∧ ∀ σ1 H1, P σ1 H1 → D.nx σ1 H1
theorem ps_wk {X : Cx} {st : Stmt} {t : TS} (h : PS X st t) : PS X st (tWk t) := by
  refine ⟨fun pins s σ H D I ⟨P, q, k⟩ => thn (h.run pins s σ H { D with nx := P } I q) fun f s1 z => ?_⟩
  cases f with
  | next =>
    obtain ⟨σ', H', I', z⟩ := z
    exact ⟨σ', H', I', k _ _ z⟩
  | ret v => exact z
  | brk => exact z
  | cont => exact z
theorem FT.keep {H H' : Hp} {a d : Addr} {y : V} {z : List Int} (h : FT H y z) (hH : HandAt H a d) (k : Keep a H H') : FT H' y z := by
  obtain ⟨c, e, h⟩ := h
  obtain ⟨ds, i0, z1, _⟩ := hH
  exact ⟨c, e, k _ _ (ne_of h z1 (by intro z; cases z)) h⟩
theorem FT.but {H H' : Hp} {D : Addr} {xs : List V} {y : V} {z : List Int} (h : FT H y z) (e : H D = some (.lst xs)) (k : ∀ b o, b ≠ D → H b = some o → H' b = some o) : FT H' y z :=
  stab_FT D H H' y z k (h.neL e) h
theorem lst_ne {H : Hp} {a d R : Addr} {ls : List Int} (hH : HandAt H a d) (h : H R = some (.lst (ls.map V.int))) : R ≠ a := by
  obtain ⟨ds, i0, z1, z2, _⟩ := hH
  intro q
  subst q
  rw [z1] at h
  have := HO.lst.inj (Option.some.inj h)
  cases ls with
  | nil => cases this
  | cons x t => cases (List.cons.inj this).1
theorem cut_to {xs : List V} {k : Nat} (hk : k ≤ xs.length) : cutV xs none (some (k : Int)) = xs.take k := by
  unfold cutV
  rw [HT.sIx_none, HT.sIx_nat, List.drop_zero, Nat.sub_zero, Nat.min_eq_left hk]
theorem cut_from {xs : List V} {k : Nat} (hk : k ≤ xs.length) : cutV xs (some (k : Int)) none = xs.drop k := by
  unfold cutV
  rw [HT.sIx_none, HT.sIx_nat, Nat.min_eq_left hk]
  exact List.take_of_length_le (by rw [List.length_drop]; omega)
theorem slA_is {K : PySem.W.Frag} {H : Hp} {a : Addr} {xs : List V} {lo hi : Option Int} {Q : VK} (h : H a = some (.tup xs)) (k : ∀ r H', Same H H' → H' r = some (.tup (cutV xs lo hi)) → Q (.ref r) H') : rSlA K (.ref a) lo hi H Q := by
  refine ⟨a, xs, rfl, SqT.of h, fun hw => ?_, fun _ r hr => k r _ (same_new hr) upd_same⟩
  have e : cutV xs lo hi = xs := by
    unfold cutV
    rw [hw.1, hw.2, List.drop_zero, Nat.sub_zero, List.take_length]
  exact k a H (Same.refl H) (by rw [e]; exact h)
def Lets (p : Int) (ls : List Int) : Prop := ∀ x ∈ ls, 0 ≤ x ∧ x < p
section
variable {P : Program} {w : World} {K : PySem.W.Frag} {mg : Str → Option Value} {base : Heap} {S : Addr}
def spLM : Sp := fun vs H Q _ => ∃ (a d : Addr) (p : Int) (m n : Nat), vs = [.ref a, .int p, .int m, .int n] ∧ HandAt H a d ∧ p ∈ primes ∧ m ≤ 100 ∧ n ≤ 100 ∧
  ∀ v rows H', MT H' v rows → rows.length = m → (∀ r ∈ rows, Ltr p n r) → HandAt H' a d → Keep a H H' → Q v H'
theorem scLM : FnScope ["hand", "p", "rows", "columns", "kind", "found", "k", "row", "j"] ["hand", "p", "rows", "columns"] (defScope s_law_matrix) := ⟨rfl, rfl, rfl, by decide +kernel, rfl, by decide +kernel, by decide +kernel⟩
theorem rep_one {x : V} : ∀ n : Nat, (List.replicate n [x]).flatten = List.replicate n x
  | 0 => rfl
  | n + 1 => by
    rw [List.replicate_succ, List.flatten_cons, rep_one n, List.replicate_succ]
    rfl
theorem rep_int (n : Nat) : (List.replicate n [V.int 0]).flatten = (List.replicate n (0 : Int)).map V.int := by
  rw [rep_one, List.map_replicate]
theorem rep_lets {p : Int} (hp : 0 < p) (n : Nat) : Lets p (List.replicate n 0) := fun x hx => by
  rw [(List.mem_replicate.mp hx).2]
  omega
theorem take_lets {p : Int} {ls : List Int} {n : Nat} (h : Lets p ls) (hn : n ≤ ls.length) : Ltr p n (ls.take n) :=
  ⟨by rw [List.length_take]; omega, fun x hx => h x (List.mem_of_mem_take hx)⟩
/-- the rows that stand in the list L -/
def Rws (p : Int) (n : Nat) (L : Addr) (i : Nat) (H : Hp) : Prop := ∃ ts rs, H L = some (.lst ts) ∧ Paired (FT H) ts rs ∧ rs.length = i ∧ ∀ r ∈ rs, Ltr p n r
theorem Rws.keep {p : Int} {n i : Nat} {L a d : Addr} {H H' : Hp} (h : Rws p n L i H) (ne : L ≠ a) (hH : HandAt H a d) (k : Keep a H H') : Rws p n L i H' := by
  obtain ⟨ts, rs, e, q, l, z⟩ := h
  exact ⟨ts, rs, k _ _ ne e, paired_mono (fun _ _ f => f.keep hH k) q, l, z⟩
theorem ok_LM {f fT : Addr} {fd fdT : FuncData} (F : FnS K "_law_matrix" s_law_matrix f fd) (B : Blt4 mg) (CT : Cal P w K mg base 1 "_law_take" fT fdT ["hand", "many"] spTake) : FnOk P w K mg base (L2.CX P w) 2 f fd ["hand", "p", "rows", "columns"] spLM := by
  refine F.ok scLM (fun vs H Q E h => ?_) (fun cdv A outer s H vs Q E hr h => ?_)
  · obtain ⟨a, d, p, m, n, rfl, _⟩ := h
    rfl
  · obtain ⟨a, d, p, m, n, rfl, hH, hp, hm, hn, k⟩ := h
    have nd := scLM.nd
    have hb := fld_le hp
    refine ⟨_, (pss_cons (ps_set (i := 4) nd rfl (Or.inr rfl) (pe_cal CT (hr.mono (by decide)) (pa_cons (pv 0) (pa_cons pe_int pa_nil)) passU))
      (pss_cons (ps_set (i := 5) nd rfl (Or.inr rfl) (pe_lst pa_nil))
      (pss_cons (ps_for (passes_of rfl) rfl (pi_range1 rfl B.range (pa_cons (pv 2) pa_nil)) (pg_name (i := 6) nd rfl (Or.inl rfl)) (pss_cons (ps_setLc (i := 7) (own := [("j", 8)]) (g := gName 8) (by rfl) nd rfl rfl (sw_true rfl rfl rfl (by decide +kernel)) (pi_range1 rfl B.range (pa_cons (pv 3) pa_nil)) (blkOk_by (own := [("j", 8)]) (N := ["hand", "p", "rows", "columns", "kind", "found", "k", "row", "j"]) (sc := defScope s_law_matrix) (by decide +kernel)) (fun _ _ _ _ _ => (pg_name (i := 8) nd rfl (Or.inl rfl))) (fun _ _ _ _ _ => pts_nil) (fun _ _ _ _ _ => (pe_ix (ix_listK (K := K)) (pe_lst (pa_cons (pe_cal CT (hr.mono (by decide)) (pa_cons (pv 0) (pa_cons (pv 1) pa_nil)) passU) (pa_cons (pe_cal CT (hr.mono (by decide)) (pa_cons (pv 0) (pa_cons pe_int pa_nil)) passU) pa_nil))) (pe_callTy call_int1 (by rfl) B.int (by decide +kernel) (pa_cons (pe_cmpR op_eq (pv 4) pe_int (nomark _)) pa_nil)) (fun _ _ => rfl))))
      (pss_cons (ps_wk (ps_if (PW.pt (pw_and (pt_cmpR op_eq (pv 4) pe_int (nomark _)) (pw_and1 (pt_cmpR op_gt (pv 6) pe_int (nomark _))))) (pss_one (ps_setLc (i := 7) (own := [("j", 8)]) (g := gName 8) (by rfl) nd rfl rfl (sw_true rfl rfl rfl (by decide +kernel)) (pi_range1 rfl B.range (pa_cons (pv 3) pa_nil)) (blkOk_by (own := [("j", 8)]) (N := ["hand", "p", "rows", "columns", "kind", "found", "k", "row", "j"]) (sc := defScope s_law_matrix) (by decide +kernel)) (fun _ _ _ _ _ => (pg_name (i := 8) nd rfl (Or.inl rfl))) (fun _ _ _ _ _ => pts_nil) (fun _ _ _ _ _ => (pe_op op_modN (pe_callTy call_int1 (by rfl) B.int (by decide +kernel) (pa_cons (pe_op op_add (pe_op op_mul (pe_ix (ix_tupK (K := K)) (pe_ix (ix_listK (K := K)) (pv 5) pe_int (fun _ _ => rfl)) (pv 8) (fun _ _ => rfl)) pe_int) (pe_op op_mul (pe_ix (ix_tupK (K := K)) (pe_ix (ix_listK (K := K)) (pv 5) pe_int (fun _ _ => rfl)) (pv 8) (fun _ _ => rfl)) (pe_op op_sub (pv 1) pe_int))) pa_nil)) (pv 1))))) pss_nil))
      (pss_cons (ps_wk (ps_if (PW.pt (pw_and (pt_cmpR op_eq (pv 4) pe_int (nomark _)) (pw_and1 (pt_cmpR op_eq (pe_cal CT (hr.mono (by decide)) (pa_cons (pv 0) (pa_cons pe_int pa_nil)) passU) pe_int (nomark _))))) (pss_one (ps_set (i := 7) nd rfl (Or.inl rfl) (pe_op op_rep (pe_lst (pa_cons pe_int pa_nil)) (pv 3)))) pss_nil))
      (pss_cons (ps_wk (ps_if (pt_cmpR op_eq (pv 4) pe_int (nomark _)) (pss_one (ps_set (i := 7) nd rfl (Or.inl rfl) (pe_op op_cat (pe_op op_rep (pe_lst (pa_cons pe_int pa_nil)) (pe_callB (call_min2 rfl) (by rfl) B.min (by decide +kernel) (pa_cons (pv 3) (pa_cons (pe_cal CT (hr.mono (by decide)) (pa_cons (pv 0) (pa_cons (pe_op op_add (pv 3) pe_int) pa_nil)) passU) pa_nil)))) (pv 7)))) pss_nil))
      (pss_one (ps_expr (pe_bm PySem.F.plainAttrs_list PySem.F.slot_list_append PySem.F.type_list_append mt_append (pv 5) (pa_cons (pe_callTy (tup_ofK (K := K)) (by rfl) B.tuple (by decide +kernel) (pa_cons (pe_slice (sl_listK (K := K)) (pv 7) po_none (po_some (pv 3))) pa_nil)) pa_nil)))))))))
      (pss_one (ps_ret (pe_callTy (tup_ofK (K := K)) (by rfl) B.tuple (by decide +kernel) (pa_cons (pv 5) pa_nil))))))), ?_⟩
    refine ⟨_, rfl, a, d, 5, rfl, by decide, hH, fun kind H1 c0 c1 hH1 k1 => ⟨(by show 0 ≤ sizeLine; decide), fun L hL => ?_⟩⟩
    have neL := (hH1.ne hL).1.symm
    refine ⟨_, rfl, (m : Int), rfl, by omega, by omega, for_range (lo := 0) (n := m) (fun i σ H' => ∃ (kv rv jv : Option V), σ = [some (.ref a), some (.int p), some (.int m), some (.int n), some (.int kind), some (.ref L), kv, rv, jv] ∧ HandAt H' a d ∧ Keep a H H' ∧ Rws p n L i H')
      ⟨none, none, none, rfl, hH1.new hL, k1.trans (Keep.new hL), [], [], upd_same, .nil, rfl, fun r hr => nomatch hr⟩ ?_ ?_⟩
    · rintro i σ H2 hi ⟨kv, rv, jv, rfl, hH2, k2, hR2⟩
      -- a row
      refine ⟨_, rfl, (n : Int), rfl, by omega, by omega, fun D hD => lc_range (lo := 0) (n := n) (fun j H' => HandAt H' a d ∧ Keep a H2 H' ∧ ∃ ls : List Int, H' D = some (.lst (ls.map V.int)) ∧ ls.length = j ∧ Lets p ls)
        ⟨hH2.new hD, Keep.new hD, [], upd_same, rfl, fun l hl => nomatch hl⟩ ?_ ?_⟩
      · rintro j H3 hj ⟨hH3, k3, ls, e3, l3, a3⟩
        refine ⟨rfl, _, rfl, _, rfl, a, d, p, rfl, by omega, hH3, fun r1 H4 x0 x1 hH4 k4 => ⟨_, rfl, a, d, 2, rfl, by decide, hH4, fun r2 H5 y0 y1 hH5 k5 => ⟨(by show 2 ≤ sizeLine; decide), fun Z hZ => ?_⟩⟩⟩
        have hH6 := hH5.new (o := .lst [.int r1, .int r2]) hZ
        have naD := (hH2.ne hD).1.symm
        have ndD := (hH2.ne hD).2.symm
        have kz : Keep a H3 (upd H5 Z (.lst [.int r1, .int r2])) := k4.trans (k5.trans (Keep.new hZ))
        have eZ : upd H5 Z (.lst [.int r1, .int r2]) Z = some (.lst [.int r1, .int r2]) := upd_same
        have e6 := kz _ _ naD e3
        generalize upd H5 Z (.lst [.int r1, .int r2]) = H6 at hH6 kz eZ e6 ⊢
        have fin : ∀ x : Int, 0 ≤ x → x < p → ∃ acc, H6 D = some (.lst acc) ∧ acc.length < sizeLine ∧ HandAt (upd H6 D (.lst (acc ++ [.int x]))) a d ∧ Keep a H2 (upd H6 D (.lst (acc ++ [.int x]))) ∧ ∃ ls : List Int, upd H6 D (.lst (acc ++ [.int x])) D = some (.lst (ls.map V.int)) ∧ ls.length = j + 1 ∧ Lets p ls := by
          intro x h0 h1
          refine ⟨_, e6, by rw [List.length_map]; exact small1000 (by omega), hH6.put naD.symm ndD.symm, fun b o hb e => ?_, ls ++ [x], by rw [upd_same, List.map_append]; rfl, by rw [List.length_append, l3]; rfl, fun l hl => ?_⟩
          · rw [upd_ne (ne_of_none e hD)]
            exact kz _ _ hb (k3 _ _ hb e)
          · rcases List.mem_append.mp hl with h | h
            · exact a3 l h
            · rw [List.mem_singleton.mp h]
              exact ⟨h0, h1⟩
        refine ⟨_, rfl, rfl, .inr ⟨_, rfl, ?_⟩⟩
        by_cases hk : kind = 0
        · rw [decide_eq_true (by rw [hk])]
          exact ⟨Z, _, _, .int r2, rfl, rfl, SqL.of eZ, rfl, fin r2 y0 (by omega)⟩
        · rw [decide_eq_false (fun z => hk (V.int.inj z))]
          exact ⟨Z, _, _, .int r1, rfl, rfl, SqL.of eZ, rfl, fin r1 x0 x1⟩
      · rintro H3 ⟨hH3, k3, ls, e3, l3, a3⟩
        -- what stands of the row behind each of the three ifs
        refine ⟨fun σ H' => ∃ (R : Addr) (ls : List Int) (jv : Option V), σ = [some (.ref a), some (.int p), some (.int m), some (.int n), some (.int kind), some (.ref L), some (.int (0 + (i : Int))), some (.ref R), jv] ∧ HandAt H' a d ∧ Keep a H H' ∧ Rws p n L i H' ∧ H' R = some (.lst (ls.map V.int)) ∧ n ≤ ls.length ∧ ls.length ≤ 200 ∧ Lets p ls, ?_, ?_⟩
        · have h3 := hR2.keep neL hH2 k3
          refine ⟨_, rfl, rfl, _, rfl, iteD (fun hk => ?_) (fun hk => ?_)⟩
          · refine ⟨_, rfl, _, _, rfl, rfl, _, rfl, iteD (fun h1 => ?_) (fun h1 => ?_)⟩
            · obtain ⟨ts, rs, eL, pr, lr, al⟩ := h3
              refine ⟨_, rfl, (n : Int), rfl, by omega, by omega, fun D2 hD2 => lc_range (lo := 0) (n := n) (fun j H' => HandAt H' a d ∧ Keep a H3 H' ∧ ∃ ls : List Int, H' D2 = some (.lst (ls.map V.int)) ∧ ls.length = j ∧ Lets p ls)
                ⟨hH3.new hD2, Keep.new hD2, [], upd_same, rfl, fun l hl => nomatch hl⟩ ?_ ?_⟩
              · rintro j H4 hj ⟨hH4, k4, us, e4, l4, a4⟩
                have eL4 := k4 _ _ neL eL
                have pr4 := paired_mono (fun _ _ f => f.keep hH3 k4) pr
                obtain ⟨r0, hr0⟩ : ∃ r0, rs[0]? = some r0 := ⟨_, List.getElem?_eq_getElem (by omega)⟩
                obtain ⟨r1, hr1⟩ : ∃ r1, rs[1]? = some r1 := ⟨_, List.getElem?_eq_getElem (by omega)⟩
                obtain ⟨t0, ht0, c0', rfl, ec0⟩ := paired_of pr4 hr0
                obtain ⟨t1, ht1, c1', rfl, ec1⟩ := paired_of pr4 hr1
                have L0 := al r0 (List.mem_of_getElem? hr0)
                have L1 := al r1 (List.mem_of_getElem? hr1)
                have b0 := L0.bd hj
                have b1 := L1.bd hj
                have naD := (hH3.ne hD2).1.symm
                have ndD := (hH3.ne hD2).2.symm
                have bq := fm_bd (at0 r0 j * 2 + at0 r1 j * (p - 1)) (show 0 < p by omega)
                refine ⟨rfl, _, rfl, L, _, _, _, rfl, rfl, SqL.of eL4, atI_nat (j := 0) ht0, _, rfl, c0', _, _, _, rfl, rfl, SqT.of ec0, (by rw [Int.zero_add]; exact atI_nat (take_map_at n (r := r0) (i := j) (by rw [L0.1]; exact hj))), _, _, rfl, rfl, .inr ⟨by decide, by decide⟩, ?_⟩
                refine ⟨_, rfl, L, _, _, _, rfl, rfl, SqL.of eL4, atI_nat (j := 1) ht1, _, rfl, c1', _, _, _, rfl, rfl, SqT.of ec1, (by rw [Int.zero_add]; exact atI_nat (take_map_at n (r := r1) (i := j) (by rw [L1.1]; exact hj))), _, rfl, _, _, rfl, rfl, _, _, rfl, rfl, .inr ⟨by omega, by omega⟩, _, _, rfl, rfl, .inl ⟨_, rfl, _, rfl, _, p, rfl, rfl, by omega, ?_⟩⟩
                refine ⟨_, e4, by rw [List.length_map]; exact small1000 (by omega), hH4.put naD.symm ndD.symm, fun b o hb e => ?_, us ++ [_], by rw [upd_same, List.map_append]; rfl, by rw [List.length_append, l4]; rfl, fun l hl => ?_⟩
                · rw [upd_ne (ne_of_none e hD2)]
                  exact k4 _ _ hb e
                · rcases List.mem_append.mp hl with h | h
                  · exact a4 l h
                  · rw [List.mem_singleton.mp h]
                    exact bq
              · rintro H4 ⟨hH4, k4, us, e4, l4, a4⟩
                exact ⟨D2, us, _, rfl, hH4, k2.trans (k3.trans k4), Rws.keep ⟨ts, rs, eL, pr, lr, al⟩ neL hH3 k4, e4, by omega, by omega, a4⟩
            · exact ⟨D, ls, _, rfl, hH3, k2.trans k3, h3, e3, by omega, by omega, a3⟩
          · exact ⟨D, ls, _, rfl, hH3, k2.trans k3, h3, e3, by omega, by omega, a3⟩
        · rintro σ H4 ⟨R, us, jv, rfl, hH4, k4, h4, e4, n4, m4, a4⟩
          refine ⟨fun σ H' => ∃ (R : Addr) (ls : List Int) (jv : Option V), σ = [some (.ref a), some (.int p), some (.int m), some (.int n), some (.int kind), some (.ref L), some (.int (0 + (i : Int))), some (.ref R), jv] ∧ HandAt H' a d ∧ Keep a H H' ∧ Rws p n L i H' ∧ H' R = some (.lst (ls.map V.int)) ∧ n ≤ ls.length ∧ ls.length ≤ 200 ∧ Lets p ls, ?_, ?_⟩
          · have neR := lst_ne hH4 e4
            refine ⟨_, rfl, rfl, _, rfl, iteD (fun hk => ?_) (fun hk => ?_)⟩
            · refine ⟨_, rfl, a, d, 2, rfl, by decide, hH4, fun r5 H5 x0 x1 hH5 k5 => ⟨rfl, _, rfl, iteD (fun h1 => ?_) (fun h1 => ?_)⟩⟩
              · refine ⟨(by show 1 ≤ sizeLine; decide), fun Z hZ => ⟨_, rfl, Z, (n : Int), _, rfl, rfl, upd_same, by omega, by omega, ?_, fun q hq => ?_⟩⟩
                · show 1 * (n : Int).toNat ≤ sizeLine
                  exact Nat.le_of_lt (small1000 (by omega))
                · rw [Int.toNat_natCast, rep_int]
                  have kz : Keep a H5 (upd H5 Z (.lst [.int 0])) := Keep.new hZ
                  have h6 := hH5.new (o := .lst [.int 0]) hZ
                  generalize upd H5 Z (.lst [.int 0]) = H6 at kz h6 hq ⊢
                  have kq : Keep a H6 (upd H6 q (.lst ((List.replicate n (0 : Int)).map V.int))) := Keep.new hq
                  refine ⟨q, List.replicate n 0, _, rfl, h6.new hq, k4.trans (k5.trans (kz.trans kq)), ((h4.keep neL hH4 k5).keep neL hH5 kz).keep neL h6 kq, upd_same, ?_, ?_, rep_lets (by omega) n⟩
                  · rw [List.length_replicate]
                    exact Nat.le_refl n
                  · rw [List.length_replicate]
                    omega
              · exact ⟨R, us, _, rfl, hH5, k4.trans k5, h4.keep neL hH4 k5, k5 _ _ neR e4, n4, m4, a4⟩
            · exact ⟨R, us, _, rfl, hH4, k4, h4, e4, n4, m4, a4⟩
          · rintro σ H5 ⟨R5, us5, jv5, rfl, hH5, k5, h5, e5, n5, m5, a5⟩
            refine ⟨fun σ H' => ∃ (R : Addr) (ls : List Int) (jv : Option V), σ = [some (.ref a), some (.int p), some (.int m), some (.int n), some (.int kind), some (.ref L), some (.int (0 + (i : Int))), some (.ref R), jv] ∧ HandAt H' a d ∧ Keep a H H' ∧ Rws p n L i H' ∧ H' R = some (.lst (ls.map V.int)) ∧ n ≤ ls.length ∧ ls.length ≤ 400 ∧ Lets p ls, ?_, ?_⟩
            · have neR := lst_ne hH5 e5
              refine ⟨_, rfl, rfl, _, rfl, iteD (fun hk => ?_) (fun hk => ?_)⟩
              · refine ⟨(by show 1 ≤ sizeLine; decide), fun Z hZ => ?_⟩
                have kz : Keep a H5 (upd H5 Z (.lst [.int 0])) := Keep.new hZ
                have h6 := hH5.new (o := .lst [.int 0]) hZ
                have eZ : upd H5 Z (.lst [.int 0]) Z = some (.lst [.int 0]) := upd_same
                have neZ : Z ≠ a := (hH5.ne hZ).1.symm
                generalize upd H5 Z (.lst [.int 0]) = H6 at kz h6 eZ ⊢
                refine ⟨_, rfl, _, rfl, _, rfl, _, _, rfl, rfl, a, d, (n : Int) + 1, rfl, by omega, h6, fun r5 H7 x0 x1 hH7 k7 => ⟨(n : Int), r5, rfl, ?_⟩⟩
                obtain ⟨mm, hmm, hle⟩ : ∃ mm : Nat, (if r5 < (n : Int) then r5 else (n : Int)) = (mm : Int) ∧ mm ≤ n := by
                  split
                  · exact ⟨r5.toNat, by omega, by omega⟩
                  · exact ⟨n, rfl, Nat.le_refl n⟩
                rw [hmm]
                refine ⟨Z, (mm : Int), _, rfl, rfl, k7 _ _ neZ eZ, by omega, by omega, ?_, fun q hq => ?_⟩
                · show 1 * (mm : Int).toNat ≤ sizeLine
                  exact Nat.le_of_lt (small1000 (by omega))
                · rw [Int.toNat_natCast, rep_int]
                  have h57 := kz.trans k7
                  have e7 := h57 _ _ neR e5
                  have h7 := (h5.keep neL hH5 kz).keep neL h6 k7
                  have kq : Keep a H7 (upd H7 q (.lst ((List.replicate mm (0 : Int)).map V.int))) := Keep.new hq
                  have h8 := hH7.new (o := .lst ((List.replicate mm (0 : Int)).map V.int)) hq
                  have e8 := same_new (o := .lst ((List.replicate mm (0 : Int)).map V.int)) hq _ _ e7
                  have eq : upd H7 q (.lst ((List.replicate mm (0 : Int)).map V.int)) q = some (.lst ((List.replicate mm (0 : Int)).map V.int)) := upd_same
                  have r8 := h7.keep neL hH7 kq
                  generalize upd H7 q (.lst ((List.replicate mm (0 : Int)).map V.int)) = H8 at kq h8 e8 eq r8 ⊢
                  refine ⟨_, rfl, q, R5, _, _, rfl, rfl, eq, e8, ?_, fun z hz => ?_⟩
                  · rw [List.length_map, List.length_replicate, List.length_map]
                    exact Nat.le_of_lt (small1000 (by omega))
                  · rw [← List.map_append]
                    refine ⟨z, _, _, rfl, h8.new hz, k5.trans (h57.trans (kq.trans (Keep.new hz))), r8.keep neL h8 (Keep.new hz), upd_same, ?_, ?_, fun l hl => ?_⟩
                    · rw [List.length_append]
                      omega
                    · rw [List.length_append, List.length_replicate]
                      omega
                    · rcases List.mem_append.mp hl with h | h
                      · exact rep_lets (by omega) mm l h
                      · exact a5 l h
              · exact ⟨R5, us5, _, rfl, hH5, k5, h5, e5, n5, by omega, a5⟩
            · rintro σ H6 ⟨R6, us6, jv6, rfl, hH6, k6, h6, e6, n6, m6, a6⟩
              obtain ⟨ts, rs, eL, pr, lr, al⟩ := h6
              refine ⟨_, rfl, .inl ⟨rfl, _, SqL.of eL⟩, ?_⟩
              refine ⟨_, rfl, _, rfl, (n : Int), rfl, R6, _, rfl, SqL.of e6, fun q hq => ?_⟩
              rw [cut_to (by rw [List.length_map]; exact n6), ← List.map_take]
              have s7 : Same H6 (upd H6 q (.lst ((us6.take n).map V.int))) := same_new hq
              have eq : upd H6 q (.lst ((us6.take n).map V.int)) q = some (.lst ((us6.take n).map V.int)) := upd_same
              have h7 := hH6.new (o := .lst ((us6.take n).map V.int)) hq
              generalize upd H6 q (.lst ((us6.take n).map V.int)) = H7 at s7 eq h7 ⊢
              refine ⟨q, _, rfl, .inl ⟨SqL.of eq, fun z hz => ?_⟩⟩
              have s8 : Same H7 (upd H7 z (.tup ((us6.take n).map V.int))) := same_new hz
              have f8 : FT (upd H7 z (.tup ((us6.take n).map V.int))) (.ref z) (us6.take n) := FT.new
              have h8 := h7.new (o := .tup ((us6.take n).map V.int)) hz
              generalize upd H7 z (.tup ((us6.take n).map V.int)) = H8 at s8 f8 h8 ⊢
              have s68 := s7.trans s8
              have eL8 := s68 _ _ eL
              have ndL := (hH1.ne hL).2.symm
              have kb : ∀ b o, b ≠ L → H8 b = some o → upd H8 L (.lst (ts ++ [.ref z])) b = some o := fun b o n h => by rw [upd_ne n]; exact h
              refine ⟨L, ts, _, rfl, rfl, eL8, by rw [paired_len pr]; exact small1000 (by omega), _, _, _, rfl, h8.put neL.symm ndL.symm, fun b o hb e => ?_, ts ++ [.ref z], rs ++ [us6.take n], upd_same, ?_, by rw [List.length_append, lr]; rfl, fun r hr => ?_⟩
              · rw [upd_ne (ne_of_none (k1 _ _ hb e) hL)]
                exact s68 _ _ (k6 _ _ hb e)
              · exact paired_app (paired_mono (fun _ _ f => (f.same s68).but eL8 kb) pr) (.cons (f8.but eL8 kb) .nil)
              · rcases List.mem_append.mp hr with h | h
                · exact al r h
                · rw [List.mem_singleton.mp h]
                  exact take_lets a6 n6
    · rintro σ H2 ⟨kv, rv, jv, rfl, hH2, k2, ts, rs, eL, pr, lr, al⟩
      refine ⟨_, rfl, L, ts, rfl, .inl ⟨SqL.of eL, fun q hq => ?_⟩⟩
      refine k (.ref q) rs _ ⟨q, ts, rfl, upd_same, paired_mono (fun _ _ f => f.same (same_new hq)) pr⟩ lr al (hH2.new hq) (k2.trans (Keep.new hq))
end
end WU

set_option maxRecDepth 100000
set_option maxHeartbeats 8000000
namespace WU
open PySem PySem.Spec PyProof.Rows L2
theorem catA_is {K : PySem.W.Frag} {H : Hp} {a b : Addr} {xs ys : List V} {Q : VK} (ha : H a = some (.tup xs)) (hb : H b = some (.tup ys)) (hz : xs.length + ys.length ≤ sizeLine) (k : ∀ r H', Same H H' → H' r = some (.tup (xs ++ ys)) → Q (.ref r) H') : rCatA K (.ref a) (.ref b) H Q := by
  refine ⟨a, b, xs, ys, rfl, rfl, SqT.of ha, SqT.of hb, hz, fun e => ?_, fun _ e => ?_, fun _ _ p hp => k p _ (same_new hp) upd_same⟩
  · subst e
    exact k b H (Same.refl H) hb
  · subst e
    exact k a H (Same.refl H) (by rw [List.append_nil]; exact ha)
/-- data that stands whatever the hand does -/
def DpK (K : PySem.W.Frag) (a : Addr) (H : Hp) (v : V) (d : PyData) : Prop := ∀ H', Keep a H H' → Dp K H' v d
section
variable {K : PySem.W.Frag} {a d : Addr} {H H' : Hp}
theorem DpK.dp {v : V} {e : PyData} (h : DpK K a H v e) : Dp K H v e := h H Keep.refl
theorem DpK.keep {v : V} {e : PyData} (h : DpK K a H v e) (k : Keep a H H') : DpK K a H' v e := fun H2 k2 => h H2 (k.trans k2)
theorem dpk_flat {v : V} {e : PyData} (h : ∀ H', Dp K H' v e) : DpK K a H v e := fun H' _ => h H'
theorem dpk_all : ∀ {ts : List V} {ds : List PyData}, Paired (DpK K a H) ts ds → Keep a H H' → DpAll K H' ts ds
  | _, _, .nil, _ => .nil
  | _, _, .cons h t, k => .cons (h _ k) (dpk_all t k)
theorem dpk_tup {q : Addr} {ts : List V} {ds : List PyData} (hq : H q = some (.tup ts)) (ne : q ≠ a) (h : Paired (DpK K a H) ts ds) : DpK K a H (.ref q) (.tuple ds) := fun H' k => .tup (SqT.of (k _ _ ne hq)) (dpk_all h k)
theorem dpk_lst {q : Addr} {ts : List V} {ds : List PyData} (hq : H q = some (.lst ts)) (ne : q ≠ a) (h : Paired (DpK K a H) ts ds) : DpK K a H (.ref q) (.list ds) := fun H' k => .lst (SqL.of (k _ _ ne hq)) (dpk_all h k)
theorem tup_ne (hH : HandAt H a d) {q : Addr} {ts : List V} (h : H q = some (.tup ts)) : q ≠ a := by
  obtain ⟨ds, i0, z1, _⟩ := hH
  exact ne_of h z1 (by intro z; cases z)
theorem dpk_ints : ∀ ns : List Int, Paired (DpK K a H) (ns.map V.int) (ns.map PyData.int)
  | [] => .nil
  | n :: ns => .cons (dpk_flat fun _ => .int n) (dpk_ints ns)
theorem FT.dpk (hH : HandAt H a d) {y : V} {z : List Int} (h : FT H y z) : DpK K a H y (rowP z) := by
  obtain ⟨c, rfl, h⟩ := h
  exact dpk_tup h (tup_ne hH h) (dpk_ints z)
theorem fts_dpk (hH : HandAt H a d) : ∀ {ys : List V} {zs : List (List Int)}, Paired (FT H) ys zs → Paired (DpK K a H) ys (zs.map rowP)
  | _, _, .nil => .nil
  | _, _, .cons h t => .cons (h.dpk hH) (fts_dpk hH t)
theorem MT.dpk (hH : HandAt H a d) {v : V} {rows : List (List Int)} (h : MT H v rows) : DpK K a H v (MD rows) := by
  obtain ⟨c, ts, rfl, h, p⟩ := h
  exact dpk_tup h (tup_ne hH h) (fts_dpk hH p)
theorem MT.keep (hH : HandAt H a d) {v : V} {rows : List (List Int)} (h : MT H v rows) (k : Keep a H H') : MT H' v rows := by
  obtain ⟨c, ts, rfl, h, p⟩ := h
  exact ⟨c, ts, rfl, k _ _ (tup_ne hH h) h, paired_mono (fun _ _ f => f.keep hH k) p⟩
end
/-- what makes a row no row -/
def BadR (p : Int) (n m : Nat) (e : PyData) : Prop := (∀ w, rowD p w e = false) ∨ (2 ≤ m ∧ ∃ t : List Int, e = rowP t ∧ t.length ≠ n)
theorem bad_mat {p : Int} {n : Nat} {rows : List (List Int)} {k : Nat} {e : PyData} (hk : k < rows.length) (hR : ∀ r ∈ rows, Ltr p n r) (h : BadR p n rows.length e) :
    matD p (widD (.tuple ((rows.map rowP).take k ++ [e] ++ (rows.map rowP).drop (k + 1)))) (.tuple ((rows.map rowP).take k ++ [e] ++ (rows.map rowP).drop (k + 1))) = false := by
  rw [Bool.eq_false_iff]
  intro z
  have za := List.all_eq_true.mp (show ((rows.map rowP).take k ++ [e] ++ (rows.map rowP).drop (k + 1)).all (rowD p _) = true from z)
  rcases h with h | ⟨h2, t, rfl, ht⟩
  · have := za e (List.mem_append.mpr (.inl (List.mem_append.mpr (.inr (List.mem_singleton.mpr rfl)))))
    rw [h] at this
    cases this
  · -- the width is the first row's
    have zt := za (rowP t) (List.mem_append.mpr (.inl (List.mem_append.mpr (.inr (List.mem_singleton.mpr rfl)))))
    have len : ∀ {w : Int} {u : List Int}, rowD p w (rowP u) = true → (u.length : Int) = w := fun {w u} h => by
      have h' : (decide (((u.map PyData.int).length : Int) = w) && (u.map PyData.int).all (belD p)) = true := h
      have := of_decide_eq_true (and2 h').1
      rw [List.length_map] at this
      exact this
    have e1 := len zt
    have : ∃ u : List Int, u.length = n ∧ rowP u ∈ (rows.map rowP).take k ++ [rowP t] ++ (rows.map rowP).drop (k + 1) := by
      cases k with
      | zero =>
        refine ⟨rows[1]'(by omega), (hR _ (List.getElem_mem _)).1, List.mem_append.mpr (.inr ?_)⟩
        have : (rows.map rowP)[1]? = some (rowP (rows[1]'(by omega))) := by rw [List.getElem?_map, List.getElem?_eq_getElem (by omega)] <;> rfl
        have h3 : ((rows.map rowP).drop (0 + 1))[0]? = some (rowP (rows[1]'(by omega))) := by rw [List.getElem?_drop]; exact this
        exact List.mem_of_getElem? h3
      | succ k =>
        refine ⟨rows[0]'(by omega), (hR _ (List.getElem_mem _)).1, List.mem_append.mpr (.inl (List.mem_append.mpr (.inl ?_)))⟩
        have : (rows.map rowP)[0]? = some (rowP (rows[0]'(by omega))) := by rw [List.getElem?_map, List.getElem?_eq_getElem (by omega)] <;> rfl
        have h3 : ((rows.map rowP).take (k + 1))[0]? = some (rowP (rows[0]'(by omega))) := by rw [List.getElem?_take, if_pos (by omega)]; exact this
        exact List.mem_of_getElem? h3
    obtain ⟨u, hu, hm⟩ := this
    have e2 := len (za _ hm)
    exact ht (by omega)
theorem bel_not {p : Int} {e : PyData} (h : belD p e = false) {xs ys : List PyData} (w : Int) : rowD p w (.tuple (xs ++ [e] ++ ys)) = false := by
  show (decide (((xs ++ [e] ++ ys).length : Int) = w) && (xs ++ [e] ++ ys).all (belD p)) = false
  rw [List.all_append, List.all_append, List.all_cons, h]
  simp
theorem bel_p {p : Int} : belD p (.int p) = false := by
  show (decide (0 ≤ p) && decide (p < p)) = false
  rw [decide_eq_false (show ¬ p < p by omega), Bool.and_false]
theorem bel_m {p : Int} : belD p (.int (-1)) = false := rfl
/-- a new object is there, and the hand as it was -/
structure New (a d : Addr) (H : Hp) (p : Addr) (o : HO) (H' : Hp) : Prop where
  same : Same H H'
  at_ : H' p = some o
  hand : HandAt H' a d
  ne : p ≠ a
theorem mk_new {a d : Addr} {H : Hp} {p : Addr} {o : HO} (hH : HandAt H a d) (hp : H p = none) : New a d H p o (upd H p o) := ⟨same_new hp, upd_same, hH.new hp, (hH.ne hp).1.symm⟩
section
variable {P : Program} {w : World} {K : PySem.W.Frag} {mg : Str → Option Value} {base : Heap} {S : Addr}
def spBad (K : PySem.W.Frag) : Sp := fun vs H Q _ => ∃ (a d : Addr) (v : V) (p : Int) (n : Nat) (rows : List (List Int)), vs = [.ref a, v, .int p] ∧ HandAt H a d ∧ MT H v rows ∧ p ∈ primes ∧ (∀ r ∈ rows, Ltr p n r) ∧ n ≤ 100 ∧ rows.length ≤ 100 ∧
  ∀ u e H', DpK K a H' u e → smallM e → matD p (widD e) e = false → HandAt H' a d → Keep a H H' → Q u H'
theorem scBad : FnScope ["hand", "rows", "p", "at", "kind", "row", "bad", "j"] ["hand", "rows", "p"] (defScope s_law_bad_matrix) := ⟨rfl, rfl, rfl, by decide +kernel, rfl, by decide +kernel, by decide +kernel⟩
theorem ok_Bad {f fT : Addr} {fd fdT : FuncData} (F : FnS K "_law_bad_matrix" s_law_bad_matrix f fd) (B : Blt4 mg) (CT : Cal P w K mg base 1 "_law_take" fT fdT ["hand", "many"] spTake) : FnOk P w K mg base (L2.CX P w) 2 f fd ["hand", "rows", "p"] (spBad K) := by
  refine F.ok scBad (fun vs H Q E h => ?_) (fun cdv A outer s H vs Q E hr h => ?_)
  · obtain ⟨a, d, v, p, n, rows, rfl, _⟩ := h
    rfl
  · obtain ⟨a, d, v, p, n, rows, rfl, hH, hM, hp, hR, hn, hm, k⟩ := h
    have nd := scBad.nd
    have hb := fld_le hp
    obtain ⟨c, ts, rfl, hc, hts⟩ := id hM
    have lt := paired_len hts
    refine ⟨_, (pss_cons (ps_set (i := 3) nd rfl (Or.inl rfl) (pe_cal CT (hr.mono (by decide)) (pa_cons (pv 0) (pa_cons (pe_callB (call_max2 rfl) (by rfl) B.max (by decide +kernel) (pa_cons pe_int (pa_cons (pe_callB (len_seqK (K := K)) (by rfl) B.len (by decide +kernel) (pa_cons (pv 1) pa_nil)) pa_nil))) pa_nil)) passU))
      (pss_cons (ps_set (i := 4) nd rfl (Or.inl rfl) (pe_cal CT (hr.mono (by decide)) (pa_cons (pv 0) (pa_cons pe_int pa_nil)) passU))
      (pss_cons (ps_if (PW.pt (pw_or (pt_cmpR op_eq (pv 4) pe_int (nomark _)) (pw_or1 (pt_cmpR op_eq (pe_callB (len_seqK (K := K)) (by rfl) B.len (by decide +kernel) (pa_cons (pv 1) pa_nil)) pe_int (nomark _))))) (pss_one (ps_ret (pe_ix (ix_listK (K := K)) (pe_lst (pa_cons (pe_callTy (list_ofK (K := K)) (by rfl) B.lst (by decide +kernel) (pa_cons (pv 1) pa_nil)) (pa_cons pe_non (pa_cons pe_int (pa_cons pe_str (pa_cons (pe_lst (pa_cons (pe_tup pa_nil) pa_nil)) (pa_cons (pe_tup (pa_cons pe_int pa_nil)) (pa_cons (pe_tup (pa_cons (pe_tup pa_nil) (pa_cons (pe_tup (pa_cons pe_int pa_nil)) pa_nil))) (pa_cons (pe_tup (pa_cons pe_bl pa_nil)) pa_nil))))))))) (pe_cal CT (hr.mono (by decide)) (pa_cons (pv 0) (pa_cons pe_int pa_nil)) passU) (fun _ _ => rfl)))) pss_nil)
      (pss_cons (ps_set (i := 5) nd rfl (Or.inl rfl) (pe_ix (ix_tupK (K := K)) (pv 1) (pv 3) (fun _ _ => rfl)))
      (pss_cons (ps_wk (ps_if (pt_cmpR op_eq (pv 4) pe_int (nomark _)) (pss_one (ps_set (i := 6) nd rfl (Or.inl rfl) (pe_callTy (list_ofK (K := K)) (by rfl) B.lst (by decide +kernel) (pa_cons (pv 5) pa_nil)))) (pss_one (ps_if (pt_cmpR op_eq (pe_callB (len_seqK (K := K)) (by rfl) B.len (by decide +kernel) (pa_cons (pv 5) pa_nil)) pe_int (nomark _)) (pss_one (ps_set (i := 6) nd rfl (Or.inl rfl) (pe_tup (pa_cons (pv 2) pa_nil)))) (pss_one (ps_if (pt_cmpR op_lt (pv 4) pe_int (nomark _)) (pss_cons (ps_set (i := 6) nd rfl (Or.inl rfl) (pe_ix (ix_listK (K := K)) (pe_lst (pa_cons (pe_op (op_catAK (K := K)) (pv 5) (pe_tup (pa_cons pe_int pa_nil))) (pa_cons (pe_slice (sl_tupAK (K := K)) (pv 5) (po_some pe_int) po_none) pa_nil))) (pe_op op_sub (pv 4) pe_int) (fun _ _ => rfl)))
      (pss_one (ps_if (pt_cmpR op_eq (pe_callB (len_seqK (K := K)) (by rfl) B.len (by decide +kernel) (pa_cons (pv 1) pa_nil)) pe_int (nomark _)) (pss_one (ps_set (i := 6) nd rfl (Or.inl rfl) (pe_tup (pa_cons (pv 2) pa_nil)))) pss_nil))) (pss_cons (ps_set (i := 7) nd rfl (Or.inl rfl) (pe_cal CT (hr.mono (by decide)) (pa_cons (pv 0) (pa_cons (pe_callB (len_seqK (K := K)) (by rfl) B.len (by decide +kernel) (pa_cons (pv 5) pa_nil)) pa_nil)) passU))
      (pss_one (ps_set (i := 6) nd rfl (Or.inl rfl) (pe_op (op_catAK (K := K)) (pe_op (op_catAK (K := K)) (pe_slice (sl_tupAK (K := K)) (pv 5) po_none (po_some (pv 7))) (pe_tup (pa_cons (pe_ix (ix_listK (K := K)) (pe_lst (pa_cons (pv 2) (pa_cons (pe_un un_neg pe_int) (pa_cons pe_bl (pa_cons pe_str (pa_cons pe_non pa_nil)))))) (pe_op op_sub (pv 4) pe_int) (fun _ _ => rfl)) pa_nil))) (pe_slice (sl_tupAK (K := K)) (pv 5) (po_some (pe_op op_add (pv 7) pe_int)) po_none)))))))))))
      (pss_one (ps_ret (pe_op (op_catAK (K := K)) (pe_op (op_catAK (K := K)) (pe_slice (sl_tupAK (K := K)) (pv 1) po_none (po_some (pv 3))) (pe_tup (pa_cons (pv 6) pa_nil))) (pe_slice (sl_tupAK (K := K)) (pv 1) (po_some (pe_op op_add (pv 3) pe_int)) po_none))))))))), ?_⟩
    refine ⟨_, rfl, _, rfl, c, ts, rfl, .inr (SqT.of hc), 1, _, rfl, ?_⟩
    obtain ⟨mm, hmm, hm1, hm2⟩ : ∃ mm : Nat, (if ((ts.length : Nat) : Int) > 1 then ((ts.length : Nat) : Int) else 1) = (mm : Int) ∧ 0 < mm ∧ (0 < ts.length → mm = ts.length) := by
      split
      · exact ⟨ts.length, rfl, by omega, fun _ => rfl⟩
      · exact ⟨1, rfl, by decide, fun _ => by omega⟩
    refine ⟨a, d, _, rfl, (by rw [hmm]; omega), hH, fun at' H1 a0 a1 hH1 k1 => ?_⟩
    rw [hmm] at a1
    refine ⟨_, rfl, a, d, 9, rfl, by decide, hH1, fun kind H2 b0 b1 hH2 k2 => ?_⟩
    have k12 := k1.trans k2
    have hM2 := hM.keep hH k12
    have hc2 := k12 _ _ (tup_ne hH hc) hc
    have hts2 := paired_mono (fun _ _ f => f.keep hH k12) hts
    refine ⟨_, rfl, rfl, _, rfl, iteD (fun hk0 => ?_) (fun hk0 => ⟨_, rfl, c, ts, rfl, .inr (SqT.of hc2), rfl, _, rfl, iteD (fun hl0 => ?_) (fun hl0 => ?_)⟩)⟩
    · refine ⟨_, rfl, c, ts, rfl, .inr (SqT.of hc2), fun l1 hl1 => ⟨(by show 0 ≤ sizeLine; decide), ?_⟩⟩
      have N1 := mk_new (o := .lst ts) hH2 hl1
      generalize upd H2 l1 (.lst ts) = G1 at N1 ⊢
      refine fun t1 ht1 => ⟨(by show 1 ≤ sizeLine; decide), ?_⟩
      have N2 := mk_new (o := .tup []) N1.hand ht1
      generalize upd G1 t1 (.tup []) = G2 at N2 ⊢
      refine fun l2 hl2 => ⟨(by show 1 ≤ sizeLine; decide), ?_⟩
      have N3 := mk_new (o := .lst [.ref t1]) N2.hand hl2
      generalize upd G2 l2 (.lst [.ref t1]) = G3 at N3 ⊢
      refine fun t2 ht2 => ⟨(by show 0 ≤ sizeLine; decide), ?_⟩
      have N4 := mk_new (o := .tup [.int 1]) N3.hand ht2
      generalize upd G3 t2 (.tup [.int 1]) = G4 at N4 ⊢
      refine fun t3 ht3 => ⟨(by show 1 ≤ sizeLine; decide), ?_⟩
      have N5 := mk_new (o := .tup []) N4.hand ht3
      generalize upd G4 t3 (.tup []) = G5 at N5 ⊢
      refine fun t4 ht4 => ⟨(by show 2 ≤ sizeLine; decide), ?_⟩
      have N6 := mk_new (o := .tup [.int 0]) N5.hand ht4
      generalize upd G5 t4 (.tup [.int 0]) = G6 at N6 ⊢
      refine fun t5 ht5 => ⟨(by show 1 ≤ sizeLine; decide), ?_⟩
      have N7 := mk_new (o := .tup [.ref t3, .ref t4]) N6.hand ht5
      generalize upd G6 t5 (.tup [.ref t3, .ref t4]) = G7 at N7 ⊢
      refine fun t6 ht6 => ⟨(by show 8 ≤ sizeLine; decide), ?_⟩
      have N8 := mk_new (o := .tup [.bl true]) N7.hand ht6
      generalize upd G7 t6 (.tup [.bl true]) = G8 at N8 ⊢
      refine fun Z hZ => ?_
      have N9 := mk_new (o := .lst [.ref l1, .non, .int 5, .str "a", .ref l2, .ref t2, .ref t5, .ref t6]) N8.hand hZ
      generalize upd G8 Z (.lst [.ref l1, .non, .int 5, .str "a", .ref l2, .ref t2, .ref t5, .ref t6]) = G9 at N9 ⊢
      refine ⟨_, rfl, a, d, 8, rfl, by decide, N9.hand, fun r H' r0 r1 hH' kr => ?_⟩
      have s78 := N8.same.trans N9.same
      have s68 := N7.same.trans s78
      have s58 := N6.same.trans s68
      have s48 := N5.same.trans s58
      have s38 := N4.same.trans s48
      have s28 := N3.same.trans s38
      have s18 := N2.same.trans s28
      have kF : ∀ {G : Hp}, Same G G9 → Keep a G H' := fun s => (Keep.of s).trans kr
      have eZ : H' Z = some (.lst [.ref l1, .non, .int 5, .str "a", .ref l2, .ref t2, .ref t5, .ref t6]) := kr _ _ N9.ne N9.at_
      have q1 : DpK K a H' (.ref l1) (.list (rows.map rowP)) := dpk_lst (kF s18 _ _ N1.ne N1.at_) N1.ne (fts_dpk hH' (paired_mono (fun _ _ f => f.keep hH2 ((Keep.of N1.same).trans (kF s18))) hts2))
      have qt1 : DpK K a H' (.ref t1) (.tuple []) := dpk_tup (kF s28 _ _ N2.ne N2.at_) N2.ne .nil
      have q2 : DpK K a H' (.ref l2) (.list [.tuple []]) := dpk_lst (kF s38 _ _ N3.ne N3.at_) N3.ne (.cons qt1 .nil)
      have q3 : DpK K a H' (.ref t2) (.tuple [.int 1]) := dpk_tup (kF s48 _ _ N4.ne N4.at_) N4.ne (.cons (dpk_flat fun _ => .int 1) .nil)
      have qt3 : DpK K a H' (.ref t3) (.tuple []) := dpk_tup (kF s58 _ _ N5.ne N5.at_) N5.ne .nil
      have qt4 : DpK K a H' (.ref t4) (.tuple [.int 0]) := dpk_tup (kF s68 _ _ N6.ne N6.at_) N6.ne (.cons (dpk_flat fun _ => .int 0) .nil)
      have q5 : DpK K a H' (.ref t5) (.tuple [.tuple [], .tuple [.int 0]]) := dpk_tup (kF s78 _ _ N7.ne N7.at_) N7.ne (.cons qt3 (.cons qt4 .nil))
      have q6 : DpK K a H' (.ref t6) (.tuple [.bool true]) := dpk_tup (kF N9.same _ _ N8.ne N8.at_) N8.ne (.cons (dpk_flat fun _ => .bl true) .nil)
      have kH : Keep a H H' := k12.trans ((Keep.of N1.same).trans (kF s18))
      have all : ∀ u ∈ ([.ref l1, .non, .int 5, .str "a", .ref l2, .ref t2, .ref t5, .ref t6] : List V), Q u H' := by
        intro u hu
        simp only [List.mem_cons, List.not_mem_nil, or_false] at hu
        rcases hu with rfl | rfl | rfl | rfl | rfl | rfl | rfl | rfl
        · refine k _ _ H' q1 ⟨?_, fun e he => ?_⟩ rfl hH' kH
          · show (rows.map rowP).length ≤ 200
            rw [List.length_map]
            omega
          · obtain ⟨t, ht, rfl⟩ := List.mem_map.mp (show e ∈ rows.map rowP from he)
            show (t.map PyData.int).length ≤ 200
            rw [List.length_map, (hR t ht).1]
            omega
        · exact k _ .none H' (dpk_flat fun _ => .non) ⟨trivial, fun e he => nomatch he⟩ rfl hH' kH
        · exact k _ (.int 5) H' (dpk_flat fun _ => .int 5) ⟨trivial, fun e he => nomatch he⟩ rfl hH' kH
        · exact k _ (.str "a") H' (dpk_flat fun _ => .str "a") ⟨trivial, fun e he => nomatch he⟩ rfl hH' kH
        · exact k _ _ H' q2 ⟨(by show 1 ≤ 200; decide), fun e he => (by rw [List.mem_singleton.mp (show e ∈ [PyData.tuple []] from he)]; show 0 ≤ 200; decide)⟩ rfl hH' kH
        · exact k _ _ H' q3 ⟨(by show 1 ≤ 200; decide), fun e he => (by rw [List.mem_singleton.mp (show e ∈ [PyData.int 1] from he)]; trivial)⟩ rfl hH' kH
        · refine k _ _ H' q5 ⟨(by show 2 ≤ 200; decide), fun e he => ?_⟩ ?_ hH' kH
          · rcases List.mem_cons.mp (show e ∈ [PyData.tuple [], .tuple [.int 0]] from he) with e1 | e1
            · rw [e1]
              show 0 ≤ 200
              decide
            · rw [List.mem_singleton.mp e1]
              show 1 ≤ 200
              decide
          · rfl
        · exact k _ _ H' q6 ⟨(by show 1 ≤ 200; decide), fun e he => (by rw [List.mem_singleton.mp (show e ∈ [PyData.bool true] from he)]; trivial)⟩ rfl hH' kH
      obtain ⟨m8, rfl⟩ : ∃ m8 : Nat, r = (m8 : Int) := ⟨r.toNat, by omega⟩
      have hm8 : m8 < 8 := by omega
      obtain ⟨u, hu⟩ : ∃ u, ([.ref l1, .non, .int 5, .str "a", .ref l2, .ref t2, .ref t5, .ref t6] : List V)[m8]? = some u := ⟨_, List.getElem?_eq_getElem (show m8 < 8 from hm8)⟩
      exact ⟨Z, _, _, u, rfl, rfl, SqL.of eZ, atI_nat hu, all u (List.mem_of_getElem? hu)⟩
    · refine ⟨_, rfl, c, ts, rfl, .inr (SqT.of hc2), fun l1 hl1 => ⟨(by show 0 ≤ sizeLine; decide), ?_⟩⟩
      have N1 := mk_new (o := .lst ts) hH2 hl1
      generalize upd H2 l1 (.lst ts) = G1 at N1 ⊢
      refine fun t1 ht1 => ⟨(by show 1 ≤ sizeLine; decide), ?_⟩
      have N2 := mk_new (o := .tup []) N1.hand ht1
      generalize upd G1 t1 (.tup []) = G2 at N2 ⊢
      refine fun l2 hl2 => ⟨(by show 1 ≤ sizeLine; decide), ?_⟩
      have N3 := mk_new (o := .lst [.ref t1]) N2.hand hl2
      generalize upd G2 l2 (.lst [.ref t1]) = G3 at N3 ⊢
      refine fun t2 ht2 => ⟨(by show 0 ≤ sizeLine; decide), ?_⟩
      have N4 := mk_new (o := .tup [.int 1]) N3.hand ht2
      generalize upd G3 t2 (.tup [.int 1]) = G4 at N4 ⊢
      refine fun t3 ht3 => ⟨(by show 1 ≤ sizeLine; decide), ?_⟩
      have N5 := mk_new (o := .tup []) N4.hand ht3
      generalize upd G4 t3 (.tup []) = G5 at N5 ⊢
      refine fun t4 ht4 => ⟨(by show 2 ≤ sizeLine; decide), ?_⟩
      have N6 := mk_new (o := .tup [.int 0]) N5.hand ht4
      generalize upd G5 t4 (.tup [.int 0]) = G6 at N6 ⊢
      refine fun t5 ht5 => ⟨(by show 1 ≤ sizeLine; decide), ?_⟩
      have N7 := mk_new (o := .tup [.ref t3, .ref t4]) N6.hand ht5
      generalize upd G6 t5 (.tup [.ref t3, .ref t4]) = G7 at N7 ⊢
      refine fun t6 ht6 => ⟨(by show 8 ≤ sizeLine; decide), ?_⟩
      have N8 := mk_new (o := .tup [.bl true]) N7.hand ht6
      generalize upd G7 t6 (.tup [.bl true]) = G8 at N8 ⊢
      refine fun Z hZ => ?_
      have N9 := mk_new (o := .lst [.ref l1, .non, .int 5, .str "a", .ref l2, .ref t2, .ref t5, .ref t6]) N8.hand hZ
      generalize upd G8 Z (.lst [.ref l1, .non, .int 5, .str "a", .ref l2, .ref t2, .ref t5, .ref t6]) = G9 at N9 ⊢
      refine ⟨_, rfl, a, d, 8, rfl, by decide, N9.hand, fun r H' r0 r1 hH' kr => ?_⟩
      have s78 := N8.same.trans N9.same
      have s68 := N7.same.trans s78
      have s58 := N6.same.trans s68
      have s48 := N5.same.trans s58
      have s38 := N4.same.trans s48
      have s28 := N3.same.trans s38
      have s18 := N2.same.trans s28
      have kF : ∀ {G : Hp}, Same G G9 → Keep a G H' := fun s => (Keep.of s).trans kr
      have eZ : H' Z = some (.lst [.ref l1, .non, .int 5, .str "a", .ref l2, .ref t2, .ref t5, .ref t6]) := kr _ _ N9.ne N9.at_
      have q1 : DpK K a H' (.ref l1) (.list (rows.map rowP)) := dpk_lst (kF s18 _ _ N1.ne N1.at_) N1.ne (fts_dpk hH' (paired_mono (fun _ _ f => f.keep hH2 ((Keep.of N1.same).trans (kF s18))) hts2))
      have qt1 : DpK K a H' (.ref t1) (.tuple []) := dpk_tup (kF s28 _ _ N2.ne N2.at_) N2.ne .nil
      have q2 : DpK K a H' (.ref l2) (.list [.tuple []]) := dpk_lst (kF s38 _ _ N3.ne N3.at_) N3.ne (.cons qt1 .nil)
      have q3 : DpK K a H' (.ref t2) (.tuple [.int 1]) := dpk_tup (kF s48 _ _ N4.ne N4.at_) N4.ne (.cons (dpk_flat fun _ => .int 1) .nil)
      have qt3 : DpK K a H' (.ref t3) (.tuple []) := dpk_tup (kF s58 _ _ N5.ne N5.at_) N5.ne .nil
      have qt4 : DpK K a H' (.ref t4) (.tuple [.int 0]) := dpk_tup (kF s68 _ _ N6.ne N6.at_) N6.ne (.cons (dpk_flat fun _ => .int 0) .nil)
      have q5 : DpK K a H' (.ref t5) (.tuple [.tuple [], .tuple [.int 0]]) := dpk_tup (kF s78 _ _ N7.ne N7.at_) N7.ne (.cons qt3 (.cons qt4 .nil))
      have q6 : DpK K a H' (.ref t6) (.tuple [.bool true]) := dpk_tup (kF N9.same _ _ N8.ne N8.at_) N8.ne (.cons (dpk_flat fun _ => .bl true) .nil)
      have kH : Keep a H H' := k12.trans ((Keep.of N1.same).trans (kF s18))
      have all : ∀ u ∈ ([.ref l1, .non, .int 5, .str "a", .ref l2, .ref t2, .ref t5, .ref t6] : List V), Q u H' := by
        intro u hu
        simp only [List.mem_cons, List.not_mem_nil, or_false] at hu
        rcases hu with rfl | rfl | rfl | rfl | rfl | rfl | rfl | rfl
        · refine k _ _ H' q1 ⟨?_, fun e he => ?_⟩ rfl hH' kH
          · show (rows.map rowP).length ≤ 200
            rw [List.length_map]
            omega
          · obtain ⟨t, ht, rfl⟩ := List.mem_map.mp (show e ∈ rows.map rowP from he)
            show (t.map PyData.int).length ≤ 200
            rw [List.length_map, (hR t ht).1]
            omega
        · exact k _ .none H' (dpk_flat fun _ => .non) ⟨trivial, fun e he => nomatch he⟩ rfl hH' kH
        · exact k _ (.int 5) H' (dpk_flat fun _ => .int 5) ⟨trivial, fun e he => nomatch he⟩ rfl hH' kH
        · exact k _ (.str "a") H' (dpk_flat fun _ => .str "a") ⟨trivial, fun e he => nomatch he⟩ rfl hH' kH
        · exact k _ _ H' q2 ⟨(by show 1 ≤ 200; decide), fun e he => (by rw [List.mem_singleton.mp (show e ∈ [PyData.tuple []] from he)]; show 0 ≤ 200; decide)⟩ rfl hH' kH
        · exact k _ _ H' q3 ⟨(by show 1 ≤ 200; decide), fun e he => (by rw [List.mem_singleton.mp (show e ∈ [PyData.int 1] from he)]; trivial)⟩ rfl hH' kH
        · refine k _ _ H' q5 ⟨(by show 2 ≤ 200; decide), fun e he => ?_⟩ ?_ hH' kH
          · rcases List.mem_cons.mp (show e ∈ [PyData.tuple [], .tuple [.int 0]] from he) with e1 | e1
            · rw [e1]
              show 0 ≤ 200
              decide
            · rw [List.mem_singleton.mp e1]
              show 1 ≤ 200
              decide
          · rfl
        · exact k _ _ H' q6 ⟨(by show 1 ≤ 200; decide), fun e he => (by rw [List.mem_singleton.mp (show e ∈ [PyData.bool true] from he)]; trivial)⟩ rfl hH' kH
      obtain ⟨m8, rfl⟩ : ∃ m8 : Nat, r = (m8 : Int) := ⟨r.toNat, by omega⟩
      have hm8 : m8 < 8 := by omega
      obtain ⟨u, hu⟩ : ∃ u, ([.ref l1, .non, .int 5, .str "a", .ref l2, .ref t2, .ref t5, .ref t6] : List V)[m8]? = some u := ⟨_, List.getElem?_eq_getElem (show m8 < 8 from hm8)⟩
      exact ⟨Z, _, _, u, rfl, rfl, SqL.of eZ, atI_nat hu, all u (List.mem_of_getElem? hu)⟩
    · have hlen : 0 < rows.length := by
        have : ts.length ≠ 0 := fun z => hl0 (by rw [z]; rfl)
        omega
      obtain ⟨q, rfl⟩ : ∃ q : Nat, at' = (q : Int) := ⟨at'.toNat, by omega⟩
      have hq : q < rows.length := by
        rw [hm2 (by omega)] at a1
        omega
      obtain ⟨row, hrow⟩ : ∃ row, rows[q]? = some row := ⟨_, List.getElem?_eq_getElem hq⟩
      obtain ⟨x0, hx0, rc, rfl, hrc⟩ := paired_of hts2 hrow
      have hrL := hR row (List.mem_of_getElem? hrow)
      have nrc := tup_ne hH2 hrc
      refine ⟨_, rfl, _, rfl, c, ts, (q : Int), _, rfl, rfl, SqT.of hc2, atI_nat hx0, ?_⟩
      refine ⟨fun σ H' => ∃ (u : V) (e : PyData) (jv : Option V), σ = [some (.ref a), some (.ref c), some (.int p), some (.int q), some (.int kind), some (.ref rc), some u, jv] ∧ HandAt H' a d ∧ Keep a H2 H' ∧ DpK K a H' u e ∧ BadR p n rows.length e ∧ smallD e, ?_, ?_⟩
      · have pone : ∀ H5 : Hp, HandAt H5 a d → ∀ t, H5 t = none → DpK K a (upd H5 t (.tup [.int p])) (.ref t) (.tuple [.int p]) := fun H5 h5 t ht => dpk_tup upd_same (h5.ne ht).1.symm (.cons (dpk_flat fun _ => .int p) .nil)
        have badp : BadR p n rows.length (.tuple [.int p]) := .inl fun w => bel_not (xs := []) (ys := []) bel_p w
        refine ⟨_, rfl, rfl, _, rfl, iteD (fun h1 => ?_) (fun h1 => ?_)⟩
        · refine ⟨_, rfl, rc, _, rfl, .inr (SqT.of hrc), fun l hl => ?_⟩
          refine ⟨.ref l, .list (row.map PyData.int), none, rfl, hH2.new hl, Keep.new hl, dpk_lst upd_same (hH2.ne hl).1.symm (dpk_ints row), .inl fun w => rfl, ?_⟩
          show (row.map PyData.int).length ≤ 200
          rw [List.length_map, hrL.1]
          omega
        · refine ⟨_, rfl, rc, _, rfl, .inr (SqT.of hrc), rfl, _, rfl, iteD (fun h2 => ?_) (fun h2 => ?_)⟩
          · refine ⟨_, rfl, (by show 1 ≤ sizeLine; decide), fun t ht => ?_⟩
            exact ⟨.ref t, _, none, rfl, hH2.new ht, Keep.new ht, pone H2 hH2 t ht, badp, (by show 1 ≤ 200; decide)⟩
          · have hn0 : 0 < n := by
              have : ¬ ((row.map V.int).length : Int) = 0 := fun z => h2 (congrArg V.int z)
              rw [List.length_map, hrL.1] at this
              omega
            refine ⟨_, rfl, _, _, rfl, rfl, _, rfl, iteD (fun h3 => ?_) (fun h3 => ?_)⟩
            · refine ⟨_, rfl, (by show 1 ≤ sizeLine; decide), fun t ht => ?_⟩
              have N1 := mk_new (o := .tup [.int 0]) hH2 ht
              generalize upd H2 t (.tup [.int 0]) = G1 at N1 ⊢
              refine catA_is (N1.same _ _ hrc) N1.at_ ?_ fun r1 G2 s2 e1 => ?_
              · rw [List.length_map, hrL.1]
                exact Nat.le_of_lt (small1000 (by show n + 1 ≤ 1000; omega))
              · refine ⟨_, rfl, 1, rfl, ?_⟩
                dsimp only [tNoPart]
                refine slA_is (s2 _ _ (N1.same _ _ hrc)) fun r2 G3 s3 e2 => ⟨(by show 2 ≤ sizeLine; decide), fun Z hZ => ?_⟩
                rw [show ((1 : Int)) = ((1 : Nat) : Int) from rfl, cut_from (by rw [List.length_map, hrL.1]; omega), ← List.map_drop] at e2
                have h3' := (N1.hand.same s2).same s3
                have N4 := mk_new (o := .lst [.ref r1, .ref r2]) h3' hZ
                generalize upd G3 Z (.lst [.ref r1, .ref r2]) = G4 at N4 ⊢
                have e14 := N4.same _ _ (s3 _ _ e1)
                have e24 := N4.same _ _ e2
                have kk : Keep a H2 G4 := Keep.of (N1.same.trans (s2.trans (s3.trans N4.same)))
                have two : ∀ (G5 : Hp) (u : V) (tt : List Int), Same G4 G5 → DpK K a G5 u (rowP tt) → tt.length ≠ n → tt.length ≤ 200 → ∃ P : L2.St → Hp → Prop, True := fun _ _ _ _ _ _ _ => ⟨fun _ _ => True, trivial⟩
                refine ⟨_, rfl, _, _, rfl, rfl, ?_⟩
                have hk : kind = 2 ∨ kind = 3 := by
                  have : ¬ kind = 0 := fun z => hk0 (congrArg V.int z)
                  have : ¬ kind = 1 := fun z => h1 (congrArg V.int z)
                  omega
                have ones : (rows.length = 1 ∨ 2 ≤ rows.length) := by omega
                have fin : ∀ (rx : Addr) (tt : List Int), G4 rx = some (.tup (tt.map V.int)) → tt.length ≠ n → tt.length ≤ 200 → DpK K a G4 (.ref rx) (rowP tt) ∧ (2 ≤ rows.length → BadR p n rows.length (rowP tt)) ∧ smallD (rowP tt) := fun rx tt e0 l0 l1 =>
                  ⟨dpk_tup e0 (tup_ne N4.hand e0) (dpk_ints tt), fun h => .inr ⟨h, tt, rfl, l0⟩, (by show (tt.map PyData.int).length ≤ 200; rw [List.length_map]; exact l1)⟩
                have o1 := fin r1 (row ++ [0]) (by rw [List.map_append]; exact e14) (by rw [List.length_append, hrL.1]; show n + 1 ≠ n; omega) (by rw [List.length_append, hrL.1]; show n + 1 ≤ 200; omega)
                have o2 := fin r2 (row.drop 1) e24 (by rw [List.length_drop, hrL.1]; omega) (by rw [List.length_drop, hrL.1]; omega)
                have last : ∀ rx e0, DpK K a G4 (.ref rx) e0 ∧ (2 ≤ rows.length → BadR p n rows.length e0) ∧ smallD e0 → (∀ hone : rows.length ≠ 1, ∃ (u : V) (e : PyData) (jv : Option V), [some (V.ref a), some (.ref c), some (.int p), some (.int q), some (.int kind), some (.ref rc), some (.ref rx), none] = [some (.ref a), some (.ref c), some (.int p), some (.int q), some (.int kind), some (.ref rc), some u, jv] ∧ HandAt G4 a d ∧ Keep a H2 G4 ∧ DpK K a G4 u e ∧ BadR p n rows.length e ∧ smallD e) :=
                  fun rx e0 o hone => ⟨.ref rx, e0, none, rfl, N4.hand, kk, o.1, o.2.1 (by omega), o.2.2⟩
                have hc4 : G4 c = some (.tup ts) := kk _ _ (tup_ne hH2 hc2) hc2
                rcases hk with rfl | rfl
                · refine ⟨Z, _, _, .ref r1, rfl, rfl, SqL.of N4.at_, rfl, ?_⟩
                  refine ⟨_, rfl, c, ts, rfl, .inr (SqT.of hc4), rfl, _, rfl, iteD (fun h4 => ?_) (fun h4 => ?_)⟩
                  · refine ⟨_, rfl, (by show 1 ≤ sizeLine; decide), fun t2 ht2 => ?_⟩
                    exact ⟨.ref t2, _, none, rfl, N4.hand.new ht2, kk.trans (Keep.new ht2), pone G4 N4.hand t2 ht2, badp, (by show 1 ≤ 200; decide)⟩
                  · exact last r1 _ o1 (fun z => h4 (by rw [lt, z]; rfl))
                · refine ⟨Z, _, _, .ref r2, rfl, rfl, SqL.of N4.at_, rfl, ?_⟩
                  refine ⟨_, rfl, c, ts, rfl, .inr (SqT.of hc4), rfl, _, rfl, iteD (fun h4 => ?_) (fun h4 => ?_)⟩
                  · refine ⟨_, rfl, (by show 1 ≤ sizeLine; decide), fun t2 ht2 => ?_⟩
                    exact ⟨.ref t2, _, none, rfl, N4.hand.new ht2, kk.trans (Keep.new ht2), pone G4 N4.hand t2 ht2, badp, (by show 1 ≤ 200; decide)⟩
                  · exact last r2 _ o2 (fun z => h4 (by rw [lt, z]; rfl))
            · refine ⟨_, rfl, _, rfl, rc, _, rfl, .inr (SqT.of hrc), a, d, _, rfl, (by rw [List.length_map, hrL.1]; omega), hH2, fun j H3 j0 j1 hH3 k3 => ?_⟩
              obtain ⟨jj, rfl⟩ : ∃ jj : Nat, j = (jj : Int) := ⟨j.toNat, by omega⟩
              have hjj : jj < n := by
                rw [List.length_map, hrL.1] at j1
                omega
              have hrc3 := k3 _ _ nrc hrc
              refine ⟨_, rfl, _, rfl, (jj : Int), rfl, ?_⟩
              refine slA_is hrc3 fun r1 G1 s1 e1 => ?_
              rw [cut_to (by rw [List.length_map, hrL.1]; omega), ← List.map_take] at e1
              have g1 := hH3.same s1
              refine ⟨_, rfl, _, rfl, (by show 5 ≤ sizeLine; decide), fun Z hZ => ?_⟩
              have N2 := mk_new (o := .lst [.int p, .int (-1), .bl true, .str "0", .non]) g1 hZ
              generalize upd G1 Z (.lst [.int p, .int (-1), .bl true, .str "0", .non]) = G2 at N2 ⊢
              refine ⟨_, rfl, _, _, rfl, rfl, ?_⟩
              have hk48 : ¬ kind = 0 ∧ ¬ kind = 1 ∧ 4 ≤ kind := ⟨fun z => hk0 (congrArg V.int z), fun z => h1 (congrArg V.int z), by omega⟩
              obtain ⟨kk4, hkk4, hkk5⟩ : ∃ kk4 : Nat, kind - 4 = (kk4 : Int) ∧ kk4 < 5 := ⟨(kind - 4).toNat, by omega, by omega⟩
              have items : ∀ x ∈ ([.int p, .int (-1), .bl true, .str "0", .non] : List V), ∃ e, (∀ H', Dp K H' x e) ∧ belD p e = false := by
                intro x hx
                simp only [List.mem_cons, List.not_mem_nil, or_false] at hx
                rcases hx with rfl | rfl | rfl | rfl | rfl
                · exact ⟨.int p, fun _ => .int p, bel_p⟩
                · exact ⟨.int (-1), fun _ => .int (-1), rfl⟩
                · exact ⟨.bool true, fun _ => .bl true, rfl⟩
                · exact ⟨.str "0", fun _ => .str "0", rfl⟩
                · exact ⟨.none, fun _ => .non, rfl⟩
              obtain ⟨x, hx⟩ : ∃ x, ([.int p, .int (-1), .bl true, .str "0", .non] : List V)[kk4]? = some x := ⟨_, List.getElem?_eq_getElem (show kk4 < 5 from hkk5)⟩
              obtain ⟨e, he, hbe⟩ := items x (List.mem_of_getElem? hx)
              refine ⟨Z, _, _, x, rfl, rfl, SqL.of N2.at_, (by rw [hkk4]; exact atI_nat hx), (by show 1 ≤ sizeLine; decide), fun T hT => ?_⟩
              have N3 := mk_new (o := .tup [x]) N2.hand hT
              generalize upd G2 T (.tup [x]) = G3 at N3 ⊢
              have s13 := N2.same.trans N3.same
              refine catA_is (s13 _ _ e1) N3.at_ ?_ fun r2 G4 s4 e4 => ?_
              · rw [List.length_map, List.length_take]
                exact Nat.le_of_lt (small1000 (by show min jj row.length + 1 ≤ 1000; omega))
              · have hrc4 := (s1.trans (s13.trans s4)) _ _ hrc3
                refine ⟨_, rfl, _, rfl, (jj : Int), 1, rfl, rfl, _, rfl, ?_⟩
                dsimp only [tNoPart]
                refine slA_is hrc4 fun r3 G5 s5 e5 => ?_
                rw [show ((jj : Int) + 1) = ((jj + 1 : Nat) : Int) from rfl, cut_from (by rw [List.length_map, hrL.1]; omega), ← List.map_drop] at e5
                refine catA_is (s5 _ _ e4) e5 ?_ fun r6 G6 s6 e6 => ?_
                · rw [List.length_append, List.length_map, List.length_map, List.length_take, List.length_drop]
                  exact Nat.le_of_lt (small1000 (by have := hrL.1; show min jj row.length + 1 + (row.length - (jj + 1)) ≤ 1000; omega))
                · have g6 := ((N3.hand.same s4).same s5).same s6
                  refine ⟨.ref r6, .tuple ((row.take jj).map PyData.int ++ [e] ++ (row.drop (jj + 1)).map PyData.int), _, rfl, g6, k3.trans (Keep.of (s1.trans (s13.trans (s4.trans (s5.trans s6))))), dpk_tup e6 (tup_ne g6 e6) (paired_app (paired_app (dpk_ints _) (.cons (dpk_flat he) .nil)) (dpk_ints _)), .inl fun w => bel_not hbe w, ?_⟩
                  show (_ ++ _ ++ _ : List PyData).length ≤ 200
                  rw [List.length_append, List.length_append, List.length_map, List.length_map, List.length_take, List.length_drop]
                  have := hrL.1
                  show min jj row.length + 1 + (row.length - (jj + 1)) ≤ 200
                  omega
      · rintro σ H3 ⟨u, e, jv, rfl, hH3, k3, du, hbad, hsm⟩
        have hc3 := k3 _ _ (tup_ne hH2 hc2) hc2
        refine ⟨_, rfl, _, rfl, (q : Int), rfl, ?_⟩
        refine slA_is hc3 fun r1 G1 s1 e1 => ?_
        rw [cut_to (by omega)] at e1
        refine ⟨_, rfl, (by show 1 ≤ sizeLine; decide), fun T hT => ?_⟩
        have N2 := mk_new (o := .tup [u]) (hH3.same s1) hT
        generalize upd G1 T (.tup [u]) = G2 at N2 ⊢
        refine catA_is (N2.same _ _ e1) N2.at_ ?_ fun r3 G3 s3 e3 => ?_
        · rw [List.length_take]
          exact Nat.le_of_lt (small1000 (by show min q ts.length + 1 ≤ 1000; omega))
        · have hc4 := (s1.trans (N2.same.trans s3)) _ _ hc3
          refine ⟨_, rfl, _, rfl, (q : Int), 1, rfl, rfl, _, rfl, ?_⟩
          dsimp only [tNoPart]
          refine slA_is hc4 fun r4 G4 s4 e4 => ?_
          rw [show ((q : Int) + 1) = ((q + 1 : Nat) : Int) from rfl, cut_from (by omega)] at e4
          refine catA_is (s4 _ _ e3) e4 ?_ fun r5 G5 s5 e5 => ?_
          · rw [List.length_append, List.length_take, List.length_drop]
            exact Nat.le_of_lt (small1000 (by show min q ts.length + 1 + (ts.length - (q + 1)) ≤ 1000; omega))
          · have sA := s1.trans (N2.same.trans (s3.trans (s4.trans s5)))
            have g5 := hH3.same sA
            have kA : Keep a H3 G5 := Keep.of sA
            have fA := fts_dpk (K := K) g5 (paired_mono (fun _ _ f => (f.keep hH2 k3).same sA) hts2)
            refine k (.ref r5) (.tuple ((rows.map rowP).take q ++ [e] ++ (rows.map rowP).drop (q + 1))) G5 (dpk_tup e5 (tup_ne g5 e5) (paired_app (paired_app (paired_take q fA) (.cons (du.keep kA) .nil)) (paired_drop (q + 1) fA))) ⟨?_, fun e' he' => ?_⟩ (bad_mat hq hR hbad) g5 (k12.trans (k3.trans kA))
            · show (_ ++ _ ++ _ : List PyData).length ≤ 200
              rw [List.length_append, List.length_append, List.length_take, List.length_drop, List.length_map]
              show min q rows.length + 1 + (rows.length - (q + 1)) ≤ 200
              omega
            · have rr : ∀ e'' ∈ rows.map rowP, smallD e'' := fun e'' h => by
                obtain ⟨t, ht, rfl⟩ := List.mem_map.mp h
                show (t.map PyData.int).length ≤ 200
                rw [List.length_map, (hR t ht).1]
                omega
              rcases List.mem_append.mp (show e' ∈ (rows.map rowP).take q ++ [e] ++ (rows.map rowP).drop (q + 1) from he') with h | h
              · rcases List.mem_append.mp h with h | h
                · exact rr e' (List.mem_of_mem_take h)
                · rw [List.mem_singleton.mp h]
                  exact hsm
              · exact rr e' (List.mem_of_mem_drop h)
end
end WU

set_option maxRecDepth 100000
set_option maxHeartbeats 8000000
namespace WU
open PySem PySem.Spec PyProof.Rows L2
def forB : Stmt → Nat → Stmt
  | .For _ _ b _ _, i => b.getD i (.Pass ⟨0, 0, 0, 0⟩)
  | s, _ => s
def lcS : Stmt → Scope
  | .Assign _ (.ListComp _ _ sc _) _ => sc
  | st => defScope st
/-- a row: a list of ints that is there -/
def FL : Hp → V → List Int → Prop := fun H y z => ∃ c, y = .ref c ∧ H c = some (.lst (z.map V.int))
theorem stab_FL : Stab FL := fun D H H' y z k n ⟨c, e, h⟩ => ⟨c, e, k _ _ (fun q => n (by rw [e, q])) h⟩
theorem FL.same {H H' : Hp} {y : V} {z : List Int} (h : FL H y z) (s : Same H H') : FL H' y z := by
  obtain ⟨c, e, h⟩ := h
  exact ⟨c, e, s _ _ h⟩
/-- a list of rows is none of its rows -/
theorem FL.ne {H : Hp} {y : V} {z : List Int} {D : Addr} {ts : List V} {zs : List (List Int)} (h : FL H y z) (hz : z ≠ []) (e : H D = some (.lst ts)) (q : Paired (FL H) ts zs) : y ≠ .ref D := by
  obtain ⟨c, rfl, h⟩ := h
  intro w
  cases w
  rw [h] at e
  have e1 := HO.lst.inj (Option.some.inj e)
  cases q with
  | nil => exact hz (List.map_eq_nil_iff.mp e1)
  | cons g _ =>
    obtain ⟨c2, rfl, _⟩ := g
    cases z with
    | nil => exact hz rfl
    | cons x t => cases (List.cons.inj e1).1
theorem FL.new {H : Hp} {p : Addr} {z : List Int} : FL (upd H p (.lst (z.map V.int))) (.ref p) z := ⟨p, rfl, upd_same⟩
theorem FL.fresh {H : Hp} {y : V} {z : List Int} {D : Addr} (h : FL H y z) (n : H D = none) : y ≠ .ref D := by
  obtain ⟨c, rfl, h⟩ := h
  intro q
  cases q
  rw [h] at n
  cases n
theorem paired_erase {α β : Type} {F : α → β → Prop} : ∀ {l : List α} {m : List β} (k : Nat), Paired F l m → Paired F (l.eraseIdx k) (m.eraseIdx k)
  | _, _, _, .nil => by rw [List.eraseIdx_nil, List.eraseIdx_nil]; exact .nil
  | _, _, 0, .cons _ t => t
  | _, _, k + 1, .cons h t => .cons h (paired_erase k t)
theorem paired_mem {α β : Type} {F G : α → β → Prop} : ∀ {l : List α} {m : List β}, Paired F l m → (∀ a b, b ∈ m → F a b → G a b) → Paired G l m
  | _, _, .nil, _ => .nil
  | _, _, .cons h t, f => .cons (f _ _ (List.mem_cons_self) h) (paired_mem t fun a b hb => f a b (List.mem_cons_of_mem _ hb))
/-- the places of the rows that are not 0 at j -/
def plc (j : Nat) (l : List (List Int)) (m : Nat) : List Int := ((List.range m).filter fun k => hot j (l.getD k [])).map fun (k : Nat) => (k : Int)
theorem plc_succ (j : Nat) (l : List (List Int)) (m : Nat) : plc j l (m + 1) = plc j l m ++ (if hot j (l.getD m []) = true then [(m : Int)] else []) := by
  unfold plc
  rw [List.range_succ, List.filter_append, List.map_append, List.filter_cons]
  split <;> rfl
theorem plc_le (j : Nat) (l : List (List Int)) (m : Nat) : (plc j l m).length ≤ m := by
  unfold plc
  rw [List.length_map]
  exact Nat.le_trans (List.length_filter_le _ _) (by simp)
theorem plc_none {j : Nat} {l : List (List Int)} (h : l.findIdx? (hot j) = none) : plc j l l.length = [] := by
  unfold plc
  rw [List.map_eq_nil_iff, List.filter_eq_nil_iff]
  intro k hk
  have hk2 := List.mem_range.mp hk
  rw [List.getD_eq_getElem?_getD, List.getElem?_eq_getElem hk2]
  have := (List.findIdx?_eq_none_iff.mp h) _ (List.getElem_mem hk2)
  show ¬ hot j l[k] = true
  rw [this]
  decide
theorem plc_some {j k : Nat} {l : List (List Int)} (h : l.findIdx? (hot j) = some k) : k < l.length ∧ hot j (l.getD k []) = true ∧ ∃ t, plc j l l.length = (k : Int) :: t := by
  rw [List.findIdx?_eq_some_iff_getElem] at h
  obtain ⟨hk, h1, h2⟩ := h
  have gd : ∀ i (hi : i < l.length), l.getD i [] = l[i] := fun i hi => by rw [List.getD_eq_getElem?_getD, List.getElem?_eq_getElem hi]; rfl
  refine ⟨hk, by rw [gd k hk]; exact h1, ?_⟩
  have step : ∀ m, m ≤ k → plc j l m = [] := by
    intro m
    induction m with
    | zero => intro _; rfl
    | succ m ih =>
      intro hm
      rw [plc_succ, ih (by omega), gd m (by omega), if_neg (h2 m (by omega))]
      rfl
  have more : ∀ m, ∃ t, plc j l (k + 1 + m) = (k : Int) :: t := by
    intro m
    induction m with
    | zero =>
      refine ⟨[], ?_⟩
      show plc j l (k + 1) = _
      rw [plc_succ, step k (Nat.le_refl k), gd k hk, if_pos h1]
      rfl
    | succ m ih =>
      obtain ⟨t, e⟩ := ih
      rw [show k + 1 + (m + 1) = (k + 1 + m) + 1 from rfl, plc_succ, e]
      exact ⟨_, rfl⟩
  obtain ⟨t, e⟩ := more (l.length - (k + 1))
  rw [show k + 1 + (l.length - (k + 1)) = l.length by omega] at e
  exact ⟨t, e⟩
section
variable {P : Program} {w : World} {K : PySem.W.Frag} {mg : Str → Option Value} {base : Heap} {S : Addr}
def spLRd : Sp := fun vs H Q _ => ∃ (p : Int) (n : Nat) (v : V) (rows : List (List Int)), vs = [v, .int p] ∧ MT H v rows ∧ p ∈ primes ∧ (∀ r ∈ rows, Ltr p n r) ∧ n ≤ 200 ∧ rows.length ≤ 200 ∧ ∀ y H', Same H H' → MT H' y (red p rows) → Q y H'
theorem scLRd : FnScope ["rows", "p", "left", "found", "columns", "j", "places", "head", "back", "row", "k", "part", "i"] ["rows", "p"] (defScope s_law_reduced) := ⟨rfl, rfl, rfl, by decide +kernel, rfl, by decide +kernel, by decide +kernel⟩
theorem ok_LRd {f f1 : Addr} {fd fd1 : FuncData} (F : FnS K "_law_reduced" s_law_reduced f fd) (B : Blt4 mg) (CI : Cal P w K mg base 1 "_law_inverse" f1 fd1 ["a", "p"] spLI) : FnOk P w K mg base (L2.CX P w) 2 f fd ["rows", "p"] spLRd := by
  refine F.ok scLRd (fun vs H Q E h => ?_) (fun cdv A outer s H vs Q E hr h => ?_)
  · obtain ⟨p, n, v, rows, rfl, _⟩ := h
    rfl
  · obtain ⟨p, n0, v, rows, rfl, ⟨a, ts, rfl, ha, hts⟩, hp, hR0, hn0, hm, k⟩ := h
    have nd := scLRd.nd
    have hb := fld_le hp
    obtain ⟨n, hn, hw, hR⟩ : ∃ n, n ≤ 200 ∧ wid rows = n ∧ ∀ r ∈ rows, Ltr p n r := by
      cases rows with
      | nil => exact ⟨0, by decide, rfl, fun r hr => nomatch hr⟩
      | cons r t => exact ⟨n0, hn0, (hR0 r (List.mem_cons_self)).1, hR0⟩
    refine ⟨_, (pss_cons (ps_set (i := 2) nd rfl (Or.inr rfl) (pe_lc (own := [("row", 9)]) (g := gName 9) (by rfl) nd (pi_tupK (K := K) (pv 0)) (blkOk_by (own := [("row", 9)]) (N := ["rows", "p", "left", "found", "columns", "j", "places", "head", "back", "row", "k", "part", "i"]) (sc := defScope s_law_reduced) (by decide +kernel)) (fun _ _ _ _ _ => (pg_name (i := 9) nd rfl (Or.inl rfl))) (fun _ _ _ _ _ => pts_nil) (fun _ _ _ _ _ => (pe_callTy (list_ofK (K := K)) (by rfl) B.lst (by decide +kernel) (pa_cons (pv 9) pa_nil)))))
      (pss_cons (ps_set (i := 3) nd rfl (Or.inl rfl) (pe_lst pa_nil))
      (pss_cons (ps_set (i := 4) nd rfl (Or.inr rfl) pe_int)
      (pss_cons (ps_wk (ps_if (pt_cmpR op_gt (pe_callB (len_seqK (K := K)) (by rfl) B.len (by decide +kernel) (pa_cons (pv 2) pa_nil)) pe_int (nomark _)) (pss_one (ps_set (i := 4) nd rfl (Or.inr rfl) (pe_callB (len_seqK (K := K)) (by rfl) B.len (by decide +kernel) (pa_cons (pe_ix (ix_listK (K := K)) (pv 2) pe_int (fun _ _ => rfl)) pa_nil)))) pss_nil))
      (pss_cons (ps_for (passes_of rfl) rfl (pi_range1 rfl B.range (pa_cons (pv 4) pa_nil)) (pg_name (i := 5) nd rfl (Or.inr rfl)) (pss_cons (ps_setLc (i := 6) (own := [("k", 10)]) (g := gName 10) (by rfl) nd rfl rfl (sw_true rfl rfl rfl (by decide +kernel)) (pi_range1 rfl B.range (pa_cons (pe_callB (len_seqK (K := K)) (by rfl) B.len (by decide +kernel) (pa_cons (pv 2) pa_nil)) pa_nil)) (blkOk_by (own := [("k", 10)]) (N := ["rows", "p", "left", "found", "columns", "j", "places", "head", "back", "row", "k", "part", "i"]) (sc := defScope s_law_reduced) (by decide +kernel)) (fun _ _ _ _ _ => (pg_name (i := 10) nd rfl (Or.inl rfl))) (fun _ _ _ _ _ => pts_one (pt_cmpR op_ne (pe_ix (ix_listK (K := K)) (pe_ix (ix_listK (K := K)) (pv 2) (pv 10) (fun _ _ => rfl)) (pv 5) (fun _ _ => rfl)) pe_int (nomark _))) (fun _ _ _ _ _ => (pv 10)))
      (pss_cons (ps_if (pt_cmpR op_eq (pe_callB (len_seqK (K := K)) (by rfl) B.len (by decide +kernel) (pa_cons (pv 6) pa_nil)) pe_int (nomark _)) (pss_one ps_continue) pss_nil)
      (pss_cons (ps_set (i := 7) nd rfl (Or.inr rfl) (pe_bm PySem.F.plainAttrs_list PySem.F.slot_list_pop PySem.F.type_list_pop mt_popAt (pv 2) (pa_cons (pe_ix (ix_listK (K := K)) (pv 6) pe_int (fun _ _ => rfl)) pa_nil)))
      (pss_cons (ps_set (i := 8) nd rfl (Or.inr rfl) (pe_cal CI (hr.mono (by decide)) (pa_cons (pe_ix (ix_listK (K := K)) (pv 7) (pv 5) (fun _ _ => rfl)) (pa_cons (pv 1) pa_nil)) passU))
      (pss_cons (ps_set (i := 7) nd rfl (Or.inr rfl) (pe_lc (own := [("part", 11)]) (g := gName 11) (by rfl) nd (pi_listK (K := K) (pv 7)) (blkOk_by (own := [("part", 11)]) (N := ["rows", "p", "left", "found", "columns", "j", "places", "head", "back", "row", "k", "part", "i"]) (sc := defScope s_law_reduced) (by decide +kernel)) (fun _ _ _ _ _ => (pg_name (i := 11) nd rfl (Or.inl rfl))) (fun _ _ _ _ _ => pts_nil) (fun _ _ _ _ _ => (pe_op op_modN (pe_callTy call_int1 (by rfl) B.int (by decide +kernel) (pa_cons (pe_op op_mul (pv 11) (pv 8)) pa_nil)) (pv 1)))))
      (pss_cons (ps_set (i := 2) nd rfl (Or.inr rfl) (pe_lc (own := [("row", 9)]) (g := gName 9) (by rfl) nd (pi_listK (K := K) (pv 2)) (blkOk_by (own := [("row", 9)]) (N := ["rows", "p", "left", "found", "columns", "j", "places", "head", "back", "row", "k", "part", "i"]) (sc := defScope s_law_reduced) (by decide +kernel)) (fun _ _ _ _ _ => (pg_name (i := 9) nd rfl (Or.inr rfl))) (fun _ _ _ _ _ => pts_nil) (fun _ _ _ _ _ => (pe_lc (own := [("i", 12)]) (g := gName 12) (by rfl) nd (pi_range1 rfl B.range (pa_cons (pv 4) pa_nil)) (blkOk_by (own := [("i", 12)]) (N := ["rows", "p", "left", "found", "columns", "j", "places", "head", "back", "row", "k", "part", "i"]) (sc := relS (lcS (forB ((defBody s_law_reduced).getD 4 (.Pass ⟨0, 0, 0, 0⟩)) 5)) (defScope s_law_reduced)) (by decide +kernel)) (fun _ _ _ _ _ => (pg_name (i := 12) nd rfl (Or.inl rfl))) (fun _ _ _ _ _ => pts_nil) (fun _ _ _ _ _ => (pe_op op_modN (pe_callTy call_int1 (by rfl) B.int (by decide +kernel) (pa_cons (pe_op op_sub (pe_ix (ix_listK (K := K)) (pv 9) (pv 12) (fun _ _ => rfl)) (pe_op op_mul (pe_ix (ix_listK (K := K)) (pv 9) (pv 5) (fun _ _ => rfl)) (pe_ix (ix_listK (K := K)) (pv 7) (pv 12) (fun _ _ => rfl)))) pa_nil)) (pv 1)))))))
      (pss_cons (ps_setLc (i := 3) (own := [("row", 9)]) (g := gName 9) (by rfl) nd rfl rfl (sw_true rfl rfl rfl (by decide +kernel)) (pi_listK (K := K) (pv 3)) (blkOk_by (own := [("row", 9)]) (N := ["rows", "p", "left", "found", "columns", "j", "places", "head", "back", "row", "k", "part", "i"]) (sc := defScope s_law_reduced) (by decide +kernel)) (fun _ _ _ _ _ => (pg_name (i := 9) nd rfl (Or.inr rfl))) (fun _ _ _ _ _ => pts_nil) (fun _ _ _ _ _ => (pe_lc (own := [("i", 12)]) (g := gName 12) (by rfl) nd (pi_range1 rfl B.range (pa_cons (pv 4) pa_nil)) (blkOk_by (own := [("i", 12)]) (N := ["rows", "p", "left", "found", "columns", "j", "places", "head", "back", "row", "k", "part", "i"]) (sc := relS (lcS (forB ((defBody s_law_reduced).getD 4 (.Pass ⟨0, 0, 0, 0⟩)) 6)) (defScope s_law_reduced)) (by decide +kernel)) (fun _ _ _ _ _ => (pg_name (i := 12) nd rfl (Or.inl rfl))) (fun _ _ _ _ _ => pts_nil) (fun _ _ _ _ _ => (pe_op op_modN (pe_callTy call_int1 (by rfl) B.int (by decide +kernel) (pa_cons (pe_op op_sub (pe_ix (ix_listK (K := K)) (pv 9) (pv 12) (fun _ _ => rfl)) (pe_op op_mul (pe_ix (ix_listK (K := K)) (pv 9) (pv 5) (fun _ _ => rfl)) (pe_ix (ix_listK (K := K)) (pv 7) (pv 12) (fun _ _ => rfl)))) pa_nil)) (pv 1))))))
      (pss_one (ps_expr (pe_bm PySem.F.plainAttrs_list PySem.F.slot_list_append PySem.F.type_list_append mt_append (pv 3) (pa_cons (pv 7) pa_nil))))))))))))
      (pss_one (ps_ret (pe_callTy (tup_ofK (K := K)) (by rfl) B.tuple (by decide +kernel) (pa_cons (pe_lc (own := [("row", 9)]) (g := gName 9) (by rfl) nd (pi_listK (K := K) (pv 3)) (blkOk_by (own := [("row", 9)]) (N := ["rows", "p", "left", "found", "columns", "j", "places", "head", "back", "row", "k", "part", "i"]) (sc := defScope s_law_reduced) (by decide +kernel)) (fun _ _ _ _ _ => (pg_name (i := 9) nd rfl (Or.inl rfl))) (fun _ _ _ _ _ => pts_nil) (fun _ _ _ _ _ => (pe_callTy (tup_ofK (K := K)) (by rfl) B.tuple (by decide +kernel) (pa_cons (pv 9) pa_nil)))) pa_nil))))))))), ?_⟩
    refine ⟨_, rfl, a, rfl, ⟨_, SqT.of ha⟩, fun D hD => lc_tup (K := K) (a := a) (xs := ts) (fun i H' => Bld FL H D (rows.take i) H') (Bld.start hD) (fun i H' _ b => SqT.of (b.same _ _ ha)) ?_ ?_⟩
    · intro i x H1 hx b
      obtain ⟨r, hr0, hxr⟩ := paired_at hts hx
      obtain ⟨c, rfl, hc⟩ := hxr.same b.same
      refine ⟨rfl, _, rfl, c, _, rfl, .inr (SqT.of hc), fun l hl => ?_⟩
      rw [List.take_succ, hr0]
      exact b.put stab_FL hD (same_new hl) FL.new (fun z => by cases z; rw [b.ex.choose_spec.1] at hl; cases hl) (by rw [List.length_take]; exact small1000 (by omega))
    · intro H1 b
      obtain ⟨s1, xs, eD, pxs⟩ := b.fin
      rw [paired_len hts, List.take_length] at pxs
      refine ⟨(by show 0 ≤ sizeLine; decide), fun L hL => ?_⟩
      have sL : Same H1 (upd H1 L (.lst [])) := same_new hL
      have eL : upd H1 L (.lst []) L = some (.lst []) := upd_same
      have neDL : D ≠ L := ne_of_none eD hL
      generalize upd H1 L (.lst []) = H2 at sL eL ⊢
      have eD2 := sL _ _ eD
      have pxs2 := paired_mono (fun _ _ q => q.same sL) pxs
      have lx := paired_len pxs2
      refine ⟨fun σ H' => σ = [some (.ref a), some (.int p), some (.ref D), some (.ref L), some (.int n), none, none, none, none, none, none, none, none] ∧ H' = H2, ?_, ?_⟩
      · refine ⟨_, rfl, D, xs, rfl, .inl (SqL.of eD2), _, _, rfl, rfl, _, rfl, iteD (fun h => ?_) (fun h => ?_)⟩
        · have h0 : 0 < rows.length := by omega
          obtain ⟨x0, hx0, c, rfl, hc⟩ := paired_of pxs2 (show rows[0]? = some rows[0] from List.getElem?_eq_getElem h0)
          refine ⟨_, rfl, D, _, _, _, rfl, rfl, SqL.of eD2, atI_nat (j := 0) hx0, c, _, rfl, .inl (SqL.of hc), ?_⟩
          rw [List.length_map, (hR _ (List.getElem_mem h0)).1]
          exact ⟨rfl, rfl⟩
        · have : rows = [] := by
            cases rows with
            | nil => rfl
            | cons r t =>
              exfalso
              rw [List.length_cons] at lx
              omega
          subst this
          refine ⟨?_, rfl⟩
          rw [← hw]
          rfl
      · rintro σ H' ⟨rfl, rfl⟩
        refine ⟨_, rfl, (n : Int), rfl, by omega, by omega, for_range (lo := 0) (n := n) (fun j σ H' => ∃ (X Y : Addr) (xs ys : List V) (v5 v6 v7 v8 v9 v10 v11 v12 : Option V), σ = [some (.ref a), some (.int p), some (.ref X), some (.ref Y), some (.int n), v5, v6, v7, v8, v9, v10, v11, v12] ∧ Same H H' ∧
          H' X = some (.lst xs) ∧ Paired (FL H') xs (run p rows j).1 ∧ H' Y = some (.lst ys) ∧ Paired (FL H') ys (run p rows j).2 ∧ X ≠ Y ∧ (H X = none ∧ H Y = none))
          ⟨D, L, xs, [], none, none, none, none, none, none, none, none, rfl, s1.trans sL, eD2, pxs2, eL, .nil, neDL, hD, s1.free hL⟩ ?_ ?_⟩
        · rintro j σ H3 hj ⟨X, Y, xs, ys, v5, v6, v7, v8, v9, v10, v11, v12, rfl, s3, hX, px, hY, py, ne, hXn, hYn⟩
          have lx3 := paired_len px
          have ly3 := paired_len py
          have rl := run_len (p := p) (rows := rows) j
          obtain ⟨pv, I⟩ := iv_run hp hR j (by omega)
          refine ⟨_, rfl, X, xs, rfl, .inl (SqL.of hX), (xs.length : Int), rfl, by omega, by omega, fun D3 hD3 => lc_range (lo := 0) (n := xs.length) (fun i H' => Bld FI H3 D3 (plc j (run p rows j).1 i) H') (Bld.start hD3) ?_ ?_⟩
          · intro i G1 hi b
            have hi2 : i < (run p rows j).1.length := by omega
            obtain ⟨x, hx, c, rfl, hc⟩ := paired_of px (show (run p rows j).1[i]? = some ((run p rows j).1[i]) from List.getElem?_eq_getElem hi2)
            have hL := I.left _ (List.getElem_mem hi2)
            have gd : (run p rows j).1.getD i [] = (run p rows j).1[i] := by rw [List.getD_eq_getElem?_getD, List.getElem?_eq_getElem hi2]; rfl
            refine ⟨rfl, _, rfl, _, rfl, X, _, _, _, rfl, rfl, SqL.of (b.same _ _ hX), (by rw [Int.zero_add]; exact atI_nat hx), _, rfl, c, _, _, _, rfl, rfl, SqL.of (b.same _ _ hc), (by rw [Int.zero_add]; exact atI_nat (take_map_at n (by rw [hL.1]; exact hj))), rfl, _, rfl, ?_⟩
            have lp := plc_le j (run p rows j).1 i
            rw [plc_succ, gd]
            refine iteND (fun hz => ?_) (fun hz => ?_)
            · have e : hot j (run p rows j).1[i] = true := decide_eq_true fun z => hz (congrArg V.int z)
              rw [if_pos e]
              exact ⟨_, rfl, b.put stab_FI hD3 (Same.refl _) (by show V.int (0 + (i : Int)) = V.int (i : Int); rw [Int.zero_add]) (by intro z; cases z) (small1000 (by omega))⟩
            · have e : hot j (run p rows j).1[i] = false := decide_eq_false fun z => z (V.int.inj hz)
              rw [if_neg (by rw [e]; decide), List.append_nil]
              exact b
          · intro H4 b
            obtain ⟨s4, zs, eD3, pz⟩ := b.fin
            rw [lx3] at pz
            have ez := fi_map pz
            subst ez
            have hX4 := s4 _ _ hX
            have hY4 := s4 _ _ hY
            have px4 := paired_mono (fun _ _ q => q.same s4) px
            have py4 := paired_mono (fun _ _ q => q.same s4) py
            refine ⟨_, rfl, D3, _, rfl, .inl (SqL.of eD3), rfl, _, rfl, ?_⟩
            cases ef : (run p rows j).1.findIdx? (hot j) with
            | none =>
              have e0 := plc_none ef
              have es : run p rows (j + 1) = run p rows j := stp_none (List.findIdx?_eq_none_iff.mp ef)
              refine iteTb (decide_eq_true (by rw [e0]; rfl)) ?_
              exact ⟨X, Y, xs, ys, _, _, _, _, _, _, _, _, rfl, s3.trans s4, hX4, by rw [es]; exact px4, hY4, by rw [es]; exact py4, ne, hXn, hYn⟩
            | some k0 =>
              obtain ⟨hk0, hhot, pt, ept⟩ := plc_some ef
              generalize hrr : (run p rows j).1.getD k0 [] = r at hhot
              have hrk : (run p rows j).1[k0]? = some r := by
                rw [← hrr, List.getD_eq_getElem?_getD, List.getElem?_eq_getElem hk0]
                rfl
              have hrL : Ltr p n r := I.left r (List.mem_of_getElem? hrk)
              have hleadL : Ltr p n (led p r j) := led_ltr (by omega) hrL.1
              obtain ⟨x, hx, c, rfl, hc⟩ := paired_of px4 hrk
              refine iteFb (decide_eq_false (by rw [ept]; intro z; have := V.int.inj z; rw [List.length_map, List.length_cons] at this; omega)) ?_
              have hkx : k0 < xs.length := by omega
              refine ⟨_, rfl, .inl ⟨rfl, _, SqL.of hX4⟩, _, rfl, D3, _, _, _, rfl, rfl, SqL.of eD3, (by rw [ept]; exact atI_nat (j := 0) rfl), X, xs, (k0 : Int), k0, .ref c, rfl, rfl, hX4, by omega, by omega, (by rw [seqIndex_of (by omega) (by omega)]; rfl), hx, ?_⟩
              have nzr : ∀ u : List Int, Ltr p n u → u ≠ [] := fun u hu z => by
                have := hu.1
                rw [z] at this
                have : 0 = n := this
                omega
              have kb : ∀ b o, b ≠ X → H4 b = some o → upd H4 X (.lst (xs.eraseIdx k0)) b = some o := fun b o n h => by rw [upd_ne n]; exact h
              have flx : ∀ (y : V) (z : List Int), Ltr p n z → FL H4 y z → FL (upd H4 X (.lst (xs.eraseIdx k0))) y z := fun y z hz f => stab_FL X _ _ y z kb (f.ne (nzr z hz) hX4 px4) f
              have hX5 : upd H4 X (.lst (xs.eraseIdx k0)) X = some (.lst (xs.eraseIdx k0)) := upd_same
              have hY5 := kb _ _ (Ne.symm ne) hY4
              have px5 : Paired (FL (upd H4 X (.lst (xs.eraseIdx k0)))) (xs.eraseIdx k0) ((run p rows j).1.eraseIdx k0) := by
                have q := paired_erase k0 px4
                refine paired_mem q fun y z hz f => flx y z (I.left z (List.mem_of_mem_eraseIdx hz)) f
              have py5 : Paired (FL (upd H4 X (.lst (xs.eraseIdx k0)))) ys (run p rows j).2 := paired_mem py4 fun y z hz f => flx y z (I.done z hz) f
              have hc5 : upd H4 X (.lst (xs.eraseIdx k0)) c = some (.lst (r.map V.int)) := by
                obtain ⟨c2, e2, h2⟩ := flx (.ref c) r hrL ⟨c, rfl, hc⟩
                cases e2
                exact h2
              have s5 : Same H (upd H4 X (.lst (xs.eraseIdx k0))) := fun b o h => kb _ _ (ne_of_none h hXn) (s4 _ _ (s3 _ _ h))
              generalize upd H4 X (.lst (xs.eraseIdx k0)) = H5 at hX5 hY5 px5 py5 hc5 s5 ⊢
              have bj := hrL.bd hj
              have zj := hot_ne hhot
              refine ⟨_, rfl, _, rfl, c, _, _, _, rfl, rfl, SqL.of hc5, (by rw [Int.zero_add]; exact atI_nat (take_map_at n (by rw [hrL.1]; exact hj))), _, rfl, at0 r j, p, rfl, hp, by omega, bj.2, ?_⟩
              -- the head
              refine ⟨_, rfl, c, rfl, ⟨_, SqL.of hc5⟩, fun HD hHD => lc_list (K := K) (a := c) (xs := r.map V.int) (fun i H' => Bld FI H5 HD ((led p r j).take i) H') (Bld.start hHD) (fun i H' _ b => SqL.of (b.same _ _ hc5)) ?_ ?_⟩
              · intro i x G1 hx b
                have hi : i < r.length := by
                  have := (List.getElem?_eq_some_iff.mp hx).1
                  rw [List.length_map] at this
                  exact this
                cases (take_map_at n hi).symm.trans hx
                have bi := hrL.bd (k := i) (by rw [← hrL.1]; exact hi)
                refine ⟨rfl, _, rfl, _, rfl, _, _, rfl, rfl, .inl ⟨by omega, by omega⟩, .inl ⟨_, rfl, _, rfl, _, p, rfl, rfl, by omega, ?_⟩⟩
                have le : i < (led p r j).length := by rw [hleadL.1, ← hrL.1]; exact hi
                rw [take_at0 le]
                exact b.put (y := .int ((at0 r i * inv p (at0 r j)).fmod p)) (z := at0 (led p r j) i) stab_FI hHD (Same.refl _) (by rw [led_at hrL.1 (by rw [← hrL.1]; exact hi), Int.mul_comm]; rfl) (by intro z; cases z) (by have := hleadL.1; rw [List.length_take]; exact small1000 (by omega))
              · intro H6 b
                obtain ⟨s6, zs6, eHD, pz6⟩ := b.fin
                rw [List.length_map, List.take_of_length_le (by rw [hleadL.1, hrL.1]; exact Nat.le_refl _)] at pz6
                rw [fi_map pz6] at eHD
                have hX6 := s6 _ _ hX5
                have hY6 := s6 _ _ hY5
                have px6 := paired_mono (fun _ _ q => q.same s6) px5
                have py6 := paired_mono (fun _ _ q => q.same s6) py5
                have H6l : ∀ (i : Nat) (G : Hp), Same H6 G → G HD = some (.lst ((led p r j).map V.int)) := fun _ G s => s _ _ eHD
                have h6len : (xs.eraseIdx k0).length ≤ 200 := Nat.le_trans (List.length_eraseIdx_le _ _) (by omega)
                have lxe := paired_len px6
                refine ⟨_, rfl, X, rfl, ⟨_, SqL.of hX6⟩, fun D7 hD7 => lc_list (K := K) (a := X) (xs := (xs.eraseIdx k0)) (fun i H' => Bld FL H6 D7 ((((run p rows j).1.eraseIdx k0).map fun t => less p t (at0 t j) (led p r j)).take i) H') (Bld.start hD7) (fun i H' _ b => SqL.of (b.same _ _ hX6)) ?_ ?_⟩
                · intro i x G1 hx b
                  obtain ⟨u, hu0, hxu⟩ := paired_at px6 hx
                  obtain ⟨cu, rfl, hcu⟩ := hxu.same b.same
                  have huL : Ltr p n u := (fun u hu => I.left u (List.mem_of_mem_eraseIdx hu)) u (List.mem_of_getElem? hu0)
                  have hlead := H6l 0 _ b.same
                  have bj := huL.bd hj
                  have lul := less_len (p := p) (f := at0 u j) huL.1 hleadL.1
                  refine ⟨rfl, _, rfl, (n : Int), rfl, by omega, by omega, fun E2 hE2 => lc_range (lo := 0) (n := n) (fun i H' => Bld FI G1 E2 ((less p u (at0 u j) (led p r j)).take i) H') (Bld.start hE2) ?_ ?_⟩
                  · intro i2 G2 hi2 b2
                    have hcu2 := b2.same _ _ hcu
                    have hh2 := b2.same _ _ hlead
                    have eu : (u.map V.int)[i2]? = some (V.int (at0 u i2)) := take_map_at n (by rw [huL.1]; exact hi2)
                    have euj : (u.map V.int)[j]? = some (V.int (at0 u j)) := take_map_at n (by rw [huL.1]; exact hj)
                    have el : ((led p r j).map V.int)[i2]? = some (V.int (at0 (led p r j) i2)) := take_map_at n (by rw [hleadL.1]; exact hi2)
                    refine ⟨rfl, _, rfl, _, rfl, cu, _, _, _, rfl, rfl, SqL.of hcu2, (by rw [Int.zero_add]; exact atI_nat eu), _, rfl, _, rfl, cu, _, _, _, rfl, rfl, SqL.of hcu2, (by rw [Int.zero_add]; exact atI_nat euj), ?_⟩
                    refine ⟨_, rfl, _, rfl, HD, _, _, _, rfl, rfl, SqL.of hh2, (by rw [Int.zero_add]; exact atI_nat el), _, _, rfl, rfl, .inl ⟨by omega, by omega⟩, _, _, rfl, rfl, .inl ⟨_, rfl, _, rfl, _, p, rfl, rfl, by omega, ?_⟩⟩
                    rw [take_at0 (by rw [lul]; exact hi2)]
                    exact b2.put (y := .int ((at0 u i2 - at0 u j * at0 (led p r j) i2).fmod p)) (z := at0 (less p u (at0 u j) (led p r j)) i2) stab_FI hE2 (Same.refl _) (by rw [less_at huL.1 hleadL.1 hi2]; rfl) (by intro z; cases z) (by rw [List.length_take]; exact small1000 (by omega))
                  · intro G2 b2
                    obtain ⟨sb, zs2, e2, pz2⟩ := b2.fin
                    rw [List.take_of_length_le (by rw [lul]; exact Nat.le_refl _)] at pz2
                    rw [fi_map pz2] at e2
                    have et : (((run p rows j).1.eraseIdx k0).map fun t => less p t (at0 t j) (led p r j)).take (i + 1) = (((run p rows j).1.eraseIdx k0).map fun t => less p t (at0 t j) (led p r j)).take i ++ [less p u (at0 u j) (led p r j)] := by
                      rw [List.take_succ, List.getElem?_map, hu0]
                      rfl
                    rw [et]
                    exact b.put stab_FL hD7 sb ⟨E2, rfl, e2⟩ (fun z => by cases z; rw [b.ex.choose_spec.1] at hE2; cases hE2) (by rw [List.length_take, List.length_map]; exact small1000 (by omega))
                · intro H7 b7
                  obtain ⟨s7, ws, eX7, pw7⟩ := b7.fin
                  rw [lxe, List.take_of_length_le (by rw [List.length_map]; exact Nat.le_refl _)] at pw7
                  have hY7 := s7 _ _ hY6
                  have py7 := paired_mono (fun _ _ q => q.same s7) py6
                  have eHD7 := s7 _ _ eHD
                  have H7l : ∀ (i : Nat) (G : Hp), Same H7 G → G HD = some (.lst ((led p r j).map V.int)) := fun _ G s => s _ _ eHD7
                  refine ⟨_, rfl, Y, rfl, ⟨_, SqL.of hY7⟩, fun D8 hD8 => lc_list (K := K) (a := Y) (xs := ys) (fun i H' => Bld FL H7 D8 (((run p rows j).2.map fun t => less p t (at0 t j) (led p r j)).take i) H') (Bld.start hD8) (fun i H' _ b => SqL.of (b.same _ _ hY7)) ?_ ?_⟩
                  · intro i x G1 hx b
                    obtain ⟨u, hu0, hxu⟩ := paired_at py7 hx
                    obtain ⟨cu, rfl, hcu⟩ := hxu.same b.same
                    have huL : Ltr p n u := I.done u (List.mem_of_getElem? hu0)
                    have hlead := H7l 0 _ b.same
                    have bj := huL.bd hj
                    have lul := less_len (p := p) (f := at0 u j) huL.1 hleadL.1
                    refine ⟨rfl, _, rfl, (n : Int), rfl, by omega, by omega, fun E2 hE2 => lc_range (lo := 0) (n := n) (fun i H' => Bld FI G1 E2 ((less p u (at0 u j) (led p r j)).take i) H') (Bld.start hE2) ?_ ?_⟩
                    · intro i2 G2 hi2 b2
                      have hcu2 := b2.same _ _ hcu
                      have hh2 := b2.same _ _ hlead
                      have eu : (u.map V.int)[i2]? = some (V.int (at0 u i2)) := take_map_at n (by rw [huL.1]; exact hi2)
                      have euj : (u.map V.int)[j]? = some (V.int (at0 u j)) := take_map_at n (by rw [huL.1]; exact hj)
                      have el : ((led p r j).map V.int)[i2]? = some (V.int (at0 (led p r j) i2)) := take_map_at n (by rw [hleadL.1]; exact hi2)
                      refine ⟨rfl, _, rfl, _, rfl, cu, _, _, _, rfl, rfl, SqL.of hcu2, (by rw [Int.zero_add]; exact atI_nat eu), _, rfl, _, rfl, cu, _, _, _, rfl, rfl, SqL.of hcu2, (by rw [Int.zero_add]; exact atI_nat euj), ?_⟩
                      refine ⟨_, rfl, _, rfl, HD, _, _, _, rfl, rfl, SqL.of hh2, (by rw [Int.zero_add]; exact atI_nat el), _, _, rfl, rfl, .inl ⟨by omega, by omega⟩, _, _, rfl, rfl, .inl ⟨_, rfl, _, rfl, _, p, rfl, rfl, by omega, ?_⟩⟩
                      rw [take_at0 (by rw [lul]; exact hi2)]
                      exact b2.put (y := .int ((at0 u i2 - at0 u j * at0 (led p r j) i2).fmod p)) (z := at0 (less p u (at0 u j) (led p r j)) i2) stab_FI hE2 (Same.refl _) (by rw [less_at huL.1 hleadL.1 hi2]; rfl) (by intro z; cases z) (by rw [List.length_take]; exact small1000 (by omega))
                    · intro G2 b2
                      obtain ⟨sb, zs2, e2, pz2⟩ := b2.fin
                      rw [List.take_of_length_le (by rw [lul]; exact Nat.le_refl _)] at pz2
                      rw [fi_map pz2] at e2
                      have et : ((run p rows j).2.map fun t => less p t (at0 t j) (led p r j)).take (i + 1) = ((run p rows j).2.map fun t => less p t (at0 t j) (led p r j)).take i ++ [less p u (at0 u j) (led p r j)] := by
                        rw [List.take_succ, List.getElem?_map, hu0]
                        rfl
                      rw [et]
                      exact b.put stab_FL hD8 sb ⟨E2, rfl, e2⟩ (fun z => by cases z; rw [b.ex.choose_spec.1] at hE2; cases hE2) (by rw [List.length_take, List.length_map]; exact small1000 (by omega))
                  · intro H8 b8
                    obtain ⟨s8, us, eY8, pu8⟩ := b8.fin
                    rw [ly3, List.take_of_length_le (by rw [List.length_map]; exact Nat.le_refl _)] at pu8
                    have eX8 := s8 _ _ eX7
                    have pw8 := paired_mono (fun _ _ q => q.same s8) pw7
                    have eHD8 := s8 _ _ eHD7
                    have neXY : D7 ≠ D8 := fun z => by rw [z] at eX7; rw [eX7] at hD8; cases hD8
                    have lus := paired_len pu8
                    rw [List.length_map] at lus
                    refine ⟨_, rfl, .inl ⟨rfl, _, SqL.of eY8⟩, _, rfl, D8, us, _, rfl, rfl, eY8, (by rw [lus]; exact small1000 (by omega)), ?_⟩
                    have kb8 : ∀ b o, b ≠ D8 → H8 b = some o → upd H8 D8 (.lst (us ++ [.ref HD])) b = some o := fun b o n h => by rw [upd_ne n]; exact h
                    have fl8 : ∀ (y : V) (z : List Int), Ltr p n z → FL H8 y z → FL (upd H8 D8 (.lst (us ++ [.ref HD]))) y z := fun y z hz f => stab_FL D8 _ _ y z kb8 (f.ne (nzr z hz) eY8 pu8) f
                    have est : run p rows (j + 1) = ((((run p rows j).1.eraseIdx k0).map fun t => less p t (at0 t j) (led p r j)), ((run p rows j).2.map fun t => less p t (at0 t j) (led p r j)) ++ [led p r j]) := by
                      show stp p j (run p rows j) = _
                      unfold stp
                      rw [ef]
                      simp only
                      rw [hrr]
                    refine ⟨D7, D8, ws, us ++ [.ref HD], _, _, _, _, _, _, _, _, rfl, ?_, kb8 _ _ neXY eX8, ?_, upd_same, ?_, neXY, ?_, ?_⟩
                    · intro b o h
                      have e6 := s6 _ _ (s5 _ _ h)
                      exact kb8 _ _ (ne_of_none (s7 _ _ e6) hD8) (s8 _ _ (s7 _ _ e6))
                    · rw [est]
                      refine paired_mem pw8 fun y z hz f => fl8 y z ?_ f
                      obtain ⟨u, hu, rfl⟩ := List.mem_map.mp hz
                      exact less_ltr (by omega) (I.left u (List.mem_of_mem_eraseIdx hu)).1 hleadL.1
                    · rw [est]
                      refine paired_app (paired_mem pu8 fun y z hz f => fl8 y z ?_ f) (.cons (fl8 _ _ hleadL ⟨HD, rfl, eHD8⟩) .nil)
                      obtain ⟨u, hu, rfl⟩ := List.mem_map.mp hz
                      exact less_ltr (by omega) (I.done u hu).1 hleadL.1
                    · exact s5.free (s6.free hD7)
                    · exact s5.free (s6.free (s7.free hD8))
        · rintro σ H3 ⟨X, Y, xs, ys, v5, v6, v7, v8, v9, v10, v11, v12, rfl, s3, hX, px, hY, py, ne, _⟩
          have ly := paired_len py
          refine ⟨_, rfl, Y, rfl, ⟨_, SqL.of hY⟩, fun D4 hD4 => lc_list (K := K) (a := Y) (xs := ys) (fun i H' => Bld FT H3 D4 ((run p rows n).2.take i) H') (Bld.start hD4) (fun i H' _ b => SqL.of (b.same _ _ hY)) ?_ ?_⟩
          · intro i x H4 hx b
            obtain ⟨r, hr0, hxr⟩ := paired_at py hx
            obtain ⟨c, rfl, hc⟩ := hxr.same b.same
            refine ⟨rfl, _, rfl, c, _, rfl, .inl ⟨SqL.of hc, fun l hl => ?_⟩⟩
            rw [List.take_succ, hr0]
            have := run_len (p := p) (rows := rows) n
            exact b.put stab_FT hD4 (same_new hl) FT.new (fun z => by cases z; rw [b.ex.choose_spec.1] at hl; cases hl) (by rw [List.length_take]; exact small1000 (by omega))
          · intro H4 b
            obtain ⟨s4, zs, eD4, pz⟩ := b.fin
            rw [ly, List.take_length] at pz
            refine ⟨D4, zs, rfl, .inl ⟨SqL.of eD4, fun q hq => k (.ref q) _ ((s3.trans s4).trans (same_new hq)) ⟨q, zs, rfl, upd_same, ?_⟩⟩⟩
            rw [red_run hR]
            exact paired_mono (fun _ _ f => f.same (same_new hq)) pz
end
end WU

set_option maxRecDepth 100000
set_option maxHeartbeats 8000000
namespace WU
open PySem PySem.Spec PyProof.Rows L2
/-- u and v: the same number, or tuples alike (to the depth n) -/
def EqV : Nat → Hp → V → V → Prop
  | 0, _, u, v => ∃ i, u = .int i ∧ v = .int i
  | n + 1, H, u, v => (∃ i, u = .int i ∧ v = .int i) ∨ ∃ a b xs ys, u = .ref a ∧ v = .ref b ∧ H a = some (.tup xs) ∧ H b = some (.tup ys) ∧ Paired (EqV n H) xs ys ∧ ys.length ≤ 10000
section
variable {P : Program} {w : World} {K : PySem.W.Frag} {mg : Str → Option Value} {base : Heap}
theorem scSm : FnScope ["found", "due", "at"] ["found", "due"] (defScope s_law_same) := ⟨rfl, rfl, rfl, by decide +kernel, rfl, by decide +kernel, by decide +kernel⟩
def spSmP (R : Hp → V → V → Prop) : Sp := fun vs H Q _ => ∃ u v, vs = [u, v] ∧ R H u v ∧ Q (.bl true) H
def spSm (n : Nat) : Sp := spSmP (EqV n)
/-- one step: where parts are told by R, numbers and tuples of such parts are -/
theorem ok_Sm1 {R : Hp → V → V → Prop} {k : Nat} {f : Addr} {fd : FuncData} (F : FnS K "_law_same" s_law_same f fd) (B : Blt3 mg) (C0 : Cal P w K mg base k "_law_same" f fd ["found", "due"] (spSmP R)) :
    FnOk P w K mg base (L2.CX P w) (k + 1) f fd ["found", "due"] (spSmP fun H u v => (∃ i, u = .int i ∧ v = .int i) ∨ ∃ a b xs ys, u = .ref a ∧ v = .ref b ∧ H a = some (.tup xs) ∧ H b = some (.tup ys) ∧ Paired (R H) xs ys ∧ ys.length ≤ 10000) := by
  refine F.ok scSm (fun vs H Q E h => ?_) (fun cdv A outer s H vs Q E hr h => ?_)
  · obtain ⟨u, v, rfl, _⟩ := h
    rfl
  · obtain ⟨u, v, rfl, he, kk⟩ := h
    have nd := scSm.nd
    refine ⟨_, (pss_cons (ps_if (pt_val (pe_callB call_isi (by rfl) B.isi (by decide +kernel) (pa_cons (pv 1) (pa_cons (pe_bltn (v := .ty "tuple") (by rfl) B.tuple (by decide +kernel) rfl) pa_nil)))) (pss_cons (ps_if (PW.pt (pw_or (pt_not (pt_val (pe_callB call_isi (by rfl) B.isi (by decide +kernel) (pa_cons (pv 0) (pa_cons (pe_bltn (v := .ty "tuple") (by rfl) B.tuple (by decide +kernel) rfl) pa_nil))))) (pw_or1 (pt_cmpR op_ne (pe_callB call_len_seq (by rfl) B.len (by decide +kernel) (pa_cons (pv 0) pa_nil)) (pe_callB call_len_seq (by rfl) B.len (by decide +kernel) (pa_cons (pv 1) pa_nil)) (nomark _))))) (pss_one (ps_ret pe_bl)) pss_nil)
      (pss_cons (ps_for (passes_of rfl) rfl (pi_range1 rfl B.range (pa_cons (pe_callB call_len_seq (by rfl) B.len (by decide +kernel) (pa_cons (pv 1) pa_nil)) pa_nil)) (pg_name (i := 2) nd rfl (Or.inl rfl)) (pss_one (ps_if (pt_not (pt_val (pe_cal C0 hr (pa_cons (pe_ix ix_tup (pv 0) (pv 2) (fun _ _ => rfl)) (pa_cons (pe_ix ix_tup (pv 1) (pv 2) (fun _ _ => rfl)) pa_nil)) passU))) (pss_one (ps_ret pe_bl)) pss_nil)))
      (pss_one (ps_ret pe_bl)))) pss_nil)
      (pss_one (ps_ret (pe_and (pe_callB call_isi (by rfl) B.isi (by decide +kernel) (pa_cons (pv 0) (pa_cons (pe_bltn (v := .ty "int") (by rfl) B.int (by decide +kernel) rfl) pa_nil))) (pe_and (pe_not (pe_callB call_isi (by rfl) B.isi (by decide +kernel) (pa_cons (pv 0) (pa_cons (pe_bltn (v := .ty "bool") (by rfl) B.bool (by decide +kernel) rfl) pa_nil)))) (pe_one (pe_cmpR op_eq (pv 0) (pv 1) (nomark _)))))))), ?_⟩
    rcases he with ⟨i, rfl, rfl⟩ | ⟨a, b, xs, ys, rfl, rfl, ha, hb, hP, hl⟩
    · refine ⟨_, rfl, _, _, _, _, _, rfl, .ty "tuple", .base (.int i), kit_ty (show kitB "int" "tuple" = some false by decide +kernel), _, rfl, iteF ?_⟩
      refine ⟨_, rfl, _, _, _, _, _, rfl, .ty "int", .base (.int i), kit_ty (show kitB "int" "int" = some true by decide +kernel), _, rfl, iteT ?_⟩
      refine ⟨_, rfl, _, _, _, _, _, rfl, .ty "bool", .base (.int i), kit_ty (show kitB "int" "bool" = some false by decide +kernel), _, rfl, _, rfl, iteT ⟨_, rfl, _, rfl, rfl, ?_⟩⟩
      rw [decide_eq_true rfl]
      exact kk
    · have el := paired_len hP
      refine ⟨_, rfl, _, _, _, _, _, rfl, .ty "tuple", .base (.tup hb), kit_ty (show kitB "tuple" "tuple" = some true by decide +kernel), _, rfl, iteT ?_⟩
      refine ⟨_, rfl, _, _, _, _, _, rfl, .ty "tuple", .base (.tup ha), kit_ty (show kitB "tuple" "tuple" = some true by decide +kernel), _, rfl, iteF ?_⟩
      refine ⟨_, rfl, a, _, rfl, .inr (SqT.of ha), _, rfl, b, _, rfl, .inr (SqT.of hb), rfl, _, rfl, iteFb (by rw [decide_eq_true (congrArg (fun n : Nat => V.int n) el)]; rfl) ?_⟩
      refine ⟨_, rfl, b, _, rfl, .inr (SqT.of hb), (ys.length : Int), rfl, by omega, by omega, for_range (lo := 0) (n := ys.length) (fun i σ H' => ∃ x, σ = [some (.ref a), some (.ref b), x] ∧ H' = H) ⟨none, rfl, rfl⟩ ?_ ?_⟩
      · rintro i σ H' hi ⟨x, rfl, rfl⟩
        have hy : ys[i]? = some ys[i] := List.getElem?_eq_getElem hi
        obtain ⟨u, hx, r⟩ := paired_of hP hy
        rw [show ((0 : Int) + (i : Int)) = ((i : Nat) : Int) from Int.zero_add _]
        refine ⟨_, rfl, _, rfl, a, xs, (i : Int), u, rfl, rfl, SqT.of ha, atI_nat hx, _, rfl, _, rfl, b, ys, (i : Int), _, rfl, rfl, SqT.of hb, atI_nat hy, u, _, rfl, r, _, rfl, iteF ⟨_, rfl, rfl⟩⟩
      · rintro σ H' ⟨x, rfl, rfl⟩
        exact kk
/-- whole values, to the depth n -/
theorem ok_Sm {f : Addr} {fd : FuncData} (F : FnS K "_law_same" s_law_same f fd) (B : Blt3 mg) (g : mg "_law_same" = some (.ref f)) (hb : L2.Binds K fd ["found", "due"] []) : ∀ n, FnOk P w K mg base (L2.CX P w) (n + 1) f fd ["found", "due"] (spSm n)
  | 0 => by
    have e : FnOk P w K mg base (L2.CX P w) 0 f fd ["found", "due"] (spSmP fun _ _ _ => False) := ⟨fun vs H Q E ⟨_, _, _, z, _⟩ => z.elim, fun A outer s H args us vs Q E _ _ _ _ ⟨_, _, _, z, _⟩ => z.elim⟩
    exact (ok_Sm1 F B ⟨g, F.kp, hb, e⟩).imp fun vs H Q E ⟨u, v, e, h, q⟩ => ⟨u, v, e, .inl h, q⟩
  | n + 1 => ok_Sm1 F B ⟨g, F.kp, hb, ok_Sm F B g hb n⟩
end
end WU

set_option maxRecDepth 100000
set_option maxHeartbeats 8000000
namespace WU
open PySem PySem.Spec PyProof.Rows L2
/-! ### the keys of a dict of rows -/
def kI (r : List Int) : List Key := r.map Sum.inl
theorem kI_V (r : List Int) : (kI r).map kV = r.map V.int := by
  unfold kI
  rw [List.map_map]
  rfl
theorem kI_inj : ∀ {r t : List Int}, kI r = kI t → r = t
  | [], [], _ => rfl
  | [], _ :: _, h => by cases h
  | _ :: _, [], h => by cases h
  | a :: r, b :: t, h => by
    unfold kI at h
    rw [List.map_cons, List.map_cons] at h
    obtain ⟨h1, h2⟩ := List.cons.inj h
    rw [Sum.inl.inj h1, kI_inj h2]
def ins (keys : List (List Int)) (v : List Int) : List (List Int) := if v ∈ keys then keys else keys ++ [v]
theorem ins_mem {keys : List (List Int)} {v x : List Int} : x ∈ ins keys v ↔ x ∈ keys ∨ x = v := by
  unfold ins
  split
  · rename_i h
    exact ⟨.inl, fun z => z.elim id fun e => e ▸ h⟩
  · rw [List.mem_append, List.mem_singleton]
theorem ins_nodup {keys : List (List Int)} {v : List Int} (h : keys.Nodup) : (ins keys v).Nodup := by
  unfold ins
  split
  · exact h
  · rename_i hv
    rw [List.nodup_append]
    exact ⟨h, by simp, fun a ha b hb e => hv (by rw [List.mem_singleton.mp hb] at e; exact e ▸ ha)⟩
theorem ins_len {keys : List (List Int)} {v : List Int} : (ins keys v).length ≤ keys.length + 1 := by
  unfold ins
  split
  · omega
  · rw [List.length_append]
    exact Nat.le_refl _
theorem put_keys {kvs : List (List Key × V)} {keys : List (List Int)} (h : kvs.map Prod.fst = keys.map kI) (v : List Int) (x : V) : (putK kvs (kI v) x).map Prod.fst = (ins keys v).map kI := by
  have hm : (kvs.any fun kv => decide (kv.1 = kI v)) = true ↔ v ∈ keys := by
    rw [List.any_eq_true]
    constructor
    · rintro ⟨kv, hkv, e⟩
      have : kv.1 ∈ kvs.map Prod.fst := List.mem_map.mpr ⟨kv, hkv, rfl⟩
      rw [h, of_decide_eq_true e] at this
      obtain ⟨t, ht, et⟩ := List.mem_map.mp this
      rw [← kI_inj et]
      exact ht
    · intro hv
      have : kI v ∈ kvs.map Prod.fst := by rw [h]; exact List.mem_map.mpr ⟨v, hv, rfl⟩
      obtain ⟨kv, hkv, e⟩ := List.mem_map.mp this
      exact ⟨kv, hkv, decide_eq_true e⟩
  unfold putK ins
  by_cases hv : v ∈ keys
  · rw [if_pos (hm.mpr hv), if_pos hv, ← h, List.map_map]
    refine List.map_congr_left fun kv _ => ?_
    show (if kv.1 = kI v then (kv.1, x) else kv).1 = kv.1
    split <;> rfl
  · rw [if_neg (fun z => hv (hm.mp z)), if_neg hv, List.map_append, List.map_append, h]
    rfl
/-- a dict at d whose keys are these rows -/
def DKeys (H : Hp) (d : Addr) (keys : List (List Int)) : Prop := ∃ kvs : List (List Key × V), H d = some (.dT kvs) ∧ kvs.map Prod.fst = keys.map kI
theorem DKeys.put {H : Hp} {d b : Addr} {keys : List (List Int)} {v : List Int} {Q : Hp → Prop} (h : DKeys H d keys) (hb : H b = some (.tup (v.map V.int))) (hl : keys.length < sizeLine) (k : ∀ H', (∀ c o, c ≠ d → H c = some o → H' c = some o) → DKeys H' d (ins keys v) → Q H') :
    ∃ H', DPut H d (.ref b) (.bl true) H' ∧ Q H' := by
  obtain ⟨kvs, e, hk⟩ := h
  have el : kvs.length = keys.length := by
    have := congrArg List.length hk
    rw [List.length_map, List.length_map] at this
    exact this
  exact ⟨_, DPut.t (k := kI v) e (by rw [kI_V]; exact hb) (by rw [el]; exact hl), k _ (fun c o n hc => by rw [upd_ne n]; exact hc) ⟨_, upd_same, put_keys hk v _⟩⟩
theorem DKeys.put' {H : Hp} {d b : Addr} {keys : List (List Int)} {v : List Int} {Q : Hp → Prop} (h : DKeys H d keys) (hb : H b = some (.tup (v.map V.int))) (hl : keys.length < sizeLine) (k : ∀ H', Keep d H H' → DKeys H' d (ins keys v) → Q H') :
    ∃ H', V.ref d = V.ref d ∧ DPut H d (.ref b) (.bl true) H' ∧ Q H' := by
  obtain ⟨H', g, q⟩ := h.put hb hl k
  exact ⟨H', rfl, g, q⟩
theorem DKeys.same {H H' : Hp} {d : Addr} {keys : List (List Int)} (h : DKeys H d keys) (s : Same H H') : DKeys H' d keys := by
  obtain ⟨kvs, e, hk⟩ := h
  exact ⟨kvs, s _ _ e, hk⟩
theorem DKeys.ne {H : Hp} {d c : Addr} {xs : List V} {keys : List (List Int)} (h : DKeys H d keys) (e : H c = some (.lst xs)) : c ≠ d := by
  obtain ⟨kvs, e2, _⟩ := h
  exact ne_of e e2 (by intro w; cases w)
theorem keys_rows {H : Hp} : ∀ {kvs : List (List Key × V)} {bs : List Addr} {keys : List (List Int)}, IsKeys H kvs bs → kvs.map Prod.fst = keys.map kI → Paired (FT H) (bs.map V.ref) keys
  | [], _, [], .nil, _ => .nil
  | [], _, _ :: _, .nil, h => by cases h
  | kv :: kvs, _, [], .cons _ _, h => by cases h
  | kv :: kvs, _, k :: keys, .cons (b := b) e t, h => by
    rw [List.map_cons, List.map_cons] at h
    obtain ⟨h1, h2⟩ := List.cons.inj h
    refine .cons ⟨b, rfl, ?_⟩ (keys_rows t h2)
    rw [e, h1, kI_V]
theorem tup_dict {H H' : Hp} {d : Addr} {keys : List (List Int)} (h : DKeys H d keys) (k : ∀ c o, c ≠ d → H c = some o → H' c = some o) {y : V} {z : List Int} (f : FT H y z) : FT H' y z := by
  obtain ⟨kvs, e, _⟩ := h
  obtain ⟨c, e2, h2⟩ := f
  exact ⟨c, e2, k _ _ (ne_of h2 e (by intro w; cases w)) h2⟩
section
variable {P : Program} {w : World} {K : PySem.W.Frag} {mg : Str → Option Value} {base : Heap} {S : Addr}
def spSums : Sp := fun vs H Q _ => ∃ (p : Int) (n : Nat) (v : V) (rows : List (List Int)), vs = [v, .int p, .int n] ∧ MT H v rows ∧ p ∈ primes ∧ (∀ r ∈ rows, Ltr p n r) ∧ n ≤ 200 ∧ rows.length ≤ 4 ∧ ∀ H', Same H H' → Q (.int ((p.toNat ^ (red p rows).length : Nat) : Int)) H'
theorem scSums : FnScope ["rows", "p", "columns", "found", "row", "total", "letter", "j"] ["rows", "p", "columns"] (defScope s_law_all_sums) := ⟨rfl, rfl, rfl, by decide +kernel, rfl, by decide +kernel, by decide +kernel⟩
/-- what stands of the keys behind some of the totals and letters -/
def Kst (p : Int) (n : Nat) (T : List (List Int)) (r : List Int) (t l : Nat) (keys : List (List Int)) : Prop :=
  keys.Nodup ∧ (∀ v, v ∈ keys ↔ v ∈ T ∨ (∃ u ∈ T.take t, ∃ c : Int, 0 ≤ c ∧ c < p ∧ v = addv p u c r) ∨ ∃ u, T[t]? = some u ∧ ∃ c : Int, 0 ≤ c ∧ c < (l : Int) ∧ v = addv p u c r) ∧ keys.length ≤ T.length + t * p.toNat + l
theorem Kst.step {p : Int} {n : Nat} {T : List (List Int)} {r u : List Int} {t l : Nat} {keys : List (List Int)} (h : Kst p n T r t l keys) (hu : T[t]? = some u) : Kst p n T r t (l + 1) (ins keys (addv p u (l : Int) r)) := by
  refine ⟨ins_nodup h.1, fun v => ?_, by have := ins_len (keys := keys) (v := addv p u (l : Int) r); have := h.2.2; omega⟩
  rw [ins_mem, h.2.1]
  constructor
  · rintro ((h1 | h2 | ⟨u', hu', c, c0, c1, e⟩) | e)
    · exact .inl h1
    · exact .inr (.inl h2)
    · exact .inr (.inr ⟨u', hu', c, c0, by omega, e⟩)
    · exact .inr (.inr ⟨u, hu, l, by omega, by omega, e⟩)
  · rintro (h1 | h2 | ⟨u', hu', c, c0, c1, e⟩)
    · exact .inl (.inl h1)
    · exact .inl (.inr (.inl h2))
    · by_cases z : c = (l : Int)
      · rw [hu] at hu'
        cases hu'
        rw [z] at e
        exact .inr e
      · exact .inl (.inr (.inr ⟨u', hu', c, c0, by omega, e⟩))
theorem Kst.next {p : Int} {n : Nat} {T : List (List Int)} {r u : List Int} {t : Nat} {keys : List (List Int)} (h : Kst p n T r t p.toNat keys) (hu : T[t]? = some u) : Kst p n T r (t + 1) 0 keys := by
  refine ⟨h.1, fun v => ?_, by have := h.2.2; rw [Nat.add_mul, Nat.one_mul]; omega⟩
  rw [h.2.1, List.take_succ, hu]
  constructor
  · rintro (h1 | ⟨u', hu', c, c0, c1, e⟩ | ⟨u', hu', c, c0, c1, e⟩)
    · exact .inl h1
    · exact .inr (.inl ⟨u', List.mem_append.mpr (.inl hu'), c, c0, c1, e⟩)
    · cases hu'
      exact .inr (.inl ⟨u, List.mem_append.mpr (.inr (List.mem_singleton.mpr rfl)), c, c0, by omega, e⟩)
  · rintro (h1 | ⟨u', hu', c, c0, c1, e⟩ | ⟨u', hu', c, c0, c1, e⟩)
    · exact .inl h1
    · rcases List.mem_append.mp hu' with h | h
      · exact .inr (.inl ⟨u', h, c, c0, c1, e⟩)
      · rw [List.mem_singleton.mp h] at e
        exact .inr (.inr ⟨u, rfl, c, c0, by omega, e⟩)
    · omega
theorem Kst.done {p : Int} {n : Nat} {T R : List (List Int)} {r : List Int} {keys : List (List Int)} (hp : 0 < p) (hr : Ltr p n r) (hR : ∀ r ∈ R, Ltr p n r) (hT : ∀ v, v ∈ T ↔ SpanR p n R v) (h : Kst p n T r T.length 0 keys) : keys.Nodup ∧ (∀ v, v ∈ keys ↔ SpanR p n (r :: R) v) := by
  refine ⟨h.1, fun v => ?_⟩
  rw [h.2.1, List.take_length]
  constructor
  · rintro (h1 | ⟨u, hu, c, c0, c1, e⟩ | ⟨u, hu, _⟩)
    · have sv := (hT v).mp h1
      exact ⟨v, 0, sv, Int.le_refl _, hp, (addv_zero (spanR_ltr hp hR sv) hr.1).symm⟩
    · exact ⟨u, c, (hT u).mp hu, c0, c1, e⟩
    · rw [List.getElem?_eq_none (Nat.le_refl _)] at hu
      cases hu
  · rintro ⟨u, c, hu, c0, c1, e⟩
    exact .inr (.inl ⟨u, (hT u).mpr hu, c, c0, c1, e⟩)
theorem ok_Sums {f : Addr} {fd : FuncData} (F : FnS K "_law_all_sums" s_law_all_sums f fd) (B : Blt4 mg) : FnOk P w K mg base (L2.CX P w) 1 f fd ["rows", "p", "columns"] spSums := by
  refine F.ok scSums (fun vs H Q E h => ?_) (fun cdv A outer s H vs Q E hr h => ?_)
  · obtain ⟨p, n, v, rows, rfl, _⟩ := h
    rfl
  · obtain ⟨p, n, v, rows, rfl, ⟨a, ts, rfl, ha, hts⟩, hp, hR, hn, hm, k⟩ := h
    have nd := scSums.nd
    have hb := fld_le hp
    have hu := hr.units
    have hu1 := Nat.lt_of_le_of_lt (Nat.add_le_add_left (show 1 ≤ 64 by decide) _) hu
    refine ⟨_, (pss_cons (ps_set (i := 3) nd rfl (Or.inl rfl) pe_dnewT)
      (pss_cons (ps_dput hu1 (pv 3) (pe_op (op_repAK (K := K)) (pe_tup (pa_cons pe_int pa_nil)) (pv 2)) pe_bl rfl)
      (pss_cons (ps_for (passes_of rfl) rfl (pi_tupK (K := K) (pv 0)) (pg_name (i := 4) nd rfl (Or.inr rfl)) (pss_one (ps_for (passes_of rfl) rfl (pi_listK (K := K) (pe_callTy (call_list_dT rfl) (by rfl) B.lst (by decide +kernel) (pa_cons (pv 3) pa_nil))) (pg_name (i := 5) nd rfl (Or.inr rfl)) (pss_one (ps_for (passes_of rfl) rfl (pi_range1 rfl B.range (pa_cons (pv 1) pa_nil)) (pg_name (i := 6) nd rfl (Or.inr rfl)) (pss_one (ps_dput hu1 (pv 3) (pe_callTy (tup_ofK (K := K)) (by rfl) B.tuple (by decide +kernel) (pa_cons (pe_lc (own := [("j", 7)]) (g := gName 7) (by rfl) nd (pi_range1 rfl B.range (pa_cons (pv 2) pa_nil)) (blkOk_by (own := [("j", 7)]) (N := ["rows", "p", "columns", "found", "row", "total", "letter", "j"]) (sc := defScope s_law_all_sums) (by decide +kernel)) (fun _ _ _ _ _ => (pg_name (i := 7) nd rfl (Or.inl rfl))) (fun _ _ _ _ _ => pts_nil) (fun _ _ _ _ _ => (pe_op op_modN (pe_callTy call_int1 (by rfl) B.int (by decide +kernel) (pa_cons (pe_op op_add (pe_ix (ix_tupK (K := K)) (pv 5) (pv 7) (fun _ _ => rfl)) (pe_op op_mul (pv 6) (pe_ix (ix_tupK (K := K)) (pv 4) (pv 7) (fun _ _ => rfl)))) pa_nil)) (pv 1)))) pa_nil)) pe_bl rfl)))))))
      (pss_one (ps_ret (pe_callB call_len_dT (by rfl) B.len (by decide +kernel) (pa_cons (pv 3) pa_nil))))))), ?_⟩
    refine fun d hd => ⟨_, rfl, (by show 1 ≤ sizeLine; decide), fun t0 ht0 => ⟨_, rfl, t0, n, [.int 0], rfl, rfl, upd_same, (by intro z; cases z), by omega, (by decide), fun q0 H1 sq eq0 => ?_⟩⟩
    have s01 : Same H (upd H d (.dT [])) := same_new hd
    have K0 : DKeys (upd H d (.dT [])) d [] := ⟨[], upd_same, rfl⟩
    have s12 : Same (upd H d (.dT [])) (upd (upd H d (.dT [])) t0 (.tup [.int 0])) := same_new ht0
    have K1 := (K0.same s12).same sq
    have sH1 : Same H H1 := (s01.trans s12).trans sq
    clear sq s12 ht0 K0 s01
    rw [rep_int] at eq0
    refine ⟨d, K1.put' eq0 (by decide) fun H2 k2 K2 => ?_⟩
    have sD : ∀ {G : Hp}, Keep d H1 G → Same H G := fun kg b o h => kg _ _ (ne_of_none h hd) (sH1 _ _ h)
    have zer1 : ins [] (List.replicate n 0) = [zer n] := rfl
    rw [zer1] at K2
    have hTR : ∀ i, ∀ r ∈ (rows.take i).reverse, Ltr p n r := fun i r hr => hR r (List.mem_of_mem_take (List.mem_reverse.mp hr))
    refine ⟨_, rfl, a, rfl, ⟨_, SqT.of (sD k2 _ _ ha)⟩, for_tup (K := K) (a := a) (xs := ts) (fun i σ H' => ∃ (rv tv lv jv : Option V) (keys : List (List Int)), σ = [some (.ref a), some (.int p), some (.int n), some (.ref d), rv, tv, lv, jv] ∧ Keep d H1 H' ∧ DKeys H' d keys ∧ keys.Nodup ∧ (∀ v, v ∈ keys ↔ SpanR p n (rows.take i).reverse v) ∧ keys.length ≤ 32 ^ i)
      ⟨none, none, none, none, [zer n], rfl, k2, K2, (by simp), (fun v => by rw [List.mem_singleton]; exact Iff.rfl), (by show 1 ≤ 1; decide)⟩ (fun i σ H' _ ⟨_, _, _, _, _, _, z, _⟩ => SqT.of (sD z _ _ ha)) ?_ ?_⟩
    · rintro i x σ H3 hx ⟨rv, tv, lv, jv, T, rfl, k3, K3, hnd, hmem, hlen⟩
      obtain ⟨r, hr0, hxr⟩ := paired_at hts hx
      have hrL := hR r (List.mem_of_getElem? hr0)
      have hi4 : i < 4 := by have := (List.getElem?_eq_some_iff.mp hr0).1; omega
      have hT3 : T.length ≤ 32768 := by
        have : i ≤ 3 := by omega
        have h32 : 32 ^ i ≤ 32 ^ 3 := Nat.pow_le_pow_right (by decide) this
        have : (32 : Nat) ^ 3 = 32768 := by decide
        omega
      obtain ⟨kvs, eK, hk⟩ := id K3
      refine ⟨_, rfl, d, kvs, rfl, .inl eK, fun q bs hq hks => ⟨q, rfl, ⟨_, SqL.of upd_same⟩, ?_⟩⟩
      have hbs := keys_rows hks hk
      have sq : Same H3 (upd H3 q (.lst (bs.map V.ref))) := same_new hq
      have eq : upd H3 q (.lst (bs.map V.ref)) q = some (.lst (bs.map V.ref)) := upd_same
      have K4 := K3.same sq
      have hbs4 := paired_mono (fun _ _ f => f.same sq) hbs
      have k4 : Keep d H1 (upd H3 q (.lst (bs.map V.ref))) := k3.trans (Keep.of sq)
      generalize upd H3 q (.lst (bs.map V.ref)) = H4 at eq K4 hbs4 k4 ⊢
      have neq := K4.ne eq
      have lb := paired_len hbs4
      have ftk : ∀ {G : Hp}, Keep d H4 G → ∀ {y : V} {z : List Int}, FT H4 y z → FT G y z := fun {G} kg {y} {z} f => tup_dict K4 kg f
      have hx4 : FT H4 x r := by
        obtain ⟨c, rfl, hc⟩ := hxr
        exact ⟨c, rfl, sD k4 _ _ hc⟩
      refine for_list (K := K) (a := q) (xs := bs.map V.ref) (fun t σ H' => ∃ (tv lv jv : Option V) (keys : List (List Int)), σ = [some (.ref a), some (.int p), some (.int n), some (.ref d), some x, tv, lv, jv] ∧ Keep d H4 H' ∧ DKeys H' d keys ∧ Kst p n T r t 0 keys)
        ⟨tv, lv, jv, T, rfl, Keep.refl, K4, hnd, (fun v => by simp only [List.take_zero, List.not_mem_nil, false_and, exists_false, false_or]; constructor; exact .inl; rintro (h | ⟨u, _, c, c0, c1, _⟩); exact h; omega), by omega⟩ (fun t σ H' _ ⟨_, _, _, _, _, z, _⟩ => SqL.of (z _ _ neq eq)) ?_ ?_
      · rintro t y σ H5 hy ⟨tv, lv, jv, keys, rfl, k5, K5, S5⟩
        obtain ⟨u, hu0, hyu⟩ := paired_at hbs4 hy
        have ht : t < T.length := (List.getElem?_eq_some_iff.mp hu0).1
        have huL : Ltr p n u := spanR_ltr (by omega) (hTR i) ((hmem u).mp (List.mem_of_getElem? hu0))
        refine ⟨_, rfl, p, rfl, by omega, by omega, for_range (lo := 0) (n := p.toNat) (fun l σ H' => ∃ (lv jv : Option V) (keys : List (List Int)), σ = [some (.ref a), some (.int p), some (.int n), some (.ref d), some x, some y, lv, jv] ∧ Keep d H4 H' ∧ DKeys H' d keys ∧ Kst p n T r t l keys)
          ⟨lv, jv, keys, rfl, k5, K5, S5⟩ ?_ ?_⟩
        · rintro l σ H6 hl ⟨lv, jv, keys, rfl, k6, K6, S6⟩
          obtain ⟨c, rfl, hc⟩ := ftk k6 hx4
          obtain ⟨b, rfl, hb6⟩ := ftk k6 hyu
          have lav := addv_len (p := p) (c := (l : Int)) huL.1 hrL.1
          have hkl : keys.length < sizeLine := by
            have h1 := S6.2.2
            have h2 : t * p.toNat ≤ 32768 * 31 := Nat.mul_le_mul (by omega) (by omega)
            have h3 : (2000000 : Nat) < sizeLine := by decide
            omega
          refine ⟨_, rfl, _, rfl, (n : Int), rfl, by omega, by omega, fun D hD => lc_range (lo := 0) (n := n) (fun i H' => Bld FI H6 D ((addv p u (l : Int) r).take i) H') (Bld.start hD) ?_ ?_⟩
          · intro i2 G hi2 bb
            refine ⟨rfl, _, rfl, _, rfl, b, _, _, _, rfl, rfl, SqT.of (bb.same _ _ hb6), (by rw [Int.zero_add]; exact atI_nat (take_map_at n (r := u) (by rw [huL.1]; exact hi2))), _, rfl, ?_⟩
            refine ⟨_, rfl, _, rfl, c, _, _, _, rfl, rfl, SqT.of (bb.same _ _ hc), (by rw [Int.zero_add]; exact atI_nat (take_map_at n (r := r) (by rw [hrL.1]; exact hi2))), _, _, rfl, rfl, .inl ⟨by omega, by omega⟩, _, _, rfl, rfl, .inl ⟨_, rfl, _, rfl, _, p, rfl, rfl, by omega, ?_⟩⟩
            rw [take_at0 (by rw [lav]; exact hi2)]
            exact bb.put (y := .int ((at0 u i2 + (0 + (l : Int)) * at0 r i2).fmod p)) (z := at0 (addv p u (l : Int) r) i2) stab_FI hD (Same.refl _) (by rw [addv_at huL.1 hrL.1 hi2, Int.zero_add]; rfl) (by intro z; cases z) (by rw [List.length_take]; exact small1000 (by omega))
          · intro G bb
            obtain ⟨sb, zs, e2, pz2⟩ := bb.fin
            rw [List.take_of_length_le (by rw [lav]; exact Nat.le_refl _)] at pz2
            rw [fi_map pz2] at e2
            refine ⟨D, _, rfl, .inl ⟨SqL.of e2, fun q2 hq2 => ⟨d, ?_⟩⟩⟩
            have sq2 : Same G (upd G q2 (.tup ((addv p u (l : Int) r).map V.int))) := same_new hq2
            refine ((K6.same sb).same sq2).put' upd_same hkl fun H7 k7 K7 => ?_
            exact ⟨_, _, _, rfl, k6.trans ((Keep.of (sb.trans sq2)).trans k7), K7, S6.step hu0⟩
        · rintro σ H6 ⟨lv, jv, keys, rfl, k6, K6, S6⟩
          exact ⟨_, _, _, _, rfl, k6, K6, S6.next hu0⟩
      · rintro σ H5 ⟨tv, lv, jv, keys, rfl, k5, K5, S5⟩
        rw [List.length_map] at S5
        rw [List.length_map] at lb
        rw [lb] at S5
        have dn := S5.done (by omega) hrL (hTR i) hmem
        have et : (rows.take (i + 1)).reverse = r :: (rows.take i).reverse := by
          rw [List.take_succ, hr0, List.reverse_append]
          rfl
        refine ⟨_, _, _, _, keys, rfl, k4.trans k5, K5, dn.1, (fun v => by rw [et]; exact dn.2 v), ?_⟩
        have h1 := S5.2.2
        have h2 : T.length * p.toNat ≤ T.length * 31 := Nat.mul_le_mul_left _ (by omega)
        rw [Nat.pow_succ]
        omega
    · rintro σ H3 ⟨rv, tv, lv, jv, keys, rfl, k3, K3, hnd, hmem, hlen⟩
      rw [paired_len hts, List.take_length] at hmem
      have hc := count_sums hp hR hnd hmem
      obtain ⟨kvs, eK, hk⟩ := id K3
      have el : kvs.length = keys.length := by
        have := congrArg List.length hk
        rw [List.length_map, List.length_map] at this
        exact this
      refine ⟨_, rfl, d, kvs, rfl, eK, ?_⟩
      rw [el, hc]
      exact k _ (sD k3)
end
end WU

set_option maxRecDepth 100000
set_option maxHeartbeats 8000000
namespace WU
open PySem PySem.Spec PyProof.Rows L2
/-! ### a value is equal to itself -/
def DFR : Eqv := fun x y _ => x = y ∧ FR x
theorem mon_DFR : Mon DFR := fun _ _ _ _ _ h => h
theorem eqV_self {x : V} (h : flatV x = true) : eqV x x = true := by
  cases x with
  | non => rfl
  | bl b => show (b == b) = true; simp
  | int i => show (i == i) = true; simp
  | str z => show decide (z = z) = true; simp
  | _ => cases h
section
variable {X : Cx} {S : Addr}
theorem eqG_DFR : EqG X 0 DFR := by
  intro A pins s σ H x y u v sb I rx ry d
  obtain ⟨rfl, h | ⟨p, rfl⟩⟩ := d
  · exact eqG_flat A pins s σ H x x u v sb I rx ry ⟨h, h, eqV_self h⟩
  · cases rx
    cases ry
    exact SeqAt.EqAt.same (A := A) (s := s) (.ref p) X.prog X.w X.xe _ ⟨rfl, H, I, Ext.rfl'⟩
/-- one of the odd values -/
def Slf (S : Addr) (H : Hp) (x : V) : Prop := flatV x = true ∨ ∃ p, x = .ref p ∧ ((∃ t b, ShAt S H p t b) ∨ ∃ xs, (H p = some (.lst xs) ∨ H p = some (.tup xs)) ∧ ∀ z ∈ xs, FR z)
theorem OddV.slf {a : Addr} {H : Hp} {v : V} (h : OddV S a H v) : Slf S H v := by
  rcases h with h | ⟨p, rfl, _, h⟩
  · exact .inl h
  · exact .inr ⟨p, rfl, h⟩
theorem Slf.same {H H' : Hp} {v : V} (h : Slf S H v) (s : Same H H') : Slf S H' v := by
  rcases h with h | ⟨p, rfl, h⟩
  · exact .inl h
  · refine .inr ⟨p, rfl, ?_⟩
    rcases h with ⟨t, b, h⟩ | ⟨xs, h, hx⟩
    · exact .inl ⟨t, b, h.same s⟩
    · exact .inr ⟨xs, h.elim (fun h => .inl (s _ _ h)) fun h => .inr (s _ _ h), hx⟩
theorem fr_prs {xs : List V} {H : Hp} (h : ∀ z ∈ xs, FR z) : Prs DFR xs xs H := ⟨rfl, fun i x y h1 h2 => by
  rw [h1] at h2
  cases h2
  exact ⟨rfl, h x (List.mem_of_getElem? h1)⟩⟩
def rSelf (S : Addr) : R2 := fun x y H Q => x = y ∧ Slf S H x ∧ ∀ H', Ext H H' → Q (.bl true) H'
theorem op_self {f : Addr} {fd : FuncData} {ps : List Str} (F : FnOk X.prog X.w X.K X.mg X.base (L2.CX X.prog X.w) 1 f fd ps (spEq (ShR S)))
    (hs : PySem.W.findIn X.K (.ref S) "__eq__" = some (some (.ref f))) (hf : PySem.W.isFn X.K (.ref f) = true) (hb : Binds X.K fd ps []) (hr : Room 1 X.A) : OpR X (compareOp .Eq) (rSelf S) := by
  intro pins s σ H x y v u Q I rx ry hq
  obtain ⟨rfl, h, q⟩ := hq
  rcases h with h | ⟨p, rfl, h⟩
  · have sc : scal x x = true := by
      cases x <;> first | rfl | (cases h)
    refine op_eq pins s σ H x x v u Q I rx ry ⟨sc, ?_⟩
    rw [decide_eq_true rfl]
    exact q H Ext.rfl'
  · rcases h with ⟨t, b, h⟩ | ⟨xs, h | h, hx⟩
    · refine op_eqG (rcG_ins (C := S) (R := ShR S) (E := E0) F hs hf hb passU) hr pins s σ H _ _ v u Q I rx ry ⟨?_, q⟩
      obtain ⟨dx, e⟩ := h
      exact ⟨p, p, dx, dx, _, _, rfl, rfl, e, e, t, b, ⟨dx, e⟩, ⟨dx, e⟩⟩
    · exact op_eqG (rcG_list mon_DFR eqG_DFR) hr pins s σ H _ _ v u Q I rx ry ⟨⟨p, p, xs, xs, rfl, rfl, h, h, fr_prs hx⟩, q⟩
    · exact op_eqG (rcG_tup mon_DFR eqG_DFR) hr pins s σ H _ _ v u Q I rx ry ⟨⟨p, p, xs, xs, rfl, rfl, SqT.of h, SqT.of h, fr_prs hx⟩, q⟩
end

section
variable {X : Cx} {K : PySem.W.Frag}
/-- != of two lists of the same things -/
def rNeS (K : PySem.W.Frag) : R2 := fun x y H Q => ∃ a b xs, x = .ref a ∧ y = .ref b ∧ SqL K H a xs ∧ SqL K H b xs ∧ (∀ z ∈ xs, FR z) ∧ Q (.bl false) H
theorem op_neS (hu : X.A.units + 64 < cLine) (hK : X.K = K := by rfl) : OpR X (compareOp .NotEq) (rNeS K) := by
  subst hK
  intro pins s σ H x y v u Q I rx ry h
  obtain ⟨a, b, xs, rfl, rfl, ha, hb, hf, q⟩ := h
  cases rx
  cases ry
  obtain ⟨its, r1, p1, _⟩ := I.list ha
  obtain ⟨its2, r2, p2, _⟩ := I.list hb
  have e1 := r1.length
  have e2 := r2.length
  have hsz : its.toArray.size = its2.toArray.size := by rw [List.size_toArray, List.size_toArray, ← e1, ← e2]
  show wpAny (model X.prog X.w) X.A (richCompare .NotEq (.ref a) (.ref b)) (EP X pins σ Q) X.xe s
  refine SeqAt.RcNeAt.lists (e := fun _ => true) p1.isList p2.isList hsz (by omega) (fun j h1 h2 => ?_) X.prog X.w X.xe _ ⟨.bl _, H, I, ?_, q⟩
  · rw [List.size_toArray] at h1 h2
    have hx : xs[j]? = some (xs[j]'(by omega)) := List.getElem?_eq_getElem (by omega)
    have hfz := hf _ (List.getElem_mem (show j < xs.length by omega))
    obtain ⟨v1, hv1, rv1⟩ := paired_at r1 hx
    obtain ⟨v2, hv2, rv2⟩ := paired_at r2 hx
    have g1 : its.toArray[j] = v1 := by
      have : its[j]? = some v1 := hv1
      rw [List.getElem?_eq_getElem h1] at this
      simpa using this
    have g2 : its2.toArray[j] = v2 := by
      have : its2[j]? = some v2 := hv2
      rw [List.getElem?_eq_getElem h2] at this
      simpa using this
    rw [g1, g2]
    rcases hfz with hz | ⟨p, hz⟩
    · have := eqAt_V (A := X.A.in1) (s := s) rv1 rv2 hz hz
      rw [eqV_self hz] at this
      exact this
    · rw [hz] at rv1 rv2
      cases rv1
      cases rv2
      exact SeqAt.EqAt.same _
  · have : ((List.range its.toArray.size).all fun _ => true) = true := List.all_eq_true.mpr fun _ _ => rfl
    rw [this]
    rfl
end
section
variable {P : Program} {w : World} {K : PySem.W.Frag} {mg : Str → Option Value} {base : Heap} {S : Addr}
theorem Ty3.same {H H' : Hp} {v : V} (h : Ty3 K H v) (s : Same H H') : Ty3 K H' v := by
  obtain ⟨t, ht, h1, h2⟩ := h
  refine ⟨t, ?_, h1, h2⟩
  cases ht with
  | base b =>
    refine .base ?_
    cases b with
    | non => exact .non
    | bl x => exact .bl x
    | int i => exact .int i
    | str x => exact .str x
    | flt x => exact .flt x
    | lst e => exact .lst (s _ _ e)
    | frz e => exact .frz (s _ _ e)
    | tup e => exact .tup (s _ _ e)
    | dK e => exact .dK (s _ _ e)
    | dT e => exact .dT (s _ _ e)
    | ins e cl ha hn htk hm => exact .ins (s _ _ e) cl ha hn htk hm
  | byt b => exact .byt b
  | set e => exact .set (s _ _ e)
  | kList e c => exact .kList e c
  | kTuple e c => exact .kTuple e c
  | kDict e c => exact .kDict e c
  | fTuple e => exact .fTuple (s _ _ e)
  | fDict e => exact .fDict (s _ _ e)
theorem dp_fr {H : Hp} {v : V} {d : PyData} (h : Dp K H v d) : FR v := by
  cases h with
  | non => exact .inl rfl
  | bl b => exact .inl rfl
  | int i => exact .inl rfl
  | str x => exact .inl rfl
  | lst h _ => exact .inr ⟨_, rfl⟩
  | tup h _ => exact .inr ⟨_, rfl⟩
/-- the list that _law_told hands back -/
def Told (x : Str) (v : V) (H : Hp) (Q : VK) : Prop := ∀ q H', Same H H' → H' q = some (.lst [.str x, v]) → Q (.ref q) H'
def spTd (K : PySem.W.Frag) : Sp := fun vs H Q _ => ∃ (i : Int) (v u : V), vs = [.int i, v, u] ∧ Ty3 K H v ∧ (isFld v = false → Told "number" v H Q) ∧
  ∀ p, v = .int p → isFld v = true → ∃ d, Dp K H u d ∧ smallM d ∧ matD p (widD d) d = false ∧ Told "matrix" u H Q
theorem scTd : FnScope ["which", "p", "rows", "e"] ["which", "p", "rows"] (defScope s_law_told) := ⟨rfl, rfl, rfl, by decide +kernel, rfl, by decide +kernel, by decide +kernel⟩
theorem ok_Td {f f1 f2 : Addr} {fd fd1 fd2 : FuncData} (F : FnS K "_law_told" s_law_told f fd) (CR : Cal P w K mg base 8 "reduced_rows" f1 fd1 ["p", "rows"] (spRR K)) (CK : Cal P w K mg base 8 "rank_of" f2 fd2 ["p", "rows"] (spRk K)) (T : Exc1 K mg "InvalidNumber" "value") (TM : Exc1 K mg "InvalidMatrix" "value")
    (XN : XfC K (He.ga K "InvalidNumber")) (XM : XfC K (He.ga K "InvalidMatrix")) (eNN : PySem.W.exmOne K (.ref (He.ga K "InvalidNumber")) (.ref (He.ga K "InvalidNumber")) = some true)
    (eMN : PySem.W.exmOne K (.ref (He.ga K "InvalidMatrix")) (.ref (He.ga K "InvalidNumber")) = some false) (eMM : PySem.W.exmOne K (.ref (He.ga K "InvalidMatrix")) (.ref (He.ga K "InvalidMatrix")) = some true) :
    FnOk P w K mg base (L2.CX P w) 9 f fd ["which", "p", "rows"] (spTd K) := by
  refine F.ok scTd (fun vs H Q E h => ?_) (fun cdv A outer s H vs Q E hr h => ?_)
  · obtain ⟨i, v, u, rfl, _⟩ := h
    rfl
  · obtain ⟨i, v, u, rfl, hv, kN, kk⟩ := h
    have nd := scTd.nd
    refine ⟨_, pss_cons (ps_try_cls rfl rfl nd takes0 (fun W pn xe tk _ => pss_one (ps_if (pt_cmpR op_eq (pv 0) pe_int (nomark _)) (pss_one (ps_expr (pe_calS CR (hr.mono (by decide)) (pa_cons (pv 1) (pa_cons (pv 2) pa_nil)) tk))) (pss_one (ps_expr (pe_calS CK (hr.mono (by decide)) (pa_cons (pv 1) (pa_cons (pv 2) pa_nil)) tk)))))
      (.named (i := 3) rfl rfl ⟨rfl, by decide, .inl T.glob⟩ (fun a oe cls d pn hz hf => pss_one (ps_ret (pe_lst (pa_cons pe_str (pa_cons (pe_xf XN T.no hz hf (pv 3)) pa_nil)))))
      (.named (i := 3) rfl rfl ⟨rfl, by decide, .inl TM.glob⟩ (fun a oe cls d pn hz hf => pss_one (ps_ret (pe_lst (pa_cons pe_str (pa_cons (pe_xf XM TM.no hz hf (pv 3)) pa_nil))))) .nil)))
      (pss_one (ps_ret (pe_lst (pa_cons pe_str (pa_cons pe_int pa_nil))))), ?_⟩
    refine ⟨_, rfl, rfl, _, rfl, iteD (fun _ => ?_) (fun _ => ?_)⟩
    · refine ⟨_, rfl, _, rfl, v, u, rfl, hv, (fun e d H' s1 n1 hd => ?_), fun p ep e => ?_⟩
      · exact ⟨true, eNN, fun _ ax hax => ⟨_, rfl, rfl, rfl, d, _, v, rfl, hd, (by simp [List.lookup]), (by show 2 ≤ sizeLine; decide), fun q hq => kN e q _ (s1.trans (same_new hq)) upd_same⟩, fun q => nomatch q⟩
      · obtain ⟨dd, h1, h2, h3, kM⟩ := kk p ep e
        refine .inl ⟨dd, h1, h2, h3, fun d H' s1 n1 hd => ?_⟩
        exact ⟨false, eMN, (fun q => nomatch q), fun _ => ⟨true, eMM, fun _ ax hax => ⟨_, rfl, rfl, rfl, d, _, u, rfl, hd, (by simp [List.lookup]), (by show 2 ≤ sizeLine; decide), fun q hq => kM q _ (s1.trans (same_new hq)) upd_same⟩, fun q => nomatch q⟩⟩
    · refine ⟨_, rfl, _, rfl, v, u, rfl, hv, (fun e d H' s1 n1 hd => ?_), fun p ep e => ?_⟩
      · exact ⟨true, eNN, fun _ ax hax => ⟨_, rfl, rfl, rfl, d, _, v, rfl, hd, (by simp [List.lookup]), (by show 2 ≤ sizeLine; decide), fun q hq => kN e q _ (s1.trans (same_new hq)) upd_same⟩, fun q => nomatch q⟩
      · obtain ⟨dd, h1, h2, h3, kM⟩ := kk p ep e
        refine .inl ⟨dd, h1, h2, h3, fun d H' s1 n1 hd => ?_⟩
        exact ⟨false, eMN, (fun q => nomatch q), fun _ => ⟨true, eMM, fun _ ax hax => ⟨_, rfl, rfl, rfl, d, _, u, rfl, hd, (by simp [List.lookup]), (by show 2 ≤ sizeLine; decide), fun q hq => kM q _ (s1.trans (same_new hq)) upd_same⟩, fun q => nomatch q⟩⟩
def spRt : Sp := fun vs H Q _ => ∃ (p : Int) (n : Nat) (v : V) (rows : List (List Int)), vs = [.int p, v] ∧ MT H v rows ∧ p ∈ primes ∧ (∀ r ∈ rows, Ltr p n r) ∧ n ≤ 200 ∧ rows.length ≤ 200 ∧ ∀ H', Same H H' → Q (.bl true) H'
theorem scRt : FnScope ["p", "rows", "due"] ["p", "rows"] (defScope s_law_right) := ⟨rfl, rfl, rfl, by decide +kernel, rfl, by decide +kernel, by decide +kernel⟩
theorem eq_ints {n : Nat} {H : Hp} : ∀ b : List Int, Paired (EqV n H) (b.map V.int) (b.map V.int)
  | [] => .nil
  | i :: b => by
    refine .cons ?_ (eq_ints b)
    cases n with
    | zero => exact ⟨i, rfl, rfl⟩
    | succ n => exact .inl ⟨i, rfl, rfl⟩
theorem eq_row {n : Nat} {H : Hp} {u v : V} {b : List Int} (hu : FT H u b) (hv : FT H v b) (hl : b.length ≤ 10000) : EqV (n + 1) H u v := by
  obtain ⟨c, e, h⟩ := hu
  obtain ⟨d, f, g⟩ := hv
  exact .inr ⟨c, d, _, _, e, f, h, g, eq_ints b, by rw [List.length_map]; exact hl⟩
theorem eq_rows {n : Nat} {H : Hp} : ∀ {us vs : List V} {bs : List (List Int)}, Paired (FT H) us bs → Paired (FT H) vs bs → (∀ b ∈ bs, b.length ≤ 10000) → Paired (EqV (n + 1) H) us vs
  | _, _, _, .nil, .nil, _ => .nil
  | _, _, _, .cons h t, .cons h2 t2, hl => .cons (eq_row h h2 (hl _ (List.mem_cons_self ..))) (eq_rows t t2 fun b hb => hl b (List.mem_cons_of_mem _ hb))
theorem eq_mat {n : Nat} {H : Hp} {u v : V} {bs : List (List Int)} (hu : MT H u bs) (hv : MT H v bs) (hl : ∀ b ∈ bs, b.length ≤ 10000) (hm : bs.length ≤ 10000) : EqV (n + 2) H u v := by
  obtain ⟨c, xs, e, h, p⟩ := hu
  obtain ⟨d, ys, f, g, q⟩ := hv
  exact .inr ⟨c, d, _, _, e, f, h, g, eq_rows p q hl, by rw [paired_len q]; exact hm⟩
theorem red_ltr {p : Int} {n : Nat} {rows : List (List Int)} (hp : p ∈ primes) (h : ∀ r ∈ rows, Ltr p n r) : (∀ r ∈ red p rows, Ltr p n r) ∧ (red p rows).length ≤ rows.length := by
  obtain ⟨pv, P, _⟩ := red_piv hp h
  refine ⟨P.ltr, ?_⟩
  have := run_len (p := p) (rows := rows) n
  rw [red_run h]
  omega
theorem ok_Rt {f f1 f2 f3 f4 : Addr} {fd fd1 fd2 fd3 fd4 : FuncData} (F : FnS K "_law_right" s_law_right f fd) (B : Blt4 mg) (CLR : Cal P w K mg base 2 "_law_reduced" f1 fd1 ["rows", "p"] spLRd) (CS : Cal P w K mg base 3 "_law_same" f2 fd2 ["found", "due"] (spSm 2))
    (CRR : Cal P w K mg base 8 "reduced_rows" f3 fd3 ["p", "rows"] (spRR K)) (CRk : Cal P w K mg base 8 "rank_of" f4 fd4 ["p", "rows"] (spRk K)) : FnOk P w K mg base (L2.CX P w) 9 f fd ["p", "rows"] spRt := by
  refine F.ok scRt (fun vs H Q E h => ?_) (fun cdv A outer s H vs Q E hr h => ?_)
  · obtain ⟨p, n, v, rows, rfl, _⟩ := h
    rfl
  · obtain ⟨p, n, v, rows, rfl, hM, hp, hR, hn, hm, k⟩ := h
    have nd := scRt.nd
    obtain ⟨l1, l2⟩ := red_ltr hp hR
    refine ⟨_, (pss_cons (ps_set (i := 2) nd rfl (Or.inl rfl) (pe_cal CLR (hr.mono (by decide)) (pa_cons (pv 1) (pa_cons (pv 0) pa_nil)) passU))
      (pss_one (ps_ret (pe_and (pe_cal CS (hr.mono (by decide)) (pa_cons (pe_cal CRR (hr.mono (by decide)) (pa_cons (pv 0) (pa_cons (pv 1) pa_nil)) passU) (pa_cons (pv 2) pa_nil)) passU) (pe_one (pe_cal CS (hr.mono (by decide)) (pa_cons (pe_cal CRk (hr.mono (by decide)) (pa_cons (pv 0) (pa_cons (pv 1) pa_nil)) passU) (pa_cons (pe_callB (len_seqK (K := K)) (by rfl) B.len (by decide +kernel) (pa_cons (pv 2) pa_nil)) pa_nil)) passU)))))), ?_⟩
    refine ⟨_, rfl, _, rfl, p, n, v, rows, rfl, hM, hp, hR, hn, hm, fun due H1 s1 hd => ?_⟩
    refine ⟨_, rfl, _, rfl, .int p, v, rfl, ty3_int p, (fun e => by rw [mem_fld hp] at e; cases e), fun p' ep _ => ?_⟩
    cases ep
    refine .inr ⟨n, rows, hM.same s1, hR, hn, hm, fun y H2 s2 hy => ?_⟩
    refine ⟨_, rfl, y, due, rfl, eq_mat hy (hd.same s2) (fun b hb => by rw [(l1 b hb).1]; omega) (by omega), _, rfl, iteT ?_⟩
    refine ⟨_, rfl, _, rfl, .int p, v, rfl, ty3_int p, (fun e => by rw [mem_fld hp] at e; cases e), fun p' ep _ => ?_⟩
    cases ep
    refine .inr ⟨n, rows, (hM.same s1).same s2, hR, hn, hm, fun H3 s3 => ?_⟩
    obtain ⟨c, ts, rfl, hc, hts⟩ := (hd.same s2).same s3
    refine ⟨_, rfl, c, ts, rfl, .inr (SqT.of hc), _, _, rfl, .inl ⟨((red p rows).length : Nat), rfl, by rw [paired_len hts]⟩, ?_⟩
    exact k H3 ((s1.trans s2).trans s3)
end
end WU

set_option maxRecDepth 100000
set_option maxHeartbeats 8000000
namespace WU
open PySem PySem.Spec PyProof.Rows L2
theorem cut_any {xs : List V} {k : Nat} : cutV xs none (some (k : Int)) = xs.take k := by
  unfold cutV
  rw [HT.sIx_none, HT.sIx_nat, List.drop_zero, Nat.sub_zero]
  rcases Nat.le_total k xs.length with h | h
  · rw [Nat.min_eq_left h]
  · rw [Nat.min_eq_right h, List.take_length, List.take_of_length_le h]
theorem hand_of {K : PySem.W.Frag} {H H1 : Hp} {d q : Addr} {ds : List Int} (e : H1 d = some (.lst (ds.map V.int))) (nn : Nn ds) (hq : H1 q = none) : HandAt (upd H1 q (.lst [.ref d, .int 0])) q d :=
  ⟨ds, 0, upd_same, by rw [upd_ne (ne_of_none e hq)]; exact e, nn, Int.le_refl 0⟩
section
variable {P : Program} {w : World} {K : PySem.W.Frag} {mg : Str → Option Value} {base : Heap} {S : Addr}
def spLaw (K : PySem.W.Frag) : Sp := fun vs H Q _ => ∃ (a : Addr) (ns : List Int), vs = [.ref a] ∧ SqL K H a (ns.map V.int) ∧ ns.length ≤ 63 ∧ ∀ H', Q (.bl true) H'
theorem scLaw : FnScope ["script", "hand", "p", "columns", "rows", "small", "power", "step", "bad", "wrong", "which"] ["script"] (defScope sLaw) := ⟨rfl, rfl, rfl, by decide +kernel, rfl, by decide +kernel, by decide +kernel⟩
theorem ok_Law {f fD fT fFd fLM fRt fLR fSm fBd fLN fTd : Addr} {fd fdD fdT fdFd fdLM fdRt fdLR fdSm fdBd fdLN fdTd : FuncData} (F : FnS K "law" sLaw f fd) (B : Blt4 mg) (C : ShC K mg S)
    (CD : Cal P w K mg base 1 "_law_draws" fD fdD ["script", "many"] (spDraws K 1200)) (CT : Cal P w K mg base 1 "_law_take" fT fdT ["hand", "many"] spTake) (CFd : Cal P w K mg base 2 "_law_field" fFd fdFd ["hand"] spLFd)
    (CLM : Cal P w K mg base 2 "_law_matrix" fLM fdLM ["hand", "p", "rows", "columns"] spLM) (CRt : Cal P w K mg base 9 "_law_right" fRt fdRt ["p", "rows"] spRt) (CLR : Cal P w K mg base 2 "_law_reduced" fLR fdLR ["rows", "p"] spLRd)
    (CSm : Cal P w K mg base 1 "_law_all_sums" fSm fdSm ["rows", "p", "columns"] spSums) (CBd : Cal P w K mg base 2 "_law_bad_matrix" fBd fdBd ["hand", "rows", "p"] (spBad K)) (CLN : Cal P w K mg base 6 "_law_no_field" fLN fdLN ["hand"] (spLN S))
    (CTd : Cal P w K mg base 9 "_law_told" fTd fdTd ["which", "p", "rows"] (spTd K)) : FnOk P w K mg base CX0 10 f fd ["script"] (spLaw K) := by
  refine F.ok scLaw (fun vs H Q E h => ?_) (fun cdv A outer s H vs Q E hr h => ?_)
  · obtain ⟨a, ns, rfl, _⟩ := h
    rfl
  · obtain ⟨a0, ns, rfl, hS, hl, k⟩ := h
    have nd := scLaw.nd
    have hu := hr.units
    refine ⟨_, (pss_cons (ps_set (i := 1) nd rfl (Or.inl rfl) (pe_lst (pa_cons (pe_cal CD (hr.mono (by decide)) (pa_cons (pv 0) (pa_cons pe_int pa_nil)) passU) (pa_cons pe_int pa_nil))))
      (pss_cons (ps_set (i := 2) nd rfl (Or.inl rfl) (pe_cal CFd (hr.mono (by decide)) (pa_cons (pv 1) pa_nil) passU))
      (pss_cons (ps_set (i := 3) nd rfl (Or.inl rfl) (pe_cal CT (hr.mono (by decide)) (pa_cons (pv 1) (pa_cons pe_int pa_nil)) passU))
      (pss_cons (ps_set (i := 4) nd rfl (Or.inl rfl) (pe_cal CLM (hr.mono (by decide)) (pa_cons (pv 1) (pa_cons (pv 2) (pa_cons (pe_cal CT (hr.mono (by decide)) (pa_cons (pv 1) (pa_cons pe_int pa_nil)) passU) (pa_cons (pv 3) pa_nil)))) passU))
      (pss_cons (ps_if (pt_not (pt_val (pe_cal CRt (hr.mono (by decide)) (pa_cons (pv 2) (pa_cons (pv 4) pa_nil)) passU))) (pss_one (ps_ret pe_bl)) pss_nil)
      (pss_cons (ps_set (i := 5) nd rfl (Or.inl rfl) (pe_slice (sl_tupAK (K := K)) (pv 4) po_none (po_some (pe_op op_add (pe_op op_add (pe_op op_add pe_int (pe_callTy call_int1 (by rfl) B.int (by decide +kernel) (pa_cons (pe_cmpR op_lt (pv 2) pe_int (nomark _)) pa_nil))) (pe_callTy call_int1 (by rfl) B.int (by decide +kernel) (pa_cons (pe_cmpR op_lt (pv 2) pe_int (nomark _)) pa_nil))) (pe_callTy call_int1 (by rfl) B.int (by decide +kernel) (pa_cons (pe_cmpR op_lt (pv 2) pe_int (nomark _)) pa_nil))))))
      (pss_cons (ps_set (i := 6) nd rfl (Or.inl rfl) pe_int)
      (pss_cons (ps_for (passes_of rfl) rfl (pi_tupK (K := K) (pe_cal CLR (hr.mono (by decide)) (pa_cons (pv 5) (pa_cons (pv 2) pa_nil)) passU)) (pg_name (i := 7) nd rfl (Or.inl rfl)) (pss_one (ps_set (i := 6) nd rfl (Or.inl rfl) (pe_op op_mul (pv 6) (pv 2)))))
      (pss_cons (ps_if (PW.pt (pw_or (pt_not (pt_val (pe_cal CRt (hr.mono (by decide)) (pa_cons (pv 2) (pa_cons (pv 5) pa_nil)) passU))) (pw_or1 (pt_cmpR op_ne (pv 6) (pe_cal CSm (hr.mono (by decide)) (pa_cons (pv 5) (pa_cons (pv 2) (pa_cons (pv 3) pa_nil))) passU) (nomark _))))) (pss_one (ps_ret pe_bl)) pss_nil)
      (pss_cons (ps_set (i := 8) nd rfl (Or.inl rfl) (pe_cal CBd (hr.mono (by decide)) (pa_cons (pv 1) (pa_cons (pv 4) (pa_cons (pv 2) pa_nil))) passU))
      (pss_cons (ps_set (i := 9) nd rfl (Or.inl rfl) (pe_cal CLN (hr.mono (by decide)) (pa_cons (pv 1) pa_nil) passU))
      (pss_cons (ps_for (passes_of rfl) rfl (pi_range1 rfl B.range (pa_cons pe_int pa_nil)) (pg_name (i := 10) nd rfl (Or.inl rfl)) (pss_cons (ps_if (PW.pt (pw_or (pt_cmpR (op_neS (K := K) hu) (pe_cal CTd (hr.mono (by decide)) (pa_cons (pv 10) (pa_cons (pv 2) (pa_cons (pv 8) pa_nil))) passU) (pe_lst (pa_cons pe_str (pa_cons (pv 8) pa_nil))) (nomark _)) (pw_or1 (pt_cmpR (op_neS (K := K) hu) (pe_cal CTd (hr.mono (by decide)) (pa_cons (pv 10) (pa_cons (pv 9) (pa_cons (pv 8) pa_nil))) passU) (pe_lst (pa_cons pe_str (pa_cons (pv 9) pa_nil))) (nomark _))))) (pss_one (ps_ret pe_bl)) pss_nil)
      (pss_one (ps_if (pt_cmpR (op_neS (K := K) hu) (pe_cal CTd (hr.mono (by decide)) (pa_cons (pv 10) (pa_cons (pv 9) (pa_cons (pv 4) pa_nil))) passU) (pe_lst (pa_cons pe_str (pa_cons (pv 9) pa_nil))) (nomark _)) (pss_one (ps_ret pe_bl)) pss_nil))))
      (pss_cons (ps_if (pt_cmpR op_gt (pe_cal CT (hr.mono (by decide)) (pa_cons (pv 1) (pa_cons pe_int pa_nil)) passU) pe_int (nomark _)) (pss_one (ps_ret pe_bl)) pss_nil)
      (pss_one (ps_ret (pe_cal CRt (hr.mono (by decide)) (pa_cons (pv 2) (pa_cons (pe_cal CLM (hr.mono (by decide)) (pa_cons (pv 1) (pa_cons (pv 2) (pa_cons (pe_op op_add pe_int (pe_cal CT (hr.mono (by decide)) (pa_cons (pv 1) (pa_cons pe_int pa_nil)) passU)) (pa_cons (pe_op op_add pe_int (pe_cal CT (hr.mono (by decide)) (pa_cons (pv 1) (pa_cons pe_int pa_nil)) passU)) pa_nil)))) passU) pa_nil)) passU)))))))))))))))), ?_⟩
    refine ⟨_, rfl, a0, ns, rfl, hS, hl, fun d ds H1 s1 nd1 e1 nn ln => ⟨(by show 2 ≤ sizeLine; decide), fun a ha => ?_⟩⟩
    have hH1 : HandAt (upd H1 a (.lst [.ref d, .int 0])) a d := ⟨ds, 0, upd_same, by rw [upd_ne (ne_of_none e1 ha)]; exact e1, nn, Int.le_refl 0⟩
    generalize upd H1 a (.lst [.ref d, .int 0]) = G1 at hH1 ⊢
    refine ⟨_, rfl, a, d, rfl, hH1, fun p G2 hp hH2 k2 => ?_⟩
    have hb := fld_le hp
    refine ⟨_, rfl, a, d, 8, rfl, by decide, hH2, fun cI G3 c0 c1 hH3 k3 => ?_⟩
    obtain ⟨n, rfl⟩ : ∃ n : Nat, cI = (n : Int) := ⟨cI.toNat, by omega⟩
    refine ⟨_, rfl, _, rfl, _, rfl, a, d, 6, rfl, by decide, hH3, fun mI G4 m0 m1 hH4 k4 => ?_⟩
    obtain ⟨m, rfl⟩ : ∃ m : Nat, mI = (m : Int) := ⟨mI.toNat, by omega⟩
    refine ⟨_, rfl, a, d, p, m, n, rfl, hH4, hp, by omega, by omega, fun rv rows G5 hM5 hml hR hH5 k5 => ?_⟩
    refine ⟨_, rfl, _, rfl, p, n, rv, rows, rfl, hM5, hp, hR, by omega, by omega, fun G6 s6 => ⟨_, rfl, iteF ?_⟩⟩
    have hM6 := hM5.same s6
    have hH6 := hH5.same s6
    obtain ⟨c, ts, rfl, hc, hts⟩ := id hM6
    refine ⟨_, rfl, _, rfl, _, _, rfl, rfl, .inr ⟨_, rfl, _, _, rfl, rfl, _, rfl, _, _, rfl, rfl, .inr ⟨_, rfl, _, _, rfl, rfl, _, rfl, _, _, rfl, rfl, .inr ⟨_, rfl, _, _, rfl, rfl, _, rfl, ?_⟩⟩⟩⟩
    obtain ⟨m2, hm2, hle2⟩ : ∃ m2 : Nat, (1 + (if decide (p < 12) = true then (1 : Int) else 0) + (if decide (p < 6) = true then 1 else 0) + (if decide (p < 4) = true then 1 else 0)) = (m2 : Int) ∧ m2 ≤ 4 := by
      split <;> split <;> split
      · exact ⟨4, rfl, by decide⟩
      · exact ⟨3, rfl, by decide⟩
      · exact ⟨3, rfl, by decide⟩
      · exact ⟨2, rfl, by decide⟩
      · exact ⟨3, rfl, by decide⟩
      · exact ⟨2, rfl, by decide⟩
      · exact ⟨2, rfl, by decide⟩
      · exact ⟨1, rfl, by decide⟩
    rw [hm2]
    refine slA_is hc fun sm G7 s7 e7 => ?_
    rw [cut_any] at e7
    have hM7 := hM6.same s7
    have hH7 := hH6.same s7
    have hSm : MT G7 (.ref sm) (rows.take m2) := ⟨sm, _, rfl, e7, paired_mono (fun _ _ f => f.same s7) (paired_take m2 hts)⟩
    have hRs : ∀ r ∈ rows.take m2, Ltr p n r := fun r hr => hR r (List.mem_of_mem_take hr)
    have hls : (rows.take m2).length ≤ 4 := by rw [List.length_take]; omega
    refine ⟨_, rfl, _, rfl, p, n, .ref sm, _, rfl, hSm, hp, hRs, by omega, by omega, fun rd G8 s8 hrd => ?_⟩
    obtain ⟨rc, rts, rfl, hrc, hrts⟩ := hrd
    obtain ⟨rl1, rl2⟩ := red_ltr hp hRs
    have lr := paired_len hrts
    have epp : ((p.toNat : Nat) : Int) = p := by omega
    refine ⟨rc, rfl, ⟨_, SqT.of hrc⟩, for_tup (K := K) (a := rc) (xs := rts) (fun i σ H' => H' = G8 ∧ ∃ st : Option V, σ = [some (.ref a0), some (.ref a), some (.int p), some (.int n), some (.ref c), some (.ref sm), some (.int ((p.toNat ^ i : Nat) : Int)), st, none, none, none])
      ⟨rfl, none, rfl⟩ (fun i σ H' _ ⟨e, _⟩ => by rw [e]; exact SqT.of hrc) ?_ ?_⟩
    · rintro i x σ H' hx ⟨rfl, st, rfl⟩
      refine ⟨_, rfl, _, rfl, _, _, rfl, rfl, .inr ⟨by omega, by omega⟩, rfl, some x, ?_⟩
      rw [Nat.pow_succ, Int.natCast_mul, epp]
      rfl
    · rintro σ H' ⟨rfl, st, rfl⟩
      rw [lr]
      have hM8 := hM7.same s8
      have hH8 := hH7.same s8
      have hSm8 := hSm.same s8
      refine ⟨_, rfl, _, rfl, p, n, .ref sm, _, rfl, hSm8, hp, hRs, by omega, by omega, fun G9 s9 => ⟨_, rfl, iteF ?_⟩⟩
      have hM9 := hM8.same s9
      have hH9 := hH8.same s9
      refine ⟨_, rfl, _, rfl, _, rfl, _, rfl, p, n, .ref sm, _, rfl, hSm8.same s9, hp, hRs, by omega, hls, fun G10 s10 => ⟨rfl, _, rfl, ?_⟩⟩
      rw [decide_eq_true rfl]
      refine iteF ?_
      have hM10 := hM9.same s10
      have hH10 := hH9.same s10
      refine ⟨_, rfl, _, rfl, _, rfl, a, d, .ref c, p, n, rows, rfl, hH10, hM10, hp, hR, by omega, by omega, fun bv e G11 hbv hsm hmd hH11 k11 => ?_⟩
      have hM11 := hM10.keep hH10 k11
      refine ⟨_, rfl, a, d, rfl, hH11, fun wv G12 how hwf hH12 k12 => ?_⟩
      have hM12 := hM11.keep hH11 k12
      have hbv12 := hbv.keep k12
      have hfw := how.fr
      have hfb := dp_fr hbv12.dp
      have hty := how.ty3 C
      refine ⟨2, rfl, by decide, by decide, for_range (lo := 0) (n := 2) (fun i σ H' => Same G12 H' ∧ ∃ wh : Option V, σ = [some (.ref a0), some (.ref a), some (.int p), some (.int n), some (.ref c), some (.ref sm), some (.int ((p.toNat ^ (red p (rows.take m2)).length : Nat) : Int)), st, some bv, some wv, wh])
        ⟨Same.refl _, none, rfl⟩ ?_ ?_⟩
      · rintro i σ H' hi ⟨sx, wh, rfl⟩
        have lf : ∀ (x : Str) (v : V), FR v → ∀ z ∈ [V.str x, v], FR z := fun x v hv z hz => by
          rcases List.mem_cons.mp hz with e | e
          · rw [e]
            exact .inl rfl
          · rw [List.mem_singleton.mp e]
            exact hv
        refine ⟨_, rfl, _, rfl, _, rfl, _, .int p, bv, rfl, ty3_int p, (fun e => by rw [mem_fld hp] at e; cases e), fun p' ep _ => ?_⟩
        cases ep
        refine ⟨e, dp_same sx hbv12.dp, hsm, hmd, fun q H1 x1 eq => ⟨_, rfl, (by show 2 ≤ sizeLine; decide), fun z hz => ⟨q, z, _, rfl, rfl, SqL.of (same_new hz _ _ eq), SqL.of upd_same, lf _ _ hfb, _, rfl, iteF ?_⟩⟩⟩
        have sx1 := (sx.trans x1).trans (same_new (o := .lst [.str "matrix", bv]) hz)
        generalize upd H1 z (.lst [.str "matrix", bv]) = H2 at sx1 ⊢
        refine ⟨_, rfl, _, rfl, _, rfl, _, wv, bv, rfl, hty.same sx1, ?_, fun p' ep e2 => ?_⟩
        rotate_left
        · rw [hwf] at e2
          cases e2
        intro _ q2 H3 x3 eq2
        refine ⟨_, rfl, (by show 2 ≤ sizeLine; decide), fun z2 hz2 => ⟨q2, z2, _, rfl, rfl, SqL.of (same_new hz2 _ _ eq2), SqL.of upd_same, lf _ _ hfw, _, rfl, iteF ?_⟩⟩
        have sx3 := (sx1.trans x3).trans (same_new (o := .lst [.str "number", wv]) hz2)
        generalize upd H3 z2 (.lst [.str "number", wv]) = H4 at sx3 ⊢
        refine ⟨_, rfl, _, rfl, _, rfl, _, wv, .ref c, rfl, hty.same sx3, ?_, fun p' ep e2 => ?_⟩
        rotate_left
        · rw [hwf] at e2
          cases e2
        intro _ q3 H5 x5 eq3
        refine ⟨_, rfl, (by show 2 ≤ sizeLine; decide), fun z3 hz3 => ⟨q3, z3, _, rfl, rfl, SqL.of (same_new hz3 _ _ eq3), SqL.of upd_same, lf _ _ hfw, _, rfl, iteF ?_⟩⟩
        exact ⟨(sx3.trans x5).trans (same_new hz3), _, rfl⟩
      · rintro σ H' ⟨sx, wh, rfl⟩
        have hH13 := hH12.same sx
        refine ⟨_, rfl, a, d, 6, rfl, by decide, hH13, fun tk G14 t0 t1 hH14 k14 => ⟨_, _, rfl, rfl, _, rfl, iteD (fun _ => k _) (fun _ => ?_)⟩⟩
        refine ⟨_, rfl, _, rfl, _, rfl, _, rfl, a, d, 12, rfl, by decide, hH14, fun r1 G15 x0 x1 hH15 k15 => ⟨_, _, rfl, rfl, _, rfl, a, d, 8, rfl, by decide, hH15, fun r2 G16 y0 y1 hH16 k16 => ⟨_, _, rfl, rfl, ?_⟩⟩⟩
        obtain ⟨m3, hm3⟩ : ∃ m3 : Nat, 20 + r1 = (m3 : Int) := ⟨(20 + r1).toNat, by omega⟩
        obtain ⟨n3, hn3⟩ : ∃ n3 : Nat, 10 + r2 = (n3 : Int) := ⟨(10 + r2).toNat, by omega⟩
        refine ⟨a, d, p, m3, n3, (by show [V.ref a, V.int p, V.int (20 + r1), V.int (10 + r2)] = _; rw [hm3, hn3]), hH16, hp, by omega, by omega, fun rv2 rows2 G17 hM17 hl17 hR17 hH17 k17 => ?_⟩
        exact ⟨p, n3, rv2, rows2, rfl, hM17, hp, hR17, by omega, by omega, fun H' _ => k H'⟩
end
end WU

set_option maxRecDepth 100000
set_option maxHeartbeats 0
namespace WU
open PySem PySem.Spec PyProof.Rows L2
def dG (x : Str) (i : Nat) : He.DefD := ⟨(x, none), x, x, defArgs (top i), defBody (top i), defScope (top i), [], []⟩
def dM (c m : Str) (i j : Nat) (q : Str) (ds : List He.Dv) : He.DefD := ⟨(c, some m), m, q, defArgs (inClass (top i) j), defBody (inClass (top i) j), defScope (inClass (top i) j), ds, []⟩
def fn : List He.DefD := ([dG "is_integer" 9, dG "is_number" 10, dG "is_below" 11, dG "is_sequence" 12, dG "are_letters" 13, dG "is_field" 17, dG "check_field" 18, dG "inverse_of" 19, dG "is_matrix" 21, dG "reduced_rows" 22, dG "rank_of" 23, dG "check_matrix" 24, dG "width_of_rows" 25, dG "_is_row" 26, dG "_reduced" 27, dG "_led_by_one" 28] : List He.DefD) ++ ([dG "_cleared" 29, dG "_less" 30, dG "_law_draws" 37, dG "_law_take" 38, dG "_law_odd" 39, dG "_law_is_field" 40, dG "_law_field" 41, dG "_law_no_field" 42, dG "_law_matrix" 43, dG "_law_bad_matrix" 44, dG "_law_inverse" 45, dG "_law_reduced" 46, dG "_law_same" 47, dG "_law_all_sums" 48, dG "_law_told" 49, dG "_law_right" 50] : List He.DefD) ++ ([dG "law" 51, dM "InvalidNumber" "__init__" 4 0 "InvalidNumber.__init__" [], dM "InvalidMatrix" "__init__" 6 0 "InvalidMatrix.__init__" [], dM "Undefined" "__init__" 7 0 "Undefined.__init__" [], dM "Share" "__init__" 32 0 "Share.__init__" [.int 1], dM "Share" "__eq__" 32 8 "Share.__eq__" []] : List He.DefD)
def frees : List Str := ["isinstance", "int", "bool", "len", "abs", "range", "tuple", "list", "all", "any", "zip", "max", "min"]
def globs : List Str := (["is_integer", "is_number", "is_below", "is_sequence", "are_letters", "is_field", "check_field", "inverse_of", "is_matrix", "reduced_rows", "rank_of", "check_matrix", "width_of_rows", "_is_row", "_reduced", "_led_by_one"] : List Str) ++ (["_cleared", "_less", "_law_draws", "_law_take", "_law_odd", "_law_is_field", "_law_field", "_law_no_field", "_law_matrix", "_law_bad_matrix", "_law_inverse", "_law_reduced", "_law_same", "_law_all_sums", "_law_told", "_law_right"] : List Str) ++ (["law", "PRIMES", "Share"] : List Str)
def isB0 (o : Option Bool) (b : Bool) : Bool := decide (o = some b)
def shB (K : PySem.W.Frag) (S : Addr) : Bool :=
  (He.Fa.cls "Share").ok K && ((He.Fa.noat "Share" "top").ok K && ((He.Fa.noat "Share" "bottom").ok K && ((He.Fa.mkr "Share").ok K && ((He.Fa.meth "Share" "__eq__").ok K &&
    (decide (PySem.W.findIn K (.ref S) "__class__" = some (some (.builtin "object.__class__"))) && (decide (PySem.W.specialIn K (.builtin "object.__class__") "__get__" = some (some (.builtin "getset_descriptor.__get__"))) &&
      (isB0 (PySem.W.takesIn K (.builtin "object.__class__")) true && (isB0 (PySem.W.mroIn K S (.type "object")) true && (isB0 (PySem.W.kitOne K (.ref S) (.ref S)) true && (isB0 (PySem.W.kitOne K (.ref S) (.type "int")) false && isB0 (PySem.W.kitOne K (.ref S) (.type "bool")) false))))))))))
def exmB (K : PySem.W.Frag) (x y : Str) (b : Bool) : Bool := isB0 (PySem.W.exmOne K (.ref (He.ga K x)) (.ref (He.ga K y))) b
def ex (K : PySem.W.Frag) : Bool := freeB K frees && (globB K globs && (exc1B K "InvalidNumber" "value" && (xfB K (He.ga K "InvalidNumber") && (exc1B K "InvalidMatrix" "value" && (xfB K (He.ga K "InvalidMatrix") && (exc1B K "Undefined" "what" && (xfB K (He.ga K "Undefined") && (exmB K "InvalidNumber" "InvalidNumber" true && (exmB K "InvalidNumber" "InvalidMatrix" false && (exmB K "InvalidNumber" "Undefined" false && (exmB K "InvalidMatrix" "InvalidNumber" false && (exmB K "InvalidMatrix" "InvalidMatrix" true && (exmB K "InvalidMatrix" "Undefined" false && (exmB K "Undefined" "InvalidNumber" false && (exmB K "Undefined" "InvalidMatrix" false && (exmB K "Undefined" "Undefined" true && (He.tupB K "PRIMES" (primes.map He.Dv.int) && (decide (PySem.W.nsIn K mainGlobals "gcd" = some (some (.builtin "math.gcd"))) && (shB K (He.ga K "Share"))))))))))))))))))))
theorem getG {K : PySem.W.Frag} (c : He.SaysD [] fn K) (i : Nat) {x : Str} {j : Nat} (h : fn[i]? = some (dG x j)) : ∃ fd, FnS K x (top j) (He.ga K x) fd := c.def_ i h
theorem getM {K : PySem.W.Frag} (c : He.SaysD [] fn K) (i : Nat) {cl m q : Str} {ds : List He.Dv} {j k : Nat} (h : fn[i]? = some (dM cl m j k q ds)) :
    ∃ fd, FunD K m q (defArgs (inClass (top j) k)) (defBody (inClass (top j) k)) (defScope (inClass (top j) k)) (ds.map (He.Dv.v K)) [] (He.ma K (He.ga K cl) m) fd := c.def_ i h
theorem facts {P : Program} {w : World} {K : PySem.W.Frag} {h : Heap} {mg : Str → Option Value} {fa : Addr} (X : K.In h) (G : h.Ns mainGlobals mg) (hfa : mg "law" = some (.ref fa)) (c : He.SaysD [] fn K) (e : ex K = true) :
    ∃ fd : FuncData, (∀ (s : Shared) (v : Value), BindsTo s fd ⟨[v], []⟩ [("script", v)]) ∧ ∀ base : Heap, K.In base → base.Ns mainGlobals mg → FnOk P w K mg base CX0 10 fa fd ["script"] (spLaw K) := by
  obtain ⟨e0, e⟩ := and2 e
  obtain ⟨e1, e⟩ := and2 e
  obtain ⟨e2, e⟩ := and2 e
  obtain ⟨e3, e⟩ := and2 e
  obtain ⟨e4, e⟩ := and2 e
  obtain ⟨e5, e⟩ := and2 e
  obtain ⟨e6, e⟩ := and2 e
  obtain ⟨e7, e⟩ := and2 e
  obtain ⟨e8, e⟩ := and2 e
  obtain ⟨e9, e⟩ := and2 e
  obtain ⟨e10, e⟩ := and2 e
  obtain ⟨e11, e⟩ := and2 e
  obtain ⟨e12, e⟩ := and2 e
  obtain ⟨e13, e⟩ := and2 e
  obtain ⟨e14, e⟩ := and2 e
  obtain ⟨e15, e⟩ := and2 e
  obtain ⟨e16, e⟩ := and2 e
  obtain ⟨e17, e⟩ := and2 e
  obtain ⟨e18, e19⟩ := and2 e
  have fr : ∀ {x : Str}, x ∈ frees → mg x = none := fun hx => freeB_ok X G e0 hx
  have gl : ∀ {x : Str}, x ∈ globs → mg x = some (.ref (He.ga K x)) := fun hx => globB_ok X G e1 hx
  have b0 : ∀ {o : Option Bool} {b : Bool}, isB0 o b = true → o = some b := fun h => of_decide_eq_true h
  have TInvalidNumber : Exc1 K mg "InvalidNumber" "value" := exc1B_ok X G e2
  have XInvalidNumber := xfB_ok e3
  have TInvalidMatrix : Exc1 K mg "InvalidMatrix" "value" := exc1B_ok X G e4
  have XInvalidMatrix := xfB_ok e5
  have TUndefined : Exc1 K mg "Undefined" "what" := exc1B_ok X G e6
  have XUndefined := xfB_ok e7
  have xInvalidNumber_InvalidNumber := b0 e8
  have xInvalidNumber_InvalidMatrix := b0 e9
  have xInvalidNumber_Undefined := b0 e10
  have xInvalidMatrix_InvalidNumber := b0 e11
  have xInvalidMatrix_InvalidMatrix := b0 e12
  have xInvalidMatrix_Undefined := b0 e13
  have xUndefined_InvalidNumber := b0 e14
  have xUndefined_InvalidMatrix := b0 e15
  have xUndefined_Undefined := b0 e16
  have tP : ∀ H, SqT K H (He.ga K "PRIMES") (primes.map V.int) := fun H => He.tupB_ok e17 H
  have gG : mg "gcd" = some (.builtin "math.gcd") := PySem.W.mg_of X G (of_decide_eq_true e18)
  have sh := e19
  obtain ⟨s1, sh⟩ := and2 sh
  obtain ⟨s2, sh⟩ := and2 sh
  obtain ⟨s3, sh⟩ := and2 sh
  obtain ⟨s4, sh⟩ := and2 sh
  obtain ⟨s5, sh⟩ := and2 sh
  obtain ⟨s6, sh⟩ := and2 sh
  obtain ⟨s7, sh⟩ := and2 sh
  obtain ⟨s8, sh⟩ := and2 sh
  obtain ⟨s9, sh⟩ := and2 sh
  obtain ⟨s10, sh⟩ := and2 sh
  obtain ⟨s11, s12⟩ := and2 sh
  have C : ShC K mg (He.ga K "Share") := ⟨gl (by decide +kernel), He.cls_ok s1, He.noat_ok s2, He.noat_ok s3, of_decide_eq_true s6, of_decide_eq_true s7, b0 s8, b0 s9, b0 s10, b0 s11, b0 s12⟩
  have MK := He.mkr_ok s4
  have ME := He.meth_ok s5
  obtain ⟨fd_is_integer, F_is_integer⟩ := getG c 0 (x := "is_integer") (j := 9) rfl
  obtain ⟨fd_is_number, F_is_number⟩ := getG c 1 (x := "is_number") (j := 10) rfl
  obtain ⟨fd_is_below, F_is_below⟩ := getG c 2 (x := "is_below") (j := 11) rfl
  obtain ⟨fd_is_sequence, F_is_sequence⟩ := getG c 3 (x := "is_sequence") (j := 12) rfl
  obtain ⟨fd_are_letters, F_are_letters⟩ := getG c 4 (x := "are_letters") (j := 13) rfl
  obtain ⟨fd_is_field, F_is_field⟩ := getG c 5 (x := "is_field") (j := 17) rfl
  obtain ⟨fd_check_field, F_check_field⟩ := getG c 6 (x := "check_field") (j := 18) rfl
  obtain ⟨fd_inverse_of, F_inverse_of⟩ := getG c 7 (x := "inverse_of") (j := 19) rfl
  obtain ⟨fd_is_matrix, F_is_matrix⟩ := getG c 8 (x := "is_matrix") (j := 21) rfl
  obtain ⟨fd_reduced_rows, F_reduced_rows⟩ := getG c 9 (x := "reduced_rows") (j := 22) rfl
  obtain ⟨fd_rank_of, F_rank_of⟩ := getG c 10 (x := "rank_of") (j := 23) rfl
  obtain ⟨fd_check_matrix, F_check_matrix⟩ := getG c 11 (x := "check_matrix") (j := 24) rfl
  obtain ⟨fd_width_of_rows, F_width_of_rows⟩ := getG c 12 (x := "width_of_rows") (j := 25) rfl
  obtain ⟨fd__is_row, F__is_row⟩ := getG c 13 (x := "_is_row") (j := 26) rfl
  obtain ⟨fd__reduced, F__reduced⟩ := getG c 14 (x := "_reduced") (j := 27) rfl
  obtain ⟨fd__led_by_one, F__led_by_one⟩ := getG c 15 (x := "_led_by_one") (j := 28) rfl
  obtain ⟨fd__cleared, F__cleared⟩ := getG c 16 (x := "_cleared") (j := 29) rfl
  obtain ⟨fd__less, F__less⟩ := getG c 17 (x := "_less") (j := 30) rfl
  obtain ⟨fd__law_draws, F__law_draws⟩ := getG c 18 (x := "_law_draws") (j := 37) rfl
  obtain ⟨fd__law_take, F__law_take⟩ := getG c 19 (x := "_law_take") (j := 38) rfl
  obtain ⟨fd__law_odd, F__law_odd⟩ := getG c 20 (x := "_law_odd") (j := 39) rfl
  obtain ⟨fd__law_is_field, F__law_is_field⟩ := getG c 21 (x := "_law_is_field") (j := 40) rfl
  obtain ⟨fd__law_field, F__law_field⟩ := getG c 22 (x := "_law_field") (j := 41) rfl
  obtain ⟨fd__law_no_field, F__law_no_field⟩ := getG c 23 (x := "_law_no_field") (j := 42) rfl
  obtain ⟨fd__law_matrix, F__law_matrix⟩ := getG c 24 (x := "_law_matrix") (j := 43) rfl
  obtain ⟨fd__law_bad_matrix, F__law_bad_matrix⟩ := getG c 25 (x := "_law_bad_matrix") (j := 44) rfl
  obtain ⟨fd__law_inverse, F__law_inverse⟩ := getG c 26 (x := "_law_inverse") (j := 45) rfl
  obtain ⟨fd__law_reduced, F__law_reduced⟩ := getG c 27 (x := "_law_reduced") (j := 46) rfl
  obtain ⟨fd__law_same, F__law_same⟩ := getG c 28 (x := "_law_same") (j := 47) rfl
  obtain ⟨fd__law_all_sums, F__law_all_sums⟩ := getG c 29 (x := "_law_all_sums") (j := 48) rfl
  obtain ⟨fd__law_told, F__law_told⟩ := getG c 30 (x := "_law_told") (j := 49) rfl
  obtain ⟨fd__law_right, F__law_right⟩ := getG c 31 (x := "_law_right") (j := 50) rfl
  obtain ⟨fd_law, F_law⟩ := getG c 32 (x := "law") (j := 51) rfl
  obtain ⟨fd_InvalidNumber___init__, F_InvalidNumber___init__⟩ := getM c 33 (cl := "InvalidNumber") (m := "__init__") (q := "InvalidNumber.__init__") (ds := []) (j := 4) (k := 0) rfl
  obtain ⟨fd_InvalidMatrix___init__, F_InvalidMatrix___init__⟩ := getM c 34 (cl := "InvalidMatrix") (m := "__init__") (q := "InvalidMatrix.__init__") (ds := []) (j := 6) (k := 0) rfl
  obtain ⟨fd_Undefined___init__, F_Undefined___init__⟩ := getM c 35 (cl := "Undefined") (m := "__init__") (q := "Undefined.__init__") (ds := []) (j := 7) (k := 0) rfl
  obtain ⟨fd_Share___init__, F_Share___init__⟩ := getM c 36 (cl := "Share") (m := "__init__") (q := "Share.__init__") (ds := [.int 1]) (j := 32) (k := 0) rfl
  obtain ⟨fd_Share___eq__, F_Share___eq__⟩ := getM c 37 (cl := "Share") (m := "__eq__") (q := "Share.__eq__") (ds := []) (j := 32) (k := 8) rfl
  have efa := hfa.symm.trans (gl (x := "law") (by decide +kernel))
  cases efa
  have bl := FunD.bindsA (ps := ["script"]) F_law fun _ _ _ _ _ _ us hl => match us, hl with | [_], _ => rfl
  obtain ⟨dI, vI, bI⟩ := FunD.binds1 (ps := ["self", "top", "bottom"]) F_Share___init__ 2 0 (by intro z; cases z) rfl fun T kV doc pm an cdv ct us its hu hi => match us, its, hu, hi with | [_, _], [_], _, _ => ⟨_, rfl, rfl⟩
  have B : Blt4 mg := { isi := fr (by decide +kernel), int := fr (by decide +kernel), bool := fr (by decide +kernel), len := fr (by decide +kernel), abs := fr (by decide +kernel), range := fr (by decide +kernel), tuple := fr (by decide +kernel), lst := fr (by decide +kernel), all := fr (by decide +kernel), any := fr (by decide +kernel), zip := fr (by decide +kernel), max := fr (by decide +kernel), min := fr (by decide +kernel) }
  refine ⟨fd_law, fun s v => bl s [v] rfl, fun base _ _ => ?_⟩
  have GInvalidNumber := ok_init1 (P := P) (w := w) (K := K) (mg := mg) (base := base) (C := He.ga K "InvalidNumber") F_InvalidNumber___init__ scInvalidNumber bodyInvalidNumber
  have bdInvalidNumber : Binds K fd_InvalidNumber___init__ ["self", "value"] [] := FunD.bindsN F_InvalidNumber___init__ fun _ _ _ _ _ _ us hl => match us, hl with | [_, _], _ => rfl
  have GInvalidMatrix := ok_init1 (P := P) (w := w) (K := K) (mg := mg) (base := base) (C := He.ga K "InvalidMatrix") F_InvalidMatrix___init__ scInvalidMatrix bodyInvalidMatrix
  have bdInvalidMatrix : Binds K fd_InvalidMatrix___init__ ["self", "value"] [] := FunD.bindsN F_InvalidMatrix___init__ fun _ _ _ _ _ _ us hl => match us, hl with | [_, _], _ => rfl
  have GUndefined := ok_init1 (P := P) (w := w) (K := K) (mg := mg) (base := base) (C := He.ga K "Undefined") F_Undefined___init__ scUndefined bodyUndefined
  have bdUndefined : Binds K fd_Undefined___init__ ["self", "what"] [] := FunD.bindsN F_Undefined___init__ fun _ _ _ _ _ _ us hl => match us, hl with | [_, _], _ => rfl
  have C0 : Cal P w K mg base 1 "is_integer" _ fd_is_integer ["value"] (spIsInt K) := cal_mk F_is_integer (gl (by decide +kernel)) (ok_isInt F_is_integer B.toBlt) fun _ _ _ _ _ _ us hl => match us, hl with | [_], _ => rfl
  have C1 : Cal P w K mg base 2 "is_number" _ fd_is_number ["value"] (spIsNum K) := cal_mk F_is_number (gl (by decide +kernel)) (ok_isNum F_is_number C0) fun _ _ _ _ _ _ us hl => match us, hl with | [_], _ => rfl
  have C2 : Cal P w K mg base 3 "is_below" _ fd_is_below ["value", "limit"] (spIsBel K) := cal_mk F_is_below (gl (by decide +kernel)) (ok_isBel F_is_below C1) fun _ _ _ _ _ _ us hl => match us, hl with | [_, _], _ => rfl
  have CSq : Cal P w K mg base 1 "is_sequence" _ fd_is_sequence ["value"] (spSeq K) := cal_mk F_is_sequence (gl (by decide +kernel)) (ok_seq F_is_sequence B.toBlt3) fun _ _ _ _ _ _ us hl => match us, hl with | [_], _ => rfl
  have CLs : Cal P w K mg base 4 "are_letters" _ fd_are_letters ["p", "count", "value"] (spLets K) := cal_mk F_are_letters (gl (by decide +kernel)) (ok_lets F_are_letters B.toBlt3 CSq C2) fun _ _ _ _ _ _ us hl => match us, hl with | [_, _, _], _ => rfl
  have C3 : Cal P w K mg base 2 "is_field" _ fd_is_field ["p"] (spIsFld K) := cal_mk F_is_field (gl (by decide +kernel)) (ok_isFld F_is_field C0 (gl (by decide +kernel)) tP) fun _ _ _ _ _ _ us hl => match us, hl with | [_], _ => rfl
  have C4 : Cal P w K mg base 3 "check_field" _ fd_check_field ["p"] (spCheck K) := cal_mk F_check_field (gl (by decide +kernel)) (ok_check F_check_field C3 TInvalidNumber GInvalidNumber bdInvalidNumber) fun _ _ _ _ _ _ us hl => match us, hl with | [_], _ => rfl
  have C5 : Cal P w K mg base 4 "inverse_of" _ fd_inverse_of ["p", "a"] (spInv K) := cal_mk F_inverse_of (gl (by decide +kernel)) (ok_inv F_inverse_of C4 C2 TInvalidNumber TUndefined B.range GInvalidNumber bdInvalidNumber GUndefined bdUndefined) fun _ _ _ _ _ _ us hl => match us, hl with | [_, _], _ => rfl
  have CRw : Cal P w K mg base 5 "_is_row" _ fd__is_row ["value", "p", "columns"] (spRow K) := cal_mk F__is_row (gl (by decide +kernel)) (ok_row F__is_row B CLs) fun _ _ _ _ _ _ us hl => match us, hl with | [_, _, _], _ => rfl
  have CMt : Cal P w K mg base 6 "is_matrix" _ fd_is_matrix ["value", "p", "columns"] (spMat K) := cal_mk F_is_matrix (gl (by decide +kernel)) (ok_mat F_is_matrix B CRw) fun _ _ _ _ _ _ us hl => match us, hl with | [_, _, _], _ => rfl
  have CWd : Cal P w K mg base 1 "width_of_rows" _ fd_width_of_rows ["rows"] (spWid K) := cal_mk F_width_of_rows (gl (by decide +kernel)) (ok_wid F_width_of_rows B) fun _ _ _ _ _ _ us hl => match us, hl with | [_], _ => rfl
  have CCk : Cal P w K mg base 7 "check_matrix" _ fd_check_matrix ["p", "rows"] (spChk K) := cal_mk F_check_matrix (gl (by decide +kernel)) (ok_chk F_check_matrix C4 CMt CWd TInvalidMatrix GInvalidMatrix bdInvalidMatrix) fun _ _ _ _ _ _ us hl => match us, hl with | [_, _], _ => rfl
  have CLe : Cal P w K mg base 1 "_less" _ fd__less ["p", "row", "factor", "lead"] (spLess) := cal_mk F__less (gl (by decide +kernel)) (ok_less F__less B) fun _ _ _ _ _ _ us hl => match us, hl with | [_, _, _, _], _ => rfl
  have CLd : Cal P w K mg base 5 "_led_by_one" _ fd__led_by_one ["p", "row", "column"] (spLed) := cal_mk F__led_by_one (gl (by decide +kernel)) (ok_led F__led_by_one B C5) fun _ _ _ _ _ _ us hl => match us, hl with | [_, _, _], _ => rfl
  have CCl : Cal P w K mg base 2 "_cleared" _ fd__cleared ["p", "rows", "lead", "column"] (spClr) := cal_mk F__cleared (gl (by decide +kernel)) (ok_clr F__cleared CLe) fun _ _ _ _ _ _ us hl => match us, hl with | [_, _, _, _], _ => rfl
  have CRd : Cal P w K mg base 6 "_reduced" _ fd__reduced ["p", "rows"] (spRed) := cal_mk F__reduced (gl (by decide +kernel)) (ok_red F__reduced B CLd CCl) fun _ _ _ _ _ _ us hl => match us, hl with | [_, _], _ => rfl
  have CRR : Cal P w K mg base 8 "reduced_rows" _ fd_reduced_rows ["p", "rows"] (spRR K) := cal_mk F_reduced_rows (gl (by decide +kernel)) (ok_RR F_reduced_rows CCk CRd) fun _ _ _ _ _ _ us hl => match us, hl with | [_, _], _ => rfl
  have CRk : Cal P w K mg base 8 "rank_of" _ fd_rank_of ["p", "rows"] (spRk K) := cal_mk F_rank_of (gl (by decide +kernel)) (ok_Rk F_rank_of B CCk CRd) fun _ _ _ _ _ _ us hl => match us, hl with | [_, _], _ => rfl
  have GI := ok_SI (P := P) (w := w) (base := base) F_Share___init__ C0 C gG
  have CD : Cal P w K mg base 1 "_law_draws" _ fd__law_draws ["script", "many"] (spDraws K 1200) := cal_mk F__law_draws (gl (by decide +kernel)) (ok_draws F__law_draws B.toBlt2 (by decide) (by decide)) fun _ _ _ _ _ _ us hl => match us, hl with | [_, _], _ => rfl
  have CT : Cal P w K mg base 1 "_law_take" _ fd__law_take ["hand", "many"] (spTake) := cal_mk F__law_take (gl (by decide +kernel)) (ok_take F__law_take B.toBlt2) fun _ _ _ _ _ _ us hl => match us, hl with | [_, _], _ => rfl
  have bO : Binds K fd__law_odd ["hand", "depth"] [] := FunD.bindsN F__law_odd fun _ _ _ _ _ _ us hl => match us, hl with | [_, _], _ => rfl
  have co : ∀ n, FnOk P w K mg base (L2.CX P w) (3 + n) (He.ga K "_law_odd") fd__law_odd ["hand", "depth"] (spOdd (He.ga K "Share") n) := by
    intro n
    induction n with
    | zero => exact ⟨fun vs H Q E h => by obtain ⟨a, d, m, rfl, m0, m1, _⟩ := h; rfl, fun A outer s H args us vs Q E hr he hb hv hs => by obtain ⟨a, d, m, rfl, m0, m1, _⟩ := hs; exact absurd m1 (by omega)⟩
    | succ n ih => exact ok_odd F__law_odd B.toBlt2 C CT MK GI bI vI n ⟨gl (by decide +kernel), F__law_odd.kp, bO, ih⟩
  have CO2 : Cal P w K mg base 5 "_law_odd" _ fd__law_odd ["hand", "depth"] (spOdd (He.ga K "Share") 2) := ⟨gl (by decide +kernel), F__law_odd.kp, bO, co 2⟩
  have CLF : Cal P w K mg base 1 "_law_is_field" _ fd__law_is_field ["p"] (spIsFld K) := cal_mk F__law_is_field (gl (by decide +kernel)) (ok_LF F__law_is_field B.toBlt2) fun _ _ _ _ _ _ us hl => match us, hl with | [_], _ => rfl
  have CFd : Cal P w K mg base 2 "_law_field" _ fd__law_field ["hand"] (spLFd) := cal_mk F__law_field (gl (by decide +kernel)) (ok_LFd F__law_field B.toBlt2 CLF CT) fun _ _ _ _ _ _ us hl => match us, hl with | [_], _ => rfl
  have CLN : Cal P w K mg base 6 "_law_no_field" _ fd__law_no_field ["hand"] (spLN (He.ga K "Share")) := cal_mk F__law_no_field (gl (by decide +kernel)) (ok_LN F__law_no_field B.toBlt2 C CLF CT CO2 MK GI bI vI) fun _ _ _ _ _ _ us hl => match us, hl with | [_], _ => rfl
  have CLI : Cal P w K mg base 1 "_law_inverse" _ fd__law_inverse ["a", "p"] (spLI) := cal_mk F__law_inverse (gl (by decide +kernel)) (ok_LI F__law_inverse B.toBlt2) fun _ _ _ _ _ _ us hl => match us, hl with | [_, _], _ => rfl
  have CLM : Cal P w K mg base 2 "_law_matrix" _ fd__law_matrix ["hand", "p", "rows", "columns"] (spLM) := cal_mk F__law_matrix (gl (by decide +kernel)) (ok_LM F__law_matrix B CT) fun _ _ _ _ _ _ us hl => match us, hl with | [_, _, _, _], _ => rfl
  have CBd : Cal P w K mg base 2 "_law_bad_matrix" _ fd__law_bad_matrix ["hand", "rows", "p"] (spBad K) := cal_mk F__law_bad_matrix (gl (by decide +kernel)) (ok_Bad F__law_bad_matrix B CT) fun _ _ _ _ _ _ us hl => match us, hl with | [_, _, _], _ => rfl
  have CLR : Cal P w K mg base 2 "_law_reduced" _ fd__law_reduced ["rows", "p"] (spLRd) := cal_mk F__law_reduced (gl (by decide +kernel)) (ok_LRd F__law_reduced B CLI) fun _ _ _ _ _ _ us hl => match us, hl with | [_, _], _ => rfl
  have bSm : Binds K fd__law_same ["found", "due"] [] := FunD.bindsN F__law_same fun _ _ _ _ _ _ us hl => match us, hl with | [_, _], _ => rfl
  have CS : Cal P w K mg base 3 "_law_same" _ fd__law_same ["found", "due"] (spSm 2) := ⟨gl (by decide +kernel), F__law_same.kp, bSm, ok_Sm F__law_same B.toBlt3 (gl (by decide +kernel)) bSm 2⟩
  have CSm : Cal P w K mg base 1 "_law_all_sums" _ fd__law_all_sums ["rows", "p", "columns"] (spSums) := cal_mk F__law_all_sums (gl (by decide +kernel)) (ok_Sums F__law_all_sums B) fun _ _ _ _ _ _ us hl => match us, hl with | [_, _, _], _ => rfl
  have CTd : Cal P w K mg base 9 "_law_told" _ fd__law_told ["which", "p", "rows"] (spTd K) := cal_mk F__law_told (gl (by decide +kernel)) (ok_Td F__law_told CRR CRk TInvalidNumber TInvalidMatrix XInvalidNumber XInvalidMatrix xInvalidNumber_InvalidNumber xInvalidMatrix_InvalidNumber xInvalidMatrix_InvalidMatrix) fun _ _ _ _ _ _ us hl => match us, hl with | [_, _, _], _ => rfl
  have CRt : Cal P w K mg base 9 "_law_right" _ fd__law_right ["p", "rows"] (spRt) := cal_mk F__law_right (gl (by decide +kernel)) (ok_Rt F__law_right B CLR CS CRR CRk) fun _ _ _ _ _ _ us hl => match us, hl with | [_, _], _ => rfl
  exact ok_Law F_law B C CD CT CFd CLM CRt CLR CSm CBd CLN CTd
end WU

namespace WU
open PySem PySem.Spec PyProof.Rows L2
theorem walk {l : PySem.W.OpenLaw} {q : Program} {loose : List Str} {XP : (Str → Option Value) → Heap → Prop} {YP : World → Heap → Prop} {d : DefRec} {K : Params → PySem.W.Frag} (hn : l.most = some 63) (hdf : d.params.defaults = []) (hname : d.name = ("law" : Str))
    (hY : ∀ (w : World) (h : Heap), YP w h → (K w.params).In h) (hD : ∀ w : World, He.SaysD [] fn (K w.params)) (hE : ∀ w : World, ex (K w.params) = true) :
    PySem.W.WalkO q loose XP YP l.row.toRowW d [] (fun f vs => PySem.call f vs) :=
  L2.walk_of (n := 63) (k := 10) (x := "script") (CX := fun _ => CX0) (sp := fun w => spLaw (K w.params)) hn (by decide) hdf ⟨rfl, by decide, by decide⟩ hY
    (fun w mg fa h KX G hmg => facts KX G (by rw [← hname]; exact hmg) (hD w) (hE w)) (fun _ _ a ns hl _ hS => ⟨a, ns, rfl, hS, hl, fun _ => rfl⟩) fun _ _ _ _ _ z => z
end WU
open PySem PySem.W PyProof.Rows
set_option maxRecDepth 100000 in
set_option maxHeartbeats 0 in
theorem PySem.Challenge.cw_wishunseen_k04_reduced_rows_and_ranks_holds : PySem.Challenge.rw_wishunseen_k04_reduced_rows_and_ranks.Holds := by
  w_on; o_law; k_head; (case hw => w_witness2)
  k_fill
  refine WU.walk (l := PySem.Challenge.rw_wishunseen_k04_reduced_rows_and_ranks) rfl rfl (by rfl) (fun w h Y => PySem.W.kIn_of Y) ?D ?E
  case D =>
    intro w
    show He.obsD [] WU.fn _ = He.valD WU.fn
    kernel_rfl
  case E =>
    intro w
    kernel_rfl

