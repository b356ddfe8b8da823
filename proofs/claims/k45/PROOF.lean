import PyProof.Rows.All
import Wide.All
import OpenK.AllK
import Wide.FinOn
import HandS.TupSets
import KE.KeyNested
import KE.SortData
import KE.LtSeq
import HandS.Base
import HandS.Call
import HandS.Exc
import HandS.List
import HandS.Comp
import HandS.Ends
import HandS.ExcOwn
import HandS.ExcInit
import HandS.OwnEq
import HandS.Words
import HandS.Defaults
import HandS.Head0
import HandS.Head1
import HandS.Head2
import HandS.HeadHook1
import HandS.HeadHook2
import HandS.Zip
import HandS.Iter
import HandS.Walk
import PyProof.Draws
import KE.GoesMore
import KE.DataAny
import HandS.TupMul
import HandS.TupAny
import HandS.TupLen
import HandS.IsInst
import HandS.Deep
import HandS.Conv
import HandS.More
import KE.LtData
import HandS.CallSlots
import HandS.MakeKw
import HandS.ClsMeth
import HandS.Flow
import PyProof.ReprRoads
import HandS.DictComp
import HandS.ExcField
import HandS.WordsExc
import HandS.Star
import HandS.ExcIs
import HandS.HotCalls
import HandS.HeadNt
import HandS.Text
import HandS.Gcd
import HandS.Wide
import KE.KTupSum
import HandS.Strs
import HandS.SetFor
import HandS.HeadEnd
import PySem.Challenge.RW_wishunseen_k45_reordered_and_rehoused
set_option Elab.async false
set_option linter.all false
set_option maxRecDepth 100000
set_option maxHeartbeats 4000000
/-! keys of numbers and tuples: what a set asks of them -/
namespace GS
open PySem PySem.Spec PyProof.Rows L2
mutual
/-- numbers and tuples alone -/
def bare : NestedKey → Bool
  | .none => false
  | .num _ => true
  | .text _ => false
  | .tup ks => bares ks
def bares : List NestedKey → Bool
  | [] => true
  | k :: ks => bare k && bares ks
end
section
variable {P : Program} {w : World} {A : Around} {E : Value → Shared → Prop} {s : Shared}
theorem each_in {h : Heap} : ∀ {ks : List NestedKey} {vs : List Value}, NestedAll h ks vs → bares ks = true → ∀ v ∈ vs, ∃ k, NestedIs h k v ∧ bare k = true ∧ k.depth ≤ NestedKey.depthAll ks
  | _, _, .nil, _, v, hv => nomatch hv
  | _, _, @NestedAll.cons _ k u ks us x t, b, v, hv => by
    have b : (bare k && bares ks) = true := b
    rw [Bool.and_eq_true] at b
    rcases List.mem_cons.mp hv with e | hv
    · subst e
      exact ⟨k, x, b.1, by rw [NestedKey.depthAll]; omega⟩
    · obtain ⟨k', y, c, d⟩ := each_in t b.2 v hv
      exact ⟨k', y, c, by rw [NestedKey.depthAll]; omega⟩
theorem not_class : ∀ (n : Nat) (k : NestedKey) (v : Value) (Q : Bool → Shared → Prop), NestedIs s.heap k v → bare k = true → k.depth ≤ n → Q false s → wpAny (model P w) A (ofAClassStatement n v) Q E s
  | n, .none, v, Q, hv, hb, hd, q => by cases hb
  | n, .text _, v, Q, hv, hb, hd, q => by cases hb
  | n, .num i, v, Q, hv, hb, hd, q => by
    cases hv <;> cases n <;> exact wpAny_pure q
  | 0, .tup ks, v, Q, hv, hb, hd, q => by
    rw [NestedKey.depth] at hd
    omega
  | n + 1, .tup ks, v, Q, hv, hb, hd, q => by
    rw [NestedKey.depth] at hd
    cases hv with
    | @tup c o items m _ e1 e2 e3 all =>
      have ty : s.TypeIs (.ref c) "tuple" := ⟨o, e1, e2⟩
      unfold ofAClassStatement
      refine wpAny_bind (wpAny_typeOf ty ?_)
      dsimp only
      rw [if_pos (show (("tuple" : String) == "tuple") = true from rfl)]
      refine wpAny_bind (wpAny_pure ?_)
      rw [if_neg (by decide)]
      refine wpAny_bind (wpAny_seqItems e1 e3 ?_)
      dsimp only
      refine wpAny_bind ?_
      rw [← Array.forIn_toList]
      refine wpAny_forIn_list _ (fun todo acc s' => s = s' ∧ acc.1 = none ∧ ∀ u ∈ todo, u ∈ items.toList) _ ?_ ?_ _ _ ⟨rfl, rfl, fun _ h => h⟩
      · rintro u todo acc s' ⟨rfl, ha, hin⟩
        obtain ⟨k', x, b, d⟩ := each_in all hb u (hin u List.mem_cons_self)
        refine wpAny_bind (not_class n k' u _ x b (by omega) ?_)
        rw [if_neg (by decide)]
        exact wpAny_pure ⟨rfl, rfl, fun y hy => hin y (List.mem_cons_of_mem _ hy)⟩
      · rintro ⟨a1, a2⟩ s' ⟨rfl, ha, _⟩
        have ha : a1 = none := ha
        subst ha
        exact wpAny_pure q
theorem by_value : ∀ (n : Nat) (k : NestedKey) (v : Value) (Q : Bool → Shared → Prop), NestedIs s.heap k v → bare k = true → k.depth ≤ n → Q true s → wpAny (model P w) A (hashByValue n v) Q E s
  | n, .none, v, Q, hv, hb, hd, q => by cases hb
  | n, .text _, v, Q, hv, hb, hd, q => by cases hb
  | n, .num i, v, Q, hv, hb, hd, q => by
    cases hv <;> cases n <;> exact wpAny_pure q
  | 0, .tup ks, v, Q, hv, hb, hd, q => by
    rw [NestedKey.depth] at hd
    omega
  | n + 1, .tup ks, v, Q, hv, hb, hd, q => by
    rw [NestedKey.depth] at hd
    cases hv with
    | @tup c o items m _ e1 e2 e3 all =>
      have ty : s.TypeIs (.ref c) "tuple" := ⟨o, e1, e2⟩
      unfold hashByValue
      refine wpAny_bind (wpAny_specialOf ty F.slot_tuple_hash.lookup ?_)
      refine wpAny_bind (wpAny_seqItems e1 e3 ?_)
      refine wpAny_bind ?_
      show wpAny _ _ (forIn items _ _) _ _ s
      rw [← Array.forIn_toList]
      refine wpAny_forIn_list _ (fun todo acc s' => s = s' ∧ acc.1 = none ∧ ∀ u ∈ todo, u ∈ items.toList) _ ?_ ?_ _ _ ⟨rfl, rfl, fun _ h => h⟩
      · rintro u todo acc s' ⟨rfl, ha, hin⟩
        obtain ⟨k', x, b, d⟩ := each_in all hb u (hin u List.mem_cons_self)
        refine wpAny_bind (by_value n k' u _ x b (by omega) ?_)
        rw [if_neg (by decide)]
        exact wpAny_pure ⟨rfl, rfl, fun y hy => hin y (List.mem_cons_of_mem _ hy)⟩
      · rintro ⟨a1, a2⟩ s' ⟨rfl, ha, _⟩
        have ha : a1 = none := ha
        subst ha
        exact wpAny_pure q
/-- the key k is the tuple at c -/
structure Ky (P : Program) (w : World) (h : Heap) (k : NestedKey) (c : Addr) : Prop where
  nk : (nestedKind P w).is h k c
  br : bare k = true
theorem Ky.stay {h h' : Heap} {k : NestedKey} {c : Addr} (x : Ky P w h k c) (keep : ∀ b o vs n, h.get? b = some o → o.data = .seq vs n → h'.get? b = some o) : Ky P w h' k c := ⟨⟨NestedIs.at keep k _ x.nk.1, x.nk.2⟩, x.br⟩
/-- a search shows nothing -/
theorem unseen {k : NestedKey} {c : Addr} {Q : Bool → Shared → Prop} (x : Ky P w s.heap k c) {ys : List Value} (hy : ∀ y ∈ ys, ∃ k' d, y = Value.ref d ∧ Ky P w s.heap k' d) (q : Q false s) : wpAny (model P w) A (searchCouldBeSeen (.ref c) ys) Q E s := by
  unfold searchCouldBeSeen
  refine wpAny_bind (wpAny_forIn_list _ (fun todo acc s' => s = s' ∧ acc.1 = none ∧ ∀ y ∈ todo, y ∈ ys) _ ?_ ?_ _ _ ⟨rfl, rfl, fun _ h => h⟩)
  · rintro u todo acc s' ⟨rfl, ha, hin⟩
    obtain ⟨k', d, rfl, z⟩ := hy u (hin u List.mem_cons_self)
    have on : ∀ y ∈ todo, y ∈ ys := fun y h => hin y (List.mem_cons_of_mem _ h)
    dsimp only
    split
    · exact wpAny_pure ⟨rfl, rfl, on⟩
    · refine wpAny_bind ((nestedKind P w).quiet x.nk ?_)
      rw [if_neg (by decide)]
      refine wpAny_bind ((nestedKind P w).quiet z.nk ?_)
      rw [if_neg (by decide)]
      refine wpAny_bind (not_class 8 k _ _ x.nk.1 x.br x.nk.2 ?_)
      rw [if_neg (by decide)]
      refine wpAny_bind (not_class 8 k' _ _ z.nk.1 z.br z.nk.2 ?_)
      rw [if_neg (by decide)]
      exact wpAny_pure ⟨rfl, rfl, on⟩
  · rintro ⟨a1, a2⟩ s' ⟨rfl, ha, _⟩
    have ha : a1 = none := ha
    subst ha
    exact wpAny_pure q
end
end GS

set_option maxRecDepth 100000
set_option maxHeartbeats 4000000
/-! a set whose members are such keys: the search -/
namespace GS
open PySem PySem.Spec PyProof.Rows L2
abbrev hsh (P : Program) (w : World) (k : NestedKey) : Int := (nestedKind P w).hash k
/-- where a search for h stands at its step c -/
abbrev pr (m : Nat) (h : Int) (c : Nat) : SetTable.Probe := nth m (runAt m (SetTable.bits h % (m + 1)) (SetTable.bits h)) c
theorem nth_dummy {m : Nat} : ∀ (q : Nat) (p : SetTable.Probe), p.dummy = none → (nth m p q).dummy = none
  | 0, p, e => e
  | q + 1, p, e => nth_dummy q _ (by unfold adv; split <;> exact e)
theorem pr_dummy (m : Nat) (h : Int) (c : Nat) : (pr m h c).dummy = none := nth_dummy c _ rfl
theorem pr_on (m : Nat) (h : Int) (c q : Nat) : nth m (pr m h c) q = pr m h (c + q) := (nth_add m c _ q).symm
/-- what a probe from the step c on meets, where K is the first empty place -/
theorem meets {t : SetTable} {hs : List Int} (T : TabOk t hs) {h : Int} {K c : Nat} (hf : K < 10 * SetTable.turns t.mask) (free : way t.mask h K ∉ t.place.toList) (held : ∀ c, c < K → way t.mask h c ∈ t.place.toList) (hc : c ≤ K)
    (at_ : Nat → Int) (ha : ∀ i x, hs[i]? = some x → at_ i = x) :
    (∃ (d i : Nat), c ≤ d ∧ d < K ∧ t.place.toList[i]? = some (way t.mask h d) ∧ (∀ (d' i' : Nat), c ≤ d' → d' < d → t.place.toList[i']? = some (way t.mask h d') → hs[i']? ≠ some h) ∧ t.probe at_ h (pr t.mask h c) = some (.candidate (way t.mask h d) i (pr t.mask h (d + 1)))) ∨
    ((∀ (d' i' : Nat), c ≤ d' → d' < K → t.place.toList[i']? = some (way t.mask h d') → hs[i']? ≠ some h) ∧ t.probe at_ h (pr t.mask h c) = some (.empty (way t.mask h K) none)) := by
  have jw : ∀ q, (nth t.mask (pr t.mask h c) q).j = way t.mask h (c + q) := fun q => congrArg SetTable.Probe.j (pr_on t.mask h c q)
  have eK : c + (K - c) = K := by omega
  rcases go_spec t T.ris T.dm at_ h (10 * SetTable.turns t.mask) (K - c) (pr t.mask h c) (pr_dummy _ _ _) (by omega) (fun q hq => by rw [jw]; exact held _ (by omega)) (by rw [jw, eK]; exact free) with ⟨q, i, hq, hi, _, no, e⟩ | ⟨no, e⟩
  · refine .inl ⟨c + q, i, Nat.le_add_right _ _, by omega, by rw [← jw]; exact hi, fun d' i' h1 h2 h3 h4 => ?_, ?_⟩
    · exact no (d' - c) i' (by omega) (by rw [jw, show c + (d' - c) = d' by omega]; exact h3) (ha _ _ h4)
    · have e' : t.probe at_ h (pr t.mask h c) = some (.candidate (nth t.mask (pr t.mask h c) q).j i (nth t.mask (pr t.mask h c) (q + 1))) := e
      rw [e', jw, pr_on]
      rfl
  · refine .inr ⟨fun d' i' h1 h2 h3 h4 => ?_, ?_⟩
    · exact no (d' - c) i' (by omega) (by rw [jw, show c + (d' - c) = d' by omega]; exact h3) (ha _ _ h4)
    · have e' : t.probe at_ h (pr t.mask h c) = some (.empty (nth t.mask (pr t.mask h c) (K - c)).j none) := e
      rw [e', jw, eK]
/-- the set at a has the members M -/
structure SetG (P : Program) (w : World) (h : Heap) (a : Addr) (M : List (NestedKey × Addr)) (es : Array (Int × Value)) (ep : Nat) (t : SetTable) : Prop where
  obj : ∃ o, h.get? a = some o ∧ o.ExactSet ∧ o.data = .set es ep t
  ent : es.toList = M.map fun e => (hsh P w e.1, Value.ref e.2)
  table : TabOk t (M.map fun e => hsh P w e.1)
  once : (M.map Prod.fst).Nodup
  keys : ∀ e ∈ M, Ky P w h e.1 e.2
  pl : t.plain = true
  le : w.params.followText "set-order" = true ∨ t.led = true
  sp : M.length * 5 < t.mask * 3
  sm : M.length < 64
section
variable {P : Program} {w : World} {A : Around} {E : Value → Shared → Prop} {s : Shared} {a : Addr} {M : List (NestedKey × Addr)} {es : Array (Int × Value)} {ep : Nat} {t : SetTable}
theorem ent_size {M : List (NestedKey × Addr)} {es : Array (Int × Value)} (e : es.toList = M.map fun e => (hsh P w e.1, Value.ref e.2)) : es.size = M.length := by
  rw [← Array.length_toList, e, List.length_map]
theorem ent_at {M : List (NestedKey × Addr)} {es : Array (Int × Value)} (e : es.toList = M.map fun e => (hsh P w e.1, Value.ref e.2)) {i : Nat} {z : NestedKey × Addr} (h : M[i]? = some z) : es[i]? = some (hsh P w z.1, Value.ref z.2) := by
  rw [← Array.getElem?_toList, e, List.getElem?_map, h]
  rfl
theorem SetG.fits (R : SetG P w s.heap a M es ep t) : t.fits es.size = true := by
  have z1 := R.table.sz
  have z2 := ent_size R.ent
  have z3 := R.sp
  rw [List.length_map] at z1
  unfold SetTable.fits SetTable.fill
  rw [R.table.dm, Bool.and_eq_true, beq_iff_eq, decide_eq_true_eq]
  exact ⟨by omega, by show t.place.size + 0 ≤ t.mask; omega⟩
/-- the search, with what it finds -/
theorem seek (R : SetG P w s.heap a M es ep t) {x : Addr} {k : NestedKey} (hx : Ky P w s.heap k x) (room : A.units + 8 < cLine) {K : Nat} (hf : K < 10 * SetTable.turns t.mask) (free : way t.mask (hsh P w k) K ∉ t.place.toList)
    (held : ∀ c, c < K → way t.mask (hsh P w k) c ∈ t.place.toList) {Q : SetFound → Shared → Prop} (yes : k ∈ M.map Prod.fst → Q (.there none) s) (no : k ∉ M.map Prod.fst → Q (.free (way t.mask (hsh P w k) K) false) s) :
    ∀ (f c : Nat) (from_ : Option SetTable.Probe), from_.getD (t.probeStart (hsh P w k)) = pr t.mask (hsh P w k) c → c ≤ K → K - c < f →
      (∀ (i : Nat) (z : NestedKey × Addr), M[i]? = some z → z.1 = k → ∃ d : Nat, c ≤ d ∧ d < K ∧ t.place.toList[i]? = some (way t.mask (hsh P w k) d)) → wpAny (model P w) A (setSearchFrom a (.ref x) (hsh P w k) true f from_) Q E s
  | 0, c, _, _, _, hl, _ => absurd hl (Nat.not_lt_zero _)
  | f + 1, c, from_, ef, hc, hl, ahead => by
    obtain ⟨o, ho, hex, hd⟩ := R.obj
    rw [setSearchFrom_succ]
    refine wpAny_bind (wpAny_setState_of ho hd R.fits ?_)
    dsimp only
    rw [if_neg (by unfold SetTable.gaveWay; rw [mask_odd R.table.mok]; decide)]
    try refine wpAny_bind (wpAny_pure ?_)
    have hash_at : ∀ (i : Nat) (v : Int), (M.map fun e => hsh P w e.1)[i]? = some v → (fun (i : Nat) => (es[i]?.map (·.1)).getD 0) i = v := fun i v hv => by
      rw [List.getElem?_map] at hv
      obtain ⟨z, hz, rfl⟩ := Option.map_eq_some_iff.mp hv
      show (es[i]?.map (·.1)).getD 0 = _
      rw [ent_at R.ent hz]
      rfl
    have of_key : ∀ (i : Nat) (z : NestedKey × Addr), M[i]? = some z → z.1 = k → (M.map fun e => hsh P w e.1)[i]? = some (hsh P w k) := fun i z hz e => by rw [List.getElem?_map, hz, ← e]; rfl
    rcases meets R.table hf free held hc (fun (i : Nat) => (es[i]?.map (·.1)).getD 0) hash_at with ⟨d, i, h1, h2, hi, before, ep1⟩ | ⟨before, ep1⟩
    · rw [ef, ep1]
      dsimp only
      have hil : i < M.length := by
        have z1 := (List.getElem?_eq_some_iff.mp hi).1
        have z2 := R.table.sz
        rw [Array.length_toList] at z1
        rw [List.length_map] at z2
        omega
      obtain ⟨z, hz⟩ : ∃ z, M[i]? = some z := ⟨_, List.getElem?_eq_getElem hil⟩
      have zm := List.mem_of_getElem? hz
      have main : wpAny (model P w) A (searchRest a (.ref x) (hsh P w k) true f es t (way t.mask (hsh P w k) d) i (pr t.mask (hsh P w k) (d + 1))) Q E s := by
        unfold searchRest
        rw [ent_at R.ent hz]
        dsimp only
        refine wpAny_bind (wpAny_holding ((nestedKind P w).eqBool room (R.keys z zm).nk hx.nk ?_))
        refine wpAny_bind (wpAny_setState_of ho hd R.fits ?_)
        dsimp only
        by_cases e : z.1 = k
        · rw [decide_eq_true e, if_pos (by decide)]
          exact wpAny_pure (yes (List.mem_map.mpr ⟨z, zm, e⟩))
        · rw [decide_eq_false e, if_neg (by decide)]
          try refine wpAny_bind (wpAny_pure ?_)
          rw [sameMem]
          dsimp only
          have live : t.slot (way t.mask (hsh P w k) d) = .live i := slot_live R.table.ris hi
          rw [if_pos rfl, live]
          dsimp only
          rw [ent_at R.ent hz]
          dsimp only
          refine wpAny_bind (wpAny_isSame_ref_self (wpAny_bind (wpAny_pure ?_)))
          rw [if_pos rfl]
          dsimp only
          rw [if_neg (by decide)]
          refine seek R hx room hf free held yes no f (d + 1) _ rfl (by omega) (by omega) fun i0 z0 h0 e0 => ?_
          obtain ⟨d0, g1, g2, g3⟩ := ahead i0 z0 h0 e0
          refine ⟨d0, ?_, g2, g3⟩
          rcases Nat.lt_trichotomy d0 d with l | l | l
          · exact absurd (of_key i0 z0 h0 e0) (before d0 i0 g1 l g3)
          · subst l
            have live0 := slot_live R.table.ris g3
            rw [live] at live0
            injection live0 with ei
            subst ei
            cases hz.symm.trans h0
            exact absurd e0 e
          · exact l
      by_cases hl1 : t.led = true
      · rw [hl1]
        rw [if_neg (by decide)]
        try refine wpAny_bind (wpAny_pure ?_)
        exact main
      · rw [if_pos (by simp [hl1])]
        refine wpAny_bind (unseen hx (fun y hy => ?_) ?_)
        · obtain ⟨v, hv, rfl⟩ := List.mem_map.mp hy
          have hv : v ∈ es := by simpa using (show v ∈ es ∧ _ by simpa using hv).1
          have hv : v ∈ es.toList := by simpa using hv
          rw [R.ent] at hv
          obtain ⟨z', hz', rfl⟩ := List.mem_map.mp hv
          exact ⟨z'.1, z'.2, rfl, R.keys z' hz'⟩
        · rw [if_neg (by decide)]
          try refine wpAny_bind (wpAny_pure ?_)
          exact main
    · rw [ef, ep1]
      dsimp only
      refine wpAny_pure (no fun hk => ?_)
      obtain ⟨z, hz, e⟩ := List.mem_map.mp hk
      obtain ⟨i, hi⟩ := List.mem_iff_getElem?.mp hz
      obtain ⟨d, g1, g2, g3⟩ := ahead i z hi e
      exact before d i g1 g2 g3 (of_key i z hi e)
/-- the search, as a set asks for it that adds -/
theorem seek_all (R : SetG P w s.heap a M es ep t) {x : Addr} {k : NestedKey} (hx : Ky P w s.heap k x) (room : A.units + 8 < cLine) {Q : SetFound → Shared → Prop} (yes : k ∈ M.map Prod.fst → Q (.there none) s)
    (no : ∀ K, k ∉ M.map Prod.fst → way t.mask (hsh P w k) K ∉ t.place.toList → (∀ c, c < K → way t.mask (hsh P w k) c ∈ t.place.toList) → Q (.free (way t.mask (hsh P w k) K) false) s) : wpAny (model P w) A (setSearch a (.ref x) (hsh P w k) true) Q E s := by
  have sp := R.sp
  obtain ⟨K, hf, free, held⟩ := R.table.first (by rw [List.length_map]; omega) (hsh P w k)
  have small : K < 100000 := by
    rcases R.table.mok with e | e | e <;> rw [e] at hf <;> unfold SetTable.turns at hf <;> omega
  unfold setSearch
  refine seek R hx room hf free held yes (fun hn => no K hn free held) 100000 0 none rfl (Nat.zero_le _) (by omega) fun i z hz e => ?_
  have hh : (M.map fun e => hsh P w e.1)[i]? = some (hsh P w k) := by rw [List.getElem?_map, hz, ← e]; rfl
  have hil : i < t.place.toList.length := by
    have z1 := (List.getElem?_eq_some_iff.mp hz).1
    have z2 := R.table.sz
    rw [List.length_map] at z2
    rw [Array.length_toList]
    omega
  have hp := List.getElem?_eq_getElem hil
  obtain ⟨d, l, ed⟩ := R.table.before free hh hp
  exact ⟨d, Nat.zero_le _, l, by rw [hp, ed]⟩
end
end GS

set_option maxRecDepth 100000
set_option maxHeartbeats 4000000
/-! a set whose members are such keys: one more member -/
namespace GS
open PySem PySem.Spec PyProof.Rows L2
theorem pick_map {α β : Type} (f : α → β) (l : List α) : ∀ is : List Nat, (is.filterMap fun (i : Nat) => (l.map f)[i]?) = (is.filterMap fun (i : Nat) => l[i]?).map f
  | [] => rfl
  | i :: is => by
    have ih := pick_map f l is
    cases e : l[i]? with
    | none => rw [List.filterMap_cons_none (by rw [List.getElem?_map, e]; rfl), List.filterMap_cons_none e, ih]
    | some x => rw [List.filterMap_cons_some (b := f x) (by rw [List.getElem?_map, e]; rfl), List.filterMap_cons_some e, ih, List.map_cons]
theorem pick_all {α : Type} : ∀ l : List α, ((List.range l.length).filterMap fun (i : Nat) => l[i]?) = l
  | [] => rfl
  | x :: l => by
    have ih := pick_all l
    have e : ((List.range l.length).map Nat.succ).filterMap (fun (i : Nat) => (x :: l)[i]?) = l := by
      rw [List.filterMap_map]
      exact ih
    rw [List.length_cons, List.range_succ_eq_map]
    show x :: ((List.range l.length).map Nat.succ).filterMap (fun (i : Nat) => (x :: l)[i]?) = x :: l
    rw [e]
theorem pick_perm {α : Type} {l : List α} {is : List Nat} (p : is.Perm (List.range l.length)) : (is.filterMap fun (i : Nat) => l[i]?).Perm l := by
  have q := p.filterMap fun (i : Nat) => l[i]?
  rwa [pick_all] at q
theorem pick_get {α : Type} (l : List α) (d : α) : ∀ is : List Nat, (∀ i ∈ is, i < l.length) → (is.filterMap fun (i : Nat) => l[i]?) = is.map fun (i : Nat) => l.getD i d
  | [], _ => rfl
  | i :: is, h => by
    have hi := h i List.mem_cons_self
    rw [List.filterMap_cons_some (List.getElem?_eq_getElem hi), List.map_cons, pick_get l d is fun j hj => h j (List.mem_cons_of_mem _ hj), List.getD_eq_getElem?_getD, List.getElem?_eq_getElem hi]
    rfl
section
variable {P : Program} {w : World} {A : Around} {E : Value → Shared → Prop} {s : Shared} {a : Addr} {M : List (NestedKey × Addr)} {es : Array (Int × Value)} {ep : Nat} {t : SetTable}
/-- keys stand where the set at a changes -/
theorem Ky.but {h h' : Heap} {k : NestedKey} {c : Addr} {o : Obj} (x : Ky P w h k c) (ho : h.get? a = some o) (hd : o.data = .set es ep t) (sb : Heap.SameBut a h h') : Ky P w h' k c := x.stay fun b u vs n hb hu => by
  refine (sb.2 b fun e => ?_).trans hb
  rw [e, ho] at hb
  cases hb
  rw [hd] at hu
  cases hu
/-- the table is laid anew, where it has grown too full -/
theorem lay_anew {o : Obj} (ho : s.heap.get? a = some o) (hex : o.ExactSet) (hd : o.data = .set es ep t) (ent : es.toList = M.map fun e => (hsh P w e.1, Value.ref e.2)) (T : TabOk t (M.map fun e => hsh P w e.1)) (small : M.length ≤ t.mask)
    (once : (M.map Prod.fst).Nodup) (keys : ∀ e ∈ M, Ky P w s.heap e.1 e.2) (pl : t.plain = true) (le : w.params.followText "set-order" = true ∨ t.led = true) (sm : M.length < 64) {wanted m : Nat}
    (big : SetTable.sizeAbove wanted = m + 1) (mok : MaskOk m) (sp : M.length * 5 < m * 3) {Q : Unit → Shared → Prop}
    (q : ∀ h' M' es' ep' t', Heap.SameBut a s.heap h' → SetG P w h' a M' es' ep' t' → M'.Perm M → Q () { s with heap := h' }) : wpAny (model P w) A (setRelay a wanted) Q E s := by
  have z0 := ent_size ent
  have mb : m ≤ 127 := by rcases mok with e | e | e <;> omega
  have fits : t.fits es.size = true := by
    have z1 := T.sz
    rw [List.length_map] at z1
    unfold SetTable.fits SetTable.fill
    rw [T.dm, Bool.and_eq_true, beq_iff_eq, decide_eq_true_eq]
    exact ⟨by omega, by show t.place.size + 0 ≤ t.mask; omega⟩
  obtain ⟨t2, order, er, op, T2, e1, e2, e3, e4⟩ := relaid_ok t (hs := es.map (·.1)) (wanted := wanted) (by rw [big]; rfl) mok (by rw [Array.size_map]; omega)
  rw [Array.size_map, z0] at op
  have pe := pick_perm op
  have ent2 : (order.filterMap (es[·]?)).toList = (order.toList.filterMap fun (i : Nat) => M[i]?).map fun e => (hsh P w e.1, Value.ref e.2) := by
    rw [← pick_map, ← ent, Array.toList_filterMap]
    refine congrArg (fun f => order.toList.filterMap f) (funext fun i => ?_)
    exact (Array.getElem?_toList).symm
  have hs2 : (order.toList.filterMap fun (i : Nat) => M[i]?).map (fun e => hsh P w e.1) = order.toList.map fun i => (es.map (·.1)).getD i 0 := by
    rw [← pick_map, pick_get _ 0 _ fun i hi => by rw [List.length_map]; exact List.mem_range.mp (op.mem_iff.mp hi)]
    refine List.map_congr_left fun i _ => ?_
    rw [List.getD_eq_getElem?_getD, Array.getD_eq_getD_getElem?, ← Array.getElem?_toList, Array.toList_map, ent, List.map_map]
    rfl
  rw [← hs2] at T2
  generalize (order.toList.filterMap fun (i : Nat) => M[i]?) = M2 at pe ent2 T2
  have z2 := ent_size ent2
  have z3 := pe.length_eq
  rw [setRelay_eq]
  refine wpAny_bind (wpAny_setState_of ho hd fits ?_)
  dsimp only
  rw [if_neg (by rw [sizeLine_eq, big]; omega)]
  try refine wpAny_bind (wpAny_pure ?_)
  rw [er]
  dsimp only
  refine wpAny_bind ?_
  rw [if_neg (by rw [z2, z0, z3]; simp)]
  try refine wpAny_bind (wpAny_pure ?_)
  refine wpAny_pure ?_
  dsimp only
  refine wpAny_storeSet_of ho hd ?_ (by rw [sizeLine_eq]; omega)
  have sb : Heap.SameBut a s.heap (s.heap.update a (Obj.putSet (order.filterMap (es[·]?)) t2)) := Heap.SameBut.update ..
  refine q _ M2 _ (ep + 1) t2 sb ⟨⟨_, store_at ho hd, ⟨hex.1, hex.2.1, hex.2.2⟩, rfl⟩, ent2, T2, (pe.map Prod.fst).nodup_iff.mpr once, fun z hz => (keys z (pe.mem_iff.mp hz)).but ho hd sb, by rw [e3]; exact pl, by rw [e2]; exact le, by rw [e1]; omega, by omega⟩ pe
/-- one more -/
theorem one_more (R : SetG P w s.heap a M es ep t) {x : Addr} {k : NestedKey} (hx : Ky P w s.heap k x) (room : A.units + 8 < cLine) (sm : k ∉ M.map Prod.fst → M.length + 1 < 64) {Q : Bool → Shared → Prop}
    (q : ∀ b h' M' es' ep' t', Heap.SameBut a s.heap h' → SetG P w h' a M' es' ep' t' → (k ∈ M.map Prod.fst → M' = M) → (k ∉ M.map Prod.fst → M'.Perm ((k, x) :: M)) → Q b { s with heap := h' }) :
    wpAny (model P w) A (setAddHashed a (.ref x) (hsh P w k)) Q E s := by
  obtain ⟨o, ho, hex, hd⟩ := R.obj
  have z0 := ent_size R.ent
  have sp := R.sp
  unfold setAddHashed
  refine wpAny_holding ?_
  rw [show (100000 : Nat) = 99999 + 1 from rfl, setAddHashedIn_succ]
  refine wpAny_bind (wpAny_setState_of ho hd R.fits ?_)
  dsimp only
  rw [if_neg (by simp [byScan, Value.scannable])]
  try refine wpAny_bind (wpAny_pure ?_)
  refine wpAny_bind (seek_all R hx room (fun hk => ?_) fun K hk free held => ?_)
  · dsimp only
    exact wpAny_pure (q false s.heap M es ep t (Heap.SameBut.refl a s.heap) R (fun _ => rfl) fun z => absurd hk z)
  dsimp only
  have sm := sm hk
  refine wpAny_bind (wpAny_setState_of ho hd R.fits ?_)
  dsimp only
  obtain ⟨c1, c2, c3, c4, c5, c6, c7, c8, c9⟩ := R.table.put free held
  generalize SetTable.below t.place (way t.mask (hsh P w k) K) = at_ at c1 c2 c3
  generalize t.put (way t.mask (hsh P w k) K) = both at c1 c3 c4 c5 c6 c7 c8 c9 ⊢
  obtain ⟨t1, n1⟩ := both
  dsimp only at c1 c3 c4 c5 c6 c7 c8 c9 ⊢
  subst c1
  rw [List.length_map] at c2 c9
  have pl1 : t1.plain = true := c6.trans R.pl
  rw [if_pos pl1]
  refine wpAny_bind (by_value 8 k _ _ hx.nk.1 hx.br hx.nk.2 ?_)
  rw [if_pos rfl]
  have pm : (M.take n1 ++ (k, x) :: M.drop n1).Perm ((k, x) :: M) := by
    have z : (M.take n1 ++ (k, x) :: M.drop n1).Perm ((k, x) :: (M.take n1 ++ M.drop n1)) := List.perm_middle
    rwa [List.take_append_drop] at z
  have ent1 : (SetTable.insertAt es n1 (hsh P w k, Value.ref x)).toList = (M.take n1 ++ (k, x) :: M.drop n1).map fun e => (hsh P w e.1, Value.ref e.2) := by
    rw [SetTable.toList_insertAt, R.ent, List.map_append, List.map_cons, List.map_take, List.map_drop]
  have T1 : TabOk t1 ((M.take n1 ++ (k, x) :: M.drop n1).map fun e => hsh P w e.1) := by
    rw [List.map_append, List.map_cons, List.map_take, List.map_drop]
    exact c3
  generalize M.take n1 ++ (k, x) :: M.drop n1 = M1 at pm ent1 T1
  generalize SetTable.insertAt es n1 (hsh P w k, Value.ref x) = es1 at ent1 ⊢
  have z1 := ent_size ent1
  have z2 : M1.length = M.length + 1 := pm.length_eq
  have once1 : (M1.map Prod.fst).Nodup := (pm.map Prod.fst).nodup_iff.mpr (List.nodup_cons.mpr ⟨hk, R.once⟩)
  refine wpAny_bind (wpAny_storeSet_of ho hd ?_ (by rw [z1, z2, sizeLine_eq]; omega))
  have sb : Heap.SameBut a s.heap (s.heap.update a (Obj.putSet es1 t1)) := Heap.SameBut.update ..
  have ho1 := store_at (es' := es1) (t' := t1) ho hd
  generalize s.heap.update a (Obj.putSet es1 t1) = h1 at sb ho1 ⊢
  have keys1 : ∀ e ∈ M1, Ky P w h1 e.1 e.2 := fun e he => by
    rcases List.mem_cons.mp (pm.mem_iff.mp he) with z | z
    · rw [z]
      exact hx.but ho hd sb
    · exact (R.keys e z).but ho hd sb
  have le1 : w.params.followText "set-order" = true ∨ t1.led = true := by rw [c5]; exact R.le
  by_cases full : t1.tooFull = true
  · have fl : t1.mask * 3 ≤ (M.length + 1) * 5 := by
      have z := full
      unfold SetTable.tooFull at z
      rw [decide_eq_true_eq, c9] at z
      exact z
    have two : (t.mask = 7 ∧ M.length = 4) ∨ (t.mask = 31 ∧ M.length = 18) := by
      rw [c4] at fl
      rcases R.table.mok with e | e | e <;> rw [e] at fl sp
      · exact .inl ⟨e, by omega⟩
      · exact .inr ⟨e, by omega⟩
      · exfalso
        omega
    have go : ∀ m, SetTable.sizeAbove (SetTable.grown (M.length + 1)) = m + 1 → MaskOk m → (M.length + 1) * 5 < m * 3 →
        wpAny (model P w) A (setRelay a (SetTable.grown (M.length + 1))) (fun _ s' => wpAny (model P w) A (pure true) Q E s') E { s with heap := h1 } := fun m b1 b2 b3 =>
      lay_anew (s := { s with heap := h1 }) ho1 ⟨hex.1, hex.2.1, hex.2.2⟩ rfl ent1 T1 (by rw [z2, c4]; rcases two with ⟨e, e'⟩ | ⟨e, e'⟩ <;> omega) once1 keys1 pl1 le1 (by omega) b1 b2 (by rw [z2]; exact b3) fun h2 M2 es2 ep2 t2 sb2 R2 pm2 =>
        wpAny_pure (q true h2 M2 es2 ep2 t2 (sb.trans sb2) R2 (fun z => absurd z hk) fun _ => pm2.trans pm)
    have run : wpAny (model P w) A (setRelay a (SetTable.grown (es.size + 1))) (fun _ s' => wpAny (model P w) A (pure true) Q E s') E { s with heap := h1 } := by
      rw [z0]
      rcases two with ⟨_, e⟩ | ⟨_, e⟩
      · exact go 31 (by rw [e, size_20]) (.inr (.inl rfl)) (by omega)
      · exact go 127 (by rw [e, size_76]) (.inr (.inr rfl)) (by omega)
    first
      | (refine wpAny_bind ?_; rw [if_pos (by simp [full])]; exact run)
      | (rw [if_pos (by simp [full])]; exact wpAny_bind run)
  · have fin : wpAny (model P w) A (pure true) Q E { s with heap := h1 } := by
      refine wpAny_pure (q true h1 M1 es1 (ep + 1) t1 sb ⟨⟨_, ho1, ⟨hex.1, hex.2.1, hex.2.2⟩, rfl⟩, ent1, T1, once1, keys1, pl1, le1, ?_, by omega⟩ (fun z => absurd z hk) fun _ => pm)
      have z := full
      unfold SetTable.tooFull at z
      rw [decide_eq_true_eq, c9] at z
      omega
    first
      | (rw [if_neg (by simp [full])]; exact fin)
      | (refine wpAny_bind ?_; rw [if_neg (by simp [full])]; exact wpAny_pure fin)
end
end GS

set_option maxRecDepth 100000
set_option maxHeartbeats 4000000
/-! set(xs) of such keys -/
namespace GS
open PySem PySem.Spec PyProof.Rows L2
/-- of the first i of ks the set holds M -/
structure Held (ks : List (NestedKey × Addr)) (i : Nat) (M : List (NestedKey × Addr)) : Prop where
  of : ∀ e ∈ M, e ∈ ks.take i
  all : ∀ e ∈ ks.take i, e.1 ∈ M.map Prod.fst
theorem Held.nil (ks : List (NestedKey × Addr)) : Held ks 0 [] := ⟨fun e h => (nomatch h), fun e h => nomatch (show e ∈ ([] : List (NestedKey × Addr)) from h)⟩
theorem Held.next {ks M M' : List (NestedKey × Addr)} {i : Nat} {z : NestedKey × Addr} (g : Held ks i M) (hz : ks[i]? = some z) (c1 : z.1 ∈ M.map Prod.fst → M' = M) (c2 : z.1 ∉ M.map Prod.fst → M'.Perm (z :: M)) : Held ks (i + 1) M' := by
  have tk : ks.take (i + 1) = ks.take i ++ [z] := by rw [List.take_succ, hz]; rfl
  rcases Classical.em (z.1 ∈ M.map Prod.fst) with c | c
  · rw [c1 c]
    refine ⟨fun e he => by rw [tk]; exact List.mem_append_left _ (g.of e he), fun e he => ?_⟩
    rw [tk] at he
    rcases List.mem_append.mp he with h | h
    · exact g.all e h
    · rw [List.mem_singleton.mp h]
      exact c
  · have pm := c2 c
    refine ⟨fun e he => ?_, fun e he => (pm.map Prod.fst).mem_iff.mpr ?_⟩
    · rw [tk]
      rcases List.mem_cons.mp (pm.mem_iff.mp he) with h | h
      · rw [h]
        exact List.mem_append_right _ (List.mem_singleton.mpr rfl)
      · exact List.mem_append_left _ (g.of e h)
    · rw [tk] at he
      rcases List.mem_append.mp he with h | h
      · exact List.mem_cons_of_mem _ (g.all e h)
      · rw [List.mem_singleton.mp h]
        exact List.mem_cons_self
section
variable {P : Program} {w : World} {A : Around} {E : Value → Shared → Prop} {s : Shared}
theorem Ky.on {h h' : Heap} {k : NestedKey} {c : Addr} (x : Ky P w h k c) (keep : ∀ b o, h.get? b = some o → h'.get? b = some o) : Ky P w h' k c := x.stay fun b o vs n hb _ => keep b o hb
theorem SetG.on {h h' : Heap} {a : Addr} {M : List (NestedKey × Addr)} {es : Array (Int × Value)} {ep : Nat} {t : SetTable} (R : SetG P w h a M es ep t) (same : ∀ o, h.get? a = some o → h'.get? a = some o) (keys : ∀ e ∈ M, Ky P w h' e.1 e.2) : SetG P w h' a M es ep t := by
  obtain ⟨⟨o, ho, r⟩, b1, b2, b3, _, b4, b5, b6, b7⟩ := R
  exact ⟨⟨o, same o ho, r⟩, b1, b2, b3, keys, b4, b5, b6, b7⟩
/-- the object of a set that is new -/
abbrev bornSet (w : World) : Obj := { cls := .type "set", dict := none, data := .set #[] 0 (.fresh 0 0 (!w.params.followText "set-order")) }
theorem born {h : Heap} {a : Addr} (ho : h.get? a = some (bornSet w)) : SetG P w h a [] #[] 0 (.fresh 0 0 (!w.params.followText "set-order")) where
  obj := ⟨_, ho, ⟨rfl, rfl, rfl⟩, rfl⟩
  ent := rfl
  table := ⟨.nil, rfl, rfl, .inl rfl, fun x h => (nomatch h), fun i h j e => (nomatch e)⟩
  once := .nil
  keys := fun e h => nomatch h
  pl := rfl
  le := by
    show _ ∨ (!w.params.followText "set-order") = true
    cases w.params.followText "set-order" with
    | true => exact .inl rfl
    | false => exact .inr rfl
  sp := by show 0 * 5 < 7 * 3; decide
  sm := by show 0 < 64; decide
/-- as many keys as there may be -/
def Few (ks : List (NestedKey × Addr)) : Prop := ∀ M : List (NestedKey × Addr), (M.map Prod.fst).Nodup → (∀ e ∈ M, e ∈ ks) → M.length < 64
/-- the loop of set.update over any walk of such keys -/
theorem fill {I : Addr} {fp wr : List Addr} {G : Array GenState → Array GenState → Prop} {n : Nat} {Pv : Nat → Value → Prop} {St : Nat → Shared → Prop} {R : Result → Shared → Prop} (W : WalksS P w A.in1 I fp wr G n Pv St) {a : Addr} (off : a ∉ fp)
    (ks : List (NestedKey × Addr)) (hn : n = ks.length) (few : Few ks) (val : ∀ i v, Pv i v → ∃ z, ks[i]? = some z ∧ v = .ref z.2) {h0 : Heap} (hk : ∀ e ∈ ks, Ky P w h0 e.1 e.2) (na : h0.get? a = none) (nw : ∀ b ∈ wr, h0.get? b = none) (room : A.in1.units + 8 < cLine) :
    ∀ (left i : Nat) (s : Shared), n - i = left → i ≤ n → St i s → (∀ b o, h0.get? b = some o → s.heap.get? b = some o) → (∃ M es ep t, SetG P w s.heap a M es ep t ∧ Held ks i M) →
      (∀ s' M es ep t, Moved (a :: wr) G s s' → SetG P w s'.heap a M es ep t → Held ks n M → (∀ b o, h0.get? b = some o → s'.heap.get? b = some o) → R (.ok (.ret .none)) s') → codeAny (model P w) A (.builtin "set.update.loop" ⟨[.ref a, .ref I], []⟩) R s := by
  have aw : a ∉ wr := fun h => off (W.sub _ h)
  have wide : ∀ b ∈ wr, b ∈ a :: wr := fun b h => List.mem_cons_of_mem _ h
  have old : ∀ {s1 s2 : Shared}, Moved wr G s1 s2 → (∀ b o, h0.get? b = some o → s1.heap.get? b = some o) → ∀ b o, h0.get? b = some o → s2.heap.get? b = some o := fun mv k b o e =>
    mv.heap b o (fun h => by rw [nw b h] at e; cases e) (k b o e)
  intro left
  induction left with
  | zero =>
    intro i s e1 hi st k ⟨M, es, ep, t, S, g⟩ done
    obtain rfl : i = n := by omega
    refine codeAny_builtin F.entry_set_update_loop ?_
    rw [Around.under_plainId F.plain_set_update_loop _]
    show wpAny _ A.in1 (pyNext (.ref I) >>= _) _ _ s
    refine wpAny_bind (W.done s _ _ st fun s' mv => ?_)
    have k' := old mv k
    exact wpAny_pure (done s' M es ep t (mv.mono wide) (S.on (fun o e => mv.heap a o aw e) fun e he => (hk e (List.mem_of_mem_take (g.of e he))).on k') g k')
  | succ left ih =>
    intro i s e1 hi st k ⟨M, es, ep, t, S, g⟩ done
    have hlt : i < n := by omega
    refine codeAny_builtin F.entry_set_update_loop ?_
    rw [Around.under_plainId F.plain_set_update_loop _]
    show wpAny _ A.in1 (pyNext (.ref I) >>= _) _ _ s
    refine wpAny_bind (W.item i s _ _ hlt st fun v s' pv st' mv => ?_)
    obtain ⟨z, hz, rfl⟩ := val i v pv
    have k' := old mv k
    have S' : SetG P w s'.heap a M es ep t := S.on (fun o e => mv.heap a o aw e) fun e he => (hk e (List.mem_of_mem_take (g.of e he))).on k'
    have zk : Ky P w s'.heap z.1 z.2 := (hk z (List.mem_of_getElem? hz)).on k'
    show wpAny _ A.in1 (holding [Value.ref z.2] (setAdd a (.ref z.2)) >>= _) _ _ s'
    refine wpAny_bind (wpAny_holding ?_)
    unfold setAdd
    refine wpAny_holding ?_
    refine wpAny_bind ((nestedKind P w).pyHash room zk.nk ?_)
    refine one_more (s := { s' with toks := s'.toks + (nestedKind P w).draws z.1 }) S' zk room (fun hz' => ?_) fun b h' M' es' ep' t' sb S2 c1 c2 => ?_
    · have := few (z :: M) (List.nodup_cons.mpr ⟨hz', S.once⟩) fun e he => by
        rcases List.mem_cons.mp he with h | h
        · rw [h]
          exact List.mem_of_getElem? hz
        · exact List.mem_of_mem_take (g.of e h)
      exact this
    · have k2 : ∀ b o, h0.get? b = some o → h'.get? b = some o := fun b o e => (sb.2 b fun h => by rw [h, na] at e; cases e).trans (k' b o e)
      refine wpAny_pure ⟨plainId_quiet F.plain_set_update_loop _, ih (i + 1) _ (by omega) hlt (W.frame _ s' _ _ st' (Nat.le_add_right _ _) fun b hb o e => ?_) k2 ⟨M', es', ep', t', S2, g.next hz c1 c2⟩ fun s2 M2 es2 ep2 t2 mv2 S3 g3 k3 => ?_⟩
      · rw [sb.2 b fun h : b = a => off (by rw [← h]; exact hb)]
        exact e
      · refine done s2 M2 es2 ep2 t2 (Moved.trans W.gtrans ((mv.mono wide).then_heap (Nat.le_add_right _ _) fun b o hb e => ?_) mv2) S3 g3 k3
        rw [sb.2 b fun h : b = a => hb (by rw [h]; exact List.mem_cons_self)]
        exact e
end
end GS

set_option maxRecDepth 100000
set_option maxHeartbeats 6400000
/-! set(xs) of such keys, the whole call -/
namespace GS
open PySem PySem.Spec PyProof.Rows L2
section
variable {P : Program} {w : World} {A : Around} {E : Value → Shared → Prop} {s : Shared}
theorem gone {h : Heap} {b : Addr} (l : h.objs.size ≤ b) : h.get? b = none := by
  cases e : h.get? b with
  | none => rfl
  | some o => exact absurd (Nat.lt_of_lt_of_le (Heap.lt_size e) l) (Nat.lt_irrefl _)
theorem set_of_keys {l : Addr} {items : Array Value} (ks : List (NestedKey × Addr)) {Q : Value → Shared → Prop} (calm : A.handled = none) (hl : s.heap.IsList l items) (hi : items.toList = ks.map fun e => Value.ref e.2) (hk : ∀ e ∈ ks, Ky P w s.heap e.1 e.2) (few : Few ks)
    (room : A.units + 12 < cLine) (q : ∀ (h' : Heap) (tk : Nat) M es ep t, SetG P w h' s.heap.objs.size M es ep t → Held ks ks.length M → (∀ b o, s.heap.get? b = some o → h'.get? b = some o) → Q (.ref s.heap.objs.size) { s with heap := h', toks := tk }) :
    wpAny (model P w) A (call (.type "set") [.ref l]) Q E s := by
  have z0 : items.size = ks.length := by rw [← Array.length_toList, hi, List.length_map]
  obtain ⟨c, tl, hmro⟩ := F.called_set.mro
  have hmade := F.called_set.made
  have hsub := F.called_set.sub
  have hkind := F.called_set.notType
  have hmay := F.called_set.canCreate
  have hargs := F.typeCall_set_1 (.ref l)
  refine wpAny_call (codeAny_of_tree ?_)
  show wpAny _ _ (callAny (.type "set") _) _ _ _
  refine wpAny_pure ⟨Code.quiet_builtin _ (by decide +kernel), codeAny_builtin F.entry_type_call ?_⟩
  rw [Around.under_plain (weight_type_call_type "set" [.ref l] []) rfl]
  repeat (any_goals (first | assumption | wp_step))
  refine codeAny_mono (code_set_led1 (.ref l) (E := E) (Q₁ := fun x s1 => x = .ref s.heap.objs.size ∧ s1 = { s with heap := s.heap.push (bornSet w) }) ⟨rfl, rfl⟩) fun r s1 hr => ?_
  cases r with
  | error e => exact hr
  | ok fl =>
    cases fl with
    | ret x =>
      obtain ⟨rfl, rfl⟩ := hr
      have here : (s.heap.push (bornSet w)).get? s.heap.objs.size = some (bornSet w) := Heap.get?_push_size _ rfl
      have ty : Shared.TypeIs { s with heap := s.heap.push (bornSet w) } (.ref s.heap.objs.size) "set" := ⟨_, here, rfl⟩
      have hinit := F.called_set.init.lookup
      have hbind := F.called_set.init.bind (.ref s.heap.objs.size)
      repeat (any_goals (first | assumption | wp_step))
      refine codeAny_mono (codeAny_call_builtin (R := wants (fun r s2 => r = .none ∧ ∃ h' tk M es ep t, s2 = { s with heap := h', toks := tk } ∧ SetG P w h' s.heap.objs.size M es ep t ∧ Held ks ks.length M ∧ (∀ b o, s.heap.get? b = some o → h'.get? b = some o)) E)
        F.called_set.init.plain F.entry_set_init (check_set_init_1 ty ?_)) fun r2 s2 hr2 => ?_
      · obtain ⟨⟨lc, ld, lo, ls⟩, hol, ec, nl, ed⟩ := hl
        simp only at ec ed
        subst ec
        subst ed
        have hol2 : (s.heap.push (bornSet w)).get? l = some { cls := .type "list", dict := ld, data := .seq items nl, slots := ls } := Heap.get?_push_of_some _ hol
        have isl : (s.heap.push (bornSet w)).IsList l items := ⟨_, hol2, rfl, nl, rfl⟩
        have no1 := F.sub_list_set
        have no2 := F.sub_list_frozenset
        have no3 : (Value.type "list" == Value.type "dict") = false := by decide
        have lsz : l < s.heap.objs.size := Heap.lt_size hol
        have psz : (s.heap.push (bornSet w)).objs.size = s.heap.objs.size + 1 := Heap.size_push ..
        unfold Builtin.«set.__init__» noKeywords Builtin.Frozenset.updateFrom
        generalize hPI : pyIter = PI
        wp_walk
        subst hPI
        refine wpAny_pyIter_list isl (wpAny_bind (wpAny_runValue ?_))
        have calm3 : A.in1.in1.in1.handled = none := by simp [calm]
        have lne : l ≠ (s.heap.push (bornSet w)).objs.size := by rw [psz]; exact Nat.ne_of_lt (Nat.lt_succ_of_lt lsz)
        have off : s.heap.objs.size ∉ [(s.heap.push (bornSet w)).objs.size, l] := by
          simp only [List.mem_cons, List.not_mem_nil, or_false, not_or]
          exact ⟨by rw [psz]; exact Nat.ne_of_lt (Nat.lt_succ_self _), Nat.ne_of_gt lsz⟩
        have val : ∀ (i : Nat) (v : Value), items[i]? = some v → ∃ z, ks[i]? = some z ∧ v = .ref z.2 := fun i v hv => by
          rw [← Array.getElem?_toList, hi, List.getElem?_map] at hv
          obtain ⟨z, hz, rfl⟩ := Option.map_eq_some_iff.mp hv
          exact ⟨z, hz, rfl⟩
        refine fill ((Walks.list calm3 _ l lne items).toS) off ks z0 few val hk (gone (Nat.le_refl _)) (fun b hb => gone (by rw [List.mem_singleton.mp hb, psz]; exact Nat.le_succ _)) (by show A.units + 1 + 1 + 1 + 8 < cLine; omega) (items.size - 0) 0 _ rfl (Nat.zero_le _)
          ⟨⟨_, Heap.get?_push_size _ rfl, rfl, rfl⟩, isl.push _⟩ (fun b o e => Heap.get?_push_of_some _ (Heap.get?_push_of_some _ e)) ⟨[], #[], 0, _, born (Heap.get?_push_of_some _ here), .nil ks⟩ fun s3 M es ep t mv S g k => ?_
        obtain ⟨h3, g3, d3, t3, o3⟩ := s3
        obtain rfl : g3 = s.gens := mv.gens
        obtain rfl : d3 = s.drawn := mv.drawn
        obtain rfl : o3 = s.os := mv.os
        show wpAny _ _ _ _ _ _
        refine wpAny_pure ?_
        show wpAny _ _ (ret Value.none) _ _ _
        rw [z0] at g
        exact wpAny_pure ⟨rfl, h3, t3, M, es, ep, t, rfl, S, g, k⟩
      · cases r2 with
        | error e2 => exact hr2
        | ok fl2 =>
          cases fl2 with
          | ret r =>
            obtain ⟨rfl, h3, tk, M, es, ep, t, rfl, S, g, k⟩ := hr2
            repeat (any_goals (first | assumption | wp_step))
            exact q _ _ _ _ _ _ S g k
          | _ => exact hr2.elim
    | _ => exact hr.elim
end
end GS

set_option maxRecDepth 100000
set_option maxHeartbeats 4000000
/-! list.sort of tuples some of which may be empty -/
namespace GS
open PySem PySem.W PySem.SeqAt PyProof.Rows
section
variable {prog : Program} {w : World} {A : Around} {E : Value → Shared → Prop} {s : Shared}
/-- one tuple below another, as keys of one type are asked -/
theorem one_lt_tup {xs ys : List PyData} {a b : Value} {as bs : List Addr} {Q : Bool → Shared → Prop} (ra : Reads s.heap a (.tuple xs) as) (rb : Reads s.heap b (.tuple ys) bs) (al : alike (.tuple xs) (.tuple ys) = true) (hu : A.units + min (PyData.tuple xs).depth (PyData.tuple ys).depth < cLine)
    (q : Q (dataLt (.tuple xs) (.tuple ys)) s) : wpAny (model prog w) A (oneLt' true a b) Q E s := by
  have all : alikeAll xs ys = true := by simpa [alike] using al
  cases ra with
  | @tuple l o vs n _ as' h1 h2 h3 h4 =>
    cases rb with
    | @tuple l' o' vs' n' _ bs' k1 k2 k3 k4 =>
      have z1 : vs.size = xs.length := by simpa using ReadsAll.length _ _ _ h4
      have z2 : vs'.size = ys.length := by simpa using ReadsAll.length _ _ _ k4
      rw [dataLt_tuple, ← firstLt_toks xs ys all, ← z1, ← z2] at q
      obtain ⟨oc, od, ot, os⟩ := o
      obtain ⟨oc', od', ot', os'⟩ := o'
      simp only at h2 h3 k2 k3
      subst h2 h3 k2 k3
      rw [oneLt'_eq]
      simp only [if_true]
      refine wpAny_bind (wpAny_cRoomFor (room_here hu) ?_)
      have ty : s.TypeIs (.ref l) "tuple" := ⟨_, h1, rfl⟩
      refine wpAny_bind (wpAny_callSpecialIfBound?_slot ty F.slot_tuple_lt (call_meets F.slot_tuple_lt ty F.entry_tuple_lt (F.args_tuple_lt_2 _ _) (tuple_ltAt l l' vs vs' n n' od od' os os' (pairEq xs ys) (fun j => dataLt (xs.getD j .none) (ys.getD j .none))) ⟨h1, k1, fun j j1 j2 => ?_, fun j j1 j2 hj => ?_, ?_⟩))
      · have := eqAt_alikeAll xs ys A.in1 s vs.toList vs'.toList _ _ h4 k4 all (room_in hu) j (by simpa using j1) (by simpa using j2)
        simpa using this
      · have := rcLt_alikeAll xs ys A.in1 s vs.toList vs'.toList _ _ h4 k4 all (room_in hu) j (by simpa using j1) (by simpa using j2) hj
        simpa using this
      · exact wpAny_truthy_bool q
theorem one_lt_gen (x y : Value) : keyLt' general' x y = oneLt' false x y := rfl
/-- what stands first in each -/
theorem firsts_of : ∀ {vs : List Value} {ds : List PyData}, EachIs (fun v d => ∃ xs as, d = PyData.tuple xs ∧ Reads s.heap v d as) vs ds → ∀ {Q : List (Option Value) → Shared → Prop}, (∀ rs, EachIs (fun (r : Option Value) (d : PyData) => r.isSome = true ↔ d ≠ .tuple []) rs ds → Q rs s) → wpAny (model prog w) A (vs.mapM firstOfTuple') Q E s
  | _, _, .nil, Q, q => by
    rw [List.mapM_nil]
    exact wpAny_pure (q [] .nil)
  | _, _, .cons (b := d) ⟨xs, as, ed, r⟩ t, Q, q => by
    subst ed
    cases r with
    | @tuple l o vs n _ _ h1 h2 h3 h4 =>
      have ty : s.TypeIs (.ref l) "tuple" := ⟨_, h1, h2⟩
      have z : vs.size = xs.length := by simpa using ReadsAll.length _ _ _ h4
      rw [List.mapM_cons, PySem.W.kas_first_eq]
      refine wpAny_bind (wpAny_bind (wpAny_typeOf ty ?_))
      rw [if_neg (by decide)]
      refine wpAny_bind (listItems_at h1 h3 (wpAny_pure ?_))
      refine wpAny_bind (firsts_of t fun rs e => wpAny_pure (q (vs[0]? :: rs) (.cons ?_ e)))
      constructor
      · intro h e
        injection e with e
        subst e
        rw [Array.getElem?_eq_none (by rw [z]; exact Nat.le_refl _)] at h
        cases h
      · intro h
        cases xs with
        | nil => exact absurd rfl h
        | cons x xs =>
          rw [Array.getElem?_eq_getElem (by rw [z]; exact Nat.succ_pos _)]
          rfl
theorem all_types : ∀ {vs : List Value} {ds : List PyData}, EachIs (fun v d => ∃ xs as, d = PyData.tuple xs ∧ Reads s.heap v d as) vs ds → ∀ v ∈ vs, Looks (model prog w) s.heap (typeOf v) (Value.type "tuple")
  | _, _, .nil, v, hv => nomatch hv
  | _, _, .cons ⟨xs, as, ed, r⟩ t, v, hv => by
    rcases List.mem_cons.mp hv with e | hv
    · subst e ed
      exact looks_reads r
    · exact all_types t v hv
/-- tuples that read as alike data can be sorted -/
theorem sorts_tuples {vs : List Value} {ds : List PyData} (e : EachIs (fun v d => ∃ as, Reads s.heap v d as) vs ds) (al : AllAlike ds) (tup : ∀ d ∈ ds, ∃ xs, d = .tuple xs) (hu : ∀ d, d ∈ ds → A.units + d.depth < cLine) : SortsAt prog w A s (dataKind s.heap ds) vs := by
  by_cases full : ∀ d ∈ ds, ∃ x r, d = .tuple (x :: r)
  · exact .data e al (.inl full) hu
  have hole : ∃ d ∈ ds, d = .tuple [] := by
    refine Classical.byContradiction fun no => full fun d hd => ?_
    obtain ⟨xs, rfl⟩ := tup d hd
    cases xs with
    | nil => exact absurd ⟨_, hd, rfl⟩ no
    | cons x r => exact ⟨x, r, rfl⟩
  have room : ∀ {d d' : PyData}, d ∈ ds → A.units + min d.depth d'.depth < cLine := fun {d d'} hd => Nat.lt_of_le_of_lt (Nat.add_le_add_left (Nat.min_le_left _ _) _) (hu d hd)
  have e2 : EachIs (fun v d => ∃ xs as, d = PyData.tuple xs ∧ Reads s.heap v d as) vs ds := (each_mem e).mono fun v d ⟨⟨as, r⟩, hd⟩ => let ⟨xs, ex⟩ := tup d hd; ⟨xs, as, ex, r⟩
  have keys : ∀ v, v ∈ vs → ∃ a, (dataKind s.heap ds).keyOf v = some a := fun v hv => by
    obtain ⟨d, hd, as, r⟩ := e.left v hv
    exact ⟨_, dataKind_some al hd r⟩
  -- what is asked first
  have ask : ∀ {kd : SortKind}, (∀ {rs : List (Option Value)} {Q : SortKind → Shared → Prop} {E : Value → Shared → Prop}, 2 ≤ vs.length → EachIs (fun (r : Option Value) (d : PyData) => r.isSome = true ↔ d ≠ .tuple []) rs ds → Q kd s →
      wpAny (model prog w) A (if (rs.toArray[0]?.bind id).isSome = true then pure general' else oneTypeOnly' vs.toArray >>= fun z => pure (if z.isSome = true then oneType' else general')) Q E s) →
      2 ≤ vs.length → ∀ (E : Value → Shared → Prop) {Q : SortKind → Shared → Prop}, Q kd s → wpAny (model prog w) A (keyKind' vs.toArray) Q E s := fun {kd} go h2 E Q q => by
    rw [keyKind'_eq, List.mapM_toArray, map_eq_pure_bind]
    refine wpAny_bind (wpAny_bind (firsts_of e2 fun rs er => wpAny_pure ?_))
    have no : ¬ (rs.toArray.all (·.isSome)) = true := fun h => by
      obtain ⟨d, hd, ed⟩ := hole
      have : ∀ {rs : List (Option Value)} {ds : List PyData}, EachIs (fun (r : Option Value) (d : PyData) => r.isSome = true ↔ d ≠ .tuple []) rs ds → rs.all (·.isSome) = true → ∀ d ∈ ds, d ≠ .tuple [] := by
        intro rs ds h
        induction h with
        | nil => exact fun _ d hd => nomatch hd
        | cons h t ih =>
          intro ha d hd
          rw [List.all_cons, Bool.and_eq_true] at ha
          rcases List.mem_cons.mp hd with z | z
          · rw [z]
            exact h.mp ha.1
          · exact ih ha.2 d z
      exact this er (by simpa using h) d hd ed
    rw [if_neg no]
    exact go h2 er q
  cases hd0 : ds with
  | nil =>
    obtain ⟨d, hd, _⟩ := hole
    rw [hd0] at hd
    cases hd
  | cons d0 rest =>
    rw [← hd0]
    by_cases em : d0 = .tuple []
    · refine ⟨keys, oneType', ?_, ask fun {rs Q E} h2 er q => ?_⟩
      · intro E x y a b Q ha hb q
        obtain ⟨d, as, hd, ra, rfl⟩ := dataKind_inv ha
        obtain ⟨d', as', hd', rb, rfl⟩ := dataKind_inv hb
        obtain ⟨xs, rfl⟩ := tup d hd
        obtain ⟨ys, rfl⟩ := tup d' hd'
        rw [keyLt'_oneType]
        exact one_lt_tup ra rb (al _ hd _ hd') (room hd) q
      · rw [hd0] at er
        cases er with
        | @cons r _ rs' _ h t =>
          have hn : r = none := by
            cases r with
            | none => rfl
            | some v => exact absurd em (h.mp rfl)
          subst hn
          rw [if_neg (by simp)]
          rw [oneTypeOnly'_eq, List.mapM_toArray, map_eq_pure_bind]
          refine wpAny_bind (wpAny_bind (wpAny_bind (kas_mapM (r := Value.type "tuple") _ (fun v hv Q' hq => (all_types e2 v hv).here hq) (wpAny_pure ?_))))
          obtain ⟨v1, v2, rest2, ev⟩ : ∃ v1 v2 rest, vs = v1 :: v2 :: rest := by
            match vs, h2 with
            | v1 :: v2 :: rest, _ => exact ⟨v1, v2, rest, rfl⟩
          subst ev
          have every : ((List.map (fun _ => Value.type "tuple") (v1 :: v2 :: rest2)).toArray.all fun x => x == Value.type "tuple") = true := by
            simp only [List.all_toArray, List.all_map, List.all_eq_true]
            intro _ _
            rfl
          have one : (List.map (fun _ => Value.type "tuple") (v1 :: v2 :: rest2)).toArray[0]? = some (Value.type "tuple") := by simp
          rw [one]
          simp only [every, if_true]
          exact wpAny_pure (wpAny_pure q)
    · refine ⟨keys, general', ?_, ask fun {rs Q E} h2 er q => ?_⟩
      · intro E x y a b Q ha hb q
        obtain ⟨d, as, hd, ra, rfl⟩ := dataKind_inv ha
        obtain ⟨d', as', hd', rb, rfl⟩ := dataKind_inv hb
        obtain ⟨xs, ex⟩ := tup d hd
        rw [one_lt_gen]
        exact oneLt_alike (fun h => nomatch h) ra rb (al _ hd _ hd') (by rw [ex]; intro z; cases z) (room hd) q
      · rw [hd0] at er
        cases er with
        | @cons r _ rs' _ h t =>
          rw [if_pos (by simpa using h.mpr em)]
          exact wpAny_pure q
/-- xs.sort() of tuples -/
theorem list_sort_tuples {β : Type} {vs : List Value} {bs : List β} {enc : β → PyData} {R : Value → β → Prop} {a : Addr} {n : Nat} {Q : Value → Shared → Prop} (ho : s.heap.get? a = some (seqObj "list" vs.toArray n)) (e : EachIs R vs bs) (er : EachIs (fun v b => ∃ as, Reads s.heap v (enc b) as ∧ a ∉ as) vs bs)
    (al : AllAlike (bs.map enc)) (tup : ∀ b, ∃ xs, enc b = .tuple xs) (hL : bs.length ≤ sizeLine) (hu : ∀ b, b ∈ bs → A.units + 1 + (enc b).depth < cLine) (q : ∀ out, out.length = bs.length → EachIs R out (bs.mergeSort (dataLe false enc)) → Q .none { s with heap := sortedHeap s.heap a vs (List.toArray out) }) :
    wpAny (model prog w) A (call (.builtin "list.sort") [.ref a]) Q E s := by
  have er2 : EachIs (fun v b => ∃ as, Reads (sortingHeap s.heap a vs) v (enc b) as) vs bs := each_keepBut (h' := sortingHeap s.heap a vs) (fun _ _ hb z => sortingHeap_old hb z) (fun o z => by rw [ho] at z; rw [← Option.some.inj z]) al er
  refine wpAny_call_entry slot_list_sort ⟨_, ho, rfl⟩ entry_list_sort (list_sort_vals (κ := dataKind (sortingHeap s.heap a vs) (bs.map enc)) ho (sorts_tuples (s := { s with heap := sortingHeap s.heap a vs }) (each_map (R := fun v d => ∃ as, Reads (sortingHeap s.heap a vs) v d as) enc er2) al (fun d hd => ?_) (bound_map hu)) (by rw [e.length]; exact hL) ⟨.none, rfl, ?_⟩) (args_list_sort _)
  · obtain ⟨b, _, rfl⟩ := List.mem_map.mp hd
    exact tup b
  · exact q _ (by rw [sortVals_length false rfl]; exact e.length) (sortVals_data false e er2 al)
end
end GS

set_option maxRecDepth 100000
set_option maxHeartbeats 4000000
/-! try with several clauses «except C as n», and with clauses without a name among them -/
namespace WU
open PySem PySem.Spec PyProof.Rows L2
/-- a clause: the class, its name's slot (if it has one), what the suite does -/
abbrev Cl := Value × Option Nat × (Addr → Value → Option Addr → TS)
/-- behind a named suite the slot is empty -/
def wiped (i : Nat) (D : Ends) : Ends := { nx := fun z h => D.nx (z.set i none) h, rt := D.rt, bk := fun z h => D.bk (z.set i none) h, ct := fun z h => D.ct (z.set i none) h }
def suiteOf (i : Option Nat) (ts : TS) (D : Ends) (σ : L2.St) (H : Hp) (a : Addr) : Prop :=
  match i with
  | some j => ts (wiped j D) (σ.set j (some (V.ref a))) H
  | none => ts D σ H
/-- what the clauses wish of an exception that leaves the body -/
def wCls (K : PySem.W.Frag) (Wout : WX) (D : Ends) : List Cl → WX
  | [] => Wout
  | q :: r => fun cls d σ H => ∃ b, PySem.W.exmOne K cls q.1 = some b ∧ (b = true → ∀ a, H a = none → suiteOf q.2.1 (q.2.2 a cls d) D σ H a) ∧ (b = false → wCls K Wout D r cls d σ H)
inductive Clauses (X : Cx) : List ExceptHandler → List Cl → Prop
  | nil : Clauses X [] []
  | named {x n : Str} {i : Nat} {c : Value} {ts : Addr → Value → Option Addr → TS} {b : Stmt} {su : List Stmt} {p q : Pos} {hs : List ExceptHandler} {l : List Cl}
      (hi : X.N[i]? = some n) (hl : X.env.kindOf n = some .local) (hc : Names X x c)
      (hsu : ∀ (a : Addr) (oe : Obj) (cls : Value) (d : Option Addr) (pn : List (Addr × Obj)), Zc cls d oe → (∃ vs, oe.data = .fields vs) → PSs (X.suite a ((a, oe) :: pn)) (b :: su) (ts a cls d))
      (r : Clauses X hs l) : Clauses X (.ExceptHandler (some (.Name x p)) (some n) (b :: su) q :: hs) ((c, some i, ts) :: l)
section
variable {X : Cx} {body : List Stmt} {h₀ : ExceptHandler} {hds : List ExceptHandler} {l : List Cl} {pos : Pos} {tb : WX → TS} {Wout : WX}
theorem ps_try_cls (hst : X.stack = X.env :: X.outer) (hfr : X.env.frame = some X.env.locals) (hN : X.N.Nodup) (tk : Takes X Wout)
    (hb : ∀ (W : WX) (pn : List (Addr × Obj)) (xe : Value → Shared → Prop), Takes (X.tr pn xe) W →
      PassesOwn (model X.prog X.w) X.A X.env xe → PSs (X.tr pn xe) body (tb W))
    (hh : Clauses X (h₀ :: hds) l) : PS X (.Try body (h₀ :: hds) [] [] pos) (fun D σ H => tb (wCls X.K Wout D l) D σ H) := by
  constructor
  intro pins s σ H D I h
  have okX := I.ok
  have frA : X.A.frames = some (X.env :: X.outer) := okX.frames.trans (congrArg some hst)
  apply wpAny_Try_except
  let xe1 : Value → Shared → Prop := fun e s₁ => wpAny (model X.prog X.w) X.A (noteFrame e X.env) (fun _ s₂ =>
    wpAny (model X.prog X.w) X.A (setFlight e none) (fun _ s₃ => wpAny (model X.prog X.w) X.A (handleBy e X.env (h₀ :: hds))
      (SP X pins D) X.xe s₃) X.xe s₂) X.xe s₁
  have taken : Takes (X.tr (X.pn ++ pins) xe1) (wCls X.K Wout D l) := by
    rintro u st ⟨a, B, sI, pins', σ', H', cls, d, rfl, J', nb, up, sky, na, os, ag, wish⟩
    have J : Inv X pins σ' H' sI := J'.ofTry okX
    rw [show (X.tr (X.pn ++ pins) xe1).stack = X.env :: X.outer from hst] at sky
    show wpAny (model X.prog X.w) X.A (noteFrame (Value.ref a) X.env) _ _ _
    refine Sky.land Zc.steady frA hfr sky fun hA flA upA => ?_
    have JA : Inv X pins σ' H' { st with heap := hA } := J.landed nb flA.1 (up.trans upA) os ag
    obtain ⟨oA, vA, eA, zA, dA⟩ := flA.there
    have offF : a ∉ frs (X.env :: X.outer) := fun hm => by
      obtain ⟨_, o', e', hn⟩ := flA.2.2.1.mem hm
      cases eA.symm.trans e'
      exact hn _ dA
    have offL : a ≠ X.env.locals := by
      rintro rfl
      exact offF (List.mem_filterMap.mpr ⟨X.env, .head _, hfr⟩)
    have offO : a ∉ X.fs := fun hm => by
      obtain ⟨en, hen, q⟩ := List.mem_filterMap.mp hm
      exact offF (List.mem_filterMap.mpr ⟨en, .tail _ hen, q⟩)
    have SA := JA.suite eA dA na offL offO
    have isT : PySem.W.Looks (model X.prog X.w) hA (typeOf (.ref a)) cls := by
      intro A Q E s2 kk q
      refine wpAny_typeOf_ref (kk _ _ eA) ?_
      rw [zA.1]
      exact q
    have onward : ∀ {hs : List ExceptHandler} {l' : List Cl}, Clauses X hs l' → wCls X.K Wout D l' cls d σ' H' →
        wpAny (model X.prog X.w) X.A (handleBy (.ref a) X.env hs) (SP X pins D) X.xe { st with heap := hA } := by
      intro hs l' hk
      induction hk with
      | nil =>
        intro wout
        apply wpAny_handleBy_nil
        obtain ⟨_, _, _, oe, vs, T, oT, tt, he, hz, hd, h1, hr⟩ := id flA
        unfold PySem.passOn
        apply wpAny_bind
        refine wpAny_field he hd h1 ?_
        have nn : ¬ ((Value.ref T == Value.none) = true) := by simp
        rw [if_neg nn]
        have fin : wpAny (model X.prog X.w) X.A (setFlight (.ref a) X.env.frame) (fun _ s4 =>
            wpAny (model X.prog X.w) X.A (throw (.ref a) : Sem Flow) (SP X pins D) X.xe s4) X.xe { st with heap := hA } := by
          rw [hfr]
          refine HandSPX.setFlight_upZ flA fun hB hhB upB => ?_
          apply wpAny_throw
          apply tk
          refine ⟨a, B, sI, pins, σ', H', cls, d, rfl, J, nb, (up.trans upA).trans upB, ?_, na, os, ag, wout⟩
          right; right
          rw [hst]
          exact hhB
        first
          | exact wpAny_bind (wpAny_pure (wpAny_bind fin))
          | exact wpAny_bind fin
      | @named x n i c ts b su p q hs2 l2 hi hl hc hsu r ih =>
        rintro ⟨yes, hyn, onYes, onNo⟩
        refine wpAny_handleBy_cons (codeAny_handlers_test ?_) (by intro z; cases z)
        have hits := PySem.W.exm_one (M := model X.prog X.w) JA.kIn isT hyn
        have asked : ∀ {Q E : Value → Shared → Prop}, Q c { st with heap := hA } →
            wpAny (model X.prog X.w) (X.A.mark (some (.ref a))) (eval (.Name x p) X.env) Q E { st with heap := hA } := by
          intro Q E q
          obtain ⟨g1, g2, g3⟩ := hc
          rcases g3 with g3 | ⟨g3, g4, g5⟩
          · exact ld_glob (X := X.suite a ((a, oA) :: (X.pn ++ pins))) SA g1 g3 q g2
          · exact ld_blt (X := X.suite a ((a, oA) :: (X.pn ++ pins))) SA g1 g3 g4 q g5 g2
        apply asked
        refine hits.here ?_
        cases yes with
        | false => exact ih (onNo rfl)
        | true =>
          apply codeAny_handlers_suite_as
          refine HandSPX.lands_againZ flA fun hB flB upB => ?_
          have JB : Inv X pins σ' H' { st with heap := hB } := J.landed nb flB.1 ((up.trans upA).trans upB) os ag
          obtain ⟨oB, vB, eB, zB, dB⟩ := flB.there
          have SB := JB.suite eB dB na offL offO
          refine store_ok (X := X.suite a ((a, oB) :: (X.pn ++ pins))) (v := .ref a) SB hN hi (Or.inl hl) rfl (fun s5 S5 => ?_) (Or.inr hl)
          have runs := (hsu a oB cls d (X.pn ++ pins) zB ⟨_, dB⟩).run [] s5 _ H' _ S5 (onYes rfl a na)
          refine wpAny_mono runs (fun f s6 hsp => ?_) fun _ _ z => z.elim
          have left_ : ∀ {σ6 : L2.St} {H6 : Hp} {Q : Shared → Prop}, Inv (X.suite a ((a, oB) :: (X.pn ++ pins))) [] σ6 H6 s6 →
              (∀ s7, Inv X pins (σ6.set i none) H6 s7 → Q s7) →
              wpAny (model X.prog X.w) X.A (do bindName X.env n .none; unbindBehindTheSuite X.env n q) (fun _ s7 => Q s7) X.xe s6 :=
            fun S6 k => gone_ok (S6.unsuite okX) hN hi hl k
          match f, hsp with
          | .next, ⟨σ6, H6, S6, q6⟩ => exact left_ S6 fun s7 J7 => ⟨_, _, J7, q6⟩
          | .brk, ⟨σ6, H6, S6, q6⟩ => exact left_ S6 fun s7 J7 => ⟨_, _, J7, q6⟩
          | .cont, ⟨σ6, H6, S6, q6⟩ => exact left_ S6 fun s7 J7 => ⟨_, _, J7, q6⟩
          | .ret u, ⟨v6, σ6, H6, S6, r6, q6⟩ => exact left_ S6 fun s7 J7 => ⟨_, _, _, J7, r6, q6⟩
    exact onward hh wish
  have body_ := (hb _ (X.pn ++ pins) xe1 taken PassesOwn.looking).run [] s σ H D (I.toTry _) h
  refine wpAny_mono body_ (fun f s1 hsp => ?_) fun _ _ z => z
  match f, hsp with
  | .next, ⟨σ', H', J', q⟩ => exact wpAny_execs_nil ⟨σ', H', J'.ofTry okX, q⟩
  | .brk, ⟨σ', H', J', q⟩ => exact ⟨σ', H', J'.ofTry okX, q⟩
  | .cont, ⟨σ', H', J', q⟩ => exact ⟨σ', H', J'.ofTry okX, q⟩
  | .ret u, ⟨v, σ', H', J', r, q⟩ => exact ⟨v, σ', H', J'.ofTry okX, r, q⟩
end
end WU

set_option maxRecDepth 100000
set_option maxHeartbeats 4000000
namespace WU
open PySem PySem.Spec PyProof.Rows L2
/-! ### the head's facts -/
/-- the facts of the defs, and one more Bool -/
def hookB (n : Nat) (fn : List He.DefD) (ex : PySem.W.Frag → Bool) : PySem.W.Hook where
  α := He.AlD × Bool
  obs := fun s => (He.obsDG n [] fn s.heap.get?, ex (He.frG s.heap.get? (He.asD s.heap.get? n)))
  val := fun _ => (He.valD fn, true)
  says := fun _ h => ∃ K : PySem.W.Frag, K.In h ∧ He.SaysD [] fn K ∧ ex K = true
  of := fun _ _ e => ⟨_, He.frG_in, congrArg Prod.fst e, congrArg Prod.snd e⟩
  keeps := fun _ _ _ ⟨K, hK, c⟩ k => ⟨K, PySem.W.Frag.In.keeps hK k, c⟩
def obB (n : Nat) (fn : List He.DefD) (ex : PySem.W.Frag → Bool) (s : PySem.W.SharedT) : He.AlD × Bool :=
  (He.obsDG n [] fn (HandSHeadRun.getT s), ex (He.frG (HandSHeadRun.getT s) (He.asD (HandSHeadRun.getT s) n)))
theorem obB_eq {n : Nat} {fn : List He.DefD} {ex : PySem.W.Frag → Bool} (s : PySem.W.SharedT) : obB n fn ex s = (hookB n fn ex).obs s.abs := by
  have e : HandSHeadRun.getT s = s.abs.heap.get? := funext (HandSHeadRun.getT_eq s)
  unfold obB
  rw [e]
  rfl
theorem and2 {a b : Bool} (h : (a && b) = true) : a = true ∧ b = true := Bool.and_eq_true_iff.mp h
/-- names that the module leaves to the built-ins; names that stand for objects -/
def freeB (K : PySem.W.Frag) (xs : List Str) : Bool := xs.all fun x => decide (PySem.W.nsIn K mainGlobals x = some none)
def globB (K : PySem.W.Frag) (xs : List Str) : Bool := xs.all fun x => decide (PySem.W.nsIn K mainGlobals x = some (some (.ref (He.ga K x))))
section
variable {K : PySem.W.Frag} {h : Heap} {mg : Str → Option Value}
theorem freeB_ok (X : K.In h) (G : h.Ns mainGlobals mg) {xs : List Str} (c : freeB K xs = true) {x : Str} (hx : x ∈ xs) : mg x = none :=
  PySem.W.mg_none_of X G (of_decide_eq_true (List.all_eq_true.mp c x hx))
theorem globB_ok (X : K.In h) (G : h.Ns mainGlobals mg) {xs : List Str} (c : globB K xs = true) {x : Str} (hx : x ∈ xs) : mg x = some (.ref (He.ga K x)) :=
  PySem.W.mg_of X G (of_decide_eq_true (List.all_eq_true.mp c x hx))
end
/-! ### an own exception class over ValueError (or over own ones that are) -/
def oexShape (C : Addr) : Option Obj → Bool
  | some ⟨.type t, _, .cls ⟨_, _, .ref C' :: bm, _, _, true, _, _, _, _, false⟩, ⟨[_, _, _, _, some (.builtin id), _]⟩⟩ =>
    decide (t = "type") && (decide (C' = C) && (decide (id = "ValueError.__new__") && PySem.HandSPX.refsVE bm))
  | _ => false
def oexB (K : PySem.W.Frag) (C : Addr) : Bool :=
  oexShape C (K.lookup C) && (decide (PySem.W.findIn K (.ref C) "__setattr__" = some (some (.builtin "object.__setattr__"))) &&
    (decide (PySem.W.subIn K (.ref C) (.type "BaseException") = some true) && (decide (PySem.W.typeIn K (.ref C) = some (.type "type")) && PySem.W.keepIn K (.ref C))))
theorem oexB_ok {K : PySem.W.Frag} {C : Addr} (h : oexB K C = true) : OexC K C := by
  obtain ⟨h1, h⟩ := and2 h
  obtain ⟨h2, h⟩ := and2 h
  obtain ⟨h3, h⟩ := and2 h
  obtain ⟨h4, h5⟩ := and2 h
  refine ⟨?_, of_decide_eq_true h2, of_decide_eq_true h3, of_decide_eq_true h4, h5⟩
  unfold oexShape at h1
  split at h1
  · rename_i t dd nm bs C' bm N q sn sub ab col k0 k1 k2 k3 id k5 heq
    obtain ⟨e1, h1⟩ := and2 h1
    obtain ⟨e2, h1⟩ := and2 h1
    obtain ⟨e3, e4⟩ := and2 h1
    have q1 := of_decide_eq_true e1
    have q2 := of_decide_eq_true e2
    have q3 := of_decide_eq_true e3
    subst q1 q2 q3
    exact ⟨_, _, _, _, _, _, _, _, _, _, _, _, _, _, _, heq, e4⟩
  · cases h1
/-- what every body asks of an exception class X whose __init__ stands at fI and keeps one field f -/
structure Exc1 (K : PySem.W.Frag) (mg : Str → Option Value) (x : Str) (f : Str) : Prop where
  glob : mg x = some (.ref (He.ga K x))
  oex : OexC K (He.ga K x)
  no : PySem.W.findIn K (.ref (He.ga K x)) f = some none
  init : PySem.W.findIn K (.ref (He.ga K x)) "__init__" = some (some (.ref (He.ma K (He.ga K x) "__init__")))
  tI : PySem.W.typeIn K (.ref (He.ma K (He.ga K x) "__init__")) = some (.type "function")
def exc1B (K : PySem.W.Frag) (x f : Str) : Bool :=
  decide (PySem.W.nsIn K mainGlobals x = some (some (.ref (He.ga K x)))) && (oexB K (He.ga K x) && (decide (PySem.W.findIn K (.ref (He.ga K x)) f = some none) &&
    (decide (PySem.W.findIn K (.ref (He.ga K x)) "__init__" = some (some (.ref (He.ma K (He.ga K x) "__init__")))) && decide (PySem.W.typeIn K (.ref (He.ma K (He.ga K x) "__init__")) = some (.type "function")))))
theorem exc1B_ok {K : PySem.W.Frag} {h : Heap} {mg : Str → Option Value} (X : K.In h) (G : h.Ns mainGlobals mg) {x f : Str} (c : exc1B K x f = true) : Exc1 K mg x f := by
  obtain ⟨h1, c⟩ := and2 c
  obtain ⟨h2, c⟩ := and2 c
  obtain ⟨h3, c⟩ := and2 c
  obtain ⟨h4, h5⟩ := and2 c
  exact ⟨PySem.W.mg_of X G (of_decide_eq_true h1), oexB_ok h2, of_decide_eq_true h3, of_decide_eq_true h4, of_decide_eq_true h5⟩
/-- an if whose test is known by an equation -/
theorem iteTb {c : Bool} {A B : Prop} (hc : c = true) (h : A) : if c = true then A else B := by
  rw [if_pos hc]
  exact h
theorem iteFb {c : Bool} {A B : Prop} (hc : c = false) (h : B) : if c = true then A else B := by
  rw [if_neg (by rw [hc]; decide)]
  exact h
theorem iteD {c : Prop} [Decidable c] {A B : Prop} (h1 : c → A) (h2 : ¬ c → B) : if decide c = true then A else B := by
  by_cases h : c
  · rw [decide_eq_true h]
    exact iteT (h1 h)
  · rw [decide_eq_false h]
    exact iteF (h2 h)
theorem ixN_at {n q : Nat} (h : q < n) : ixN n (q : Int) = some q := by
  unfold ixN
  rw [if_pos (by omega), if_pos (by omega)]
  simp
/-! ### calls -/
/-- the name x stands for a def that keeps sp -/
structure Cal (P : Program) (w : World) (K : PySem.W.Frag) (mg : Str → Option Value) (base : Heap) (k : Nat) (x : Str) (f : Addr) (fd : FuncData) (ps : List Str) (sp : Sp) : Prop where
  glob : mg x = some (.ref f)
  kp : PySem.W.keepIn K (.ref f) = true
  binds : Binds K fd ps []
  ok : FnOk P w K mg base (L2.CX P w) k f fd ps sp
theorem passU {X : Cx} : Passes (L2.CX X.prog X.w) X E0 := fun _ _ _ _ _ _ _ ⟨_, _, _, _, _, _, _, _, _, _, _, _, z⟩ => z.elim
section
variable {X : Cx} {k : Nat} {x : Str} {f : Addr} {fd : FuncData} {ps : List Str} {sp : Sp} {E : XK} {e : Expr} {es : List Expr} {t : TA} {p pos : Pos}
theorem pe_cal (C : Cal X.prog X.w X.K X.mg X.base k x f fd ps sp) (hr : Room k X.A) (ha : PA X (e :: es) t) (hx : Passes (L2.CX X.prog X.w) X E) (hg : Gl X x := by rfl) (hdb : (x == ("__debug__" : Str)) = false := by decide)
    (he : starEach (e :: es) X.env = (false, eval e X.env) :: starEach es X.env := by rfl) (hpl : (backTo pos (starEach es X.env)).any (·.1) = false := by rfl) :
    PE X (.Call (.Name x p) (e :: es) [] pos) (tCall sp [] E t) := pe_call C.ok hr hg C.glob C.kp C.binds .nil hx ha hdb he hpl
theorem pe_calS {W : WX} (C : Cal X.prog X.w X.K X.mg X.base k x f fd ps sp) (hr : Room k X.A) (ha : PA X (e :: es) t) (tk : Takes X W) (hg : Gl X x := by rfl) (hdb : (x == ("__debug__" : Str)) = false := by decide)
    (he : starEach (e :: es) X.env = (false, eval e X.env) :: starEach es X.env := by rfl) (hpl : (backTo pos (starEach es X.env)).any (·.1) = false := by rfl) :
    PE X (.Call (.Name x p) (e :: es) [] pos) (tCallS sp (WE W) t) := pe_callS C.ok hr hg C.glob C.kp C.binds (fun σ => passAt tk σ) ha hdb he hpl
end
/-! ### raise X(e), X's __init__ keeping one field -/
/-- self.f = value -/
def spInit1 (K : PySem.W.Frag) (C : Addr) (f : Str) : Sp := fun vs H Q _ => ∃ (a : Addr) (y : V), vs = [.ref a, y] ∧ OexC K C ∧ PySem.W.findIn K (.ref C) f = some none ∧ H a = some (exo a C none) ∧
  ∀ dx, H dx = none → dx ≠ a → Q .non (upd (upd H dx (exd dx [(f, y)])) a (exo a C (some dx)))
/-- the reading: the error's class, its own dict, the heap behind -/
def tMk1 (C : Addr) (f : Str) (ta : TA) : L2.St → Hp → XK → Prop := fun σ H Q => ta σ H fun vs H1 => ∃ v, vs = [v] ∧ ∀ d H', Same H1 H' → H1 d = none → H' d = some (.xd [(f, v)]) → Q (.ref C) (some d) H'
/-- a reading that may be weakened -/
def lax (ta : TA) : TA := fun σ H Q => ∃ Q0 : List V → Hp → Prop, ta σ H Q0 ∧ ∀ vs H1, Q0 vs H1 → Q vs H1
theorem pa_lax {X : Cx} {es : List Expr} {ta : TA} (ha : PA X es ta) : PA X es (lax ta) :=
  ⟨fun pos pins s σ H Q I h => by
    obtain ⟨Q0, h0, hq⟩ := h
    refine wpAny_mono (ha.run pos pins s σ H Q0 I h0) (fun us s1 hu => ?_) fun _ _ z => z
    obtain ⟨vs, H1, I1, r, q⟩ := hu
    exact ⟨vs, H1, I1, r, hq vs H1 q⟩⟩
section
variable {X : Cx} {k : Nat} {x f : Str} {fd : FuncData} {q : Str} {e : Expr} {ta : TA} {p pos pos2 : Pos}
theorem pmk_1 (T : Exc1 X.K X.mg x f) (F : FnOk X.prog X.w X.K X.mg X.base (L2.CX X.prog X.w) k (He.ma X.K (He.ga X.K x) "__init__") fd ["self", q] (spInit1 X.K (He.ga X.K x) f)) (b : Binds X.K fd ["self", q] [])
    (hr : Room (k + 1) X.A) (ha : PA X [e] ta) (hg : Gl X x := by rfl) (hdb : (x == ("__debug__" : Str)) = false := by decide)
    (he : starEach (e :: []) X.env = (false, eval e X.env) :: starEach [] X.env := by rfl) (hpl : (backTo pos (starEach [] X.env)).any (·.1) = false := by rfl) :
    PMk X (.Call (.Name x p) [e] [] pos) (tMk1 (He.ga X.K x) f ta) := by
  intro pins s σ H Q I h
  refine pmk_oex (CX := L2.CX X.prog X.w) (dvs := []) T.oex T.init T.tI F hr b .nil passU hg T.glob (pa_lax ha) hdb he hpl pins s σ H Q I ⟨_, h, fun vs H1 hv => ?_⟩
  obtain ⟨v, rfl, kk⟩ := hv
  refine ⟨(show 1 ≤ 1000 by decide), fun a na => ⟨a, v, rfl, T.oex, T.no, upd_same, fun dx ndx hdx => ⟨rfl, dx, [(f, v)], upd_same, by rw [upd_ne hdx, upd_same], ?_, ?_⟩⟩⟩
  · rw [upd_ne hdx] at ndx
    exact ndx
  · rw [upd_ne hdx] at ndx
    refine kk dx _ (fun c o hc => ?_) ndx upd_same
    have c1 : c ≠ dx := ne_of_none hc ndx
    have c2 : c ≠ a := ne_of_none hc na
    rw [upd_ne c1, del_ne c2, upd_ne c2, upd_ne c1, upd_ne c2]
    exact hc
theorem ps_raise1 {W : WX} (hc : X.calm = true) (tk : Takes X W) (T : Exc1 X.K X.mg x f) (F : FnOk X.prog X.w X.K X.mg X.base (L2.CX X.prog X.w) k (He.ma X.K (He.ga X.K x) "__init__") fd ["self", q] (spInit1 X.K (He.ga X.K x) f)) (b : Binds X.K fd ["self", q] [])
    (hr : Room (k + 1) X.A) (ha : PA X [e] ta) (hg : Gl X x := by rfl) (hdb : (x == ("__debug__" : Str)) = false := by decide)
    (he : starEach (e :: []) X.env = (false, eval e X.env) :: starEach [] X.env := by rfl) (hpl : (backTo pos (starEach [] X.env)).any (·.1) = false := by rfl) :
    PS X (.Raise (some (.Call (.Name x p) [e] [] pos)) none pos2) (fun _ σ H => tMk1 (He.ga X.K x) f ta σ H fun cls d H' => W cls d σ H') :=
  ps_raise hc tk (pmk_1 T F b hr ha hg hdb he hpl)
end
end WU

set_option maxRecDepth 100000
set_option maxHeartbeats 4000000
/-! values as trees, a small memory for what changes; what represents what -/
namespace PU
open PySem PySem.Spec PyProof.Rows L2 WU
/-- a value that never changes -/
inductive D where
  | non | bl (b : Bool) | int (i : Int) | str (x : Str)
  | lst (xs : List D) | tup (xs : List D) | fl (xs : List D) | ft (xs : List D) | nt (xs : List D) | ins (C : Addr) (fs : List (Str × D)) | at (v : V)
  | dic (φ : Addr → List (NestedKey × Addr × V) → HO) (kvs : List (D × D))
  /-- a handled error: its class, its dict, its fields -/
  | exc (a C dd : Addr) (fs : List (Str × D))
/-- a value: a tree, or a place of the memory -/
inductive W where
  | d (x : D) | p (n : Nat)
inductive Cell where
  | lst (xs : List D) | ins (C : Addr) (fs : List (Str × W))
abbrev Mem := List Cell
abbrev En := List (Option W)
mutual
/-- a value as a key -/
def nkD : D → Option NestedKey
  | .non => some .none
  | .int i => some (.num i)
  | .str x => some (.text x)
  | .tup xs => (nkAll xs).map .tup
  | .bl _ => none
  | .lst _ => none
  | .fl _ => none
  | .ft _ => none
  | .nt _ => none
  | .ins _ _ => none
  | .at _ => none
  | .dic _ _ => none
  | .exc _ _ _ _ => none
def nkAll : List D → Option (List NestedKey)
  | [] => some []
  | x :: xs => match nkD x, nkAll xs with
    | some p, some ps => some (p :: ps)
    | _, _ => none
end
mutual
inductive Rep (K : PySem.W.Frag) (G : Hp) : V → D → Prop
  | non : Rep K G .non .non
  | bl (b : Bool) : Rep K G (.bl b) (.bl b)
  | int (i : Int) : Rep K G (.int i) (.int i)
  | str (x : Str) : Rep K G (.str x) (.str x)
  | lst {a : Addr} {xs : List V} {ds : List D} : G a = some (.lst xs) → RepAll K G xs ds → Rep K G (.ref a) (.lst ds)
  | fl {a : Addr} {xs : List V} {ds : List D} : SqL K G a xs → RepAll K G xs ds → Rep K G (.ref a) (.fl ds)
  | ft {a : Addr} {xs : List V} {ds : List D} : SqT K G a xs → RepAll K G xs ds → Rep K G (.ref a) (.ft ds)
  /-- a tuple that was made new: no dict of its own -/
  | nt {a : Addr} {o : Obj} {xs : List V} {ds : List D} : G a = some (.frz o (.tup xs)) → o.dict = none → RepAll K G xs ds → Rep K G (.ref a) (.nt ds)
  | tup {a : Addr} {xs : List V} {ds : List D} : Rd G a (.tup xs) → RepAll K G xs ds → Rep K G (.ref a) (.tup ds)
  | ins {a C dx : Addr} {vs : List (Str × V)} {fs : List (Str × D)} : G a = some (.ins C dx vs) → RepFs K G vs fs → Rep K G (.ref a) (.ins C fs)
  | at (v : V) : Rep K G v (.at v)
  | dic {a : Addr} {φ : Addr → List (NestedKey × Addr × V) → HO} {ms : List (NestedKey × Addr × V)} {kvs : List (D × D)} : G a = some (φ a ms) → RepKv K G ms kvs → Rep K G (.ref a) (.dic φ kvs)
  | exc {a C dd : Addr} {vs : List (Str × V)} {fs : List (Str × D)} : G dd = some (.xd vs) → RepFs K G vs fs → Rep K G (.ref a) (.exc a C dd fs)
inductive RepKv (K : PySem.W.Frag) (G : Hp) : List (NestedKey × Addr × V) → List (D × D) → Prop
  | nil : RepKv K G [] []
  | cons {k : NestedKey} {c : Addr} {v : V} {ms : List (NestedKey × Addr × V)} {kd d : D} {kvs : List (D × D)} : nkD kd = some k → Rep K G (.ref c) kd → Rep K G v d → RepKv K G ms kvs → RepKv K G ((k, c, v) :: ms) ((kd, d) :: kvs)
inductive RepAll (K : PySem.W.Frag) (G : Hp) : List V → List D → Prop
  | nil : RepAll K G [] []
  | cons {v : V} {vs : List V} {d : D} {ds : List D} : Rep K G v d → RepAll K G vs ds → RepAll K G (v :: vs) (d :: ds)
inductive RepFs (K : PySem.W.Frag) (G : Hp) : List (Str × V) → List (Str × D) → Prop
  | nil : RepFs K G [] []
  | cons {f : Str} {v : V} {vs : List (Str × V)} {d : D} {ds : List (Str × D)} : Rep K G v d → RepFs K G vs ds → RepFs K G ((f, v) :: vs) ((f, d) :: ds)
end
/-- what stands in G stands in G' -/
abbrev Le (G G' : Hp) : Prop := ∀ a o, G a = some o → G' a = some o
theorem Le.refl {G : Hp} : Le G G := fun _ _ h => h
theorem Le.rd {G G' : Hp} (l : Le G G') {a : Addr} {u : HO} (h : Rd G a u) : Rd G' a u := h.imp (l _ _) fun ⟨o, h⟩ => ⟨o, l _ _ h⟩
section
variable {K : PySem.W.Frag} {G G' : Hp}
theorem Le.sqL (l : Le G G') {a : Addr} {xs : List V} (h : SqL K G a xs) : SqL K G' a xs := h.imp l.rd id
theorem Le.sqT (l : Le G G') {a : Addr} {xs : List V} (h : SqT K G a xs) : SqT K G' a xs := h.imp l.rd id
mutual
theorem Rep.mono (l : Le G G') : ∀ {v : V} {d : D}, Rep K G v d → Rep K G' v d
  | _, _, .non => .non
  | _, _, .bl b => .bl b
  | _, _, .int i => .int i
  | _, _, .str x => .str x
  | _, _, .lst h r => .lst (l _ _ h) (RepAll.mono l r)
  | _, _, .fl h r => .fl (l.sqL h) (RepAll.mono l r)
  | _, _, .tup h r => .tup (l.rd h) (RepAll.mono l r)
  | _, _, .nt h e r => .nt (l _ _ h) e (RepAll.mono l r)
  | _, _, .ft h r => .ft (l.sqT h) (RepAll.mono l r)
  | _, _, .ins h r => .ins (l _ _ h) (RepFs.mono l r)
  | _, _, .at v => .at v
  | _, _, .dic h r => .dic (l _ _ h) (RepKv.mono l r)
  | _, _, .exc h r => .exc (l _ _ h) (RepFs.mono l r)
theorem RepKv.mono (l : Le G G') : ∀ {ms : List (NestedKey × Addr × V)} {kvs : List (D × D)}, RepKv K G ms kvs → RepKv K G' ms kvs
  | _, _, .nil => .nil
  | _, _, .cons e h1 h2 r => .cons e (Rep.mono l h1) (Rep.mono l h2) (RepKv.mono l r)
theorem RepAll.mono (l : Le G G') : ∀ {vs : List V} {ds : List D}, RepAll K G vs ds → RepAll K G' vs ds
  | _, _, .nil => .nil
  | _, _, .cons h r => .cons (Rep.mono l h) (RepAll.mono l r)
theorem RepFs.mono (l : Le G G') : ∀ {vs : List (Str × V)} {ds : List (Str × D)}, RepFs K G vs ds → RepFs K G' vs ds
  | _, _, .nil => .nil
  | _, _, .cons h r => .cons (Rep.mono l h) (RepFs.mono l r)
end
theorem RepAll.paired : ∀ {vs : List V} {ds : List D}, RepAll K G vs ds → Paired (Rep K G) vs ds
  | _, _, .nil => .nil
  | _, _, .cons h r => .cons h r.paired
theorem RepAll.of : ∀ {vs : List V} {ds : List D}, Paired (Rep K G) vs ds → RepAll K G vs ds
  | _, _, .nil => .nil
  | _, _, .cons h r => .cons h (.of r)
theorem RepAll.len : ∀ {vs : List V} {ds : List D}, RepAll K G vs ds → vs.length = ds.length
  | _, _, .nil => rfl
  | _, _, .cons _ r => congrArg (· + 1) r.len
theorem RepAll.get : ∀ {vs : List V} {ds : List D} {i : Nat} {d : D}, RepAll K G vs ds → ds[i]? = some d → ∃ v, vs[i]? = some v ∧ Rep K G v d
  | _, _, _, _, .nil, h => by simp at h
  | _, _, 0, _, .cons h _, e => by
    simp at e
    subst e
    exact ⟨_, rfl, h⟩
  | _, _, i + 1, _, .cons _ r, e => by
    obtain ⟨v, h1, h2⟩ := r.get (i := i) (by simpa using e)
    exact ⟨v, by simpa using h1, h2⟩
theorem RepAll.get' : ∀ {vs : List V} {ds : List D} {i : Nat} {v : V}, RepAll K G vs ds → vs[i]? = some v → ∃ d, ds[i]? = some d ∧ Rep K G v d
  | _, _, _, _, .nil, h => by simp at h
  | _, _, 0, _, .cons h _, e => by
    simp at e
    subst e
    exact ⟨_, rfl, h⟩
  | _, _, i + 1, _, .cons _ r, e => by
    obtain ⟨v, h1, h2⟩ := r.get' (i := i) (by simpa using e)
    exact ⟨v, by simpa using h1, h2⟩
theorem RepAll.append : ∀ {vs us : List V} {ds es : List D}, RepAll K G vs ds → RepAll K G us es → RepAll K G (vs ++ us) (ds ++ es)
  | _, _, _, _, .nil, s => s
  | _, _, _, _, .cons h r, s => .cons h (r.append s)
theorem RepAll.take : ∀ {vs : List V} {ds : List D} (n : Nat), RepAll K G vs ds → RepAll K G (vs.take n) (ds.take n)
  | _, _, 0, _ => .nil
  | _, _, _ + 1, .nil => .nil
  | _, _, n + 1, .cons h r => .cons h (r.take n)
theorem RepAll.drop : ∀ {vs : List V} {ds : List D} (n : Nat), RepAll K G vs ds → RepAll K G (vs.drop n) (ds.drop n)
  | _, _, 0, r => r
  | _, _, _ + 1, .nil => .nil
  | _, _, n + 1, .cons _ r => r.drop n
theorem RepAll.set {v : V} {d : D} (h : Rep K G v d) : ∀ {vs : List V} {ds : List D} (i : Nat), RepAll K G vs ds → RepAll K G (vs.set i v) (ds.set i d)
  | _, _, _, .nil => .nil
  | _, _, 0, .cons _ t => .cons h t
  | _, _, i + 1, .cons q t => .cons q (RepAll.set h i t)
theorem RepAll.rev : ∀ {vs : List V} {ds : List D}, RepAll K G vs ds → RepAll K G vs.reverse ds.reverse
  | _, _, .nil => .nil
  | _, _, .cons h r => by
    rw [List.reverse_cons, List.reverse_cons]
    exact (RepAll.rev r).append (.cons h .nil)
theorem RepFs.look : ∀ {vs : List (Str × V)} {ds : List (Str × D)} {f : Str} {d : D}, RepFs K G vs ds → ds.lookup f = some d → ∃ v, vs.lookup f = some v ∧ Rep K G v d
  | _, _, _, _, .nil, h => by simp at h
  | _, _, f, _, .cons (f := g) h r, e => by
    rw [List.lookup_cons] at e ⊢
    cases q : f == g with
    | true =>
      rw [q] at e
      cases e
      exact ⟨_, rfl, h⟩
    | false =>
      rw [q] at e
      exact r.look e
theorem RepFs.nolook : ∀ {vs : List (Str × V)} {ds : List (Str × D)} {f : Str}, RepFs K G vs ds → ds.lookup f = none → vs.lookup f = none
  | _, _, _, .nil, h => rfl
  | _, _, f, .cons (f := g) h r, e => by
    rw [List.lookup_cons] at e ⊢
    cases q : f == g with
    | true =>
      rw [q] at e
      cases e
    | false =>
      rw [q] at e
      exact r.nolook e
end
def RepW (K : PySem.W.Frag) (G : Hp) (L : List Addr) (v : V) : W → Prop
  | .d x => Rep K G v x
  | .p n => ∃ a, L[n]? = some a ∧ v = .ref a
def RepFW (K : PySem.W.Frag) (G : Hp) (L : List Addr) : List (Str × V) → List (Str × W) → Prop := Paired fun p q => p.1 = q.1 ∧ RepW K G L p.2 q.2
def CellOk (K : PySem.W.Frag) (G : Hp) (L : List Addr) (H : Hp) (a : Addr) : Cell → Prop
  | .lst ds => ∃ vs, H a = some (.lst vs) ∧ RepAll K G vs ds
  | .ins C fs => ∃ dx vs, H a = some (.ins C dx vs) ∧ RepFW K G L vs fs
structure Sim (K : PySem.W.Frag) (G : Hp) (L : List Addr) (M : Mem) (H : Hp) : Prop where
  le : Le G H
  off : ∀ a ∈ L, G a = none
  nd : L.Nodup
  cl : Paired (CellOk K G L H) L M
structure Ext (G : Hp) (L : List Addr) (H : Hp) (G' : Hp) (L' : List Addr) (H' : Hp) : Prop where
  g : Le G G'
  gn : ∀ a o, G' a = some o → G a = some o ∨ H a = none
  l : L <+: L'
  ln : ∀ a ∈ L', a ∈ L ∨ H a = none
  fr : ∀ a o, a ∉ L → H a = some o → H' a = some o
  dm : ∀ a, H' a = none → H a = none
theorem Ext.refl {G H : Hp} {L : List Addr} : Ext G L H G L H := ⟨Le.refl, fun _ _ h => .inl h, List.prefix_refl _, fun _ h => .inl h, fun _ _ _ h => h, fun _ h => h⟩
theorem Ext.trans {G H G1 H1 G2 H2 : Hp} {L L1 L2 : List Addr} (x : Ext G L H G1 L1 H1) (y : Ext G1 L1 H1 G2 L2 H2) : Ext G L H G2 L2 H2 where
  g := fun a o h => y.g a o (x.g a o h)
  gn := fun a o h => (y.gn a o h).elim (x.gn a o) fun h => .inr (x.dm a h)
  l := x.l.trans y.l
  ln := fun a h => (y.ln a h).elim (x.ln a) fun h => .inr (x.dm a h)
  fr := fun a o n h => y.fr a o (fun m => (x.ln a m).elim n fun z => by rw [z] at h; cases h) (x.fr a o n h)
  dm := fun a h => x.dm a (y.dm a h)
section
variable {K : PySem.W.Frag} {G G' H H' : Hp} {L L' : List Addr} {M : Mem}
theorem RepW.mono (l : Le G G') (p : L <+: L') {v : V} {w : W} (h : RepW K G L v w) : RepW K G' L' v w := by
  cases w with
  | d x => exact Rep.mono l h
  | p n =>
    obtain ⟨a, e, z⟩ := h
    obtain ⟨t, rfl⟩ := p
    exact ⟨a, by rw [List.getElem?_append_left (List.getElem?_eq_some_iff.mp e).1]; exact e, z⟩
theorem RepFW.mono (l : Le G G') (p : L <+: L') {vs : List (Str × V)} {ws : List (Str × W)} (h : RepFW K G L vs ws) : RepFW K G' L' vs ws := Paired.mapP h fun _ _ z => ⟨z.1, z.2.mono l p⟩
theorem RepW.ext {v : V} {w : W} (h : RepW K G L v w) (e : Ext G L H G' L' H') : RepW K G' L' v w := h.mono e.g e.l
theorem Sim.len (s : Sim K G L M H) : L.length = M.length := Paired.length s.cl
theorem CellOk.has {a : Addr} {c : Cell} (h : CellOk K G L H a c) : ∃ o, H a = some o := by
  cases c with
  | lst ds =>
    obtain ⟨_, e, _⟩ := h
    exact ⟨_, e⟩
  | ins C fs =>
    obtain ⟨_, _, e, _⟩ := h
    exact ⟨_, e⟩
theorem CellOk.mono {a : Addr} {c : Cell} (h : CellOk K G L H a c) (l : Le G G') (p : L <+: L') (q : ∀ o, H a = some o → H' a = some o) : CellOk K G' L' H' a c := by
  cases c with
  | lst ds =>
    obtain ⟨_, e, r⟩ := h
    exact ⟨_, q _ e, r.mono l⟩
  | ins C fs =>
    obtain ⟨_, _, e, r⟩ := h
    exact ⟨_, _, q _ e, r.mono l p⟩
theorem paired_ix {α β : Type} {F : α → β → Prop} : ∀ {xs : List α} {ys : List β} {i : Nat} {y : β}, Paired F xs ys → ys[i]? = some y → ∃ x, xs[i]? = some x ∧ F x y
  | _, _, _, _, .nil, h => by simp at h
  | _, _, 0, _, .cons h _, e => by
    simp at e
    subst e
    exact ⟨_, rfl, h⟩
  | _, _, i + 1, _, .cons _ r, e => by
    obtain ⟨v, h1, h2⟩ := paired_ix (i := i) r (by simpa using e)
    exact ⟨v, by simpa using h1, h2⟩
theorem paired_ix' {α β : Type} {F : α → β → Prop} : ∀ {xs : List α} {ys : List β} {i : Nat} {x : α}, Paired F xs ys → xs[i]? = some x → ∃ y, ys[i]? = some y ∧ F x y
  | _, _, _, _, .nil, h => by simp at h
  | _, _, 0, _, .cons h _, e => by
    simp at e
    subst e
    exact ⟨_, rfl, h⟩
  | _, _, i + 1, _, .cons _ r, e => by
    obtain ⟨v, h1, h2⟩ := paired_ix' (i := i) r (by simpa using e)
    exact ⟨v, by simpa using h1, h2⟩
theorem paired_all {α β : Type} {F F' : α → β → Prop} : ∀ {xs : List α} {ys : List β}, Paired F xs ys → (∀ x y, x ∈ xs → F x y → F' x y) → Paired F' xs ys
  | _, _, .nil, _ => .nil
  | _, _, .cons h r, q => .cons (q _ _ (List.mem_cons_self ..) h) (paired_all r fun x y hx => q x y (List.mem_cons_of_mem _ hx))
theorem paired_app {α β : Type} {F : α → β → Prop} : ∀ {xs xs' : List α} {ys ys' : List β}, Paired F xs ys → Paired F xs' ys' → Paired F (xs ++ xs') (ys ++ ys')
  | _, _, _, _, .nil, s => s
  | _, _, _, _, .cons h r, s => .cons h (paired_app r s)
theorem paired_set {α β : Type} {F : α → β → Prop} {y : β} : ∀ {xs : List α} {ys : List β} {i : Nat}, Paired F xs ys → (∀ x, xs[i]? = some x → F x y) → Paired F xs (ys.set i y)
  | _, _, _, .nil, _ => .nil
  | _, _, 0, .cons _ r, q => .cons (q _ rfl) r
  | _, _, i + 1, .cons h r, q => .cons h (paired_set r fun x e => q x (by simpa using e))
theorem Sim.live (s : Sim K G L M H) {a : Addr} (h : a ∈ L) : ∃ o, H a = some o := by
  obtain ⟨i, e⟩ := List.getElem?_of_mem h
  obtain ⟨c, _, z⟩ := paired_ix' s.cl e
  exact CellOk.has z
theorem Sim.cell (s : Sim K G L M H) {n : Nat} {c : Cell} (h : M[n]? = some c) : ∃ a, L[n]? = some a ∧ CellOk K G L H a c := paired_ix s.cl h
/-- a new thing that is no longer changed -/
theorem Sim.new (s : Sim K G L M H) {p : Addr} {o : HO} (hp : H p = none) : Sim K (upd G p o) L M (upd H p o) ∧ Ext G L H (upd G p o) L (upd H p o) := by
  have ne : ∀ a ∈ L, a ≠ p := fun a m z => by
    obtain ⟨o, e⟩ := s.live m
    rw [z, hp] at e
    cases e
  have lg : Le G (upd G p o) := fun a u h => by
    rw [upd_ne (fun z => by have := s.le _ _ h; rw [z, hp] at this; cases this)]
    exact h
  refine ⟨⟨fun a u h => ?_, fun a m => by rw [upd_ne (ne a m)]; exact s.off a m, s.nd, paired_all s.cl fun a c m h => CellOk.mono h lg (List.prefix_refl _) fun u e => by rw [upd_ne (ne a m)]; exact e⟩,
    ⟨lg, fun a u h => ?_, List.prefix_refl _, fun a m => .inl m, fun a u _ h => by rw [upd_ne (ne_of_none h hp)]; exact h, fun a h => ?_⟩⟩
  · by_cases z : a = p
    · subst z
      rw [upd_same] at h ⊢
      exact h
    · rw [upd_ne z] at h ⊢
      exact s.le a u h
  · by_cases z : a = p
    · subst z
      exact .inr hp
    · rw [upd_ne z] at h
      exact .inl h
  · by_cases z : a = p
    · subst z
      exact hp
    · rw [upd_ne z] at h
      exact h
/-- a new thing nobody asks of -/
theorem Sim.junk (s : Sim K G L M H) {p : Addr} {o : HO} (hp : H p = none) : Sim K G L M (upd H p o) ∧ Ext G L H G L (upd H p o) := by
  have ne : ∀ a ∈ L, a ≠ p := fun a m z => by
    obtain ⟨o, e⟩ := s.live m
    rw [z, hp] at e
    cases e
  refine ⟨⟨fun a u h => ?_, s.off, s.nd, paired_all s.cl fun a c m h => CellOk.mono h Le.refl (List.prefix_refl _) fun u e => by rw [upd_ne (ne a m)]; exact e⟩,
    ⟨Le.refl, fun a u h => .inl h, List.prefix_refl _, fun a m => .inl m, fun a u _ h => by rw [upd_ne (ne_of_none h hp)]; exact h, fun a h => ?_⟩⟩
  · rw [upd_ne (ne_of_none (s.le a u h) hp)]
    exact s.le a u h
  · by_cases z : a = p
    · subst z
      exact hp
    · rw [upd_ne z] at h
      exact h
/-- things may be added -/
theorem Sim.more (s : Sim K G L M H) (m : Same H H') : Sim K G L M H' ∧ Ext G L H G L H' :=
  ⟨⟨fun a u h => m _ _ (s.le a u h), s.off, s.nd, paired_all s.cl fun a c _ h => CellOk.mono h Le.refl (List.prefix_refl _) fun u e => m _ _ e⟩,
    ⟨Le.refl, fun a u h => .inl h, List.prefix_refl _, fun a m => .inl m, fun a u _ h => m _ _ h, fun a h => by
      cases q : H a with
      | none => rfl
      | some u =>
        rw [m _ _ q] at h
        cases h⟩⟩
/-- what was new is known from now on -/
theorem Sim.know {H0 : Hp} (s : Sim K G L M H) {p : Addr} {o : HO} (h0 : H0 p = none) (l0 : ∀ a ∈ L, H0 a ≠ none) (g0 : Le G H0) (hp : H p = some o) (e : Ext G L H0 G L H) : Sim K (upd G p o) L M H ∧ Ext G L H0 (upd G p o) L H := by
  have ne : ∀ a ∈ L, a ≠ p := fun a m z => l0 a m (by rw [z]; exact h0)
  have gp : G p = none := by
    cases q : G p with
    | none => rfl
    | some u =>
      rw [g0 _ _ q] at h0
      cases h0
  have lg : Le G (upd G p o) := fun a u h => by
    rw [upd_ne (fun z => by rw [z, gp] at h; cases h)]
    exact h
  refine ⟨⟨fun a u h => ?_, fun a m => by rw [upd_ne (ne a m)]; exact s.off a m, s.nd, paired_all s.cl fun a c m h => CellOk.mono h lg (List.prefix_refl _) fun u e => e⟩, ⟨lg, fun a u h => ?_, e.l, e.ln, e.fr, e.dm⟩⟩
  · by_cases z : a = p
    · subst z
      rw [upd_same] at h
      cases h
      exact hp
    · rw [upd_ne z] at h
      exact s.le a u h
  · by_cases z : a = p
    · subst z
      exact .inr h0
    · rw [upd_ne z] at h
      exact .inl h
/-- a new place of the memory -/
theorem Sim.alloc (s : Sim K G L M H) {p : Addr} {o : HO} {c : Cell} (hp : H p = none) (hc : CellOk K G (L ++ [p]) (upd H p o) p c) : Sim K G (L ++ [p]) (M ++ [c]) (upd H p o) ∧ Ext G L H G (L ++ [p]) (upd H p o) := by
  obtain ⟨s1, e1⟩ := s.junk (o := o) hp
  have np : p ∉ L := fun m => by
    obtain ⟨o, e⟩ := s.live m
    rw [hp] at e
    cases e
  refine ⟨⟨s1.le, fun a m => ?_, List.nodup_append.mpr ⟨s.nd, List.nodup_cons.mpr ⟨nofun, List.nodup_nil⟩, fun a m b q z => ?_⟩, paired_app (paired_all s1.cl fun a c m h => CellOk.mono h Le.refl (List.prefix_append _ _) fun _ e => e) (.cons hc .nil)⟩,
    ⟨Le.refl, fun a u h => .inl h, List.prefix_append _ _, fun a m => ?_, e1.fr, e1.dm⟩⟩
  · rcases List.mem_append.mp m with m | m
    · exact s.off a m
    · rw [List.mem_singleton.mp m]
      cases q : G p with
      | none => rfl
      | some u =>
        have := s.le _ _ q
        rw [hp] at this
        cases this
  · rw [List.mem_singleton.mp q] at z
    exact np (z ▸ m)
  · rcases List.mem_append.mp m with m | m
    · exact .inl m
    · rw [List.mem_singleton.mp m]
      exact .inr hp
/-- a place is written -/
theorem Sim.put (s : Sim K G L M H) {n : Nat} {a : Addr} {o : HO} {c : Cell} (ha : L[n]? = some a) (hc : CellOk K G L (upd H a o) a c) : Sim K G L (M.set n c) (upd H a o) ∧ Ext G L H G L (upd H a o) := by
  have m := List.mem_of_getElem? ha
  refine ⟨⟨fun b u h => ?_, s.off, s.nd, ?_⟩, ⟨Le.refl, fun a u h => .inl h, List.prefix_refl _, fun a m => .inl m, fun b u n h => ?_, fun b h => ?_⟩⟩
  · rw [upd_ne (fun z => by rw [z, s.off a m] at h; cases h)]
    exact s.le b u h
  · have k : Paired (fun b c' => b ≠ a → CellOk K G L (upd H a o) b c') L M := paired_all s.cl fun b c' _ h z => CellOk.mono h Le.refl (List.prefix_refl _) fun u e => by rw [upd_ne z]; exact e
    have k2 : Paired (fun b c' => CellOk K G L (upd H a o) b c' ∨ b = a) L M := paired_all k fun b c' _ h => by
      by_cases z : b = a
      · exact .inr z
      · exact .inl (h z)
    clear k
    have nd := s.nd
    have key : ∀ {l : List Addr} {m : Mem} {n : Nat}, Paired (fun b c' => CellOk K G L (upd H a o) b c' ∨ b = a) l m → l.Nodup → l[n]? = some a → Paired (CellOk K G L (upd H a o)) l (m.set n c) := by
      intro l m n q nd e
      induction q generalizing n with
      | nil => exact .nil
      | @cons x y xs ys h r ih =>
        obtain ⟨n1, n2⟩ := List.nodup_cons.mp nd
        cases n with
        | zero =>
          simp at e
          subst e
          exact .cons hc (paired_all r fun b c' mm h => h.elim id fun z => absurd (z ▸ mm) n1)
        | succ n =>
          have e' : xs[n]? = some a := by simpa using e
          refine .cons (h.elim id fun z => absurd (z ▸ List.mem_of_getElem? e') n1) (ih n2 e')
    exact key k2 nd ha
  · rw [upd_ne (fun z => n (by rw [z]; exact m))]
    exact h
  · by_cases z : b = a
    · subst z
      rw [upd_same] at h
      cases h
    · rw [upd_ne z] at h
      exact h
end
end PU

set_option maxRecDepth 100000
set_option maxHeartbeats 4000000
/-! readings of the layer, from what is said of trees -/
namespace PU
open PySem PySem.Spec PyProof.Rows L2 WU
abbrev KW := W → Mem → Prop
abbrev XW := Addr → List (Str × D) → Mem → Prop
abbrev BK := Bool → Mem → Prop
abbrev AK := List W → Mem → Prop
abbrev IK := List D → (Mem → Prop) → Mem → Prop
inductive Fl where
  | nx (ρ : En) (M : Mem) | rt (w : W) (M : Mem) | bk (ρ : En) (M : Mem) | ct (ρ : En) (M : Mem)
abbrev FK := Fl → Prop
abbrev GK := En → Mem → Prop
/-- what follows, by values -/
def Post (K : PySem.W.Frag) (G : Hp) (L : List Addr) (H : Hp) (Q : VK) : KW := fun w M => ∀ G' L' H' v, Ext G L H G' L' H' → Sim K G' L' M H' → RepW K G' L' v w → Q v H'
def PostX (K : PySem.W.Frag) (G : Hp) (L : List Addr) (H : Hp) (E : XK) : XW := fun C fs M => ∀ G' L' H' d vs, Ext G L H G' L' H' → Sim K G' L' M H' → G' d = some (.xd vs) → RepFs K G' vs fs → E (.ref C) (some d) H'
def PostB (K : PySem.W.Frag) (G : Hp) (L : List Addr) (H : Hp) (Q : Bool → Hp → Prop) : BK := fun b M => ∀ G' L' H', Ext G L H G' L' H' → Sim K G' L' M H' → Q b H'
abbrev RepWs (K : PySem.W.Frag) (G : Hp) (L : List Addr) : List V → List W → Prop := Paired (RepW K G L)
def PostA (K : PySem.W.Frag) (G : Hp) (L : List Addr) (H : Hp) (Q : List V → Hp → Prop) : AK := fun ws M => ∀ G' L' H' vs, Ext G L H G' L' H' → Sim K G' L' M H' → RepWs K G' L' vs ws → Q vs H'
/-- an iterator that gives ds while cd holds -/
def ItOk (K : PySem.W.Frag) (G : Hp) (L : List Addr) (J : It) (ds : List D) (cd : Mem → Prop) : Prop := ∀ G2 L2 M2 H2, Le G G2 → L <+: L2 → Sim K G2 L2 M2 H2 → cd M2 → J.stop ds.length H2 ∧ ∀ (i : Nat) (d : D), ds[i]? = some d → J.go i H2 ∧
  ∀ x H', J.yld i H2 x H' → (H' = H2 ∧ Rep K G2 x d) ∨ ∃ T o, H2 T = none ∧ H' = upd H2 T o ∧ Rep K (upd G2 T o) x d
def PostI (K : PySem.W.Frag) (G : Hp) (L : List Addr) (H : Hp) (R : It → Hp → Prop) : IK := fun ds cd M => ∀ G' L' H' J, Ext G L H G' L' H' → Sim K G' L' M H' → ItOk K G' L' J ds cd → R J H'
/-- the slots -/
def Sl (K : PySem.W.Frag) (G : Hp) (L : List Addr) (σ : L2.St) (ρ : En) : Prop := σ.length = ρ.length ∧ ∀ (i : Nat) (w : W), ρ[i]? = some (some w) → ∃ v, σ[i]? = some (some v) ∧ RepW K G L v w
def PostG (K : PySem.W.Frag) (G : Hp) (L : List Addr) (H : Hp) (σ : L2.St) (is : List Nat) (Q : L2.St → Hp → Prop) : GK := fun ρ M => ∀ G' L' H' σ', Ext G L H G' L' H' → Sim K G' L' M H' → Sl K G' L' σ' ρ → σ'.length = σ.length → (∀ i, i ∉ is → σ'[i]? = σ[i]?) → Q σ' H'
def PostS (K : PySem.W.Frag) (G : Hp) (L : List Addr) (H : Hp) (D : Ends) : FK
  | .nx ρ M => ∀ G' L' H' σ', Ext G L H G' L' H' → Sim K G' L' M H' → Sl K G' L' σ' ρ → D.nx σ' H'
  | .rt w M => Post K G L H D.rt w M
  | .bk ρ M => ∀ G' L' H' σ', Ext G L H G' L' H' → Sim K G' L' M H' → Sl K G' L' σ' ρ → D.bk σ' H'
  | .ct ρ M => ∀ G' L' H' σ', Ext G L H G' L' H' → Sim K G' L' M H' → Sl K G' L' σ' ρ → D.ct σ' H'
def PostXS (K : PySem.W.Frag) (G : Hp) (L : List Addr) (H : Hp) (Wx : WX) : En → XW := fun ρ C fs M => ∀ G' L' H' σ' d vs, Ext G L H G' L' H' → Sim K G' L' M H' → Sl K G' L' σ' ρ → G' d = some (.xd vs) → RepFs K G' vs fs → Wx (.ref C) (some d) σ' H'
section
variable {K : PySem.W.Frag} {G G' H H' : Hp} {L L' : List Addr} {M : Mem}
theorem Sl.ext {σ : L2.St} {ρ : En} (s : Sl K G L σ ρ) (e : Ext G L H G' L' H') : Sl K G' L' σ ρ := ⟨s.1, fun i w h => let ⟨v, a, b⟩ := s.2 i w h; ⟨v, a, b.ext e⟩⟩
theorem Sl.set {σ : L2.St} {ρ : En} (s : Sl K G L σ ρ) {i : Nat} {v : V} {w : W} (h : RepW K G L v w) : Sl K G L (σ.set i (some v)) (ρ.set i (some w)) := by
  refine ⟨by rw [List.length_set, List.length_set]; exact s.1, fun j u e => ?_⟩
  by_cases z : i = j
  · subst z
    rw [List.getElem?_set_self'] at e
    cases q : ρ[i]? with
    | none =>
      rw [q] at e
      cases e
    | some x =>
      rw [q] at e
      have e' : (some w : Option W) = some u := Option.some.inj e
      cases e'
      refine ⟨v, ?_, h⟩
      have lt : i < σ.length := by rw [s.1]; exact (List.getElem?_eq_some_iff.mp q).1
      rw [List.getElem?_set_self lt]
  · rw [List.getElem?_set_ne z] at e
    obtain ⟨v', a, b⟩ := s.2 j u e
    exact ⟨v', by rw [List.getElem?_set_ne z]; exact a, b⟩
theorem Sl.clear {σ : L2.St} {ρ : En} (s : Sl K G L σ ρ) {i : Nat} : Sl K G L (σ.set i none) (ρ.set i none) := by
  refine ⟨by rw [List.length_set, List.length_set]; exact s.1, fun j u e => ?_⟩
  by_cases z : i = j
  · subst z
    rw [List.getElem?_set_self'] at e
    cases q : ρ[i]? with
    | none =>
      rw [q] at e
      cases e
    | some x =>
      rw [q] at e
      cases e
  · rw [List.getElem?_set_ne z] at e
    obtain ⟨v', a, b⟩ := s.2 j u e
    exact ⟨v', by rw [List.getElem?_set_ne z]; exact a, b⟩
theorem Post.after {Q : VK} {w : W} (h : Post K G L H Q w M) (e : Ext G L H G' L' H') : Post K G' L' H' Q w M := fun _ _ _ _ e2 s r => h _ _ _ _ (e.trans e2) s r
theorem PostX.after {E : XK} {C : Addr} {fs : List (Str × D)} (h : PostX K G L H E C fs M) (e : Ext G L H G' L' H') : PostX K G' L' H' E C fs M := fun _ _ _ _ _ e2 s r => h _ _ _ _ _ (e.trans e2) s r
theorem PostB.after {Q : Bool → Hp → Prop} {b : Bool} (h : PostB K G L H Q b M) (e : Ext G L H G' L' H') : PostB K G' L' H' Q b M := fun _ _ _ e2 s => h _ _ _ (e.trans e2) s
theorem PostA.after {Q : List V → Hp → Prop} {ws : List W} (h : PostA K G L H Q ws M) (e : Ext G L H G' L' H') : PostA K G' L' H' Q ws M := fun _ _ _ _ e2 s r => h _ _ _ _ (e.trans e2) s r
theorem PostI.after {R : It → Hp → Prop} {ds : List D} {cd : Mem → Prop} (h : PostI K G L H R ds cd M) (e : Ext G L H G' L' H') : PostI K G' L' H' R ds cd M := fun _ _ _ _ e2 s r => h _ _ _ _ (e.trans e2) s r
theorem PostS.after {D : Ends} : ∀ {f : Fl}, PostS K G L H D f → Ext G L H G' L' H' → PostS K G' L' H' D f
  | .nx _ _, h, e => fun _ _ _ _ e2 s r => h _ _ _ _ (e.trans e2) s r
  | .rt _ _, h, e => Post.after h e
  | .bk _ _, h, e => fun _ _ _ _ e2 s r => h _ _ _ _ (e.trans e2) s r
  | .ct _ _, h, e => fun _ _ _ _ e2 s r => h _ _ _ _ (e.trans e2) s r
theorem PostXS.after {Wx : WX} {ρ : En} {C : Addr} {fs : List (Str × D)} (h : PostXS K G L H Wx ρ C fs M) (e : Ext G L H G' L' H') : PostXS K G' L' H' Wx ρ C fs M := fun _ _ _ _ _ _ e2 s r => h _ _ _ _ _ _ (e.trans e2) s r
theorem PostXS.ex {Wx : WX} {ρ : En} {σ : L2.St} (s : Sl K G L σ ρ) {C : Addr} {fs : List (Str × D)} (h : PostXS K G L H Wx ρ C fs M) : PostX K G L H (WE Wx σ) C fs M := fun _ _ _ _ _ e2 s2 r => h _ _ _ _ _ _ e2 s2 (s.ext e2) r
end
/-- what holds of the value that is there -/
def ob {α : Type} (o : Option α) (f : α → Prop) : Prop := ∃ a, o = some a ∧ f a
@[simp] theorem ob_some {α : Type} {a : α} {f : α → Prop} : ob (some a) f = f a := by simp [ob]
@[simp] theorem ob_none {α : Type} {f : α → Prop} : ob none f = False := by simp [ob]
theorem ob_of {α : Type} {o : Option α} {a : α} {f : α → Prop} (e : o = some a) (h : f a) : ob o f := ⟨a, e, h⟩
/-- a Bool that a value is -/
def blW : W → Option Bool
  | .d (.bl b) => some b
  | _ => none
@[simp] theorem blW_bl {b : Bool} : blW (.d (.bl b)) = some b := rfl
theorem blW_eq {a : W} {b : Bool} (h : blW a = some b) : a = .d (.bl b) := by
  cases a with
  | p n => cases h
  | d x => cases x <;> first | (cases h; rfl) | cases h
/-! ### the classes -/
abbrev WEx := En → Mem → KW → XW → Prop
abbrev WBx := En → Mem → BK → XW → Prop
abbrev WAx := En → Mem → AK → XW → Prop
abbrev WIx := En → Mem → IK → XW → Prop
abbrev WGx := W → En → Mem → GK → Prop
abbrev WGs := List W → En → Mem → GK → Prop
abbrev WSx := En → Mem → FK → (En → XW) → Prop
class SE (K : PySem.W.Frag) (Wx : WX) (t : TE) (w : outParam WEx) : Prop where
  mono : ∀ {ρ M k k' e e'}, (∀ a m, k a m → k' a m) → (∀ c f m, e c f m → e' c f m) → w ρ M k e → w ρ M k' e'
  ok : ∀ {G L M ρ σ H Q}, Sim K G L M H → Sl K G L σ ρ → w ρ M (Post K G L H Q) (PostX K G L H (WE Wx σ)) → t σ H Q
class SB (K : PySem.W.Frag) (Wx : WX) (t : TT) (w : outParam WBx) : Prop where
  mono : ∀ {ρ M k k' e e'}, (∀ a m, k a m → k' a m) → (∀ c f m, e c f m → e' c f m) → w ρ M k e → w ρ M k' e'
  ok : ∀ {G L M ρ σ H Q}, Sim K G L M H → Sl K G L σ ρ → w ρ M (PostB K G L H Q) (PostX K G L H (WE Wx σ)) → t σ H Q
class SA (K : PySem.W.Frag) (Wx : WX) (t : TA) (w : outParam WAx) : Prop where
  mono : ∀ {ρ M k k' e e'}, (∀ a m, k a m → k' a m) → (∀ c f m, e c f m → e' c f m) → w ρ M k e → w ρ M k' e'
  ok : ∀ {G L M ρ σ H Q}, Sim K G L M H → Sl K G L σ ρ → w ρ M (PostA K G L H Q) (PostX K G L H (WE Wx σ)) → t σ H Q
class SI (K : PySem.W.Frag) (Wx : WX) (t : TI) (w : outParam WIx) : Prop where
  mono : ∀ {ρ M k k' e e'}, (∀ a c m, k a c m → k' a c m) → (∀ c f m, e c f m → e' c f m) → w ρ M k e → w ρ M k' e'
  ok : ∀ {G L M ρ σ H R}, Sim K G L M H → Sl K G L σ ρ → w ρ M (PostI K G L H R) (PostX K G L H (WE Wx σ)) → t σ H R
class SG (K : PySem.W.Frag) (t : TG) (w : outParam WGx) (is : outParam (List Nat)) : Prop where
  mono : ∀ {a ρ M k k'}, (∀ r m, k r m → k' r m) → w a ρ M k → w a ρ M k'
  ok : ∀ {G L M ρ σ H x a Q}, Sim K G L M H → Sl K G L σ ρ → RepW K G L x a → w a ρ M (PostG K G L H σ is Q) → t x σ H Q
class SGs (K : PySem.W.Frag) (t : TGs) (w : outParam WGs) (is : outParam (List Nat)) : Prop where
  mono : ∀ {a ρ M k k'}, (∀ r m, k r m → k' r m) → w a ρ M k → w a ρ M k'
  ok : ∀ {G L M ρ σ H xs as Q}, Sim K G L M H → Sl K G L σ ρ → RepWs K G L xs as → w as ρ M (PostG K G L H σ is Q) → t xs σ H Q
class SS (K : PySem.W.Frag) (Wx : WX) (t : TS) (w : outParam WSx) : Prop where
  mono : ∀ {ρ M k k' e e'}, (∀ a, k a → k' a) → (∀ r c f m, e r c f m → e' r c f m) → w ρ M k e → w ρ M k' e'
  ok : ∀ {G L M ρ σ H D}, Sim K G L M H → Sl K G L σ ρ → w ρ M (PostS K G L H D) (PostXS K G L H Wx) → t D σ H
section
variable {K : PySem.W.Frag} {Wx : WX}
/-! ### names, constants -/
def wVar (i : Nat) : WEx := fun ρ M k _ => ∃ a, ρ[i]? = some (some a) ∧ k a M
def wC (d : D) : WEx := fun _ M k _ => k (.d d) M
instance {i : Nat} : SE K Wx (tVar i) (wVar i) where
  mono := fun hk _ ⟨a, h, q⟩ => ⟨a, h, hk _ _ q⟩
  ok := fun S s ⟨a, h, q⟩ => by
    obtain ⟨v, h1, h2⟩ := s.2 _ _ h
    exact ⟨v, h1, q _ _ _ _ Ext.refl S h2⟩
theorem se_C {v : V} {d : D} (h : ∀ G, Rep K G v d) : SE K Wx (tC v) (wC d) := ⟨fun hk _ q => hk _ _ q, fun {G L M ρ σ H Q} S s q => q _ _ _ _ Ext.refl S (h G)⟩
instance {i : Int} : SE K Wx (tC (.int i)) (wC (.int i)) := se_C fun _ => .int i
instance {b : Bool} : SE K Wx (tC (.bl b)) (wC (.bl b)) := se_C fun _ => .bl b
instance {x : Str} : SE K Wx (tC (.str x)) (wC (.str x)) := se_C fun _ => .str x
instance : SE K Wx (tC .non) (wC .non) := se_C fun _ => .non
instance {a : Addr} : SE K Wx (tC (.ref a)) (wC (.at (.ref a))) := se_C fun _ => .at _
instance {n : String} : SE K Wx (tC (.ty n)) (wC (.at (.ty n))) := se_C fun _ => .at _
/-! ### operations on values -/
abbrev P2 := W → W → Mem → KW → Prop
abbrev P1 := W → Mem → KW → Prop
abbrev Pn := List W → Mem → KW → Prop
def Up (f : KW → Prop) : Prop := ∀ k k', (∀ a m, k a m → k' a m) → f k → f k'
class U2 (p : P2) : Prop where
  up : ∀ a b M, Up (p a b M)
class U1 (p : P1) : Prop where
  up : ∀ a M, Up (p a M)
class Un (p : Pn) : Prop where
  up : ∀ as M, Up (p as M)
def rP2 (K : PySem.W.Frag) (p : P2) : R2 := fun x y H Q => ∃ G L M a b, Sim K G L M H ∧ RepW K G L x a ∧ RepW K G L y b ∧ p a b M (Post K G L H Q)
def rP1 (K : PySem.W.Frag) (p : P1) : V → Hp → VK → Prop := fun x H Q => ∃ G L M a, Sim K G L M H ∧ RepW K G L x a ∧ p a M (Post K G L H Q)
def rPn (K : PySem.W.Frag) (p : Pn) : List V → Hp → VK → Prop := fun xs H Q => ∃ G L M as, Sim K G L M H ∧ RepWs K G L xs as ∧ p as M (Post K G L H Q)
def w2 (p : P2) (wa wb : WEx) : WEx := fun ρ M k e => wa ρ M (fun a M1 => wb ρ M1 (fun b M2 => p a b M2 k) e) e
def w1 (p : P1) (wa : WEx) : WEx := fun ρ M k e => wa ρ M (fun a M1 => p a M1 k) e
def wn (p : Pn) (wa : WAx) : WEx := fun ρ M k e => wa ρ M (fun as M1 => p as M1 k) e
instance {p : P2} {ta tb : TE} {wa wb : WEx} [U2 p] [A : SE K Wx ta wa] [B : SE K Wx tb wb] : SE K Wx (tOp (rP2 K p) ta tb) (w2 p wa wb) where
  mono := fun hk he h => A.mono (fun _ _ q => B.mono (fun _ _ q => U2.up _ _ _ _ _ hk q) he q) he h
  ok := fun S s h => A.ok S s (A.mono (fun a M1 q G1 L1 H1 x e1 S1 r1 => B.ok S1 (s.ext e1) (B.mono (fun b M2 q G2 L2 H2 y e2 S2 r2 => ⟨G2, L2, M2, a, b, S2, r1.ext e2, r2, U2.up _ _ _ _ _ (fun _ _ z => z.after (e1.trans e2)) q⟩) (fun _ _ _ z => z.after e1) q)) (fun _ _ _ z => z) h)
instance {p : P1} {ta : TE} {wa : WEx} [U1 p] [A : SE K Wx ta wa] : SE K Wx (tUn (rP1 K p) ta) (w1 p wa) where
  mono := fun hk he h => A.mono (fun _ _ q => U1.up _ _ _ _ hk q) he h
  ok := fun S s h => A.ok S s (A.mono (fun a M1 q G1 L1 H1 x e1 S1 r1 => ⟨G1, L1, M1, a, S1, r1, U1.up _ _ _ _ (fun _ _ z => z.after e1) q⟩) (fun _ _ _ z => z) h)
instance {p : Pn} {ta : TA} {wa : WAx} [Un p] [A : SA K Wx ta wa] : SE K Wx (tCB (rPn K p) ta) (wn p wa) where
  mono := fun hk he h => A.mono (fun _ _ q => Un.up _ _ _ _ hk q) he h
  ok := fun S s h => A.ok S s (A.mono (fun a M1 q G1 L1 H1 x e1 S1 r1 => ⟨G1, L1, M1, a, S1, r1, Un.up _ _ _ _ (fun _ _ z => z.after e1) q⟩) (fun _ _ _ z => z) h)
/-! ### arguments -/
def wNil : WAx := fun _ M k _ => k [] M
def wCons (wa : WEx) (wr : WAx) : WAx := fun ρ M k e => wa ρ M (fun a M1 => wr ρ M1 (fun as M2 => k (a :: as) M2) e) e
instance : SA K Wx tNil wNil where
  mono := fun hk _ q => hk _ _ q
  ok := fun S s q => q _ _ _ _ Ext.refl S .nil
instance {te : TE} {tr : TA} {we : WEx} {wr : WAx} [A : SE K Wx te we] [B : SA K Wx tr wr] : SA K Wx (tCons te tr) (wCons we wr) where
  mono := fun hk he h => A.mono (fun _ _ q => B.mono (fun _ _ q => hk _ _ q) he q) he h
  ok := fun S s h => A.ok S s (A.mono (fun a M1 q G1 L1 H1 x e1 S1 r1 => B.ok S1 (s.ext e1) (B.mono (fun b M2 q G2 L2 H2 y e2 S2 r2 => q _ _ _ _ (e1.trans e2) S2 (.cons (r1.ext e2) r2)) (fun _ _ _ z => z.after e1) q)) (fun _ _ _ z => z) h)
/-! ### calls of own defs -/
abbrev Con := List W → Mem → KW → XW → Prop
class UC (c : Con) : Prop where
  up : ∀ {ws M k k' e e'}, (∀ a m, k a m → k' a m) → (∀ c f m, e c f m → e' c f m) → c ws M k e → c ws M k' e'
def spP (K : PySem.W.Frag) (c : Con) : Sp := fun vs H Q E => ∃ G L M ws, Sim K G L M H ∧ RepWs K G L vs ws ∧ c ws M (Post K G L H Q) (PostX K G L H E)
def wCall (c : Con) (wa : WAx) : WEx := fun ρ M k e => wa ρ M (fun as M1 => c as M1 k e) e
/-- a call that lets nothing out -/
def wCall0 (c : Con) (wa : WAx) : WEx := fun ρ M k e => wa ρ M (fun as M1 => c as M1 k fun _ _ _ => False) e
instance {c : Con} {ta : TA} {wa : WAx} [UC c] [A : SA K Wx ta wa] : SE K Wx (tCallS (spP K c) (WE Wx) ta) (wCall c wa) where
  mono := fun hk he h => A.mono (fun _ _ q => UC.up hk he q) he h
  ok := fun S s h => A.ok S s (A.mono (fun a M1 q G1 L1 H1 x e1 S1 r1 => ⟨G1, L1, M1, a, S1, r1, UC.up (fun _ _ z => z.after e1) (fun _ _ _ z => z.after e1) q⟩) (fun _ _ _ z => z) h)
instance {c : Con} {ta : TA} {wa : WAx} [UC c] [A : SA K Wx ta wa] : SE K Wx (tCall (spP K c) [] E0 ta) (wCall0 c wa) where
  mono := fun hk he h => A.mono (fun _ _ q => UC.up hk (fun _ _ _ z => z) q) he h
  ok := fun S s h => A.ok S s (A.mono (fun a M1 q G1 L1 H1 x e1 S1 r1 => by
    show spP K c (x ++ []) H1 _ E0
    rw [List.append_nil]
    exact ⟨G1, L1, M1, a, S1, r1, UC.up (fun _ _ z => z.after e1) (fun _ _ _ z => z.elim) q⟩) (fun _ _ _ z => z) h)
/-! ### displays -/
def allD : List W → Option (List D)
  | [] => some []
  | .d x :: r => (allD r).map (x :: ·)
  | .p _ :: _ => none
theorem repWs_all {G : Hp} {L : List Addr} : ∀ {vs : List V} {ws : List W} {ds : List D}, RepWs K G L vs ws → allD ws = some ds → RepAll K G vs ds
  | _, _, _, .nil, h => by
    cases h
    exact .nil
  | _, .d x :: r, _, .cons q t, h => by
    cases e : allD r with
    | none =>
      rw [allD, e] at h
      cases h
    | some l =>
      rw [allD, e] at h
      cases h
      exact .cons q (repWs_all t e)
  | _, .p _ :: _, _, .cons q t, h => by cases h
def wTup (wa : WAx) : WEx := fun ρ M k e => wa ρ M (fun as M1 => ob (allD as) fun ds => ds.length ≤ sizeLine ∧ k (.d (.tup ds)) M1) e
def wLst (wa : WAx) : WEx := fun ρ M k e => wa ρ M (fun as M1 => ob (allD as) fun ds => ds.length ≤ sizeLine ∧ k (.d (.lst ds)) M1) e
/-- a list that is changed later -/
def tOwn (t : TE) : TE := t
theorem pe_own {X : Cx} {e : Expr} {t : TE} (h : PE X e t) : PE X e (tOwn t) := h
def wLstO (wa : WAx) : WEx := fun ρ M k e => wa ρ M (fun as M1 => ob (allD as) fun ds => ds.length ≤ sizeLine ∧ k (.p M1.length) (M1 ++ [.lst ds])) e
instance {ta : TA} {wa : WAx} [A : SA K Wx ta wa] : SE K Wx (tTup ta) (wTup wa) where
  mono := fun hk he h => A.mono (fun _ _ ⟨ds, e, l, q⟩ => ⟨ds, e, l, hk _ _ q⟩) he h
  ok := fun S s h => A.ok S s (A.mono (fun as M1 ⟨ds, e, l, q⟩ G1 L1 H1 vs e1 S1 r1 => by
    have ra := repWs_all r1 e
    refine ⟨by rw [ra.len]; exact l, fun p hp => ?_⟩
    obtain ⟨S2, e2⟩ := S1.new (o := .tup vs) hp
    exact q _ _ _ _ (e1.trans e2) S2 (.tup (.inl upd_same) (ra.mono e2.g))) (fun _ _ _ z => z) h)
instance {ta : TA} {wa : WAx} [A : SA K Wx ta wa] : SE K Wx (tLst ta) (wLst wa) where
  mono := fun hk he h => A.mono (fun _ _ ⟨ds, e, l, q⟩ => ⟨ds, e, l, hk _ _ q⟩) he h
  ok := fun S s h => A.ok S s (A.mono (fun as M1 ⟨ds, e, l, q⟩ G1 L1 H1 vs e1 S1 r1 => by
    have ra := repWs_all r1 e
    refine ⟨by rw [ra.len]; exact l, fun p hp => ?_⟩
    obtain ⟨S2, e2⟩ := S1.new (o := .lst vs) hp
    exact q _ _ _ _ (e1.trans e2) S2 (.lst upd_same (ra.mono e2.g))) (fun _ _ _ z => z) h)
instance {ta : TA} {wa : WAx} [A : SA K Wx ta wa] : SE K Wx (tOwn (tLst ta)) (wLstO wa) where
  mono := fun hk he h => A.mono (fun _ _ ⟨ds, e, l, q⟩ => ⟨ds, e, l, hk _ _ q⟩) he h
  ok := fun S s h => A.ok S s (A.mono (fun as M1 ⟨ds, e, l, q⟩ G1 L1 H1 vs e1 S1 r1 => by
    have ra := repWs_all r1 e
    refine ⟨by rw [ra.len]; exact l, fun p hp => ?_⟩
    obtain ⟨S2, e2⟩ := S1.alloc (o := .lst vs) (c := .lst ds) hp ⟨_, upd_same, ra⟩
    exact q _ _ _ _ (e1.trans e2) S2 ⟨p, by rw [← S1.len, List.getElem?_append_right (Nat.le_refl _), Nat.sub_self]; rfl, rfl⟩) (fun _ _ _ z => z) h)
/-! ### fields -/
def fldW (f : Str) (M : Mem) : W → Option W
  | .d (.ins _ fs) => (fs.lookup f).map .d
  | .p n => match M[n]? with
    | some (.ins _ fs) => fs.lookup f
    | _ => none
  | _ => none
/-- the class of an instance -/
def clsW (M : Mem) : W → Option Addr
  | .d (.ins C _) => some C
  | .p n => match M[n]? with
    | some (.ins C _) => some C
    | _ => none
  | _ => none
def wFld (K : PySem.W.Frag) (wa : WEx) (f : Str) : WEx := fun ρ M k e => wa ρ M (fun a M1 => ob (clsW M1 a) fun C => Cls K C ∧ NoAttr K C f ∧ ob (fldW f M1 a) fun b => k b M1) e
theorem repFW_look {G : Hp} {L : List Addr} {f : Str} {w : W} : ∀ {vs : List (Str × V)} {ws : List (Str × W)}, RepFW K G L vs ws → ws.lookup f = some w → ∃ v, vs.lookup f = some v ∧ RepW K G L v w
  | _, _, .nil, h => by simp at h
  | (g, v) :: _, (g', w') :: _, .cons ⟨q, z⟩ r, e => by
    simp only at q
    subst q
    rw [List.lookup_cons] at e ⊢
    cases q : f == g with
    | true =>
      rw [q] at e
      cases e
      exact ⟨_, rfl, z⟩
    | false =>
      rw [q] at e
      exact repFW_look r e
theorem repFW_no {G : Hp} {L : List Addr} {f : Str} : ∀ {vs : List (Str × V)} {ws : List (Str × W)}, RepFW K G L vs ws → ws.lookup f = none → vs.lookup f = none
  | _, _, .nil, h => rfl
  | (g, v) :: _, (g', w') :: _, .cons ⟨q, z⟩ r, e => by
    simp only at q
    subst q
    rw [List.lookup_cons] at e ⊢
    cases q : f == g with
    | true =>
      rw [q] at e
      cases e
    | false =>
      rw [q] at e
      exact repFW_no r e
theorem ins_at {G H : Hp} {L : List Addr} {M : Mem} {x : V} {a : W} {C : Addr} (S : Sim K G L M H) (r : RepW K G L x a) (h : clsW M a = some C) :
    ∃ p dx fs, x = .ref p ∧ H p = some (.ins C dx fs) ∧ (∀ f b, fldW f M a = some b → ∃ v, fs.lookup f = some v ∧ RepW K G L v b) ∧ ∀ f, fldW f M a = none → fs.lookup f = none := by
  cases a with
  | d y =>
    cases y with
    | ins C' gs =>
      cases h
      cases r with
      | ins h1 h2 =>
        refine ⟨_, _, _, rfl, S.le _ _ h1, fun f b e => ?_, fun f e => ?_⟩
        · cases q : gs.lookup f with
          | none =>
            rw [fldW, q] at e
            cases e
          | some z =>
            rw [fldW, q] at e
            cases e
            exact h2.look q
        · cases q : gs.lookup f with
          | none => exact h2.nolook q
          | some z =>
            rw [fldW, q] at e
            cases e
    | _ => cases h
  | p n =>
    obtain ⟨p, e, rfl⟩ := r
    cases q : M[n]? with
    | none =>
      rw [clsW, q] at h
      cases h
    | some c =>
      obtain ⟨p', e', z⟩ := S.cell q
      rw [e] at e'
      cases e'
      rw [clsW, q] at h
      cases c with
      | lst _ => cases h
      | ins C' gs =>
        cases h
        obtain ⟨dx, vs, hp, rr⟩ := z
        refine ⟨p, dx, vs, rfl, hp, fun f b e => ?_, fun f e => ?_⟩
        · rw [fldW, q] at e
          exact repFW_look rr e
        · rw [fldW, q] at e
          exact repFW_no rr e
instance {ta : TE} {wa : WEx} {f : Str} [A : SE K Wx ta wa] : SE K Wx (tFld K ta f) (wFld K wa f) where
  mono := fun hk he h => A.mono (fun _ _ ⟨C, h1, h2, h3, b, h4, q⟩ => ⟨C, h1, h2, h3, b, h4, hk _ _ q⟩) he h
  ok := fun S s h => A.ok S s (A.mono (fun a M1 ⟨C, h1, h2, h3, b, h4, q⟩ G1 L1 H1 x e1 S1 r1 => by
    obtain ⟨p, dx, fs, rfl, hp, kf, _⟩ := ins_at S1 r1 h1
    obtain ⟨v, lv, rv⟩ := kf _ _ h4
    exact ⟨p, C, dx, fs, v, rfl, hp, h2, h3, lv, q _ _ _ _ e1 S1 rv⟩) (fun _ _ _ z => z) h)
/-! ### tests -/
def wTest (w : WEx) : WBx := fun ρ M k e => w ρ M (fun a M1 => ob (blW a) fun b => k b M1) e
theorem sb_test {t : TE} {w : WEx} [A : SE K Wx t w] {t' : TT} (h : ∀ σ H Q, t σ H (fun x H1 => ∃ c, x = .bl c ∧ Q c H1) → t' σ H Q) : SB K Wx t' (wTest w) where
  mono := fun hk he h => A.mono (fun _ _ ⟨b, e, q⟩ => ⟨b, e, hk _ _ q⟩) he h
  ok := fun S s q => h _ _ _ (A.ok S s (A.mono (fun a M1 ⟨b, e, q⟩ G1 L1 H1 x e1 S1 r1 => by
    obtain rfl := blW_eq e
    cases r1
    exact ⟨b, rfl, q _ _ _ e1 S1⟩) (fun _ _ _ z => z) q))
instance {t : TE} {w : WEx} [A : SE K Wx t w] : SB K Wx (tTest t) (wTest w) := sb_test fun _ _ _ h => h
instance {t : TE} {w : WEx} [A : SE K Wx t w] : SB K Wx (tB t) (wTest w) := sb_test fun _ _ _ h => h
def wAnd (a b : WBx) : WBx := fun ρ M k e => a ρ M (fun c M1 => if c = true then b ρ M1 k e else k false M1) e
def wOr (a b : WBx) : WBx := fun ρ M k e => a ρ M (fun c M1 => if c = true then k true M1 else b ρ M1 k e) e
def wNot (a : WBx) : WBx := fun ρ M k e => a ρ M (fun c M1 => k (!c) M1) e
instance {t u : TT} {a b : WBx} [A : SB K Wx t a] [B : SB K Wx u b] : SB K Wx (tAnd t u) (wAnd a b) where
  mono := fun hk he h => A.mono (fun c _ q => by
    cases c with
    | true => exact B.mono hk he q
    | false => exact hk _ _ q) he h
  ok := fun S s h => A.ok S s (A.mono (fun c M1 q G1 L1 H1 e1 S1 => by
    cases c with
    | true => exact B.ok S1 (s.ext e1) (B.mono (fun _ _ z => z.after e1) (fun _ _ _ z => z.after e1) q)
    | false => exact q _ _ _ e1 S1) (fun _ _ _ z => z) h)
instance {t u : TT} {a b : WBx} [A : SB K Wx t a] [B : SB K Wx u b] : SB K Wx (tOr t u) (wOr a b) where
  mono := fun hk he h => A.mono (fun c _ q => by
    cases c with
    | false => exact B.mono hk he q
    | true => exact hk _ _ q) he h
  ok := fun S s h => A.ok S s (A.mono (fun c M1 q G1 L1 H1 e1 S1 => by
    cases c with
    | false => exact B.ok S1 (s.ext e1) (B.mono (fun _ _ z => z.after e1) (fun _ _ _ z => z.after e1) q)
    | true => exact q _ _ _ e1 S1) (fun _ _ _ z => z) h)
instance {t : TT} {a : WBx} [A : SB K Wx t a] : SB K Wx (tNot t) (wNot a) where
  mono := fun hk he h => A.mono (fun c _ q => hk _ _ q) he h
  ok := fun S s h => A.ok S s (A.mono (fun c M1 q G1 L1 H1 e1 S1 => q _ _ _ e1 S1) (fun _ _ _ z => z) h)
/-- values by and, or, not -/
def wAndV (a b : WEx) : WEx := fun ρ M k e => a ρ M (fun x M1 => ob (blW x) fun c => if c = true then b ρ M1 k e else k (.d (.bl false)) M1) e
def wOrV (a b : WEx) : WEx := fun ρ M k e => a ρ M (fun x M1 => ob (blW x) fun c => if c = true then k (.d (.bl true)) M1 else b ρ M1 k e) e
def wNotV (a : WEx) : WEx := fun ρ M k e => a ρ M (fun x M1 => ob (blW x) fun c => k (.d (.bl (!c))) M1) e
instance {t u : TE} {a b : WEx} [A : SE K Wx t a] [B : SE K Wx u b] : SE K Wx (tAndV t u) (wAndV a b) where
  mono := fun hk he h => A.mono (fun x _ ⟨c, e, q⟩ => ⟨c, e, by
    cases c with
    | true => exact B.mono hk he q
    | false => exact hk _ _ q⟩) he h
  ok := fun S s h => A.ok S s (A.mono (fun x M1 ⟨c, e, q⟩ G1 L1 H1 v e1 S1 r1 => by
    obtain rfl := blW_eq e
    cases r1
    refine ⟨c, rfl, ?_⟩
    cases c with
    | true => exact B.ok S1 (s.ext e1) (B.mono (fun _ _ z => z.after e1) (fun _ _ _ z => z.after e1) q)
    | false => exact q _ _ _ _ e1 S1 (.bl false)) (fun _ _ _ z => z) h)
instance {t u : TE} {a b : WEx} [A : SE K Wx t a] [B : SE K Wx u b] : SE K Wx (tOrV t u) (wOrV a b) where
  mono := fun hk he h => A.mono (fun x _ ⟨c, e, q⟩ => ⟨c, e, by
    cases c with
    | false => exact B.mono hk he q
    | true => exact hk _ _ q⟩) he h
  ok := fun S s h => A.ok S s (A.mono (fun x M1 ⟨c, e, q⟩ G1 L1 H1 v e1 S1 r1 => by
    obtain rfl := blW_eq e
    cases r1
    refine ⟨c, rfl, ?_⟩
    cases c with
    | false => exact B.ok S1 (s.ext e1) (B.mono (fun _ _ z => z.after e1) (fun _ _ _ z => z.after e1) q)
    | true => exact q _ _ _ _ e1 S1 (.bl true)) (fun _ _ _ z => z) h)
instance {t : TE} {a : WEx} [A : SE K Wx t a] : SE K Wx (tNotV t) (wNotV a) where
  mono := fun hk he h => A.mono (fun x _ ⟨c, e, q⟩ => ⟨c, e, hk _ _ q⟩) he h
  ok := fun S s h => A.ok S s (A.mono (fun x M1 ⟨c, e, q⟩ G1 L1 H1 v e1 S1 r1 => by
    obtain rfl := blW_eq e
    cases r1
    exact ⟨c, rfl, q _ _ _ _ e1 S1 (.bl _)⟩) (fun _ _ _ z => z) h)
def wIf (c : WBx) (a b : WEx) : WEx := fun ρ M k e => c ρ M (fun z M1 => if z = true then a ρ M1 k e else b ρ M1 k e) e
instance {t : TT} {ta tb : TE} {c : WBx} {a b : WEx} [C : SB K Wx t c] [A : SE K Wx ta a] [B : SE K Wx tb b] : SE K Wx (tIf t ta tb) (wIf c a b) where
  mono := fun hk he h => C.mono (fun z _ q => by
    cases z with
    | true => exact A.mono hk he q
    | false => exact B.mono hk he q) he h
  ok := fun S s h => C.ok S s (C.mono (fun z M1 q G1 L1 H1 e1 S1 => by
    cases z with
    | true => exact A.ok S1 (s.ext e1) (A.mono (fun _ _ z => z.after e1) (fun _ _ _ z => z.after e1) q)
    | false => exact B.ok S1 (s.ext e1) (B.mono (fun _ _ z => z.after e1) (fun _ _ _ z => z.after e1) q)) (fun _ _ _ z => z) h)
end
end PU

set_option maxRecDepth 100000
set_option maxHeartbeats 8000000
namespace PU
open PySem PySem.Spec PyProof.Rows L2 WU

def ItzM (K : PySem.W.Frag) (a b : Addr) : It :=
  ⟨fun i H => ∃ (xs ys : List V) (x y : V), SqT K H a xs ∧ SqL K H b ys ∧ xs[i]? = some x ∧ ys[i]? = some y,
    fun i H v H' => ∃ T x y, v = .ref T ∧ H T = none ∧ H' = upd H T (.tup [x, y]) ∧ (∀ xs, SqT K H a xs → xs[i]? = some x) ∧ ∀ ys, SqL K H b ys → ys[i]? = some y,
    fun i H => ∃ xs ys : List V, SqT K H a xs ∧ SqL K H b ys ∧ i ≤ xs.length ∧ i ≤ ys.length ∧ (i = xs.length ∨ i = ys.length)⟩
theorem not_two {x y z : Addr} (h1 : x ≠ y) (h2 : x ≠ z) : x ∉ [y, z] := fun h => by
  rw [List.mem_cons, List.mem_singleton] at h
  exact h.elim h1 h2
theorem zsep {z TI TO i1 i2 a b : Addr} (D : ZipApart z TI TO i1 i2 a b) : ZipSep2 z TI TO i1 i2 [i1, a] [i2, b] where
  TIz := D.TIz
  TOz := D.TOz
  TITO := D.TITO
  TIi1 := D.TIi1
  TIi2 := D.TIi2
  mem1 := List.mem_cons_self
  mem2 := List.mem_cons_self
  zf1 := not_two D.i1z.symm D.l1z.symm
  zf2 := not_two D.i2z.symm D.l2z.symm
  Tf1 := not_two D.TOi1 D.l1TO.symm
  Tf2 := not_two D.TOi2 D.l2TO.symm
  sep1_2 := not_two D.i12 D.l2i1.symm
  sep2_1 := not_two D.i12.symm D.l1i2.symm
/-- how the zip of a tuple and a list stands ahead of its k-th turn -/
structure ZSt (z TI TO i1 i2 a b : Addr) (k : Nat) (hp : Heap) : Prop where
  zip : IsZip hp z TI TO .none
  its : IsPair hp TI (.ref i1) (.ref i2)
  out : ∃ x y, IsPair hp TO x y
  fst : hp.IsTupleIter i1 a k
  snd : hp.IsListIter i2 b k
theorem five {z TI TO i1 i2 c : Addr} (h : c ∈ [z, TI, TO, i1, i2]) : c = z ∨ c = TI ∨ c = TO ∨ c = i1 ∨ c = i2 := by
  simpa only [List.mem_cons, List.not_mem_nil, or_false] using h
theorem ZSt.lt {z TI TO i1 i2 a b : Addr} {k : Nat} {hp : Heap} (S : ZSt z TI TO i1 i2 a b k hp) {c : Addr} (h : c ∈ [z, TI, TO, i1, i2]) : c < hp.objs.size := by
  obtain ⟨_, _, ho⟩ := S.out
  obtain ⟨_, h4, _⟩ := S.fst
  obtain ⟨_, h5, _⟩ := S.snd
  rcases five h with q | q | q | q | q <;> rw [q]
  · exact Heap.lt_size S.zip
  · exact Heap.lt_size S.its
  · exact Heap.lt_size ho
  · exact Heap.lt_size h4
  · exact Heap.lt_size h5
theorem turn_zipM {P : Program} {w : World} {K : PySem.W.Frag} {elts : List Expr} {kk : Nat} {tpos : Pos} {a b z TI TO i1 i2 : Addr} (D : ZipApart z TI TO i1 i2 a b) : Turn P w K (.Tuple elts kk tpos) (ItzM K a b) [z, TI, TO, i1, i2] z (ZSt z TI TO i1 i2 a b) where
  mem := List.mem_cons_self
  obj := fun k hp S c hc => by
    obtain ⟨_, _, ho⟩ := S.out
    obtain ⟨o4, h4, _, d4⟩ := S.fst
    obtain ⟨o5, h5, _, d5⟩ := S.snd
    rcases five hc with q | q | q | q | q <;> subst q
    · exact ⟨_, S.zip, fun v => by intro e; cases e⟩
    · exact ⟨_, S.its, fun v => by intro e; cases e⟩
    · exact ⟨_, ho, fun v => by intro e; cases e⟩
    · exact ⟨o4, h4, fun v e => by rw [d4] at e; cases e⟩
    · exact ⟨o5, h5, fun v e => by rw [d5] at e; cases e⟩
  keep := fun k hp hp' S same => by
    obtain ⟨x, y, ho⟩ := S.out
    exact ⟨same _ List.mem_cons_self _ S.zip, same TI (by simp) _ S.its, ⟨x, y, same TO (by simp) _ ho⟩, S.fst.at fun ob => same i1 (by simp) ob, S.snd.at fun ob => same i2 (by simp) ob⟩
  item := by
    intro X eP ew eK calm k pn st sg HH EE inv fp S go
    subst eP ew eK
    obtain ⟨xs, ys, x, y, sx, sy, gx, gy⟩ := go
    obtain ⟨us, rx, px, _⟩ := inv.tuple sx
    obtain ⟨vs, ry, py, _⟩ := inv.list sy
    obtain ⟨ux, hux, rux⟩ := rx.get gx
    obtain ⟨uy, huy, ruy⟩ := ry.get gy
    obtain ⟨_, _, ho⟩ := S.out
    have nh := inv.ok.hd calm
    have D1 := Draws.tuple (prog := X.prog) (w := X.w) (A := X.A.in1) nh i1 a D.l1i1 us.toArray
    have D2 := Draws.list (prog := X.prog) (w := X.w) (A := X.A.in1) nh i2 b D.l2i2 vs.toArray
    have lx : k < us.toArray.size := by rw [List.size_toArray]; exact (List.getElem?_eq_some_iff.mp hux).1
    have ly : k < vs.toArray.size := by rw [List.size_toArray]; exact (List.getElem?_eq_some_iff.mp huy).1
    have zl := S.lt (c := z) List.mem_cons_self
    refine wpAny_pyNext_zipD2_item (zsep D) D1 D2 S.zip S.its ho ⟨S.fst, px⟩ ⟨S.snd, py.isList⟩ lx ly ?_
    intro v1 v2 h1 tk q1 q2 z1 o1 f1 g1 new1 _ rest
    have q1' : us[k]? = some v1 := by simpa using q1
    have q2' : vs[k]? = some v2 := by simpa using q2
    cases hux.symm.trans q1'
    cases huy.symm.trans q2'
    refine ⟨_, rfl, wpAny_letOwnedTupleGo_zip (s := { st with heap := h1, toks := tk }) z1 fun h2 z2 but => ?_⟩
    have tup2 : h2.get? st.heap.objs.size = some { cls := .type "tuple", data := .seq #[ux, uy] } := (but.2 _ (Nat.ne_of_gt zl)).trans new1
    have out : ∀ c o, c ∉ [z, TI, TO, i1, i2] → st.heap.get? c = some o → h2.get? c = some o := fun c o nc ec => by
      have nz : c ≠ z := fun q => nc (by rw [q]; simp)
      have nO : c ≠ TO := fun q => nc (by rw [q]; simp)
      have n1 : c ≠ i1 := fun q => nc (by rw [q]; simp)
      have n2 : c ≠ i2 := fun q => nc (by rw [q]; simp)
      exact (but.2 c nz).trans (rest c o nz nO n1 n2 ec)
    have J : Inv X pn sg (upd HH st.heap.objs.size (.tup [x, y])) { st with heap := h2, toks := tk } :=
      inv.turnedNew (t' := tk) (ch := [z, TI, TO, i1, i2]) out fp (Nat.le_refl _) ⟨by show 2 ≤ sizeLine; decide, [ux, uy], .cons rux (.cons ruy .nil), ⟨_, tup2, rfl, _, rfl⟩⟩
    refine ⟨.ref st.heap.objs.size, _, J, rfl, ⟨_, x, y, rfl, inv.hok.fresh (Nat.le_refl _), rfl, fun l hl => ?_, fun l hl => ?_⟩, ⟨z2, ?_, ⟨ux, uy, ?_⟩, ?_, ?_⟩, fun c hc => ?_⟩
    · rw [inv.tuple_inj hl sx]
      exact gx
    · rw [inv.list_inj hl sy]
      exact gy
    · have e := rest TI _ D.TIz D.TITO D.TIi1 D.TIi2 S.its
      exact (but.2 TI D.TIz).trans e
    · exact (but.2 TO D.TOz).trans o1
    · exact f1.1.at fun ob eo => (but.2 i1 D.i1z).trans eo
    · exact g1.1.at fun ob eo => (but.2 i2 D.i2z).trans eo
    · rw [upd_ne (Nat.ne_of_lt (S.lt hc))]
      exact (fp c hc).1
  done := by
    intro X eP ew eK calm k pn st sg HH EE inv fp S go
    subst eP ew eK
    obtain ⟨xs, ys, sx, sy, l1, l2, fin⟩ := go
    obtain ⟨us, rx, px, _⟩ := inv.tuple sx
    obtain ⟨vs, ry, py, _⟩ := inv.list sy
    obtain ⟨_, _, ho⟩ := S.out
    have nh := inv.ok.hd calm
    have D1 := Draws.tuple (prog := X.prog) (w := X.w) (A := X.A.in1) nh i1 a D.l1i1 us.toArray
    have D2 := Draws.list (prog := X.prog) (w := X.w) (A := X.A.in1) nh i2 b D.l2i2 vs.toArray
    have m1 : us.toArray.size = xs.length := by rw [List.size_toArray, ← rx.length]
    have m2 : vs.toArray.size = ys.length := by rw [List.size_toArray, ← ry.length]
    refine wpAny_pyNext_zipD2_end (zsep D) D1 D2 S.zip S.its ho ⟨S.fst, px⟩ ⟨S.snd, py.isList⟩ (by omega) (by omega) (by omega) fun h1 tk rest => ⟨rfl, ?_⟩
    refine inv.turnedL (t' := tk) (ch := [z, TI, TO, i1, i2]) (fun c o nc ec => ?_) fp
    refine rest c o (fun q => nc ?_) (fun q => nc ?_) (fun q => nc ?_) (fun q => nc ?_) ec <;> rw [q] <;> simp
  self := fun _ _ _ _ _ S go => wpAny_pyIter_zip S.zip go
theorem walk_zipM {K : PySem.W.Frag} {a b : Addr} {xs ys : List V} {n : Nat} (hn : n = min xs.length ys.length) : Walk (ItzM K a b) n (fun H => SqT K H a xs ∧ SqL K H b ys) (YPair (fun i => xs[i]?) (fun i => ys[i]?)) where
  goes := fun i _ hi ⟨sx, sy⟩ => ⟨xs, ys, xs[i]'(by omega), ys[i]'(by omega), sx, sy, List.getElem?_eq_getElem _, List.getElem?_eq_getElem _⟩
  stops := fun _ ⟨sx, sy⟩ => ⟨xs, ys, sx, sy, by omega, by omega, by omega⟩
  yields := fun _ _ _ _ _ ⟨sx, sy⟩ ⟨T, x, y, e, new, eH, fx, fy⟩ => ⟨T, x, y, e, new, eH, fx xs sx, fy ys sy⟩
theorem walk_zipT {K : PySem.W.Frag} {a b : Addr} {xs ys : List V} {n : Nat} (hn : n = min xs.length ys.length) : Walk (RZ.ItzT K a b) n (fun H => SqT K H a xs ∧ SqT K H b ys) (YPair (fun i => xs[i]?) (fun i => ys[i]?)) where
  goes := fun i _ hi ⟨sx, sy⟩ => ⟨xs, ys, xs[i]'(by omega), ys[i]'(by omega), sx, sy, List.getElem?_eq_getElem _, List.getElem?_eq_getElem _⟩
  stops := fun _ ⟨sx, sy⟩ => ⟨xs, ys, sx, sy, by omega⟩
  yields := fun _ _ _ _ _ ⟨sx, sy⟩ ⟨T, x, y, e, new, eH, fx, fy⟩ => ⟨T, x, y, e, new, eH, fx xs sx, fy ys sy⟩
/-! ### zip of a list and a tuple, and of any two -/
def ItzW (K : PySem.W.Frag) (a b : Addr) : It :=
  ⟨fun i H => ∃ (xs ys : List V) (x y : V), SqL K H a xs ∧ SqT K H b ys ∧ xs[i]? = some x ∧ ys[i]? = some y,
    fun i H v H' => ∃ T x y, v = .ref T ∧ H T = none ∧ H' = upd H T (.tup [x, y]) ∧ (∀ xs, SqL K H a xs → xs[i]? = some x) ∧ ∀ ys, SqT K H b ys → ys[i]? = some y,
    fun i H => ∃ xs ys : List V, SqL K H a xs ∧ SqT K H b ys ∧ i ≤ xs.length ∧ i ≤ ys.length ∧ (i = xs.length ∨ i = ys.length)⟩
/-- how the zip of a list and a tuple stands ahead of its k-th turn -/
structure ZStW (z TI TO i1 i2 a b : Addr) (k : Nat) (hp : Heap) : Prop where
  zip : IsZip hp z TI TO .none
  its : IsPair hp TI (.ref i1) (.ref i2)
  out : ∃ x y, IsPair hp TO x y
  fst : hp.IsListIter i1 a k
  snd : hp.IsTupleIter i2 b k
theorem ZStW.lt {z TI TO i1 i2 a b : Addr} {k : Nat} {hp : Heap} (S : ZStW z TI TO i1 i2 a b k hp) {c : Addr} (h : c ∈ [z, TI, TO, i1, i2]) : c < hp.objs.size := by
  obtain ⟨_, _, ho⟩ := S.out
  obtain ⟨_, h4, _⟩ := S.fst
  obtain ⟨_, h5, _⟩ := S.snd
  rcases five h with q | q | q | q | q <;> rw [q]
  · exact Heap.lt_size S.zip
  · exact Heap.lt_size S.its
  · exact Heap.lt_size ho
  · exact Heap.lt_size h4
  · exact Heap.lt_size h5
theorem turn_zipW {P : Program} {w : World} {K : PySem.W.Frag} {elts : List Expr} {kk : Nat} {tpos : Pos} {a b z TI TO i1 i2 : Addr} (D : ZipApart z TI TO i1 i2 a b) : Turn P w K (.Tuple elts kk tpos) (ItzW K a b) [z, TI, TO, i1, i2] z (ZStW z TI TO i1 i2 a b) where
  mem := List.mem_cons_self
  obj := fun k hp S c hc => by
    obtain ⟨_, _, ho⟩ := S.out
    obtain ⟨o4, h4, _, d4⟩ := S.fst
    obtain ⟨o5, h5, _, d5⟩ := S.snd
    rcases five hc with q | q | q | q | q <;> subst q
    · exact ⟨_, S.zip, fun v => by intro e; cases e⟩
    · exact ⟨_, S.its, fun v => by intro e; cases e⟩
    · exact ⟨_, ho, fun v => by intro e; cases e⟩
    · exact ⟨o4, h4, fun v e => by rw [d4] at e; cases e⟩
    · exact ⟨o5, h5, fun v e => by rw [d5] at e; cases e⟩
  keep := fun k hp hp' S same => by
    obtain ⟨x, y, ho⟩ := S.out
    exact ⟨same _ List.mem_cons_self _ S.zip, same TI (by simp) _ S.its, ⟨x, y, same TO (by simp) _ ho⟩, S.fst.at fun ob => same i1 (by simp) ob, S.snd.at fun ob => same i2 (by simp) ob⟩
  item := by
    intro X eP ew eK calm k pn st sg HH EE inv fp S go
    subst eP ew eK
    obtain ⟨xs, ys, x, y, sx, sy, gx, gy⟩ := go
    obtain ⟨us, rx, px, _⟩ := inv.list sx
    obtain ⟨vs, ry, py, _⟩ := inv.tuple sy
    obtain ⟨ux, hux, rux⟩ := rx.get gx
    obtain ⟨uy, huy, ruy⟩ := ry.get gy
    obtain ⟨_, _, ho⟩ := S.out
    have nh := inv.ok.hd calm
    have D1 := Draws.list (prog := X.prog) (w := X.w) (A := X.A.in1) nh i1 a D.l1i1 us.toArray
    have D2 := Draws.tuple (prog := X.prog) (w := X.w) (A := X.A.in1) nh i2 b D.l2i2 vs.toArray
    have lx : k < us.toArray.size := by rw [List.size_toArray]; exact (List.getElem?_eq_some_iff.mp hux).1
    have ly : k < vs.toArray.size := by rw [List.size_toArray]; exact (List.getElem?_eq_some_iff.mp huy).1
    have zl := S.lt (c := z) List.mem_cons_self
    refine wpAny_pyNext_zipD2_item (zsep D) D1 D2 S.zip S.its ho ⟨S.fst, px.isList⟩ ⟨S.snd, py⟩ lx ly ?_
    intro v1 v2 h1 tk q1 q2 z1 o1 f1 g1 new1 _ rest
    have q1' : us[k]? = some v1 := by simpa using q1
    have q2' : vs[k]? = some v2 := by simpa using q2
    cases hux.symm.trans q1'
    cases huy.symm.trans q2'
    refine ⟨_, rfl, wpAny_letOwnedTupleGo_zip (s := { st with heap := h1, toks := tk }) z1 fun h2 z2 but => ?_⟩
    have tup2 : h2.get? st.heap.objs.size = some { cls := .type "tuple", data := .seq #[ux, uy] } := (but.2 _ (Nat.ne_of_gt zl)).trans new1
    have out : ∀ c o, c ∉ [z, TI, TO, i1, i2] → st.heap.get? c = some o → h2.get? c = some o := fun c o nc ec => by
      have nz : c ≠ z := fun q => nc (by rw [q]; simp)
      have nO : c ≠ TO := fun q => nc (by rw [q]; simp)
      have n1 : c ≠ i1 := fun q => nc (by rw [q]; simp)
      have n2 : c ≠ i2 := fun q => nc (by rw [q]; simp)
      exact (but.2 c nz).trans (rest c o nz nO n1 n2 ec)
    have J : Inv X pn sg (upd HH st.heap.objs.size (.tup [x, y])) { st with heap := h2, toks := tk } :=
      inv.turnedNew (t' := tk) (ch := [z, TI, TO, i1, i2]) out fp (Nat.le_refl _) ⟨by show 2 ≤ sizeLine; decide, [ux, uy], .cons rux (.cons ruy .nil), ⟨_, tup2, rfl, _, rfl⟩⟩
    refine ⟨.ref st.heap.objs.size, _, J, rfl, ⟨_, x, y, rfl, inv.hok.fresh (Nat.le_refl _), rfl, fun l hl => ?_, fun l hl => ?_⟩, ⟨z2, ?_, ⟨ux, uy, ?_⟩, ?_, ?_⟩, fun c hc => ?_⟩
    · rw [inv.list_inj hl sx]
      exact gx
    · rw [inv.tuple_inj hl sy]
      exact gy
    · have e := rest TI _ D.TIz D.TITO D.TIi1 D.TIi2 S.its
      exact (but.2 TI D.TIz).trans e
    · exact (but.2 TO D.TOz).trans o1
    · exact f1.1.at fun ob eo => (but.2 i1 D.i1z).trans eo
    · exact g1.1.at fun ob eo => (but.2 i2 D.i2z).trans eo
    · rw [upd_ne (Nat.ne_of_lt (S.lt hc))]
      exact (fp c hc).1
  done := by
    intro X eP ew eK calm k pn st sg HH EE inv fp S go
    subst eP ew eK
    obtain ⟨xs, ys, sx, sy, l1, l2, fin⟩ := go
    obtain ⟨us, rx, px, _⟩ := inv.list sx
    obtain ⟨vs, ry, py, _⟩ := inv.tuple sy
    obtain ⟨_, _, ho⟩ := S.out
    have nh := inv.ok.hd calm
    have D1 := Draws.list (prog := X.prog) (w := X.w) (A := X.A.in1) nh i1 a D.l1i1 us.toArray
    have D2 := Draws.tuple (prog := X.prog) (w := X.w) (A := X.A.in1) nh i2 b D.l2i2 vs.toArray
    have m1 : us.toArray.size = xs.length := by rw [List.size_toArray, ← rx.length]
    have m2 : vs.toArray.size = ys.length := by rw [List.size_toArray, ← ry.length]
    refine wpAny_pyNext_zipD2_end (zsep D) D1 D2 S.zip S.its ho ⟨S.fst, px.isList⟩ ⟨S.snd, py⟩ (by omega) (by omega) (by omega) fun h1 tk rest => ⟨rfl, ?_⟩
    refine inv.turnedL (t' := tk) (ch := [z, TI, TO, i1, i2]) (fun c o nc ec => ?_) fp
    refine rest c o (fun q => nc ?_) (fun q => nc ?_) (fun q => nc ?_) (fun q => nc ?_) ec <;> rw [q] <;> simp
  self := fun _ _ _ _ _ S go => wpAny_pyIter_zip S.zip go
theorem walk_zipW {K : PySem.W.Frag} {a b : Addr} {xs ys : List V} {n : Nat} (hn : n = min xs.length ys.length) : Walk (ItzW K a b) n (fun H => SqL K H a xs ∧ SqT K H b ys) (YPair (fun i => xs[i]?) (fun i => ys[i]?)) where
  goes := fun i _ hi ⟨sx, sy⟩ => ⟨xs, ys, xs[i]'(by omega), ys[i]'(by omega), sx, sy, List.getElem?_eq_getElem _, List.getElem?_eq_getElem _⟩
  stops := fun _ ⟨sx, sy⟩ => ⟨xs, ys, sx, sy, by omega, by omega, by omega⟩
  yields := fun _ _ _ _ _ ⟨sx, sy⟩ ⟨T, x, y, e, new, eH, fx, fy⟩ => ⟨T, x, y, e, new, eH, fx xs sx, fy ys sy⟩
/-- the walk of zip(a, b), each a list or a tuple -/
def Itz4 (K : PySem.W.Frag) (a b : Addr) (k1 k2 : Bool) : It := match k1, k2 with
  | true, true => Itz K a b
  | true, false => ItzW K a b
  | false, true => ItzM K a b
  | false, false => RZ.ItzT K a b
def SqB (K : PySem.W.Frag) (H : Hp) (a : Addr) (xs : List V) : Bool → Prop
  | true => SqL K H a xs
  | false => SqT K H a xs
def iZip4 (K : PySem.W.Frag) (ta : TA) : TI := fun σ H R => ta σ H fun vs H1 => ∃ a b xs ys k1 k2, vs = [.ref a, .ref b] ∧ SqB K H1 a xs k1 ∧ SqB K H1 b ys k2 ∧ R (Itz4 K a b k1 k2) H1
theorem pi_zip4 {X : Cx} {e e2 : Expr} {ta : TA} {p pos tpos : Pos} {elts : List Expr} {kk : Nat} (hg : Gl X "zip") (hm : X.mg "zip" = none) (ha : PA X [e, e2] ta) (hs : starEach [e, e2] X.env = (false, eval e X.env) :: starEach [e2] X.env := by rfl)
    (hpl : (backTo pos (starEach [e2] X.env)).any (·.1) = false := by rfl) : PI X (.Tuple elts kk tpos) (.Call (.Name "zip" p) [e, e2] [] pos) (iZip4 X.K ta) := by
  constructor
  intro pn st sg HH R inv h
  have args := ha.run pos pn st sg HH _ inv h
  refine Call_ (ld_blt inv hg hm boot_zip (callWith_type1 (thn args fun us s1 ⟨ws, H1, J, rel, a, b, xs, ys, k1, k2, ew, sx, sy, q⟩ => ?_) hs hpl))
  subst ew
  obtain ⟨u1, u2, rfl, ra, rb⟩ := Vals.two rel
  cases ra
  cases rb
  have young : ∀ c ∈ [s1.heap.objs.size + 4, s1.heap.objs.size + 2, s1.heap.objs.size + 3, s1.heap.objs.size, s1.heap.objs.size + 1], FpOk X pn H1 c := fun c hc => by
    have up : (s1.heap.objs.size : Nat) ≤ c := by
      rcases five hc with q | q | q | q | q <;> rw [q]
      · exact Nat.le_add_right _ 4
      · exact Nat.le_add_right _ 2
      · exact Nat.le_add_right _ 3
      · exact Nat.le_refl _
      · exact Nat.le_add_right _ 1
    exact J.fpOk up (J.hok.fresh up)
  cases k1 with
  | true =>
    obtain ⟨vx, _, px, _⟩ := J.list sx
    cases k2 with
    | true =>
      obtain ⟨vy, _, py, _⟩ := J.list sy
      refine call_zip_2 px.isList py.isList fun h' hz hTI hTO h1 h2 hsz hk => wpAny_pyIter_zip hz ?_
      exact ⟨s1.heap.objs.size + 4, _, _, _, H1, rfl, J.kept (t' := s1.toks) hk, turn_zip (PySem.W.ktu_apart s1.heap.objs.size a b px.lt py.lt), ⟨hz, hTI, ⟨_, _, hTO⟩, h1, h2⟩, young, q⟩
    | false =>
      obtain ⟨vy, _, py, _⟩ := J.tuple sy
      refine zip_begins2 (begins_list a vx.toArray) (begins_tuple b vy.toArray) px.isList py fun h' hz hI hO f g _ kept => wpAny_pyIter_zip hz ?_
      exact ⟨s1.heap.objs.size + 4, _, _, _, H1, rfl, J.kept (t' := s1.toks) kept, turn_zipW (PySem.W.ktu_apart s1.heap.objs.size a b px.lt py.lt), ⟨hz, hI, ⟨_, _, hO⟩, ⟨_, f, rfl, rfl⟩, ⟨_, g, rfl, rfl⟩⟩, young, q⟩
  | false =>
    obtain ⟨vx, _, px, _⟩ := J.tuple sx
    cases k2 with
    | true =>
      obtain ⟨vy, _, py, _⟩ := J.list sy
      refine zip_begins2 (begins_tuple a vx.toArray) (begins_list b vy.toArray) px py.isList fun h' hz hI hO f g _ kept => wpAny_pyIter_zip hz ?_
      exact ⟨s1.heap.objs.size + 4, _, _, _, H1, rfl, J.kept (t' := s1.toks) kept, turn_zipM (PySem.W.ktu_apart s1.heap.objs.size a b px.lt py.lt), ⟨hz, hI, ⟨_, _, hO⟩, ⟨_, f, rfl, rfl⟩, ⟨_, g, rfl, rfl⟩⟩, young, q⟩
    | false =>
      obtain ⟨vy, _, py, _⟩ := J.tuple sy
      refine RZ.call_zipT (show s1.heap.IsTuple a vx.toArray from px) (show s1.heap.IsTuple b vy.toArray from py) fun h' hz hI hO f g _ kept => wpAny_pyIter_zip hz ?_
      exact ⟨s1.heap.objs.size + 4, _, _, _, H1, rfl, J.kept (t' := s1.toks) kept, RZ.turn_zipT (PySem.W.ktu_apart s1.heap.objs.size a b px.lt py.lt), ⟨hz, hI, ⟨_, _, hO⟩, f, g⟩, young, q⟩
theorem pi_zip4K {X : Cx} {K : PySem.W.Frag} {e e2 : Expr} {ta : TA} {p pos tpos : Pos} {elts : List Expr} {kk : Nat} (hg : Gl X "zip") (hm : X.mg "zip" = none) (ha : PA X [e, e2] ta)
    (hs : starEach [e, e2] X.env = (false, eval e X.env) :: starEach [e2] X.env := by rfl) (hpl : (backTo pos (starEach [e2] X.env)).any (·.1) = false := by rfl) (hK : X.K = K := by rfl) :
    PI X (.Tuple elts kk tpos) (.Call (.Name "zip" p) [e, e2] [] pos) (iZip4 K ta) := hK ▸ pi_zip4 hg hm ha hs hpl
theorem walk_zip4 {K : PySem.W.Frag} {a b : Addr} {xs ys : List V} {n : Nat} {k1 k2 : Bool} (hn : n = min xs.length ys.length) : Walk (Itz4 K a b k1 k2) n (fun H => SqB K H a xs k1 ∧ SqB K H b ys k2) (YPair (fun i => xs[i]?) (fun i => ys[i]?)) := by
  cases k1 with
  | true =>
    cases k2 with
    | true => exact walk_zip hn
    | false => exact walk_zipW hn
  | false =>
    cases k2 with
    | true => exact walk_zipM hn
    | false => exact walk_zipT hn


open AutoSeq1 (wpAny_loadPart')
/-! ### enumerate of a tuple -/
theorem enum_newT (l : Addr) (items : Array Value) (n : Nat) (dct : Option Addr) (sl : Array (Option Value)) :
    Meets (Builtin.«enumerate.__new__» ⟨[.type "enumerate", .ref l], []⟩) (fun _ R s => s.heap.get? l = some { cls := .type "tuple", dict := dct, data := .seq items n, slots := sl } ∧
      R (.ok (.ret (.ref (s.heap.push { cls := .type "tuple_iterator", data := .fields #[.ref l, .int 0 0] }).objs.size)))
        { s with heap := (s.heap.push { cls := .type "tuple_iterator", data := .fields #[.ref l, .int 0 0] }).push { cls := .type "enumerate", data := .fields #[.none, .bool false, .ref s.heap.objs.size, rawInt 0, .none, .none] } }) :=
  .of_wp fun prog w A R s z => by
    obtain ⟨hp, g, d, tk, os⟩ := s
    obtain ⟨at_, fin⟩ := z
    have sub := sub_enumerate
    have tp : Heap.IsTuple (Shared.heap ⟨hp, g, d, tk, os⟩) l items := ⟨_, at_, rfl, n, rfl⟩
    wp_walk using wpAny_loadPart' at_
    refine wpAny_stack_any fun q => wpAny_pure ?_
    split
    · rename_i cl _ _ _ _ _
      cases (cl == Value.type "enumerate") <;> (wp_walk using wpAny_loadPart' at_, wpAny_pyIter_tuple tp; exact ⟨_, rfl, fin⟩)
    · wp_walk using wpAny_loadPart' at_, wpAny_pyIter_tuple tp
      exact ⟨_, rfl, fin⟩

section
variable {prog : Program} {w : World} {A : Around} {E : Value → Shared → Prop} {s : Shared}
theorem call_enumT {l : Addr} {items : Array Value} {Q : Value → Shared → Prop} (tp : s.heap.IsTuple l items)
    (go : ∀ h', IsEnum h' (s.heap.objs.size + 1) s.heap.objs.size 0 .none ∧ h'.IsTupleIter s.heap.objs.size l 0 ∧ (∀ b o, s.heap.get? b = some o → h'.get? b = some o) → Q (.ref (s.heap.objs.size + 1)) { s with heap := h' }) :
    wpAny (model prog w) A (call (.type "enumerate") [.ref l]) Q E s := by
  obtain ⟨⟨c, dct, dt, sl⟩, at_, hc, n, hd⟩ := tp
  obtain rfl : c = .type "tuple" := hc
  obtain rfl : dt = .seq items n := hd
  refine callType_new F.called_enumerate (by decide) (F.typeCall_enumerate_1 _) (F.newCall_enumerate_1 _) (fun ob => F.args_object_init_2 ob _) F.entry_enumerate_new (enum_newT l items n dct sl) ⟨at_, ?_⟩
  have z : (s.heap.push { cls := .type "tuple_iterator", data := .fields #[.ref l, .int 0 0] }).objs.size = s.heap.objs.size + 1 := Heap.size_push ..
  show _ ∧ _
  rw [z]
  have en : IsEnum ((s.heap.push { cls := .type "tuple_iterator", data := .fields #[.ref l, .int 0 0] }).push
      { cls := .type "enumerate", data := .fields #[.none, .bool false, .ref s.heap.objs.size, rawInt 0, .none, .none] }) (s.heap.objs.size + 1) s.heap.objs.size 0 .none := by
    have q := Heap.get?_push_size (s.heap.push { cls := .type "tuple_iterator", data := .fields #[.ref l, .int 0 0] })
      (o := { cls := .type "enumerate", data := .fields #[.none, .bool false, .ref s.heap.objs.size, rawInt 0, .none, .none] }) rfl
    rw [z] at q
    exact q
  exact ⟨⟨_, en, rfl⟩, go _ ⟨en, ⟨_, Heap.get?_push_of_some _ (Heap.get?_push_size _ rfl), rfl, rfl⟩, fun b o x => Heap.get?_push_of_some _ (Heap.get?_push_of_some _ x)⟩⟩
/-- what a tuple's iterator draws -/
theorem drawsT (hh : A.handled = none) {it t : Addr} {items : Array Value} (ne : it ≠ t) : Draws prog w A it [it, t] items.size (fun i x => items[i]? = some x) (fun i h => h.IsTupleIter it t i ∧ h.IsTuple t items) where
  live := fun i h ⟨⟨o, e, _⟩, _⟩ => ⟨o, e⟩
  frame := fun i h h' ⟨⟨o, e, r⟩, u, e2, r2⟩ k => ⟨⟨o, k it (by simp) o e, r⟩, u, k t (by simp) u e2, r2⟩
  item := fun i s Q E hi ⟨a, b⟩ q => PySem.wpAny_nextOf_tuple_item a b (x := items[i]) (Array.getElem?_eq_getElem hi) fun h' a' sb => q _ h' s.toks (Array.getElem?_eq_getElem hi) ⟨a', b.extBut sb.extBut ne.symm⟩ sb
  done := fun s Q E ⟨a, b⟩ q => PySem.wpAny_nextOf_tuple_end hh a b (Array.getElem?_eq_none (Nat.le_refl _)) q
end
/-- the tuple at a as it stands at each turn, each item in a new pair -/
def Itet (K : PySem.W.Frag) (a : Addr) : It :=
  ⟨fun i H => ∃ (xs : List V) (x : V), SqT K H a xs ∧ xs[i]? = some x, fun i H v H' => ∃ T x, v = .ref T ∧ H T = none ∧ H' = upd H T (.tup [.int (i : Nat), x]) ∧ ∀ xs, SqT K H a xs → xs[i]? = some x, fun i H => ∃ xs : List V, SqT K H a xs ∧ xs.length ≤ i⟩

theorem pyNext_enumT_end {prog : Program} {w : World} {A : Around} {E : Value → Shared → Prop} {s : Shared} {e it l : Addr} {i : Nat} {items : Array Value} {old : Value} {Q : Option Value → Shared → Prop} (hh : A.handled = none)
    (en : IsEnum s.heap e it i old) (hit : s.heap.IsTupleIter it l i) (tp : s.heap.IsTuple l items) (past : items[i]? = none) (q : ∀ h', Heap.ExtBut it s.heap h' → Q none { s with heap := h' }) : wpAny (model prog w) A (pyNext (.ref e)) Q E s := by
  have ty : s.TypeIs (.ref e) "enumerate" := ⟨_, en, rfl⟩
  unfold pyNext
  refine wpAny_bind (wpAny_attempt (wpAny_callSpecial?_slot (name := Str.ofString "__next__") ty F.slot_enumerate_next (wpAny_call_entry F.slot_enumerate_next ty F.entry_enumerate_next ?_ (F.args_enumerate_next_1 _))))
  show wpAny _ _ (field (.ref e) 2 >>= _) _ _ _
  refine wpAny_bind (wpAny_field en rfl (x := .ref it) rfl (wpAny_bind (PySem.wpAny_nextOf_tuple_end hh hit tp past fun h' x a b => ?_)))
  obtain ⟨o, ho, hc⟩ := b
  exact wpAny_bind (wpAny_isInstance (T := "StopIteration") (b := true) ⟨o, ho, hc⟩ isSubtype_stop (wpAny_pure (q _ a)))
theorem turn_enumT {P : Program} {w : World} {K : PySem.W.Frag} {elts : List Expr} {kk : Nat} {tpos : Pos} (a e it : Addr) :
    Turn P w K (.Tuple elts kk tpos) (Itet K a) [e, it] e (fun i h => (∃ old, IsEnum h e it ((i : Nat) : Int) old) ∧ h.IsTupleIter it a i ∧ e ≠ it) where
  mem := by simp
  obj := fun i h st b hb => by
    obtain ⟨⟨old, en⟩, ⟨o, ho, _, hd⟩, _⟩ := st
    rcases List.mem_cons.mp hb with z | z
    · rw [z]
      exact ⟨_, en, fun v q => nomatch q⟩
    · rw [List.mem_singleton.mp z]
      exact ⟨o, ho, fun v q => by rw [hd] at q; cases q⟩
  keep := fun i h h' ⟨⟨old, en⟩, hi, ne⟩ k => ⟨⟨old, k e (by simp) _ en⟩, hi.at fun o q => k it (by simp) o q, ne⟩
  item := by
    intro Y eP ew eK hc i pn st sg G E inv hf ⟨⟨old, en⟩, hit, ne⟩ ⟨xs, x, sq, gx⟩
    subst eP ew eK
    obtain ⟨us, rus, pus, _⟩ := inv.tuple sq
    obtain ⟨u, hu, ru⟩ := rus.get gx
    obtain ⟨ot, et, ct, nt, dt⟩ := id pus
    obtain ⟨oi, ei, ci, di⟩ := id hit
    have n1 : it ≠ a := fun z => by
      rw [z] at ei
      rw [Option.some.inj (ei.symm.trans et), ct] at ci
      exact absurd (Value.type.inj ci) (by decide)
    have n2 : e ≠ a := fun z => by
      rw [z] at en
      rw [Option.some.inj (et.symm.trans en)] at ct
      exact absurd (Value.type.inj ct) (by decide)
    have le : e < st.heap.objs.size := Heap.lt_size en
    have li : it < st.heap.objs.size := Heap.lt_size ei
    have hil : i < us.toArray.size := by
      have := (List.getElem?_eq_some_iff.mp hu).1
      simpa using this
    refine wpAny_pyNext_enum_itemD (drawsT (prog := Y.prog) (w := Y.w) (A := Y.A.in1) (items := us.toArray) (show Y.A.in1.handled = none from inv.ok.hd hc) n1) en ⟨hit, ot, et, ct, nt, dt⟩ hil ne (by simp [ne, n2]) fun y h' tk py ho hst hT hsz hk => ?_
    obtain rfl : y = u := by
      have q : us[i]? = some y := by simpa using py
      exact Option.some.inj (q.symm.trans hu)
    refine ⟨_, rfl, wpAny_letOwnedTupleGo_enum (s := { st with heap := h', toks := tk + 1 }) ho fun h2 he2 sb => ?_⟩
    have hT2 : h2.get? st.heap.objs.size = some { cls := .type "tuple", data := .seq #[.int i tk, y] } := (sb.2 _ (Nat.ne_of_gt le)).trans hT
    have nw : ObjOk Y.prog Y.w (upd G st.heap.objs.size (.tup [.int (i : Nat), x])) h2 st.heap.objs.size (.tup [.int (i : Nat), x]) := ⟨by show 2 ≤ sizeLine; decide, [.int i tk, y], .cons ⟨_, rfl⟩ (.cons ru .nil), ⟨_, hT2, rfl, _, rfl⟩⟩
    have J : Inv Y pn sg (upd G st.heap.objs.size (.tup [.int (i : Nat), x])) { st with heap := h2, toks := tk + 1 } :=
      inv.turnedNew (ch := [e, it]) (fun b ob hb q => (sb.2 b (fun z => hb (by simp [z]))).trans (hk b ob (fun z => hb (by simp [z])) (fun z => hb (by simp [z])) q)) hf (Nat.le_refl _) nw
    refine ⟨.ref st.heap.objs.size, _, J, rfl, ⟨_, x, rfl, inv.hok.fresh (Nat.le_refl _), rfl, fun ys hy => by rw [inv.tuple_inj hy sq]; exact gx⟩, ⟨⟨y, ?_⟩, hst.1.at fun o q => (sb.2 it (Ne.symm ne)).trans q, ne⟩, fun b hb => ?_⟩
    · rw [show ((i + 1 : Nat) : Int) = (i : Int) + 1 by omega]
      exact he2
    · have lb : b < st.heap.objs.size := by
        rcases List.mem_cons.mp hb with z | z
        · rw [z]; exact le
        · rw [List.mem_singleton.mp z]; exact li
      rw [upd_ne (Nat.ne_of_lt lb)]
      exact (hf b hb).1
  done := by
    intro Y eP ew eK hc i pn st sg G E inv hf ⟨⟨old, en⟩, hit, ne⟩ ⟨xs, sq, le⟩
    subst eP ew eK
    obtain ⟨us, rus, pus, _⟩ := inv.tuple sq
    obtain ⟨ot, et, ct, nt, dt⟩ := id pus
    obtain ⟨oi, ei, ci, di⟩ := id hit
    obtain ⟨f0, f1, f2, f3, f4, f5⟩ := hf it (by simp)
    have ln := rus.length
    refine pyNext_enumT_end (inv.ok.hd hc) en hit ⟨ot, et, ct, nt, dt⟩ (by simp; omega) fun h' eb => ⟨rfl, inv.turned (t' := st.toks) (fun b o hb q => eb b o hb q) f0 f1 f3 f4 f5⟩
  self := fun A i s Q E ⟨⟨_, en⟩, _⟩ q => wpAny_pyIter_enum en q

def iEnumT (K : PySem.W.Frag) (ta : TA) : TI := fun σ H R => ta σ H fun vs H1 => ∃ a xs, vs = [.ref a] ∧ SqT K H1 a xs ∧ R (Itet K a) H1
theorem pi_enumT {X : Cx} {e : Expr} {ta : TA} {p pos tpos : Pos} {elts : List Expr} {kk : Nat} (hg : Gl X "enumerate") (hm : X.mg "enumerate" = none) (ha : PA X [e] ta) (hs : starEach [e] X.env = [(false, eval e X.env)] := by rfl) :
    PI X (.Tuple elts kk tpos) (.Call (.Name "enumerate" p) [e] [] pos) (iEnumT X.K ta) := by
  constructor
  intro pn st sg G R inv h
  refine Call_ (ld_blt inv hg hm boot_enumerate (PyProof.Rows.callWith_type1 (thn (ha.run pos pn st sg G _ inv h) fun us s1 ⟨vs, G1, J1, r1, a, xs, ex, sq, q⟩ => ?_) hs rfl))
  subst ex
  cases r1 with
  | cons r rr =>
    cases rr
    cases r
    obtain ⟨us, rus, pus, _⟩ := J1.tuple sq
    obtain ⟨ot, et, ct, nt, dt⟩ := id pus
    refine call_enumT ⟨ot, et, ct, nt, dt⟩ fun h' ⟨en, hit, hk⟩ => wpAny_pyIter_enum en ?_
    have J2 : Inv X pn sg G1 { s1 with heap := h' } := J1.kept (t' := s1.toks) hk
    refine ⟨s1.heap.objs.size + 1, [s1.heap.objs.size + 1, s1.heap.objs.size], _, _, G1, rfl, J2, turn_enumT a (s1.heap.objs.size + 1) s1.heap.objs.size, ⟨⟨.none, en⟩, hit, Nat.succ_ne_self _⟩, fun b hb => ?_, q⟩
    have le : s1.heap.objs.size ≤ b := by
      rcases List.mem_cons.mp hb with z | z
      · rw [z]
        exact Nat.le_add_right _ _
      · rw [List.mem_singleton.mp z]
        exact Nat.le_refl _
    exact J1.fpOk le (J1.hok.fresh le)
theorem pi_enumTK {X : Cx} {K : PySem.W.Frag} {e : Expr} {ta : TA} {p pos tpos : Pos} {elts : List Expr} {kk : Nat} (hg : Gl X "enumerate") (hm : X.mg "enumerate" = none) (ha : PA X [e] ta) (hs : starEach [e] X.env = [(false, eval e X.env)] := by rfl) (hK : X.K = K := by rfl) :
    PI X (.Tuple elts kk tpos) (.Call (.Name "enumerate" p) [e] [] pos) (iEnumT K ta) := hK ▸ pi_enumT hg hm ha hs
theorem walk_enumT {K : PySem.W.Frag} {a : Addr} {xs : List V} : Walk (Itet K a) xs.length (fun H => SqT K H a xs) (YPair (fun i => some (.int (i : Nat))) (fun i => xs[i]?)) where
  goes := fun i H hi h => ⟨xs, xs[i], h, List.getElem?_eq_getElem hi⟩
  stops := fun H h => ⟨xs, h, Nat.le_refl _⟩
  yields := fun i H x H' hi h ⟨T, y, e, n, eH, f⟩ => ⟨T, _, y, e, n, eH, rfl, f xs h⟩
def ItB (K : PySem.W.Frag) (a : Addr) : Bool → It
  | true => Itl K a
  | false => Itt K a
theorem walk_seqB {K : PySem.W.Frag} {a : Addr} {xs : List V} {k : Bool} : Walk (ItB K a k) xs.length (fun H => SqB K H a xs k) (YAt xs) := by
  cases k with
  | true => exact ⟨fun i H hi h => ⟨xs, xs[i], h, List.getElem?_eq_getElem hi⟩, fun H h => ⟨xs, h, Nat.le_refl _⟩, fun i H x H' hi h y => ⟨y.1, y.2 xs h⟩⟩
  | false => exact ⟨fun i H hi h => ⟨xs, xs[i], h, List.getElem?_eq_getElem hi⟩, fun H h => ⟨xs, h, Nat.le_refl _⟩, fun i H x H' hi h y => ⟨y.1, y.2 xs h⟩⟩
def iSeqB (K : PySem.W.Frag) (tl : TE) : TI := fun σ H R => tl σ H fun x H1 => ∃ a xs k, x = .ref a ∧ SqB K H1 a xs k ∧ R (ItB K a k) H1
theorem pi_seqB {X : Cx} {K : PySem.W.Frag} {tg l : Expr} {tl : TE} (hl : PE X l tl) (hK : X.K = K := by rfl) : PI X tg l (iSeqB K tl) := by
  subst hK
  constructor
  intro pins st σ H R I h
  refine thn (hl.run pins st σ H _ I h) fun v t1 ⟨x, H2, J, rx, a, xs, k, ea, hq, q⟩ => ?_
  subst ea
  cases rx
  have fresh : ∀ b ∈ [t1.heap.objs.size], FpOk X pins H2 b := fun b hb => by
    cases List.mem_singleton.mp hb
    exact J.fpOk (Nat.le_refl _) (J.hok.fresh (Nat.le_refl _))
  cases k with
  | true =>
    obtain ⟨its, rv, pl, _⟩ := J.list hq
    apply wpAny_pyIter_list pl.isList
    exact ⟨_, [t1.heap.objs.size], _, _, H2, rfl, J.kept (t' := t1.toks) fun b o e => Heap.get?_push_of_some _ e, turn_list a _, ⟨_, Heap.get?_push_size _ rfl, rfl, rfl⟩, fresh, q⟩
  | false =>
    obtain ⟨its, rv, pl, _⟩ := J.tuple hq
    apply wpAny_pyIter_tuple (show t1.heap.IsTuple a its.toArray from pl)
    exact ⟨_, [t1.heap.objs.size], _, _, H2, rfl, J.kept (t' := t1.toks) fun b o e => Heap.get?_push_of_some _ e, turn_tuple a _, ⟨_, Heap.get?_push_size _ rfl, rfl, rfl⟩, fresh, q⟩
end PU

set_option maxRecDepth 100000
set_option maxHeartbeats 4000000
/-! walks, targets, comprehensions, statements -/
namespace PU
open PySem PySem.Spec PyProof.Rows L2 WU
section
variable {K : PySem.W.Frag} {Wx : WX}
/-! ### what is walked -/
/-- a sequence's items, by its kind (true: a list) -/
def seqW (M : Mem) : W → Option (Bool × List D)
  | .d (.lst xs) => some (true, xs)
  | .d (.fl xs) => some (true, xs)
  | .d (.tup xs) => some (false, xs)
  | .d (.ft xs) => some (false, xs)
  | .d (.nt xs) => some (false, xs)
  | .p n => match M[n]? with
    | some (.lst xs) => some (true, xs)
    | _ => none
  | _ => none
/-- what must stand for the walk to go on -/
def keepW (a : W) (k : Bool) (xs : List D) : Mem → Prop := match a with
  | .p n => fun M => M[n]? = some (.lst xs)
  | _ => fun _ => True
def wSeq (wa : WEx) : WIx := fun ρ M k e => wa ρ M (fun a M1 => ob (seqW M1 a) fun r => k r.2 (keepW a r.1 r.2) M1) e
theorem seq_at {G H : Hp} {L : List Addr} {M : Mem} {x : V} {a : W} {b : Bool} {ds : List D} (S : Sim K G L M H) (r : RepW K G L x a) (h : seqW M a = some (b, ds)) :
    ∃ c xs, x = .ref c ∧ RepAll K G xs ds ∧ SqB K H c xs b := by
  cases a with
  | d y =>
    cases y with
    | lst l =>
      cases h
      cases r with
      | lst h1 h2 => exact ⟨_, _, rfl, h2, SqL.of (S.le _ _ h1)⟩
    | fl l =>
      cases h
      cases r with
      | fl h1 h2 => exact ⟨_, _, rfl, h2, Le.sqL S.le h1⟩
    | tup l =>
      cases h
      cases r with
      | tup h1 h2 => exact ⟨_, _, rfl, h2, .inl (Le.rd S.le h1)⟩
    | ft l =>
      cases h
      cases r with
      | ft h1 h2 => exact ⟨_, _, rfl, h2, Le.sqT S.le h1⟩
    | nt l =>
      cases h
      cases r with
      | nt h1 _ h2 => exact ⟨_, _, rfl, h2, .inl (.inr ⟨_, S.le _ _ h1⟩)⟩
    | _ => cases h
  | p n =>
    obtain ⟨c, e, rfl⟩ := r
    cases q : M[n]? with
    | none =>
      rw [seqW, q] at h
      cases h
    | some z =>
      obtain ⟨c', e', z'⟩ := S.cell q
      rw [e] at e'
      cases e'
      rw [seqW, q] at h
      cases z with
      | ins _ _ => cases h
      | lst l =>
        cases h
        obtain ⟨vs, hp, rr⟩ := z'
        exact ⟨c, vs, rfl, rr, SqL.of hp⟩
theorem sqB_len {H : Hp} {c : Addr} {xs : List V} {b : Bool} (h : SqB K H c xs b) : SqL K H c xs ∨ SqT K H c xs := by
  cases b with
  | true => exact .inl h
  | false => exact .inr h
/-- it stays so -/
theorem seq_stay {G H G2 H2 : Hp} {L L2 : List Addr} {M M2 : Mem} {x : V} {a : W} {b : Bool} {ds : List D} (S : Sim K G L M H) (r : RepW K G L x a) (h : seqW M a = some (b, ds)) (le : Le G G2) (pl : L <+: L2) (S2 : Sim K G2 L2 M2 H2) (kp : keepW a b ds M2) : seqW M2 a = some (b, ds) := by
  cases a with
  | d y => cases y <;> exact h
  | p n =>
    have e : M2[n]? = some (.lst ds) := kp
    have hb : b = true := by
      cases q : M[n]? with
      | none =>
        rw [seqW, q] at h
        cases h
      | some z =>
        rw [seqW, q] at h
        cases z with
        | ins _ _ => cases h
        | lst l =>
          cases h
          rfl
    rw [seqW, e, hb]
theorem itok_seq {G H : Hp} {L : List Addr} {M : Mem} {c : Addr} {a : W} {b : Bool} {ds : List D} (S : Sim K G L M H) (r : RepW K G L (.ref c) a) (h : seqW M a = some (b, ds)) : ItOk K G L (ItB K c b) ds (keepW a b ds) := by
  intro G2 L2 M2 H2 le pl S2 kp
  have h2 := seq_stay S r h le pl S2 kp
  obtain ⟨c2, xs, e, ra, sq⟩ := seq_at S2 (r.mono le pl) h2
  cases e
  have w : Walk _ xs.length _ _ := walk_seqB (K := K) (a := c) (xs := xs) (k := b)
  refine ⟨by rw [← ra.len]; exact w.stops _ sq, fun i d hd => ?_⟩
  obtain ⟨v, hv, rv⟩ := ra.get hd
  have lt := (List.getElem?_eq_some_iff.mp hv).1
  refine ⟨w.goes i _ lt sq, fun x H' y => ?_⟩
  obtain ⟨e1, e2⟩ := w.yields i _ x H' lt sq y
  rw [hv] at e2
  cases e2
  exact .inl ⟨e1, rv⟩
instance {tl : TE} {wa : WEx} [A : SE K Wx tl wa] : SI K Wx (iSeqB K tl) (wSeq wa) where
  mono := fun hk he h => A.mono (fun _ _ ⟨r, h1, q⟩ => ⟨r, h1, hk _ _ _ q⟩) he h
  ok := fun S s h => A.ok S s (A.mono (fun a M1 ⟨⟨b, xs⟩, h1, q⟩ G1 L1 H1 x e1 S1 r1 => by
    obtain ⟨c, vs, rfl, ra, sq⟩ := seq_at S1 r1 h1
    exact ⟨c, vs, b, rfl, sq, q _ _ _ _ e1 S1 (itok_seq S1 r1 h1)⟩) (fun _ _ _ z => z) h)
def rngD (lo : Int) (n : Nat) : List D := (List.range n).map fun i => .int (lo + (i : Nat))
def int1 : List W → Option Int
  | [.d (.int j)] => some j
  | _ => none
def int2 : List W → Option (Int × Int)
  | [.d (.int i), .d (.int j)] => some (i, j)
  | _ => none
@[simp] theorem int1_j {j : Int} : int1 [.d (.int j)] = some j := rfl
@[simp] theorem int2_j {i j : Int} : int2 [.d (.int i), .d (.int j)] = some (i, j) := rfl
theorem int1_eq {as : List W} {j : Int} (h : int1 as = some j) : as = [.d (.int j)] := by
  unfold int1 at h
  split at h
  · cases h
    rfl
  · cases h
theorem int2_eq {as : List W} {i j : Int} (h : int2 as = some (i, j)) : as = [.d (.int i), .d (.int j)] := by
  unfold int2 at h
  split at h
  · cases h
    rfl
  · cases h
def wRng1 (wa : WAx) : WIx := fun ρ M k e => wa ρ M (fun as M1 => ob (int1 as) fun j => -(2 ^ 62) ≤ j ∧ j < 2 ^ 62 ∧ k (rngD 0 j.toNat) (fun _ => True) M1) e
def wRng2 (wa : WAx) : WIx := fun ρ M k e => wa ρ M (fun as M1 => ob (int2 as) fun r => (-(2 ^ 62) ≤ r.1 ∧ r.1 < 2 ^ 62 ∧ -(2 ^ 62) ≤ r.2 ∧ r.2 < 2 ^ 62) ∧ k (rngD r.1 (r.2 - r.1).toNat) (fun _ => True) M1) e
theorem itok_rng {G : Hp} {L : List Addr} {lo : Int} {n : Nat} {cd : Mem → Prop} : ItOk K G L (Itr lo n) (rngD lo n) cd := by
  intro G2 L2 M2 H2 le pl S2 kp
  have hl : (rngD lo n).length = n := by rw [rngD, List.length_map, List.length_range]
  refine ⟨by rw [hl]; exact Nat.le_refl n, fun i d hd => ?_⟩
  have lt := (List.getElem?_eq_some_iff.mp hd).1
  have e := (List.getElem?_eq_some_iff.mp hd).2
  rw [hl] at lt
  refine ⟨lt, fun x H' y => .inl ⟨y.1, ?_⟩⟩
  rw [y.2]
  rw [← e]
  simp only [rngD, List.getElem_map, List.getElem_range]
  exact .int _
theorem repWs_one {G : Hp} {L : List Addr} {vs : List V} {i : Int} (h : RepWs K G L vs [.d (.int i)]) : vs = [.int i] := by
  cases h with
  | cons h t =>
    cases t
    cases h
    rfl
theorem repWs_two {G : Hp} {L : List Addr} {vs : List V} {i j : Int} (h : RepWs K G L vs [.d (.int i), .d (.int j)]) : vs = [.int i, .int j] := by
  cases h with
  | cons h t =>
    cases h
    rw [repWs_one t]
instance {ta : TA} {wa : WAx} [A : SA K Wx ta wa] : SI K Wx (iRng1 ta) (wRng1 wa) where
  mono := fun hk he h => A.mono (fun _ _ ⟨j, h0, h1, h2, q⟩ => ⟨j, h0, h1, h2, hk _ _ _ q⟩) he h
  ok := fun S s h => A.ok S s (A.mono (fun a M1 ⟨j, h0, h1, h2, q⟩ G1 L1 H1 vs e1 S1 r1 => by
    obtain rfl := int1_eq h0
    exact ⟨j, repWs_one r1, h1, h2, q _ _ _ _ e1 S1 itok_rng⟩) (fun _ _ _ z => z) h)
instance {ta : TA} {wa : WAx} [A : SA K Wx ta wa] : SI K Wx (iRng2 ta) (wRng2 wa) where
  mono := fun hk he h => A.mono (fun _ _ ⟨r, h0, h1, q⟩ => ⟨r, h0, h1, hk _ _ _ q⟩) he h
  ok := fun S s h => A.ok S s (A.mono (fun a M1 ⟨⟨i, j⟩, h0, h1, q⟩ G1 L1 H1 vs e1 S1 r1 => by
    obtain rfl := int2_eq h0
    exact ⟨i, j, repWs_two r1, h1, q _ _ _ _ e1 S1 itok_rng⟩) (fun _ _ _ z => z) h)
def zipD (xs ys : List D) : List D := (xs.zip ys).map fun z => .tup [z.1, z.2]
/-- zip of two sequences of one length -/
def two {α : Type} : List α → Option (α × α)
  | [a, b] => some (a, b)
  | _ => none
@[simp] theorem two_ab {α : Type} {a b : α} : two [a, b] = some (a, b) := rfl
theorem two_eq {α : Type} {as : List α} {a b : α} (h : two as = some (a, b)) : as = [a, b] := by
  unfold two at h
  split at h
  · cases h
    rfl
  · cases h
def wZip (wa : WAx) : WIx := fun ρ M k e => wa ρ M (fun as M1 => ob (two as) fun r => ob (seqW M1 r.1) fun s => ob (seqW M1 r.2) fun s' => k (zipD s.2 s'.2) (fun M2 => keepW r.1 s.1 s.2 M2 ∧ keepW r.2 s'.1 s'.2 M2) M1) e
theorem itok_zip {G H : Hp} {L : List Addr} {M : Mem} {c c' : Addr} {a a' : W} {b b' : Bool} {ds es : List D} (S : Sim K G L M H) (r : RepW K G L (.ref c) a) (r' : RepW K G L (.ref c') a') (h : seqW M a = some (b, ds)) (h' : seqW M a' = some (b', es)) :
    ItOk K G L (Itz4 K c c' b b') (zipD ds es) (fun M2 => keepW a b ds M2 ∧ keepW a' b' es M2) := by
  intro G2 L2 M2 H2 le pl S2 ⟨kp, kp'⟩
  obtain ⟨c2, xs, e, ra, sq⟩ := seq_at S2 (r.mono le pl) (seq_stay S r h le pl S2 kp)
  cases e
  obtain ⟨c2, ys, e, ra', sq'⟩ := seq_at S2 (r'.mono le pl) (seq_stay S r' h' le pl S2 kp')
  cases e
  have l1 := ra.len
  have l2 := ra'.len
  have w := walk_zip4 (K := K) (a := c) (b := c') (xs := xs) (ys := ys) (n := min ds.length es.length) (k1 := b) (k2 := b') (by omega)
  have lz : (zipD ds es).length = min ds.length es.length := by rw [zipD, List.length_map, List.length_zip]
  refine ⟨by rw [lz]; exact w.stops _ ⟨sq, sq'⟩, fun i d hd => ?_⟩
  have lt := (List.getElem?_eq_some_iff.mp hd).1
  rw [lz] at lt
  refine ⟨w.goes i _ lt ⟨sq, sq'⟩, fun x H' y => .inr ?_⟩
  obtain ⟨T, x1, x2, rfl, hT, rfl, g1, g2⟩ := w.yields i _ x H' lt ⟨sq, sq'⟩ y
  obtain ⟨d1, f1, r1⟩ := ra.get' g1
  obtain ⟨d2, f2, r2⟩ := ra'.get' g2
  have ed : d = .tup [d1, d2] := by
    rw [zipD, List.getElem?_map, show (ds.zip es)[i]? = some (d1, d2) from List.getElem?_zip_eq_some.mpr ⟨f1, f2⟩] at hd
    cases hd
    rfl
  subst ed
  obtain ⟨S3, e3⟩ := S2.new (o := .tup [x1, x2]) hT
  exact ⟨T, _, hT, rfl, .tup (.inl upd_same) (.cons (r1.mono e3.g) (.cons (r2.mono e3.g) .nil))⟩
instance {ta : TA} {wa : WAx} [A : SA K Wx ta wa] : SI K Wx (iZip4 K ta) (wZip wa) where
  mono := fun hk he h => A.mono (fun _ _ ⟨r, h0, s, h1, s', h2, q⟩ => ⟨r, h0, s, h1, s', h2, hk _ _ _ q⟩) he h
  ok := fun S s h => A.ok S s (A.mono (fun as M1 ⟨⟨a, a'⟩, h0, ⟨b, xs⟩, h1, ⟨b', ys⟩, h2, q⟩ G1 L1 H1 vs e1 S1 r1 => by
    obtain rfl := two_eq h0
    cases r1 with
    | cons r1 t =>
      cases t with
      | cons r2 t =>
        cases t
        obtain ⟨c, us, rfl, ra, sq⟩ := seq_at S1 r1 h1
        obtain ⟨c', us', rfl, ra', sq'⟩ := seq_at S1 r2 h2
        exact ⟨c, c', us, us', b, b', rfl, sq, sq', q _ _ _ _ e1 S1 (itok_zip S1 r1 r2 h1 h2)⟩) (fun _ _ _ z => z) h)
/-! ### targets -/
def gN (i : Nat) : WGx := fun a ρ M k => k (ρ.set i (some a)) M
def gNil' : WGs := fun as ρ M k => as = [] ∧ k ρ M
def unc {α : Type} : List α → Option (α × List α)
  | a :: r => some (a, r)
  | [] => none
@[simp] theorem unc_c {α : Type} {a : α} {r : List α} : unc (a :: r) = some (a, r) := rfl
def tupW : W → Option (List D)
  | .d (.tup xs) => some xs
  | _ => none
@[simp] theorem tupW_t {xs : List D} : tupW (.d (.tup xs)) = some xs := rfl
theorem tupW_eq {a : W} {xs : List D} (h : tupW a = some xs) : a = .d (.tup xs) := by
  unfold tupW at h
  split at h
  · cases h
    rfl
  · cases h
def gCons' (g : WGx) (gs : WGs) : WGs := fun as ρ M k => ob (unc as) fun p => g p.1 ρ M fun ρ1 M1 => gs p.2 ρ1 M1 k
def gTup' (n : Nat) (gs : WGs) : WGx := fun a ρ M k => ob (tupW a) fun xs => xs.length = n ∧ gs (xs.map .d) ρ M k
instance {i : Nat} : SG K (gName i) (gN i) [i] where
  mono := fun hk h => hk _ _ h
  ok := fun {G L M ρ σ H x a Q} S s r h => h _ _ _ _ Ext.refl S (s.set r) (List.length_set ..) fun j hj => by rw [List.getElem?_set_ne (fun z => hj (by simp [z]))]
instance : SGs K gNil gNil' [] where
  mono := fun hk ⟨e, h⟩ => ⟨e, hk _ _ h⟩
  ok := fun S s r ⟨e, h⟩ => by
    subst e
    cases r
    exact ⟨rfl, h _ _ _ _ Ext.refl S s rfl fun _ _ => rfl⟩
theorem PostG.after {G G' H H' : Hp} {L L' : List Addr} {M : Mem} {σ σ' : L2.St} {is js : List Nat} {Q : L2.St → Hp → Prop} {ρ : En} (h : PostG K G L H σ (is ++ js) Q ρ M) (e : Ext G L H G' L' H') (hl : σ'.length = σ.length) (hs : ∀ i, i ∉ is → σ'[i]? = σ[i]?) : PostG K G' L' H' σ' js Q ρ M := fun _ _ _ _ e2 s r l t => h _ _ _ _ (e.trans e2) s r (l.trans hl) fun i hi => (t i fun z => hi (List.mem_append_right _ z)).trans (hs i fun z => hi (List.mem_append_left _ z))
instance {g : TG} {gs : TGs} {wg : WGx} {ws : WGs} {is js : List Nat} [A : SG K g wg is] [B : SGs K gs ws js] : SGs K (gCons g gs) (gCons' wg ws) (is ++ js) where
  mono := fun hk ⟨p, e, h⟩ => ⟨p, e, A.mono (fun _ _ q => B.mono hk q) h⟩
  ok := fun {G L M ρ σ H xs as Q} S s r ⟨p, e, h⟩ => by
    cases r with
    | nil => cases e
    | cons r t =>
      cases e
      exact ⟨_, _, rfl, A.ok S s r (A.mono (fun ρ1 M1 q G1 L1 H1 σ1 e1 S1 s1 l1 t1 => B.ok S1 s1 (paired_all t fun _ _ _ z => RepW.ext z e1) (B.mono (fun _ _ z => z.after e1 l1 t1) q)) h)⟩
theorem repWs_of {G : Hp} {L : List Addr} : ∀ {vs : List V} {ds : List D}, RepAll K G vs ds → RepWs K G L vs (ds.map .d)
  | _, _, .nil => .nil
  | _, _, .cons h r => .cons h (repWs_of r)
instance {gs : TGs} {ws : WGs} {is : List Nat} {n : Nat} [B : SGs K gs ws is] : SG K (gTup K n gs) (gTup' n ws) is where
  mono := fun hk ⟨xs, e, l, h⟩ => ⟨xs, e, l, B.mono hk h⟩
  ok := fun S s r ⟨xs, e, l, h⟩ => by
    obtain rfl := tupW_eq e
    cases r with
    | tup h1 h2 => exact ⟨_, _, rfl, .inl (Le.rd S.le h1), h2.len.trans l, B.ok S s (repWs_of h2) h⟩
/-! ### [e for x in xs if t] -/
def wipeE (ρ : En) : List Nat → En
  | [] => ρ
  | v :: vs => (wipeE ρ vs).set v none
theorem Sl.wipe {G : Hp} {L : List Addr} {σ : L2.St} {ρ : En} (s : Sl K G L σ ρ) : ∀ vs : List Nat, Sl K G L (wipe σ vs) (wipeE ρ vs)
  | [] => s
  | v :: vs => (Sl.wipe s vs).clear
theorem wipe_at {σ : L2.St} : ∀ {vs : List Nat} {i : Nat}, (_root_.L2.wipe σ vs)[i]? = if i ∈ vs then σ[i]?.map (fun _ => none) else σ[i]?
  | [], i => by simp [_root_.L2.wipe]
  | v :: vs, i => by
    rw [_root_.L2.wipe, List.getElem?_set]
    by_cases z : v = i
    · subst z
      rw [if_pos rfl, if_pos (List.mem_cons_self ..), wipe_length]
      by_cases q : v < σ.length
      · rw [if_pos q, List.getElem?_eq_getElem q]
        rfl
      · rw [if_neg q, List.getElem?_eq_none (by omega)]
        rfl
    · rw [if_neg z, wipe_at]
      have : (i ∈ v :: vs) ↔ i ∈ vs := ⟨fun h => (List.mem_cons.mp h).elim (fun e => absurd e.symm z) id, List.mem_cons_of_mem _⟩
      simp only [this]
theorem wipe_eq {σ σ2 : L2.St} {vs is : List Nat} (hs : ∀ i ∈ is, i ∈ vs) (hl : σ2.length = σ.length) (h : ∀ i, i ∉ is → σ2[i]? = (_root_.L2.wipe σ vs)[i]?) : _root_.L2.wipe σ2 vs = _root_.L2.wipe σ vs := by
  apply List.ext_getElem?
  intro i
  rw [wipe_at, wipe_at]
  by_cases z : i ∈ vs
  · rw [if_pos z, if_pos z]
    by_cases q : i < σ.length
    · rw [List.getElem?_eq_getElem q, List.getElem?_eq_getElem (by omega)]
      rfl
    · rw [List.getElem?_eq_none (by omega), List.getElem?_eq_none (by omega)]
  · rw [if_neg z, if_neg z, h i (fun y => z (hs i y)), wipe_at, if_neg z]
def subB (is vs : List Nat) : Bool := is.all vs.contains
theorem subB_ok {is vs : List Nat} (h : subB is vs = true) : ∀ i ∈ is, i ∈ vs := fun i hi => by
  have := List.all_eq_true.mp h i hi
  simpa using this
/-- the turns of a comprehension: what is made so far grows -/
def lcL (g : WGx) (t : WBx) (w : WEx) (ρ : En) (cd : Mem → Prop) (k : List D → Mem → Prop) : List D → List D → Mem → Prop
  | [], acc, M => cd M ∧ k acc M
  | d :: ds, acc, M => cd M ∧ g (.d d) ρ M fun ρ1 M1 => t ρ1 M1 (fun b M2 => if b = true then w ρ1 M2 (fun y M3 => ∃ z, y = .d z ∧ acc.length < sizeLine ∧ lcL g t w ρ cd k ds (acc ++ [z]) M3) fun _ _ _ => False
    else lcL g t w ρ cd k ds acc M2) fun _ _ _ => False
def wLc (wi : WIx) (g : WGx) (is : List Nat) (t : WBx) (w : WEx) (vs : List Nat) : WEx := fun ρ M k e => subB is vs = true ∧ wi ρ M (fun ds cd M1 => lcL g t w (wipeE ρ vs) cd (fun acc M2 => k (.d (.lst acc)) M2) ds [] M1) e
def wLcO (wi : WIx) (g : WGx) (is : List Nat) (t : WBx) (w : WEx) (vs : List Nat) : WEx := fun ρ M k e => subB is vs = true ∧ wi ρ M (fun ds cd M1 => lcL g t w (wipeE ρ vs) cd (fun acc M2 => k (.p M2.length) (M2 ++ [.lst acc])) ds [] M1) e
def WNo : WX := fun _ _ _ _ => False
theorem lcL_mono {g : WGx} {t : WBx} {w : WEx} {ρ : En} {cd : Mem → Prop} {k k' : List D → Mem → Prop} (hg : ∀ {a ρ M k k'}, (∀ r m, k r m → k' r m) → g a ρ M k → g a ρ M k') (ht : ∀ {ρ M k k' e e'}, (∀ a m, k a m → k' a m) → (∀ c f m, e c f m → e' c f m) → t ρ M k e → t ρ M k' e')
    (hw : ∀ {ρ M k k' e e'}, (∀ a m, k a m → k' a m) → (∀ c f m, e c f m → e' c f m) → w ρ M k e → w ρ M k' e') (hk : ∀ a m, k a m → k' a m) : ∀ (ds acc : List D) (M : Mem), lcL g t w ρ cd k ds acc M → lcL g t w ρ cd k' ds acc M
  | [], _, _, ⟨c, h⟩ => ⟨c, hk _ _ h⟩
  | d :: ds, acc, M, ⟨c, h⟩ => ⟨c, hg (fun ρ1 M1 q => ht (fun b M2 q => by
    cases b with
    | true => exact hw (fun y M3 ⟨z, e, l, q⟩ => ⟨z, e, l, lcL_mono (g := g) (t := t) (w := w) hg ht hw hk ds _ M3 q⟩) (fun _ _ _ z => z) q
    | false => exact lcL_mono (g := g) (t := t) (w := w) hg ht hw hk ds _ M2 q) (fun _ _ _ z => z) q) h⟩
/-- how the list stands while it is made: apart from all else -/
structure Mkl (G0 : Hp) (L0 : List Addr) (H0 : Hp) (K : PySem.W.Frag) (D0 : Addr) (acc : List D) (G : Hp) (L : List Addr) (M : Mem) (H : Hp) : Prop where
  sim : Sim K G L M H
  ext : Ext G0 L0 H0 G L H
  off : G D0 = none
  ol : D0 ∉ L
  at_ : ∃ ys, H D0 = some (.lst ys) ∧ RepAll K G ys acc
theorem Mkl.step {G0 H0 G H G' H' : Hp} {L0 L L' : List Addr} {M M' : Mem} {D0 : Addr} {acc : List D} (m : Mkl G0 L0 H0 K D0 acc G L M H) (e : Ext G L H G' L' H') (S : Sim K G' L' M' H') : Mkl G0 L0 H0 K D0 acc G' L' M' H' := by
  obtain ⟨ys, h, r⟩ := m.at_
  refine ⟨S, m.ext.trans e, ?_, fun z => ?_, ys, e.fr _ _ m.ol h, r.mono e.g⟩
  · cases q : G' D0 with
    | none => rfl
    | some u =>
      rcases e.gn _ _ q with z | z
      · rw [m.off] at z
        cases z
      · rw [h] at z
        cases z
  · rcases e.ln _ z with z | z
    · exact m.ol z
    · rw [h] at z
      cases z
theorem Mkl.put {G0 H0 G H : Hp} {L0 L : List Addr} {M : Mem} {D0 : Addr} {acc : List D} {y : V} {z : D} (hD : H0 D0 = none) (m : Mkl G0 L0 H0 K D0 acc G L M H) (r : Rep K G y z) : ∃ ys, H D0 = some (.lst ys) ∧ ys.length = acc.length ∧ Mkl G0 L0 H0 K D0 (acc ++ [z]) G L M (upd H D0 (.lst (ys ++ [y]))) := by
  obtain ⟨ys, h, ra⟩ := m.at_
  have ne : ∀ a ∈ L, a ≠ D0 := fun a m' e => m.ol (e ▸ m')
  refine ⟨ys, h, ra.len, ⟨⟨fun a u e => ?_, m.sim.off, m.sim.nd, paired_all m.sim.cl fun a c m' q => CellOk.mono q Le.refl (List.prefix_refl _) fun u e => by rw [upd_ne (ne a m')]; exact e⟩, ⟨m.ext.g, m.ext.gn, m.ext.l, m.ext.ln, fun a u n e => ?_, fun a e => ?_⟩, m.off, m.ol, _, upd_same, ra.append (.cons r .nil)⟩⟩
  · rw [upd_ne (fun q => by rw [q, m.off] at e; cases e)]
    exact m.sim.le a u e
  · rw [upd_ne (fun q => by rw [q, hD] at e; cases e)]
    exact m.ext.fr a u n e
  · by_cases q : a = D0
    · subst q
      exact hD
    · rw [upd_ne q] at e
      exact m.ext.dm a e
theorem Mkl.fin {G0 H0 G H : Hp} {L0 L : List Addr} {M : Mem} {D0 : Addr} {acc : List D} (hD : H0 D0 = none) (m : Mkl G0 L0 H0 K D0 acc G L M H) : ∃ G', Ext G0 L0 H0 G' L H ∧ Sim K G' L M H ∧ Rep K G' (.ref D0) (.lst acc) := by
  obtain ⟨ys, h, ra⟩ := m.at_
  have lg : Le G (upd G D0 (.lst ys)) := fun a u e => by
    rw [upd_ne (fun q => by rw [q, m.off] at e; cases e)]
    exact e
  have ne : ∀ a ∈ L, a ≠ D0 := fun a m' e => m.ol (e ▸ m')
  refine ⟨upd G D0 (.lst ys), ⟨fun a u e => lg a u (m.ext.g a u e), fun a u e => ?_, m.ext.l, m.ext.ln, m.ext.fr, m.ext.dm⟩, ⟨fun a u e => ?_, fun a m' => by rw [upd_ne (ne a m')]; exact m.sim.off a m', m.sim.nd, paired_all m.sim.cl fun a c _ q => CellOk.mono q lg (List.prefix_refl _) fun _ e => e⟩, .lst upd_same (ra.mono lg)⟩
  · by_cases q : a = D0
    · subst q
      exact .inr hD
    · rw [upd_ne q] at e
      exact m.ext.gn a u e
  · by_cases q : a = D0
    · subst q
      rw [upd_same] at e
      cases e
      exact h
    · rw [upd_ne q] at e
      exact m.sim.le a u e
theorem Mkl.finO {G0 H0 G H : Hp} {L0 L : List Addr} {M : Mem} {D0 : Addr} {acc : List D} (hD : H0 D0 = none) (m : Mkl G0 L0 H0 K D0 acc G L M H) : Ext G0 L0 H0 G (L ++ [D0]) H ∧ Sim K G (L ++ [D0]) (M ++ [.lst acc]) H ∧ (L ++ [D0])[M.length]? = some D0 := by
  obtain ⟨ys, h, ra⟩ := m.at_
  refine ⟨⟨m.ext.g, m.ext.gn, m.ext.l.trans (List.prefix_append _ _), fun a q => ?_, m.ext.fr, m.ext.dm⟩, ⟨m.sim.le, fun a q => ?_, List.nodup_append.mpr ⟨m.sim.nd, List.nodup_cons.mpr ⟨nofun, List.nodup_nil⟩, fun a q b q' z => ?_⟩, paired_app (paired_all m.sim.cl fun a c _ q => CellOk.mono q Le.refl (List.prefix_append _ _) fun _ e => e) (.cons ⟨ys, h, ra⟩ .nil)⟩, ?_⟩
  · rcases List.mem_append.mp q with q | q
    · exact m.ext.ln a q
    · rw [List.mem_singleton.mp q]
      exact .inr hD
  · rcases List.mem_append.mp q with q | q
    · exact m.sim.off a q
    · rw [List.mem_singleton.mp q]
      exact m.off
  · rw [List.mem_singleton.mp q'] at z
    exact m.ol (z ▸ q)
  · rw [← m.sim.len, List.getElem?_append_right (Nat.le_refl _), Nat.sub_self]
    rfl
theorem lc_run {wi : TI} {g : TG} {wg : WGx} {is : List Nat} {tt : TT} {wt : WBx} {te : TE} {we : WEx} {vs : List Nat} [GG : SG K g wg is] [T : SB K WNo tt wt] [E : SE K WNo te we]
    {G0 : Hp} {L0 : List Addr} {H0 : Hp} {D0 : Addr} {G : Hp} {L : List Addr} {M : Mem} {ρ : En} {σ : L2.St} {H : Hp} {F : Hp → Prop} {Qk : List D → Mem → Prop} {J : It} {ds acc0 : List D} {cd : Mem → Prop} (hD : H0 D0 = none) (m0 : Mkl G0 L0 H0 K D0 acc0 G L M H) (s : Sl K G L σ ρ) (hs : subB is vs = true) (it : ItOk K G L J ds cd)
    (hfin : ∀ acc M2 G2 La H2, Mkl G0 L0 H0 K D0 acc G2 La M2 H2 → Ext G L H G2 La H2 ∨ Ext G0 L0 H0 G2 La H2 → Qk acc M2 → F H2)
    (h : lcL wg wt we (wipeE ρ vs) cd Qk ds acc0 M) : ∃ W : Nat → Nat → Hp → Prop, (∃ m, W 0 m H) ∧ ∀ i m H, W i m H → (J.stop i H ∧ F H) ∨ (J.go i H ∧ ∃ Nx : Hp → Prop, (∀ H', Nx H' → ∃ m', m' < m ∧ W (i + 1) m' H') ∧ ∀ x H', J.yld i H x H' → g x (_root_.L2.wipe σ vs) H' fun σ2 H2 => _root_.L2.wipe σ2 vs = _root_.L2.wipe σ vs ∧ tt σ2 H2 fun b H3 =>
      if b = true then te σ2 H3 fun y H4 => ∃ acc, H4 D0 = some (.lst acc) ∧ acc.length < sizeLine ∧ Nx (upd H4 D0 (.lst (acc ++ [y]))) else Nx H3) := by
  refine ⟨fun i m H2 => m = ds.length - i ∧ i ≤ ds.length ∧ ∃ G2 La M2 acc, Mkl G0 L0 H0 K D0 acc G2 La M2 H2 ∧ Le G G2 ∧ L <+: La ∧ lcL wg wt we (wipeE ρ vs) cd Qk (ds.drop i) acc M2, ⟨ds.length, rfl, Nat.zero_le _, G, L, M, acc0, m0, Le.refl, List.prefix_refl _, h⟩, ?_⟩
  rintro i m H2 ⟨rfl, hi, G2, La, M2, acc, mk, lg, pl, q2⟩
  by_cases lt : i < ds.length
  · rw [List.drop_eq_getElem_cons lt] at q2
    obtain ⟨cdh, q2⟩ := q2
    have hx : ds[i]? = some ds[i] := List.getElem?_eq_getElem lt
    obtain ⟨go, yl⟩ := (it G2 La M2 H2 lg pl mk.sim cdh).2 i _ hx
    refine .inr ⟨go, fun H3 => ∃ m', m' < ds.length - i ∧ m' = ds.length - (i + 1) ∧ ∃ G2 La M2 acc, Mkl G0 L0 H0 K D0 acc G2 La M2 H3 ∧ Le G G2 ∧ L <+: La ∧ lcL wg wt we (wipeE ρ vs) cd Qk (ds.drop (i + 1)) acc M2, fun H3 ⟨m', a, b, c⟩ => ⟨m', a, b, lt, c⟩, fun x H3 hy => ?_⟩
    obtain ⟨G3, e3, S3, r3⟩ : ∃ G3, Ext G2 La H2 G3 La H3 ∧ Sim K G3 La M2 H3 ∧ Rep K G3 x ds[i] := by
      rcases yl x H3 hy with ⟨rfl, r⟩ | ⟨T, o, hT, rfl, r⟩
      · exact ⟨G2, Ext.refl, mk.sim, r⟩
      · obtain ⟨a, b⟩ := mk.sim.new (o := o) hT
        exact ⟨_, b, a, r⟩
    have mk3 := mk.step e3 S3
    have lg3 : Le G G3 := fun a o z => e3.g a o (lg a o z)
    have s3 : Sl K G3 La (_root_.L2.wipe σ vs) (wipeE ρ vs) := Sl.wipe (show Sl K G3 La σ ρ from ⟨s.1, fun i w h => let ⟨v, a, b⟩ := s.2 i w h; ⟨v, a, b.mono lg3 pl⟩⟩) vs
    refine GG.ok S3 s3 (show RepW K G3 La x (.d ds[i]) from r3) (GG.mono (fun ρ1 M4 q G4 L4 H4 σ4 e4 S4 s4 lc tc => ?_) q2)
    refine ⟨wipe_eq (subB_ok hs) (by rw [lc, wipe_length]) tc, ?_⟩
    have mk4 := mk3.step e4 S4
    refine T.ok S4 s4 (T.mono (fun b M5 q G5 L5 H5 e5 S5 => ?_) (fun _ _ _ z => z.elim) q)
    have mk5 := mk4.step e5 S5
    cases b with
    | false => exact ⟨_, by omega, rfl, G5, L5, M5, acc, mk5, fun a o z => e5.g a o (e4.g a o (lg3 a o z)), (pl.trans e4.l).trans e5.l, q⟩
    | true =>
      refine E.ok S5 (s4.ext e5) (E.mono (fun y M6 ⟨z, ez, la, q⟩ G6 L6 H6 v e6 S6 r6 => ?_) (fun _ _ _ z => z.elim) q)
      subst ez
      have mk6 := mk5.step e6 S6
      obtain ⟨ys, hy, hl, mk7⟩ := mk6.put hD r6
      exact ⟨ys, hy, by omega, _, by omega, rfl, G6, L6, M6, acc ++ [z], mk7, fun a o z => e6.g a o (e5.g a o (e4.g a o (lg3 a o z))), ((pl.trans e4.l).trans e5.l).trans e6.l, q⟩
  · have ei : i = ds.length := by omega
    subst ei
    rw [List.drop_length] at q2
    obtain ⟨cdh, q2⟩ := q2
    exact .inl ⟨(it G2 La M2 H2 lg pl mk.sim cdh).1, hfin acc M2 G2 La H2 mk (.inr mk.ext) q2⟩
theorem Mkl.start {G L H : Hp × List Addr × Hp} : True := trivial
theorem mk_start {G H : Hp} {L : List Addr} {M : Mem} {D0 : Addr} (S : Sim K G L M H) (hD : H D0 = none) : Mkl G L H K D0 [] G L M (upd H D0 (.lst [])) := by
  obtain ⟨S2, e2⟩ := S.junk (o := .lst []) hD
  refine ⟨S2, e2, ?_, fun z => ?_, [], upd_same, .nil⟩
  · cases z : G D0 with
    | none => rfl
    | some u =>
      rw [S.le _ _ z] at hD
      cases hD
  · obtain ⟨u, z⟩ := S.live z
    rw [z] at hD
    cases hD
def wYes : WBx := fun _ M k _ => k true M
instance : SB K Wx tYes wYes where
  mono := fun hk _ h => hk _ _ h
  ok := fun S s h => h _ _ _ Ext.refl S
section
variable {wi wi1 : TI} {wwi wwi1 : WIx} {g g1 : TG} {wg wg1 : WGx} {is is1 : List Nat} {tt tt1 : TT} {wt wt1 : WBx} {te : TE} {we : WEx} {vs vs1 : List Nat}
instance [I : SI K Wx wi wwi] [GG : SG K g wg is] [T : SB K WNo tt wt] [E : SE K WNo te we] : SE K Wx (tLc wi g tt te vs) (wLc wwi wg is wt we vs) where
  mono := fun hk he ⟨a, h⟩ => ⟨a, I.mono (fun ds cd M1 q => lcL_mono (g := wg) (t := wt) (w := we) GG.mono T.mono E.mono (fun _ _ z => hk _ _ z) _ _ _ q) he h⟩
  ok := fun {G L M ρ σ H Q} S s ⟨hs, h⟩ => I.ok S s (I.mono (fun ds cd M1 q G1 L1 H1 J e1 S1 it D0 hD0 =>
    lc_run (wi := wi) (wg := wg) (wt := wt) (we := we) (Qk := fun acc M2 => Post K G L H Q (.d (.lst acc)) M2) hD0 (mk_start S1 hD0) (s.ext e1) hs (fun G2 L2 M2 H2 a b c d => it G2 L2 M2 H2 a b c d)
      (fun acc M2 G2 La H2 mk _ q => by
        obtain ⟨G', e', S', r'⟩ := mk.fin hD0
        exact q _ _ _ _ (e1.trans e') S' r') q) (fun _ _ _ z => z) h)
instance [I : SI K Wx wi wwi] [GG : SG K g wg is] [T : SB K WNo tt wt] [E : SE K WNo te we] : SE K Wx (tOwn (tLc wi g tt te vs)) (wLcO wwi wg is wt we vs) where
  mono := fun hk he ⟨a, h⟩ => ⟨a, I.mono (fun ds cd M1 q => lcL_mono (g := wg) (t := wt) (w := we) GG.mono T.mono E.mono (fun _ _ z => hk _ _ z) _ _ _ q) he h⟩
  ok := fun {G L M ρ σ H Q} S s ⟨hs, h⟩ => I.ok S s (I.mono (fun ds cd M1 q G1 L1 H1 J e1 S1 it D0 hD0 =>
    lc_run (wi := wi) (wg := wg) (wt := wt) (we := we) (Qk := fun acc M2 => Post K G L H Q (.p M2.length) (M2 ++ [.lst acc])) hD0 (mk_start S1 hD0) (s.ext e1) hs (fun G2 L2 M2 H2 a b c d => it G2 L2 M2 H2 a b c d)
      (fun acc M2 G2 La H2 mk _ q => by
        obtain ⟨e', S', r'⟩ := mk.finO hD0
        exact q _ _ _ _ (e1.trans e') S' ⟨D0, r', rfl⟩) q) (fun _ _ _ z => z) h)
/-- two for's -/
def lcL2 (g : WGx) (t : WBx) (wi1 : WIx) (g1 : WGx) (t1 : WBx) (w : WEx) (vs1 : List Nat) (ρ : En) (cd : Mem → Prop) (k : List D → Mem → Prop) : List D → List D → Mem → Prop
  | [], acc, M => cd M ∧ k acc M
  | d :: ds, acc, M => cd M ∧ g (.d d) ρ M fun ρ1 M1 => t ρ1 M1 (fun b M2 => if b = true then wi1 ρ1 M2 (fun ds1 cd1 M3 => lcL g1 t1 w (wipeE ρ1 vs1) cd1 (fun acc' M4 => lcL2 g t wi1 g1 t1 w vs1 ρ cd k ds acc' M4) ds1 acc M3) fun _ _ _ => False
    else lcL2 g t wi1 g1 t1 w vs1 ρ cd k ds acc M2) fun _ _ _ => False
def wLc2 (wi : WIx) (g : WGx) (is : List Nat) (t : WBx) (wi1 : WIx) (g1 : WGx) (is1 : List Nat) (t1 : WBx) (w : WEx) (vs vs1 : List Nat) : WEx := fun ρ M k e => subB is vs = true ∧ subB is1 vs1 = true ∧ wi ρ M (fun ds cd M1 => lcL2 g t wi1 g1 t1 w vs1 (wipeE ρ vs) cd (fun acc M2 => k (.d (.lst acc)) M2) ds [] M1) e
theorem lcL2_mono [GG : SG K g wg is] [T : SB K WNo tt wt] [I1 : SI K WNo wi1 wwi1] [GG1 : SG K g1 wg1 is1] [T1 : SB K WNo tt1 wt1] [E : SE K WNo te we] {ρ : En} {cd : Mem → Prop} {k k' : List D → Mem → Prop} (hk : ∀ a m, k a m → k' a m) :
    ∀ (ds acc : List D) (M : Mem), lcL2 wg wt wwi1 wg1 wt1 we vs1 ρ cd k ds acc M → lcL2 wg wt wwi1 wg1 wt1 we vs1 ρ cd k' ds acc M
  | [], _, _, ⟨c, h⟩ => ⟨c, hk _ _ h⟩
  | d :: ds, acc, M, ⟨c, h⟩ => ⟨c, GG.mono (fun ρ1 M1 q => T.mono (fun b M2 q => by
    cases b with
    | true => exact I1.mono (fun ds1 cd1 M3 q => lcL_mono (g := wg1) (t := wt1) (w := we) GG1.mono T1.mono E.mono (fun acc' M4 q => lcL2_mono hk ds acc' M4 q) _ _ _ q) (fun _ _ _ z => z) q
    | false => exact lcL2_mono hk ds _ M2 q) (fun _ _ _ z => z) q) h⟩
instance [I : SI K Wx wi wwi] [GG : SG K g wg is] [T : SB K WNo tt wt] [I1 : SI K WNo wi1 wwi1] [GG1 : SG K g1 wg1 is1] [T1 : SB K WNo tt1 wt1] [E : SE K WNo te we] : SE K Wx (tLc2 wi g tt wi1 g1 tt1 te vs vs1) (wLc2 wwi wg is wt wwi1 wg1 is1 wt1 we vs vs1) where
  mono := fun hk he ⟨a, b, h⟩ => ⟨a, b, I.mono (fun ds cd M1 q => lcL2_mono (K := K) (g := g) (tt := tt) (wi1 := wi1) (g1 := g1) (tt1 := tt1) (te := te) (is := is) (is1 := is1) (fun _ _ z => hk _ _ z) _ _ _ q) he h⟩
  ok := by
    intro G L M ρ σ H Q S s ⟨hs, hs1, h⟩
    refine I.ok S s (I.mono (fun ds cd M1 q G1 L1 H1 J e1 S1 it D0 hD0 => ?_) (fun _ _ _ z => z) h)
    refine ⟨fun i m H2 => m = ds.length - i ∧ i ≤ ds.length ∧ ∃ G2 La M2 acc, Mkl G1 L1 H1 K D0 acc G2 La M2 H2 ∧ lcL2 wg wt wwi1 wg1 wt1 we vs1 (wipeE ρ vs) cd (fun acc M2 => Post K G L H Q (.d (.lst acc)) M2) (ds.drop i) acc M2, ⟨ds.length, rfl, Nat.zero_le _, G1, L1, M1, [], mk_start S1 hD0, q⟩, ?_⟩
    rintro i m H2 ⟨rfl, hi, G2, La, M2, acc, mk, q2⟩
    by_cases lt : i < ds.length
    · rw [List.drop_eq_getElem_cons lt] at q2
      obtain ⟨cdh, q2⟩ := q2
      have hx : ds[i]? = some ds[i] := List.getElem?_eq_getElem lt
      obtain ⟨go, yl⟩ := (it G2 La M2 H2 mk.ext.g mk.ext.l mk.sim cdh).2 i _ hx
      refine .inr ⟨go, fun H3 => ∃ m', m' < ds.length - i ∧ m' = ds.length - (i + 1) ∧ ∃ G2 La M2 acc, Mkl G1 L1 H1 K D0 acc G2 La M2 H3 ∧ lcL2 wg wt wwi1 wg1 wt1 we vs1 (wipeE ρ vs) cd (fun acc M2 => Post K G L H Q (.d (.lst acc)) M2) (ds.drop (i + 1)) acc M2, fun H3 ⟨m', a, b, c⟩ => ⟨m', a, b, lt, c⟩, fun x H3 hy => ?_⟩
      obtain ⟨G3, e3, S3, r3⟩ : ∃ G3, Ext G2 La H2 G3 La H3 ∧ Sim K G3 La M2 H3 ∧ Rep K G3 x ds[i] := by
        rcases yl x H3 hy with ⟨rfl, r⟩ | ⟨T, o, hT, rfl, r⟩
        · exact ⟨G2, Ext.refl, mk.sim, r⟩
        · obtain ⟨a, b⟩ := mk.sim.new (o := o) hT
          exact ⟨_, b, a, r⟩
      have mk3 := mk.step e3 S3
      have s3 : Sl K G3 La (_root_.L2.wipe σ vs) (wipeE ρ vs) := Sl.wipe ((s.ext e1).ext mk3.ext) vs
      refine GG.ok S3 s3 (show RepW K G3 La x (.d ds[i]) from r3) (GG.mono (fun ρ1 M4 q G4 L4 H4 σ4 e4 S4 s4 lc tc => ?_) q2)
      refine ⟨wipe_eq (subB_ok hs) (by rw [lc, wipe_length]) tc, ?_⟩
      have mk4 := mk3.step e4 S4
      refine T.ok S4 s4 (T.mono (fun b M5 q G5 L5 H5 e5 S5 => ?_) (fun _ _ _ z => z.elim) q)
      have mk5 := mk4.step e5 S5
      cases b with
      | false => exact ⟨_, by omega, rfl, G5, L5, M5, acc, mk5, q⟩
      | true =>
        refine I1.ok S5 (s4.ext e5) (I1.mono (fun ds1 cd1 M6 q G6 L6 H6 J1 e6 S6 it1 => ?_) (fun _ _ _ z => z.elim) q)
        have mk6 := mk5.step e6 S6
        refine lc_run (wi := wi1) (wg := wg1) (wt := wt1) (we := we) hD0 mk6 ((s4.ext e5).ext e6) hs1 it1 (fun acc' M7 G7 L7 H7 mk7 _ q => ?_) q
        exact ⟨_, by omega, rfl, G7, L7, M7, acc', mk7, q⟩
    · have ei : i = ds.length := by omega
      subst ei
      rw [List.drop_length] at q2
      obtain ⟨cdh, q2⟩ := q2
      obtain ⟨G', e', S', r'⟩ := mk.fin hD0
      exact .inl ⟨(it G2 La M2 H2 mk.ext.g mk.ext.l mk.sim cdh).1, q2 _ _ _ _ (e1.trans e') S' r'⟩
end
end
end PU

set_option maxRecDepth 100000
set_option maxHeartbeats 4000000
/-! statements, defs -/
namespace PU
open PySem PySem.Spec PyProof.Rows L2 WU
section
variable {K : PySem.W.Frag} {Wx : WX}
def sNext : WSx := fun ρ M k _ => k (.nx ρ M)
def sBreak : WSx := fun ρ M k _ => k (.bk ρ M)
def sCont : WSx := fun ρ M k _ => k (.ct ρ M)
def sNever : WSx := fun _ _ _ _ => False
def sThn (a b : WSx) : WSx := fun ρ M k e => a ρ M (fun f => match f with
  | .nx ρ1 M1 => b ρ1 M1 k e
  | f => k f) e
def sDrop (a : WEx) : WSx := fun ρ M k e => a ρ M (fun _ M1 => k (.nx ρ M1)) (e ρ)
def sRet (a : WEx) : WSx := fun ρ M k e => a ρ M (fun v M1 => k (.rt v M1)) (e ρ)
def sRetN : WSx := fun _ M k _ => k (.rt (.d .non) M)
def sIf (c : WBx) (a b : WSx) : WSx := fun ρ M k e => c ρ M (fun z M1 => if z = true then a ρ M1 k e else b ρ M1 k e) (e ρ)
def sAsg (a : WEx) (g : WGx) : WSx := fun ρ M k e => a ρ M (fun v M1 => g v ρ M1 fun ρ1 M2 => k (.nx ρ1 M2)) (e ρ)
def sAug (i : Nat) (a : WEx) (p : P2) : WSx := fun ρ M k e => ∃ x, ρ[i]? = some (some x) ∧ a ρ M (fun y M1 => p x y M1 fun z M2 => k (.nx (ρ.set i (some z)) M2)) (e ρ)
instance : SS K Wx tNext sNext where
  mono := fun hk _ h => hk _ h
  ok := fun S s h => h _ _ _ _ Ext.refl S s
instance : SS K Wx tBreak sBreak where
  mono := fun hk _ h => hk _ h
  ok := fun S s h => h _ _ _ _ Ext.refl S s
instance : SS K Wx tCont sCont where
  mono := fun hk _ h => hk _ h
  ok := fun S s h => h _ _ _ _ Ext.refl S s
instance : SS K Wx tNever sNever where
  mono := fun _ _ h => h
  ok := fun _ _ h => h.elim
instance {t u : TS} {a b : WSx} [A : SS K Wx t a] [B : SS K Wx u b] : SS K Wx (tSeq t u) (sThn a b) where
  mono := fun hk he h => A.mono (fun f q => by
    cases f with
    | nx ρ1 M1 => exact B.mono hk he q
    | rt w M1 => exact hk _ q
    | bk ρ1 M1 => exact hk _ q
    | ct ρ1 M1 => exact hk _ q) he h
  ok := fun S s h => A.ok S s (A.mono (fun f q => by
    cases f with
    | nx ρ1 M1 => exact fun G1 L1 H1 σ1 e1 S1 s1 => B.ok S1 s1 (B.mono (fun _ z => z.after e1) (fun _ _ _ _ z => z.after e1) q)
    | rt w M1 => exact q
    | bk ρ1 M1 => exact q
    | ct ρ1 M1 => exact q) (fun _ _ _ _ z => z) h)
instance {t : TE} {a : WEx} [A : SE K Wx t a] : SS K Wx (tDrop t) (sDrop a) where
  mono := fun hk he h => A.mono (fun _ _ q => hk _ q) (he _) h
  ok := fun S s h => A.ok S s (A.mono (fun v M1 q G1 L1 H1 x e1 S1 r1 => q _ _ _ _ e1 S1 (s.ext e1)) (fun _ _ _ z => z.ex s) h)
instance {t : TE} {a : WEx} [A : SE K Wx t a] : SS K Wx (tRet t) (sRet a) where
  mono := fun hk he h => A.mono (fun _ _ q => hk _ q) (he _) h
  ok := fun S s h => A.ok S s (A.mono (fun v M1 q => q) (fun _ _ _ z => z.ex s) h)
instance : SS K Wx tRetN sRetN where
  mono := fun hk he h => hk _ h
  ok := fun S s h => h _ _ _ _ Ext.refl S .non
instance {c : TT} {t u : TS} {wc : WBx} {a b : WSx} [C : SB K Wx c wc] [A : SS K Wx t a] [B : SS K Wx u b] : SS K Wx (tIfS c t u) (sIf wc a b) where
  mono := fun hk he h => C.mono (fun z _ q => by
    cases z with
    | true => exact A.mono hk he q
    | false => exact B.mono hk he q) (he _) h
  ok := fun S s h => C.ok S s (C.mono (fun z M1 q G1 L1 H1 e1 S1 => by
    cases z with
    | true => exact A.ok S1 (s.ext e1) (A.mono (fun _ z => z.after e1) (fun _ _ _ _ z => z.after e1) q)
    | false => exact B.ok S1 (s.ext e1) (B.mono (fun _ z => z.after e1) (fun _ _ _ _ z => z.after e1) q)) (fun _ _ _ z => z.ex s) h)
instance {t : TE} {a : WEx} {g : TG} {wg : WGx} {is : List Nat} [A : SE K Wx t a] [GG : SG K g wg is] : SS K Wx (tAsg t g) (sAsg a wg) where
  mono := fun hk he h => A.mono (fun _ _ q => GG.mono (fun _ _ q => hk _ q) q) (he _) h
  ok := fun S s h => A.ok S s (A.mono (fun v M1 q G1 L1 H1 x e1 S1 r1 => GG.ok S1 (s.ext e1) r1 (GG.mono (fun ρ1 M2 q G2 L2 H2 σ2 e2 S2 s2 _ _ => q _ _ _ _ (e1.trans e2) S2 s2) q)) (fun _ _ _ z => z.ex s) h)
instance {i : Nat} {t : TE} {a : WEx} {p : P2} [A : SE K Wx t a] [U2 p] : SS K Wx (tAug i t (rP2 K p)) (sAug i a p) where
  mono := fun hk he ⟨x, hx, h⟩ => ⟨x, hx, A.mono (fun _ _ q => U2.up _ _ _ _ _ (fun _ _ q => hk _ q) q) (he _) h⟩
  ok := fun S s ⟨x, hx, h⟩ => by
    obtain ⟨v, hv, rv⟩ := s.2 _ _ hx
    exact ⟨v, hv, A.ok S s (A.mono (fun y M1 q G1 L1 H1 u e1 S1 r1 => ⟨G1, L1, M1, x, y, S1, rv.ext e1, r1, U2.up _ _ _ _ _ (fun z M2 q G2 L2 H2 w e2 S2 r2 => q _ _ _ _ (e1.trans e2) S2 (((s.ext e1).ext e2).set r2)) q⟩) (fun _ _ _ z => z.ex s) h)⟩
/-! ### for -/
def forL (g : WGx) (b : WSx) (cd : Mem → Prop) (k : FK) (e : En → XW) : List D → En → Mem → Prop
  | [], ρ, M => cd M ∧ k (.nx ρ M)
  | d :: ds, ρ, M => cd M ∧ g (.d d) ρ M fun ρ1 M1 => b ρ1 M1 (fun f => match f with
    | .nx ρ2 M2 => forL g b cd k e ds ρ2 M2
    | .ct ρ2 M2 => forL g b cd k e ds ρ2 M2
    | .bk ρ2 M2 => k (.nx ρ2 M2)
    | .rt w M2 => k (.rt w M2)) e
def sFor (wi : WIx) (g : WGx) (b : WSx) : WSx := fun ρ M k e => wi ρ M (fun ds cd M1 => forL g b cd k e ds ρ M1) (e ρ)
theorem forL_mono {g : WGx} {b : WSx} {cd : Mem → Prop} {k k' : FK} {e e' : En → XW} (hg : ∀ {a ρ M k k'}, (∀ r m, k r m → k' r m) → g a ρ M k → g a ρ M k') (hb : ∀ {ρ M k k' e e'}, (∀ a, k a → k' a) → (∀ r c f m, e r c f m → e' r c f m) → b ρ M k e → b ρ M k' e')
    (hk : ∀ f, k f → k' f) (he : ∀ r c f m, e r c f m → e' r c f m) : ∀ (ds : List D) (ρ : En) (M : Mem), forL g b cd k e ds ρ M → forL g b cd k' e' ds ρ M
  | [], _, _, ⟨c, h⟩ => ⟨c, hk _ h⟩
  | d :: ds, ρ, M, ⟨c, h⟩ => ⟨c, hg (fun ρ1 M1 q => hb (fun f q => by
    cases f with
    | nx ρ2 M2 => exact forL_mono (g := g) (b := b) hg hb hk he ds ρ2 M2 q
    | ct ρ2 M2 => exact forL_mono (g := g) (b := b) hg hb hk he ds ρ2 M2 q
    | bk ρ2 M2 => exact hk _ q
    | rt w M2 => exact hk _ q) he q) h⟩
instance {wi : TI} {g : TG} {tb : TS} {wwi : WIx} {wg : WGx} {is : List Nat} {wb : WSx} [I : SI K Wx wi wwi] [GG : SG K g wg is] [B : SS K Wx tb wb] : SS K Wx (tFor wi g tb) (sFor wwi wg wb) where
  mono := fun hk he h => I.mono (fun ds cd M1 q => forL_mono (g := wg) (b := wb) GG.mono B.mono hk he _ _ _ q) (he _) h
  ok := by
    intro G L M ρ σ H Dd S s h
    refine I.ok S s (I.mono (fun ds cd M1 q G1 L1 H1 J e1 S1 it => ?_) (fun _ _ _ z => z.ex s) h)
    refine ⟨fun i m σ2 H2 => m = ds.length - i ∧ i ≤ ds.length ∧ ∃ G2 La M2 ρ2, Ext G1 L1 H1 G2 La H2 ∧ Sim K G2 La M2 H2 ∧ Sl K G2 La σ2 ρ2 ∧ forL wg wb cd (PostS K G L H Dd) (PostXS K G L H Wx) (ds.drop i) ρ2 M2, ⟨ds.length, rfl, Nat.zero_le _, G1, L1, M1, ρ, Ext.refl, S1, s.ext e1, q⟩, ?_⟩
    rintro i m σ2 H2 ⟨rfl, hi, G2, La, M2, ρ2, e2, S2, s2, q2⟩
    by_cases lt : i < ds.length
    · rw [List.drop_eq_getElem_cons lt] at q2
      obtain ⟨cdh, q2⟩ := q2
      have hx : ds[i]? = some ds[i] := List.getElem?_eq_getElem lt
      obtain ⟨go, yl⟩ := (it G2 La M2 H2 e2.g e2.l S2 cdh).2 i _ hx
      refine .inr ⟨go, fun σ3 H3 => ∃ G2 La M2 ρ2, Ext G1 L1 H1 G2 La H3 ∧ Sim K G2 La M2 H3 ∧ Sl K G2 La σ3 ρ2 ∧ forL wg wb cd (PostS K G L H Dd) (PostXS K G L H Wx) (ds.drop (i + 1)) ρ2 M2, fun σ3 H3 c => ⟨ds.length - (i + 1), by omega, rfl, lt, c⟩, fun x H3 hy => ?_⟩
      obtain ⟨G3, e3, S3, r3⟩ : ∃ G3, Ext G2 La H2 G3 La H3 ∧ Sim K G3 La M2 H3 ∧ Rep K G3 x ds[i] := by
        rcases yl x H3 hy with ⟨rfl, r⟩ | ⟨T, o, hT, rfl, r⟩
        · exact ⟨G2, Ext.refl, S2, r⟩
        · obtain ⟨a, b⟩ := S2.new (o := o) hT
          exact ⟨_, b, a, r⟩
      have e13 := e2.trans e3
      refine GG.ok S3 (s2.ext e3) (show RepW K G3 La x (.d ds[i]) from r3) (GG.mono (fun ρ1 M4 q G4 L4 H4 σ4 e4 S4 s4 _ _ => ?_) q2)
      have e14 := e13.trans e4
      have e04 := e1.trans e14
      refine B.ok S4 s4 (B.mono (fun f q => ?_) (fun _ _ _ _ z => z.after e04) q)
      cases f with
      | nx ρ5 M5 => exact fun G5 L5 H5 σ5 e5 S5 s5 => ⟨G5, L5, M5, ρ5, e14.trans e5, S5, s5, q⟩
      | ct ρ5 M5 => exact fun G5 L5 H5 σ5 e5 S5 s5 => ⟨G5, L5, M5, ρ5, e14.trans e5, S5, s5, q⟩
      | bk ρ5 M5 => exact fun G5 L5 H5 σ5 e5 S5 s5 => q _ _ _ _ (e04.trans e5) S5 s5
      | rt w M5 => exact Post.after (Q := Dd.rt) q e04
    · have ei : i = ds.length := by omega
      subst ei
      rw [List.drop_length] at q2
      obtain ⟨cdh, q2⟩ := q2
      exact .inl ⟨(it G2 La M2 H2 e2.g e2.l S2 cdh).1, q2 _ _ _ _ (e1.trans e2) S2 s2⟩
/-! ### while: with a measure in hand -/
def whL (c : WBx) (b : WSx) (k : FK) (e : En → XW) : Nat → En → Mem → Prop
  | 0, _, _ => False
  | n + 1, ρ, M => c ρ M (fun z M1 => if z = true then b ρ M1 (fun f => match f with
    | .nx ρ2 M2 => whL c b k e n ρ2 M2
    | .ct ρ2 M2 => whL c b k e n ρ2 M2
    | .bk ρ2 M2 => k (.nx ρ2 M2)
    | .rt w M2 => k (.rt w M2)) e else k (.nx ρ M1)) (e ρ)
def sWhile (c : WBx) (b : WSx) : WSx := fun ρ M k e => ∃ n, whL c b k e n ρ M
theorem whL_mono {c : WBx} {b : WSx} {k k' : FK} {e e' : En → XW} (hc : ∀ {ρ M k k' e e'}, (∀ a m, k a m → k' a m) → (∀ c f m, e c f m → e' c f m) → c ρ M k e → c ρ M k' e') (hb : ∀ {ρ M k k' e e'}, (∀ a, k a → k' a) → (∀ r c f m, e r c f m → e' r c f m) → b ρ M k e → b ρ M k' e')
    (hk : ∀ f, k f → k' f) (he : ∀ r c f m, e r c f m → e' r c f m) : ∀ (n : Nat) (ρ : En) (M : Mem), whL c b k e n ρ M → whL c b k' e' n ρ M
  | 0, _, _, h => h
  | n + 1, ρ, M, h => hc (fun z M1 q => by
    cases z with
    | false => exact hk _ q
    | true => exact hb (fun f q => by
      cases f with
      | nx ρ2 M2 => exact whL_mono (c := c) (b := b) hc hb hk he n ρ2 M2 q
      | ct ρ2 M2 => exact whL_mono (c := c) (b := b) hc hb hk he n ρ2 M2 q
      | bk ρ2 M2 => exact hk _ q
      | rt w M2 => exact hk _ q) he q) (he _) h
instance {c : TT} {tb : TS} {wc : WBx} {wb : WSx} [C : SB K Wx c wc] [B : SS K Wx tb wb] : SS K Wx (tWhile c tb) (sWhile wc wb) where
  mono := fun hk he ⟨n, h⟩ => ⟨n, whL_mono (c := wc) (b := wb) C.mono B.mono hk he _ _ _ h⟩
  ok := by
    intro G L M ρ σ H Dd S s ⟨n, h⟩
    refine ⟨fun m σ2 H2 => ∃ G2 La M2 ρ2, Ext G L H G2 La H2 ∧ Sim K G2 La M2 H2 ∧ Sl K G2 La σ2 ρ2 ∧ whL wc wb (PostS K G L H Dd) (PostXS K G L H Wx) m ρ2 M2, ⟨n, G, L, M, ρ, Ext.refl, S, s, h⟩, ?_⟩
    rintro m σ2 H2 ⟨G2, La, M2, ρ2, e2, S2, s2, q2⟩
    cases m with
    | zero => exact q2.elim
    | succ m =>
      refine C.ok S2 s2 (C.mono (fun z M3 q G3 L3 H3 e3 S3 => ?_) (fun _ _ _ z => (z.after e2).ex s2) q2)
      have e13 := e2.trans e3
      cases z with
      | false => exact q _ _ _ _ e13 S3 (s2.ext e3)
      | true =>
        refine ⟨fun σ' H' => ∃ G2 La M2 ρ2, Ext G L H G2 La H' ∧ Sim K G2 La M2 H' ∧ Sl K G2 La σ' ρ2 ∧ whL wc wb (PostS K G L H Dd) (PostXS K G L H Wx) m ρ2 M2, fun σ' H' c => ⟨m, Nat.lt_succ_self m, c⟩, ?_⟩
        refine B.ok S3 (s2.ext e3) (B.mono (fun f q => ?_) (fun _ _ _ _ z => z.after e13) q)
        cases f with
        | nx ρ5 M5 => exact fun G5 L5 H5 σ5 e5 S5 s5 => ⟨G5, L5, M5, ρ5, e13.trans e5, S5, s5, q⟩
        | ct ρ5 M5 => exact fun G5 L5 H5 σ5 e5 S5 s5 => ⟨G5, L5, M5, ρ5, e13.trans e5, S5, s5, q⟩
        | bk ρ5 M5 => exact fun G5 L5 H5 σ5 e5 S5 s5 => q _ _ _ _ (e13.trans e5) S5 s5
        | rt w M5 => exact Post.after (Q := Dd.rt) q e13
/-! ### raise -/
/-- the making of an error: its class, its fields by name -/
def tMkN (C : Addr) (fs : List Str) (ta : TA) : L2.St → Hp → XK → Prop := fun σ H Q => ta σ H fun vs H1 => vs.length = fs.length ∧ ∀ d H', Same H1 H' → H1 d = none → H' d = some (.xd (fs.zip vs).reverse) → Q (.ref C) (some d) H'
def tRz (W : WX) (tm : L2.St → Hp → XK → Prop) : TS := fun _ σ H => tm σ H fun cls d H' => W cls d σ H'
def sRaise (C : Addr) (fs : List Str) (wa : WAx) : WSx := fun ρ M _ e => wa ρ M (fun ws M1 => ∃ ds, allD ws = some ds ∧ ds.length = fs.length ∧ e ρ C (fs.zip ds).reverse M1) (e ρ)
theorem repFs_zip {G : Hp} : ∀ {fs : List Str} {vs : List V} {ds : List D}, RepAll K G vs ds → RepFs K G (fs.zip vs) (fs.zip ds)
  | [], _, _, _ => .nil
  | _ :: _, _, _, .nil => .nil
  | f :: fs, _, _, .cons h r => .cons h (repFs_zip r)
theorem repFs_app {G : Hp} : ∀ {vs us : List (Str × V)} {ds es : List (Str × D)}, RepFs K G vs ds → RepFs K G us es → RepFs K G (vs ++ us) (ds ++ es)
  | _, _, _, _, .nil, s => s
  | _, _, _, _, .cons h r, s => .cons h (repFs_app r s)
theorem repFs_rev {G : Hp} : ∀ {vs : List (Str × V)} {ds : List (Str × D)}, RepFs K G vs ds → RepFs K G vs.reverse ds.reverse
  | _, _, .nil => .nil
  | _, _, .cons h r => by
    rw [List.reverse_cons, List.reverse_cons]
    exact repFs_app (repFs_rev r) (.cons h .nil)
instance {C : Addr} {fs : List Str} {ta : TA} {wa : WAx} [A : SA K Wx ta wa] : SS K Wx (tRz Wx (tMkN C fs ta)) (sRaise C fs wa) where
  mono := fun hk he h => A.mono (fun _ _ ⟨ds, h1, h2, q⟩ => ⟨ds, h1, h2, he _ _ _ _ q⟩) (he _) h
  ok := fun S s h => A.ok S s (A.mono (fun ws M1 ⟨ds, h1, h2, q⟩ G1 L1 H1 vs e1 S1 r1 => by
    have ra := repWs_all r1 h1
    refine ⟨ra.len.trans h2, fun d H' sm nd hd => ?_⟩
    obtain ⟨S2, e2⟩ := S1.more sm
    obtain ⟨S3, e3⟩ := S2.know nd (fun a m z => by
      obtain ⟨o, q⟩ := S1.live m
      rw [q] at z
      cases z) S1.le hd e2
    exact q _ _ _ _ d _ (e1.trans e3) S3 ((s.ext e1).ext e3) upd_same (repFs_rev (repFs_zip (ra.mono e3.g)))) (fun _ _ _ z => z.ex s) h)
end
/-! ### a def -/
def cellBelow (m : Nat) : Cell → Prop
  | .lst _ => True
  | .ins _ fs => ∀ f w, (f, w) ∈ fs → ∀ n, w = .p n → n < m
def closedM (M : Mem) : Prop := ∀ c ∈ M, cellBelow M.length c
theorem Sim.closed {K : PySem.W.Frag} {G H : Hp} {L : List Addr} {M : Mem} (S : Sim K G L M H) : closedM M := fun c hc => by
  obtain ⟨i, e⟩ := List.getElem?_of_mem hc
  obtain ⟨a, _, z⟩ := S.cell e
  cases c with
  | lst _ => trivial
  | ins C fs =>
    obtain ⟨dx, vs, _, r⟩ := z
    rintro f w hm n rfl
    obtain ⟨j, ej⟩ := List.getElem?_of_mem hm
    obtain ⟨p, _, _, b, hb, _⟩ := paired_ix r ej
    rw [← S.len]
    exact (List.getElem?_eq_some_iff.mp hb).1
/-- fields that hold trees alone -/
def treeFs : List (Str × W) → Option (List (Str × D))
  | [] => some []
  | (f, .d x) :: r => (treeFs r).map ((f, x) :: ·)
  | (_, .p _) :: _ => none
/-- what is left of a result when the places from m on are given up -/
inductive Frz (m : Nat) (M2 : Mem) : W → W → Prop
  | d (x : D) : Frz m M2 (.d x) (.d x)
  | p {n : Nat} : n < m → Frz m M2 (.p n) (.p n)
  | lst {j : Nat} {ds : List D} : M2[j]? = some (.lst ds) → Frz m M2 (.p (m + j)) (.d (.lst ds))
  | ins {j : Nat} {C : Addr} {fs : List (Str × W)} {gs : List (Str × D)} : M2[j]? = some (.ins C fs) → treeFs fs = some gs → Frz m M2 (.p (m + j)) (.d (.ins C gs))
def FinK (M0 : Mem) (k : KW) : KW := fun a M' => k a M' ∨ ∃ M1 M2 a', M' = M1 ++ M2 ∧ M0.length ≤ M1.length ∧ (closedM M0 → closedM M1) ∧ Frz M1.length M2 a a' ∧ k a' M1
def FinX (M0 : Mem) (e : XW) : XW := fun C fs M' => e C fs M' ∨ ∃ M1 M2, M' = M1 ++ M2 ∧ M0.length ≤ M1.length ∧ (closedM M0 → closedM M1) ∧ e C fs M1
section
variable {K : PySem.W.Frag}
theorem treeFs_rep {G : Hp} {L : List Addr} : ∀ {vs : List (Str × V)} {fs : List (Str × W)} {gs : List (Str × D)}, RepFW K G L vs fs → treeFs fs = some gs → RepFs K G vs gs
  | _, [], _, .nil, h => by
    cases h
    exact .nil
  | (g, v) :: _, (f, .d x) :: r, _, .cons ⟨q, z⟩ t, h => by
    simp only at q
    subst q
    cases e : treeFs r with
    | none =>
      rw [treeFs, e] at h
      cases h
    | some l =>
      rw [treeFs, e] at h
      cases h
      exact .cons z (treeFs_rep t e)
  | _, (_, .p _) :: _, _, .cons _ _, h => by cases h
/-- the places from m on become things that never change -/
theorem Sim.drop {G0 H0 G H : Hp} {L0 L : List Addr} {M0 M1 M2 : Mem} (S0 : Sim K G0 L0 M0 H0) (e : Ext G0 L0 H0 G L H) (S : Sim K G L (M1 ++ M2) H) (hl : M0.length ≤ M1.length) (hc : closedM M0 → closedM M1) :
    ∃ G' L1, L1.length = M1.length ∧ L1 <+: L ∧ Le G G' ∧ Ext G0 L0 H0 G' L1 H ∧ Sim K G' L1 M1 H ∧ (∀ j ds, M2[j]? = some (.lst ds) → ∃ a, L[M1.length + j]? = some a ∧ Rep K G' (.ref a) (.lst ds)) ∧
      ∀ j C fs gs, M2[j]? = some (.ins C fs) → treeFs fs = some gs → ∃ a, L[M1.length + j]? = some a ∧ Rep K G' (.ref a) (.ins C gs) := by
  have len := S.len
  rw [List.length_append] at len
  let L1 := L.take M1.length
  let L2' := L.drop M1.length
  have hL : L = L1 ++ L2' := (List.take_append_drop ..).symm
  have l1 : L1.length = M1.length := by rw [List.length_take]; omega
  have pre : L0 <+: L1 := by
    have h0 := S0.len
    rw [List.prefix_iff_eq_take]
    have := List.prefix_iff_eq_take.mp e.l
    rw [List.take_take, Nat.min_eq_left (by omega)]
    exact this
  have nd := S.nd
  rw [hL] at nd
  obtain ⟨nd1, nd2, nd3⟩ := List.nodup_append.mp nd
  let G' : Hp := fun b => if b ∈ L2' then H b else G b
  have lg : Le G G' := fun b o h => by
    show (if b ∈ L2' then H b else G b) = some o
    by_cases z : b ∈ L2'
    · have := S.off b (by rw [hL]; exact List.mem_append_right _ z)
      rw [h] at this
      cases this
    · rw [if_neg z]
      exact h
  have cl := S.cl
  have cc := hc S0.closed
  refine ⟨G', L1, l1, ⟨L2', hL.symm⟩, lg, ⟨fun b o h => lg b o (e.g b o h), fun b o h => ?_, pre, fun a m => e.ln a (by rw [hL]; exact List.mem_append_left _ m), e.fr, e.dm⟩, ⟨fun b o h => ?_, fun a m => ?_, nd1, ?_⟩, fun j ds hj => ?_, fun j C fs gs hj hg => ?_⟩
  · have h' : (if b ∈ L2' then H b else G b) = some o := h
    by_cases z : b ∈ L2'
    · rcases e.ln b (by rw [hL]; exact List.mem_append_right _ z) with q | q
      · exact absurd rfl (nd3 b (pre.subset q) b z)
      · exact .inr q
    · rw [if_neg z] at h'
      exact e.gn b o h'
  · have h' : (if b ∈ L2' then H b else G b) = some o := h
    by_cases z : b ∈ L2'
    · rw [if_pos z] at h'
      exact h'
    · rw [if_neg z] at h'
      exact S.le b o h'
  · show (if a ∈ L2' then H a else G a) = none
    rw [if_neg (fun z => nd3 a m a z rfl)]
    exact S.off a (by rw [hL]; exact List.mem_append_left _ m)
  · have key : ∀ (i : Nat) (c : Cell), M1[i]? = some c → ∃ a, L1[i]? = some a ∧ CellOk K G' L1 H a c := fun i c hi => by
      have li := (List.getElem?_eq_some_iff.mp hi).1
      obtain ⟨a, ha, z⟩ := S.cell (n := i) (c := c) (by rw [List.getElem?_append_left li]; exact hi)
      have ha1 : L1[i]? = some a := by
        rw [List.getElem?_take, if_pos li]
        exact ha
      refine ⟨a, ha1, ?_⟩
      cases c with
      | lst ds =>
        obtain ⟨vs, h1, h2⟩ := z
        exact ⟨vs, h1, h2.mono lg⟩
      | ins C fs =>
        obtain ⟨dx, vs, h1, h2⟩ := z
        have cb := cc _ (List.mem_of_getElem? hi)
        refine ⟨dx, vs, h1, ?_⟩
        have : ∀ (vs : List (Str × V)) (fs : List (Str × W)), (∀ f w, (f, w) ∈ fs → ∀ n, w = .p n → n < M1.length) → RepFW K G L vs fs → RepFW K G' L1 vs fs := by
          intro vs fs hb r
          induction r with
          | nil => exact .nil
          | @cons x y xs ys h t ih =>
            refine .cons ⟨h.1, ?_⟩ (ih fun f w hm => hb f w (List.mem_cons_of_mem _ hm))
            obtain ⟨f, w⟩ := y
            cases w with
            | d y => exact Rep.mono lg h.2
            | p n =>
              obtain ⟨a', e1, e2⟩ := h.2
              have ln := hb f _ (List.mem_cons_self ..) n rfl
              exact ⟨a', by rw [List.getElem?_take, if_pos ln]; exact e1, e2⟩
        exact this _ _ cb h2
    clear cl
    have mk : ∀ (l : List Addr) (m : Mem), l.length = m.length → (∀ (i : Nat) (c : Cell), m[i]? = some c → ∃ a, l[i]? = some a ∧ CellOk K G' L1 H a c) → Paired (CellOk K G' L1 H) l m := by
      intro l m
      induction l generalizing m with
      | nil =>
        intro hl _
        cases m with
        | nil => exact .nil
        | cons _ _ => cases hl
      | cons x xs ih =>
        intro hl hk
        cases m with
        | nil => cases hl
        | cons y ys =>
          refine .cons ?_ (ih ys (by simpa using hl) fun i c hi => ?_)
          · obtain ⟨a, e1, e2⟩ := hk 0 y rfl
            cases e1
            exact e2
          · obtain ⟨a, e1, e2⟩ := hk (i + 1) c (by simpa using hi)
            exact ⟨a, by simpa using e1, e2⟩
    exact mk L1 M1 l1 key
  · obtain ⟨a, ha, z⟩ := S.cell (n := M1.length + j) (c := .lst ds) (by rw [List.getElem?_append_right (by omega)]; rw [show M1.length + j - M1.length = j from by omega]; exact hj)
    obtain ⟨vs, h1, h2⟩ := z
    refine ⟨a, ha, .lst ?_ (h2.mono lg)⟩
    show (if a ∈ L2' then H a else G a) = _
    rw [if_pos]
    · exact h1
    · refine List.mem_of_getElem? (i := j) ?_
      rw [List.getElem?_drop]
      exact ha
  · obtain ⟨a, ha, z⟩ := S.cell (n := M1.length + j) (c := .ins C fs) (by rw [List.getElem?_append_right (by omega)]; rw [show M1.length + j - M1.length = j from by omega]; exact hj)
    obtain ⟨dx, vs, h1, h2⟩ := z
    refine ⟨a, ha, .ins (dx := dx) (vs := vs) ?_ (RepFs.mono lg (treeFs_rep h2 hg))⟩
    show (if a ∈ L2' then H a else G a) = _
    rw [if_pos]
    · exact h1
    · refine List.mem_of_getElem? (i := j) ?_
      rw [List.getElem?_drop]
      exact ha
theorem fin_ok {G0 H0 : Hp} {L0 : List Addr} {M0 M' : Mem} {Q : VK} {a : W} (S0 : Sim K G0 L0 M0 H0) (h : FinK M0 (Post K G0 L0 H0 Q) a M') : Post K G0 L0 H0 Q a M' := by
  rcases h with h | ⟨M1, M2, a', rfl, hl, hc, fz, h⟩
  · exact h
  · intro G L H v e S r
    obtain ⟨G', L1, l1, pl, lg, e', S', fr, fi⟩ := S0.drop e S hl hc
    refine h G' L1 H v e' S' ?_
    cases fz with
    | d x => exact Rep.mono lg r
    | @p n ln =>
      obtain ⟨b, hb, rfl⟩ := r
      refine ⟨b, ?_, rfl⟩
      obtain ⟨t, rfl⟩ := pl
      rw [List.getElem?_append_left (by omega)] at hb
      exact hb
    | @lst j ds hj =>
      obtain ⟨b, hb, rfl⟩ := r
      obtain ⟨b', hb', z⟩ := fr j ds hj
      rw [hb] at hb'
      cases hb'
      exact z
    | @ins j C fs gs hj hg =>
      obtain ⟨b, hb, rfl⟩ := r
      obtain ⟨b', hb', z⟩ := fi j C fs gs hj hg
      rw [hb] at hb'
      cases hb'
      exact z
theorem finX_ok {G0 H0 : Hp} {L0 : List Addr} {M0 M' : Mem} {E : XK} {C : Addr} {fs : List (Str × D)} (S0 : Sim K G0 L0 M0 H0) (h : FinX M0 (PostX K G0 L0 H0 E) C fs M') : PostX K G0 L0 H0 E C fs M' := by
  rcases h with h | ⟨M1, M2, rfl, hl, hc, h⟩
  · exact h
  · intro G L H d vs e S gd r
    obtain ⟨G', L1, l1, pl, lg, e', S', fr, fi⟩ := S0.drop e S hl hc
    exact h G' L1 H d vs e' S' (lg _ _ gd) (r.mono lg)
/-- what a def's body must say of its contract -/
def BodyOk (N : List Str) (w : WSx) (c : Con) : Prop := ∀ ws M k e, c ws M k e → w (ws.map some ++ List.replicate (N.length - ws.length) none) M (fun f => match f with
  | .nx _ M' => FinK M k (.d .non) M'
  | .rt a M' => FinK M k a M'
  | _ => False) (fun _ => FinX M e)
theorem sl_start {G : Hp} {L : List Addr} {N : List Str} {vs : List V} {ws : List W} (r : RepWs K G L vs ws) : Sl K G L (start N vs) (ws.map some ++ List.replicate (N.length - ws.length) none) := by
  have hl : vs.length = ws.length := Paired.length r
  refine ⟨by unfold L2.start; simp [hl], fun i w h => ?_⟩
  by_cases q : i < ws.length
  · rw [List.getElem?_append_left (by simpa using q), List.getElem?_map] at h
    cases e : ws[i]? with
    | none =>
      rw [e] at h
      cases h
    | some w' =>
      rw [e] at h
      cases h
      obtain ⟨v, hv, rv⟩ := paired_ix r e
      refine ⟨v, ?_, rv⟩
      unfold L2.start
      rw [List.getElem?_append_left (by simp; omega), List.getElem?_map, hv]
      rfl
  · rw [List.getElem?_append_right (by simp; omega), List.getElem?_replicate] at h
    split at h <;> cases h
variable {P : Program} {w : World} {mg : Str → Option Value} {base : Heap}
/-- the wish of a def's body -/
abbrev WD0 (E : XK) : WX := fun cls d _ H => E cls d H
theorem fun_okP {x qual : Str} {st : Stmt} {f : Addr} {fd : FuncData} {N ps : List Str} {k : Nat} {c : Con} [UC c] {dvs : List V} {kws : List (Str × V)} (F : FunD K x qual (defArgs st) (defBody st) (defScope st) dvs kws f fd) (Sc : FnScope N ps (defScope st)) (hlen : ∀ ws M k e, c ws M k e → ws.length = ps.length)
    (hb : ∀ (cdv : Value) (A : Around) (outer : List Env) (s : Shared) (H : Hp) (E : XK), Room k (A.deeper (envOfC qual (defScope st) s.heap.objs.size f cdv)) →
      ∃ t wt, PSs (cxOf (L2.CX P w) P w K mg base N qual (defScope st) f cdv A outer s H E) (defBody st) t ∧ SS K (WD0 E) t wt ∧ BodyOk N wt c) : FnOk P w K mg base (L2.CX P w) (k + 1) f fd ps (spP K c) := by
  refine F.ok Sc (fun vs H Q E h => ?_) (fun cdv A outer s H vs Q E hr h => ?_)
  · obtain ⟨G, L, M, ws, S, r, h⟩ := h
    rw [Paired.length r]
    exact hlen _ _ _ _ h
  · obtain ⟨G, L, M, ws, S, r, h⟩ := h
    obtain ⟨t, wt, hp, B, bo⟩ := hb cdv A outer s H E hr
    refine ⟨t, hp, B.ok S (sl_start r) (B.mono (fun f q => ?_) (fun ρ C fs M' q => ?_) (bo ws M _ _ h))⟩
    · cases f with
      | nx ρ1 M1 => exact fun G1 L1 H1 σ1 e1 S1 s1 => fin_ok S q _ _ _ _ e1 S1 .non
      | rt a M1 => exact fin_ok S q
      | bk _ _ => exact q.elim
      | ct _ _ => exact q.elim
    · exact fun G1 L1 H1 σ1 d vs e1 S1 _ gd rf => finX_ok S q _ _ _ _ _ e1 S1 gd rf
end
end PU

set_option maxRecDepth 100000
set_option maxHeartbeats 8000000
/-! operations on values -/
namespace PU
open PySem PySem.Spec PyProof.Rows L2 WU
/-! ### trees as data -/
mutual
def pyD : D → Option PyData
  | .non => some .none
  | .bl b => some (.bool b)
  | .int i => some (.int i)
  | .str x => some (.str x)
  | .lst xs => (pyAll xs).map .list
  | .fl xs => (pyAll xs).map .list
  | .ft xs => (pyAll xs).map .tuple
  | .nt xs => (pyAll xs).map .tuple
  | .tup xs => (pyAll xs).map .tuple
  | .ins _ _ => none
  | .at _ => none
  | .dic _ _ => none
  | .exc _ _ _ _ => none
def pyAll : List D → Option (List PyData)
  | [] => some []
  | x :: xs => match pyD x, pyAll xs with
    | some p, some ps => some (p :: ps)
    | _, _ => none
end
mutual
theorem Rep.dp {K : PySem.W.Frag} {G : Hp} : ∀ {v : V} {d : D} {p : PyData}, Rep K G v d → pyD d = some p → Dp K G v p
  | _, _, _, .non, h => by
    cases h
    exact .non
  | _, _, _, .bl b, h => by
    cases h
    exact .bl b
  | _, _, _, .int i, h => by
    cases h
    exact .int i
  | _, _, _, .str x, h => by
    cases h
    exact .str x
  | _, .lst ds, _, .lst h1 h2, h => by
    cases e : pyAll ds with
    | none =>
      rw [pyD, e] at h
      cases h
    | some ps =>
      rw [pyD, e] at h
      cases h
      exact .lst (SqL.of h1) (RepAll.dp h2 e)
  | _, .fl ds, _, .fl h1 h2, h => by
    cases e : pyAll ds with
    | none =>
      rw [pyD, e] at h
      cases h
    | some ps =>
      rw [pyD, e] at h
      cases h
      exact .lst h1 (RepAll.dp h2 e)
  | _, .tup ds, _, .tup h1 h2, h => by
    cases e : pyAll ds with
    | none =>
      rw [pyD, e] at h
      cases h
    | some ps =>
      rw [pyD, e] at h
      cases h
      exact .tup (.inl h1) (RepAll.dp h2 e)
  | _, .ft ds, _, .ft h1 h2, h => by
    cases e : pyAll ds with
    | none =>
      rw [pyD, e] at h
      cases h
    | some ps =>
      rw [pyD, e] at h
      cases h
      exact .tup h1 (RepAll.dp h2 e)
  | _, .nt ds, _, .nt h1 _ h2, h => by
    cases e : pyAll ds with
    | none =>
      rw [pyD, e] at h
      cases h
    | some ps =>
      rw [pyD, e] at h
      cases h
      exact .tup (.inl (.inr ⟨_, h1⟩)) (RepAll.dp h2 e)
  | _, _, _, .ins _ _, h => by cases h
  | _, _, _, .at _, h => by cases h
  | _, _, _, .dic _ _, h => by cases h
  | _, _, _, .exc _ _, h => by cases h
theorem RepAll.dp {K : PySem.W.Frag} {G : Hp} : ∀ {vs : List V} {ds : List D} {ps : List PyData}, RepAll K G vs ds → pyAll ds = some ps → DpAll K G vs ps
  | _, _, _, .nil, h => by
    cases h
    exact .nil
  | _, d :: ds, _, .cons h1 h2, h => by
    cases e1 : pyD d with
    | none =>
      rw [pyAll, e1] at h
      cases h
    | some p =>
      cases e2 : pyAll ds with
      | none =>
        rw [pyAll, e1, e2] at h
        cases h
      | some ps =>
        rw [pyAll, e1, e2] at h
        cases h
        exact .cons (Rep.dp h1 e1) (RepAll.dp h2 e2)
end
/-- a value that is read as a tree -/
def trW (M : Mem) : W → Option D
  | .d x => some x
  | .p n => match M[n]? with
    | some (.lst xs) => some (.lst xs)
    | _ => none
/-- the tree, by the heap as it is now -/
theorem rep_now {K : PySem.W.Frag} {G H : Hp} {L : List Addr} {M : Mem} {x : V} {a : W} {d : D} (S : Sim K G L M H) (r : RepW K G L x a) (h : trW M a = some d) : Rep K H x d := by
  cases a with
  | d y =>
    cases h
    exact Rep.mono S.le r
  | p n =>
    obtain ⟨c, e, rfl⟩ := r
    cases q : M[n]? with
    | none =>
      rw [trW, q] at h
      cases h
    | some z =>
      obtain ⟨c', e', z'⟩ := S.cell q
      rw [e] at e'
      cases e'
      rw [trW, q] at h
      cases z with
      | ins _ _ => cases h
      | lst l =>
        cases h
        obtain ⟨vs, hp, rr⟩ := z'
        exact .lst hp (RepAll.mono S.le rr)
def pyW (M : Mem) (a : W) : Option PyData := (trW M a).bind pyD
theorem dp_now {K : PySem.W.Frag} {G H : Hp} {L : List Addr} {M : Mem} {x : V} {a : W} {p : PyData} (S : Sim K G L M H) (r : RepW K G L x a) (h : pyW M a = some p) : Dp K H x p := by
  cases e : trW M a with
  | none =>
    rw [pyW, e] at h
    cases h
  | some d =>
    rw [pyW, e] at h
    exact (rep_now S r e).dp h
/-! ### operations by functions into options: the result and what it asks -/
def pf2 (f : W → W → Mem → Option (W × Prop)) : P2 := fun a b M k => ob (f a b M) fun r => r.2 ∧ k r.1 M
def pf1 (f : W → Mem → Option (W × Prop)) : P1 := fun a M k => ob (f a M) fun r => r.2 ∧ k r.1 M
def pfn (f : List W → Mem → Option (W × Prop)) : Pn := fun as M k => ob (f as M) fun r => r.2 ∧ k r.1 M
instance {f : W → W → Mem → Option (W × Prop)} : U2 (pf2 f) := ⟨fun _ _ _ _ _ hk ⟨d, e, h, q⟩ => ⟨d, e, h, hk _ _ q⟩⟩
instance {f : W → Mem → Option (W × Prop)} : U1 (pf1 f) := ⟨fun _ _ _ _ hk ⟨d, e, h, q⟩ => ⟨d, e, h, hk _ _ q⟩⟩
instance {f : List W → Mem → Option (W × Prop)} : Un (pfn f) := ⟨fun _ _ _ _ hk ⟨d, e, h, q⟩ => ⟨d, e, h, hk _ _ q⟩⟩
section
variable {X : Cx}
theorem op_of {f : Value → Value → Sem Value} {p : P2} (h : ∀ (G : Hp) (L : List Addr) (M : Mem) (H : Hp) (x y : V) (a b : W) (Q : VK), Sim X.K G L M H → RepW X.K G L x a → RepW X.K G L y b → p a b M (Post X.K G L H Q) → ∃ r : R2, OpR X f r ∧ r x y H Q) : OpR X f (rP2 X.K p) := by
  rintro pins s σ H x y v u Q I rx ry ⟨G, L, M, a, b, S, ra, rb, q⟩
  obtain ⟨r, hr, z⟩ := h G L M H x y a b Q S ra rb q
  exact hr pins s σ H x y v u Q I rx ry z
theorem un_of {f : Value → Sem Value} {p : P1} (h : ∀ (G : Hp) (L : List Addr) (M : Mem) (H : Hp) (x : V) (a : W) (Q : VK), Sim X.K G L M H → RepW X.K G L x a → p a M (Post X.K G L H Q) → ∃ r : V → Hp → VK → Prop, UnR X f r ∧ r x H Q) : UnR X f (rP1 X.K p) := by
  intro pins s σ H x v Q I rx hq
  obtain ⟨G, L, M, a, S, ra, q⟩ := hq
  obtain ⟨r, hr, z⟩ := h G L M H x a Q S ra q
  exact hr pins s σ H x v Q I rx z
theorem cr_of {f : Value} {p : Pn} (h : ∀ (G : Hp) (L : List Addr) (M : Mem) (H : Hp) (xs : List V) (as : List W) (Q : VK), Sim X.K G L M H → RepWs X.K G L xs as → p as M (Post X.K G L H Q) → ∃ r : List V → Hp → VK → Prop, CallR X f r ∧ r xs H Q) : CallR X f (rPn X.K p) := by
  rintro pins s σ H xs us Q I rx ⟨G, L, M, as, S, ra, q⟩
  obtain ⟨r, hr, z⟩ := h G L M H xs as Q S ra q
  exact hr pins s σ H xs us Q I rx z
theorem ix_of {p : P2} (h : ∀ (G : Hp) (L : List Addr) (M : Mem) (H : Hp) (x y : V) (a b : W) (Q : VK), Sim X.K G L M H → RepW X.K G L x a → RepW X.K G L y b → p a b M (Post X.K G L H Q) → ∃ r : R2, IxR X r ∧ r x y H Q) : IxR X (rP2 X.K p) := by
  rintro value slice pins s σ H x y v u Q I rx ry ⟨G, L, M, a, b, S, ra, rb, q⟩
  obtain ⟨r, hr, z⟩ := h G L M H x y a b Q S ra rb q
  exact hr value slice pins s σ H x y v u Q I rx ry z
theorem mt_of {id : String} {p : W → List W → Mem → KW → Prop} {rd : V → List V → Hp → VK → Prop} (hrd : ∀ x xs H Q, rd x xs H Q → ∃ (G : Hp) (L : List Addr) (M : Mem) (a : W) (as : List W), Sim X.K G L M H ∧ RepW X.K G L x a ∧ RepWs X.K G L xs as ∧ p a as M (Post X.K G L H Q))
    (h : ∀ (G : Hp) (L : List Addr) (M : Mem) (H : Hp) (x : V) (xs : List V) (a : W) (as : List W) (Q : VK), Sim X.K G L M H → RepW X.K G L x a → RepWs X.K G L xs as → p a as M (Post X.K G L H Q) → ∃ r : V → List V → Hp → VK → Prop, MtR X id r ∧ r x xs H Q) : MtR X id rd := by
  intro pins s σ H x xs v us Q I rx rxs hq
  obtain ⟨G, L, M, a, as, S, ra, rb, q⟩ := hrd _ _ _ _ hq
  obtain ⟨r, hr, z⟩ := h G L M H x xs a as Q S ra rb q
  exact hr pins s σ H x xs v us Q I rx rxs z
end
section
variable {K : PySem.W.Frag} {G H : Hp} {L : List Addr} {M : Mem} {Q : VK}
theorem post_int {i : Int} (S : Sim K G L M H) (h : Post K G L H Q (.d (.int i)) M) : Q (.int i) H := h _ _ _ _ Ext.refl S (.int i)
theorem post_bl {b : Bool} (S : Sim K G L M H) (h : Post K G L H Q (.d (.bl b)) M) : Q (.bl b) H := h _ _ _ _ Ext.refl S (.bl b)
theorem post_str {x : Str} (S : Sim K G L M H) (h : Post K G L H Q (.d (.str x)) M) : Q (.str x) H := h _ _ _ _ Ext.refl S (.str x)
theorem post_at {v : V} {a : W} (S : Sim K G L M H) (r : RepW K G L v a) (h : Post K G L H Q a M) : Q v H := h _ _ _ _ Ext.refl S r
theorem post_tup {xs : List V} {ds : List D} (S : Sim K G L M H) (r : RepAll K G xs ds) (h : Post K G L H Q (.d (.tup ds)) M) : ∀ p, H p = none → Q (.ref p) (upd H p (.tup xs)) := fun p hp => by
  obtain ⟨S2, e2⟩ := S.new (o := .tup xs) hp
  exact h _ _ _ _ e2 S2 (.tup (.inl upd_same) (r.mono e2.g))
theorem post_lst {xs : List V} {ds : List D} (S : Sim K G L M H) (r : RepAll K G xs ds) (h : Post K G L H Q (.d (.lst ds)) M) : ∀ p, H p = none → Q (.ref p) (upd H p (.lst xs)) := fun p hp => by
  obtain ⟨S2, e2⟩ := S.new (o := .lst xs) hp
  exact h _ _ _ _ e2 S2 (.lst upd_same (r.mono e2.g))
/-- a list that is tracked -/
def lv (M : Mem) : W → Option (List D)
  | .d (.lst xs) => some xs
  | .p n => match M[n]? with
    | some (.lst xs) => some xs
    | _ => none
  | _ => none
theorem lv_at {x : V} {a : W} {ds : List D} (S : Sim K G L M H) (r : RepW K G L x a) (h : lv M a = some ds) : ∃ c xs, x = .ref c ∧ H c = some (.lst xs) ∧ RepAll K G xs ds := by
  cases a with
  | d y =>
    cases y with
    | lst l =>
      cases h
      cases r with
      | lst h1 h2 => exact ⟨_, _, rfl, S.le _ _ h1, h2⟩
    | _ => cases h
  | p n =>
    obtain ⟨c, e, rfl⟩ := r
    cases q : M[n]? with
    | none =>
      rw [lv, q] at h
      cases h
    | some z =>
      obtain ⟨c', e', z'⟩ := S.cell q
      rw [e] at e'
      cases e'
      rw [lv, q] at h
      cases z with
      | ins _ _ => cases h
      | lst l =>
        cases h
        obtain ⟨vs, hp, rr⟩ := z'
        exact ⟨c, vs, rfl, hp, rr⟩
theorem rep_int {v : V} {i : Int} (r : Rep K G v (.int i)) : v = .int i := by cases r; rfl
theorem rep_bl {v : V} {i : Bool} (r : Rep K G v (.bl i)) : v = .bl i := by cases r; rfl
theorem rep_str {v : V} {i : Str} (r : Rep K G v (.str i)) : v = .str i := by cases r; rfl
theorem rep_non {v : V} (r : Rep K G v .non) : v = .non := by cases r; rfl
theorem rep_tup {v : V} {ds : List D} (r : Rep K G v (.tup ds)) : ∃ c xs, v = .ref c ∧ Rd G c (.tup xs) ∧ RepAll K G xs ds := by
  cases r with
  | tup h1 h2 => exact ⟨_, _, rfl, h1, h2⟩
end
/-! ### + - * // % -/
def fAdd (a b : W) (M : Mem) : Option (W × Prop) := match a, b with
  | .d (.int i), .d (.int j) => some (.d (.int (i + j)), True)
  | .d (.str i), .d (.str j) => some (.d (.str (i ++ j)), i.length + j.length ≤ sizeLine)
  | .d (.tup xs), .d (.tup ys) => some (.d (.tup (xs ++ ys)), xs.length + ys.length ≤ sizeLine)
  | a, b => match lv M a, lv M b with
    | some xs, some ys => some (.d (.lst (xs ++ ys)), xs.length + ys.length ≤ sizeLine)
    | _, _ => none
def fSub (a b : W) (_ : Mem) : Option (W × Prop) := match a, b with
  | .d (.int i), .d (.int j) => some (.d (.int (i - j)), True)
  | _, _ => none
def fMul (a b : W) (M : Mem) : Option (W × Prop) := match a, b with
  | .d (.int i), .d (.int j) => some (.d (.int (i * j)), CMul i j)
  | .d (.tup xs), .d (.int k) => some (.d (.tup (List.replicate k.toNat xs).flatten), xs ≠ [] ∧ 0 ≤ k ∧ k ≤ 1000 ∧ xs.length ≤ 1000)
  | a, .d (.int k) => match lv M a with
    | some xs => some (.d (.lst (List.replicate k.toNat xs).flatten), -(2 ^ 63) ≤ k ∧ k < 2 ^ 63 ∧ xs.length * k.toNat ≤ sizeLine)
    | _ => none
  | _, _ => none
def fDiv (a b : W) (_ : Mem) : Option (W × Prop) := match a, b with
  | .d (.int i), .d (.int j) => some (.d (.int (i / j)), 0 < j ∧ j < 1073741824)
  | _, _ => none
def fMod (a b : W) (_ : Mem) : Option (W × Prop) := match a, b with
  | .d (.int i), .d (.int j) => some (.d (.int (i % j)), 0 < j)
  | _, _ => none
def fPow (a b : W) (_ : Mem) : Option (W × Prop) := match a, b with
  | .d (.int i), .d (.int j) => some (.d (.int (i ^ j.toNat)), CPow i j)
  | _, _ => none
def fNeg (a : W) (_ : Mem) : Option (W × Prop) := match a with
  | .d (.int i) => some (.d (.int (-i)), True)
  | _ => none
theorem tuple_mul1 (l : Addr) (items : Array Value) (n : Nat) (dd : Option Addr) (sl : Array (Option Value)) (u : Tok) :
    Meets (Builtin.«tuple.__mul__» ⟨[.ref l, .int 1 u], []⟩) (fun _ R s => s.heap.get? l = some { cls := .type "tuple", dict := dd, data := .seq items n, slots := sl } ∧ R (.ok (.ret (Value.ref l))) { s with heap := s.heap, toks := s.toks }) :=
  .of_wp fun prog w A R s h => by
    obtain ⟨hp, g, d, tk, os⟩ := s
    obtain ⟨hl, h⟩ := h
    have f1 := AutoSeq1.idx_int
    have c0 : (decide ((1 : Int) < -(2 ^ 63)) || decide ((1 : Int) ≥ 2 ^ 63)) = false := by decide
    have c1 : (items.isEmpty || (1 : Int) == 1) = true := by simp
    wp_walk using wpAny_loadPart' hl
    repeat (first
      | (refine wpAny_ite_false (decide_eq_false (by rw [c0]; exact Bool.false_ne_true)) ?_; wp_walk using wpAny_loadPart' hl)
      | (refine wpAny_ite_true (decide_eq_true c1) ?_; wp_walk using wpAny_loadPart' hl))
    exact ⟨_, rfl, h⟩
theorem tuple_mul0 (l : Addr) (items : Array Value) (n : Nat) (dd : Option Addr) (sl : Array (Option Value)) (u : Tok) (hi : items.isEmpty = false) :
    Meets (Builtin.«tuple.__mul__» ⟨[.ref l, .int 0 u], []⟩) (fun _ R s => s.heap.get? l = some { cls := .type "tuple", dict := dd, data := .seq items n, slots := sl } ∧
      R (.ok (.ret (Value.ref s.heap.objs.size))) { s with heap := s.heap.push { cls := Value.type "tuple", data := Data.seq #[] }, toks := s.toks }) :=
  .of_wp fun prog w A R s h => by
    obtain ⟨hp, g, d, tk, os⟩ := s
    obtain ⟨hl, h⟩ := h
    have f1 := AutoSeq1.idx_int
    have c0 : (decide ((0 : Int) < -(2 ^ 63)) || decide ((0 : Int) ≥ 2 ^ 63)) = false := by decide
    have c1 : (items.isEmpty || (0 : Int) == 1) = false := by rw [hi]; decide
    have c2 : (decide ((0 : Int) ≤ 0) || items.isEmpty) = true := by rw [decide_eq_true (Int.le_refl 0)]; rfl
    wp_walk using wpAny_loadPart' hl
    repeat (first
      | (refine wpAny_ite_false (decide_eq_false (by rw [c0]; exact Bool.false_ne_true)) ?_; wp_walk using wpAny_loadPart' hl)
      | (refine wpAny_ite_false (decide_eq_false (by rw [c1]; exact Bool.false_ne_true)) ?_; wp_walk using wpAny_loadPart' hl)
      | (refine wpAny_ite_true (decide_eq_true c2) ?_; wp_walk using wpAny_loadPart' hl))
    exact ⟨_, rfl, h⟩
/-- (v,) * k, k from 0 on -/
def rRepA (K : PySem.W.Frag) : R2 := fun x y H Q => ∃ (l : Addr) (k : Nat) (xs : List V), x = .ref l ∧ y = .int k ∧ SqT K H l xs ∧ xs ≠ [] ∧ k ≤ 1000 ∧ xs.length ≤ 1000 ∧ (k = 1 → Q (.ref l) H) ∧ (k ≠ 1 → ∀ p, H p = none → Q (.ref p) (upd H p (.tup (List.replicate k xs).flatten)))
section
variable {X : Cx}
theorem op_repA : OpR X (binaryOp .Mult) (rRepA X.K) := by
  intro pins s σ H x y v u Q I rx ry h
  obtain ⟨l, k, xs, rfl, rfl, hT, hne, h2, hz, q⟩ := h
  by_cases hk : 2 ≤ k
  · refine op_repT pins s σ H _ _ v u Q I rx ry ⟨l, (k : Int), xs, rfl, rfl, hT, hne, by omega, by omega, hz, q.2 (by omega)⟩
  · cases rx
    obtain ⟨t, rfl⟩ := ry
    obtain ⟨its, r, ⟨⟨cls, dd, data, sl⟩, ho, hc, n, hd⟩, hs⟩ := I.tuple hT
    simp only at hc hd
    subst hc hd
    have hle : its.length = xs.length := r.length.symm
    have hi : its.toArray.isEmpty = false := by
      cases its with
      | nil => exact absurd (List.eq_nil_of_length_eq_zero hle.symm) hne
      | cons a b => rfl
    have hk2 : k = 0 ∨ k = 1 := by omega
    rcases hk2 with rfl | rfl
    · refine wpAny_binaryOp_repeat_ref (T := "tuple") (U := "int") (by decide) ⟨_, ho, rfl⟩ (fun s' => typeIs_int s' 0 t) noFill_tuple_mul PySem.F.fills_int_mul PySem.F.slot_int_rmul repeat_tuple PySem.F.slot_int_index.lookup
        (call_meets PySem.F.slot_int_rmul (typeIs_int s 0 t) PySem.F.entry_int_rmul (PySem.F.args_int_rmul_2 _ _) (int_rmul_tuple 0 t l its.toArray n dd sl)
          ⟨ho, rfl, ⟨_, ho, rfl⟩, call_meets PySem.F.slot_tuple_mul ⟨_, ho, rfl⟩ PySem.F.entry_tuple_mul (PySem.F.args_tuple_mul_2 _ _) (tuple_mul0 l its.toArray n dd sl t hi) ⟨ho, ?_⟩⟩)
      refine ⟨.ref s.heap.objs.size, _, I.laid (t' := s.toks) (o := .tup []) (fun b ob q => Heap.get?_push_of_some _ q) (Nat.le_refl _) ?_, rfl, q.2 (by decide) _ (I.hok.fresh (Nat.le_refl _))⟩
      exact ⟨Nat.zero_le _, [], .nil, IsTup.new _ _⟩
    · refine wpAny_binaryOp_repeat_ref (T := "tuple") (U := "int") (by decide) ⟨_, ho, rfl⟩ (fun s' => typeIs_int s' 1 t) noFill_tuple_mul PySem.F.fills_int_mul PySem.F.slot_int_rmul repeat_tuple PySem.F.slot_int_index.lookup
        (call_meets PySem.F.slot_int_rmul (typeIs_int s 1 t) PySem.F.entry_int_rmul (PySem.F.args_int_rmul_2 _ _) (int_rmul_tuple 1 t l its.toArray n dd sl)
          ⟨ho, rfl, ⟨_, ho, rfl⟩, call_meets PySem.F.slot_tuple_mul ⟨_, ho, rfl⟩ PySem.F.entry_tuple_mul (PySem.F.args_tuple_mul_2 _ _) (tuple_mul1 l its.toArray n dd sl t) ⟨ho, ?_⟩⟩)
      exact ⟨.ref l, H, I, rfl, q.1 rfl⟩
end

theorem RepAll.flat {K : PySem.W.Frag} {G : Hp} {xs : List V} {ds : List D} (r : RepAll K G xs ds) : ∀ n : Nat, RepAll K G (List.replicate n xs).flatten (List.replicate n ds).flatten
  | 0 => .nil
  | n + 1 => by
    rw [List.replicate_succ, List.flatten_cons, List.replicate_succ, List.flatten_cons]
    exact r.append (r.flat n)
section
variable {X : Cx} {K : PySem.W.Frag}
theorem op_addP0 : OpR X (binaryOp .Add) (rP2 X.K (pf2 fAdd)) := op_of fun G L M H x y a b Q S ra rb ⟨⟨d, c⟩, e, hc, q⟩ => by
  unfold fAdd at e
  split at e
  · cases e
    cases rep_int ra
    cases rep_int rb
    exact ⟨_, op_add, _, _, rfl, rfl, post_int S q⟩
  · cases e
    cases rep_str ra
    cases rep_str rb
    exact ⟨_, op_add_str, _, _, rfl, rfl, hc, post_str S q⟩
  · cases e
    obtain ⟨ca, xs, rfl, ha, pa⟩ := rep_tup ra
    obtain ⟨cb, ys, rfl, hb, pb⟩ := rep_tup rb
    have la := pa.len
    have lb := pb.len
    refine ⟨_, op_catA, ca, cb, xs, ys, rfl, rfl, .inl (Le.rd S.le ha), .inl (Le.rd S.le hb), by omega, fun z => ?_, fun _ z => ?_, fun _ _ => post_tup S (pa.append pb) q⟩
    · subst z
      cases pa
      exact post_at S rb q
    · subst z
      cases pb
      rw [List.append_nil] at q
      exact post_at S ra q
  · split at e
    · rename_i xs ys e1 e2
      cases e
      obtain ⟨ca, us, rfl, ha, pa⟩ := lv_at S ra e1
      obtain ⟨cb, ws, rfl, hb, pb⟩ := lv_at S rb e2
      have la := pa.len
      have lb := pb.len
      exact ⟨_, op_cat, ca, cb, us, ws, rfl, rfl, ha, hb, by omega, post_lst S (pa.append pb) q⟩
    · cases e
theorem op_subP0 : OpR X (binaryOp .Sub) (rP2 X.K (pf2 fSub)) := op_of fun G L M H x y a b Q S ra rb ⟨⟨d, c⟩, e, hc, q⟩ => by
  unfold fSub at e
  split at e
  · cases e
    cases rep_int ra
    cases rep_int rb
    exact ⟨_, op_sub, _, _, rfl, rfl, post_int S q⟩
  · cases e
theorem op_mulP0 : OpR X (binaryOp .Mult) (rP2 X.K (pf2 fMul)) := op_of fun G L M H x y a b Q S ra rb ⟨⟨d, c⟩, e, hc, q⟩ => by
  unfold fMul at e
  split at e
  · cases e
    cases rep_int ra
    cases rep_int rb
    exact ⟨_, op_mul, _, _, rfl, rfl, hc, post_int S q⟩
  · cases e
    obtain ⟨ca, xs, rfl, ha, pa⟩ := rep_tup ra
    cases rep_int rb
    have la := pa.len
    obtain ⟨h0, h1, h2, h3⟩ := hc
    refine ⟨_, op_repA, ca, _, xs, rfl, (by rw [Int.toNat_of_nonneg h1]), (.inl (Le.rd S.le ha)), fun z => ?_, by omega, by omega, fun z => ?_, fun _ => post_tup S (pa.flat _) q⟩
    · subst z
      cases pa
      exact h0 rfl
    · rw [z, List.replicate_one, List.flatten_singleton] at q
      exact post_at S ra q
  · split at e
    · rename_i xs e1
      cases e
      obtain ⟨ca, us, rfl, ha, pa⟩ := lv_at S ra e1
      cases rep_int rb
      have la := pa.len
      obtain ⟨h1, h2, h3⟩ := hc
      exact ⟨_, op_rep, ca, _, us, rfl, rfl, ha, h1, h2, by rw [la]; exact h3, post_lst S (pa.flat _) q⟩
    · cases e
  · cases e
theorem op_divP0 : OpR X (binaryOp .FloorDiv) (rP2 X.K (pf2 fDiv)) := op_of fun G L M H x y a b Q S ra rb ⟨⟨d, c⟩, e, hc, q⟩ => by
  unfold fDiv at e
  split at e
  · cases e
    cases rep_int ra
    cases rep_int rb
    exact ⟨_, op_fdiv, _, _, rfl, rfl, hc, post_int S q⟩
  · cases e
theorem op_modP0 : OpR X (binaryOp .Mod) (rP2 X.K (pf2 fMod)) := op_of fun G L M H x y a b Q S ra rb ⟨⟨d, c⟩, e, hc, q⟩ => by
  unfold fMod at e
  split at e
  · cases e
    cases rep_int ra
    cases rep_int rb
    exact ⟨_, op_mod, _, _, rfl, rfl, hc, post_int S q⟩
  · cases e
theorem op_powP0 : OpR X (binaryOp .Pow) (rP2 X.K (pf2 fPow)) := op_of fun G L M H x y a b Q S ra rb ⟨⟨d, c⟩, e, hc, q⟩ => by
  unfold fPow at e
  split at e
  · cases e
    cases rep_int ra
    cases rep_int rb
    exact ⟨_, op_pow, _, _, rfl, rfl, hc, post_int S q⟩
  · cases e
theorem op_powP (hK : X.K = K := by rfl) : OpR X (binaryOp .Pow) (rP2 K (pf2 fPow)) := hK ▸ op_powP0
theorem un_negP0 : UnR X (unaryOp .USub) (rP1 X.K (pf1 fNeg)) := un_of fun G L M H x a Q S ra ⟨⟨d, c⟩, e, hc, q⟩ => by
  unfold fNeg at e
  split at e
  · cases e
    cases rep_int ra
    exact ⟨_, un_neg, _, rfl, post_int S q⟩
  · cases e
theorem op_addP (hK : X.K = K := by rfl) : OpR X (binaryOp .Add) (rP2 K (pf2 fAdd)) := hK ▸ op_addP0
theorem op_subP (hK : X.K = K := by rfl) : OpR X (binaryOp .Sub) (rP2 K (pf2 fSub)) := hK ▸ op_subP0
theorem op_mulP (hK : X.K = K := by rfl) : OpR X (binaryOp .Mult) (rP2 K (pf2 fMul)) := hK ▸ op_mulP0
theorem op_divP (hK : X.K = K := by rfl) : OpR X (binaryOp .FloorDiv) (rP2 K (pf2 fDiv)) := hK ▸ op_divP0
theorem op_modP (hK : X.K = K := by rfl) : OpR X (binaryOp .Mod) (rP2 K (pf2 fMod)) := hK ▸ op_modP0
theorem un_negP (hK : X.K = K := by rfl) : UnR X (unaryOp .USub) (rP1 K (pf1 fNeg)) := hK ▸ un_negP0
end
end PU

set_option maxRecDepth 100000
set_option maxHeartbeats 8000000
/-! comparisons, subscripts, calls of built-ins -/
namespace PU
open PySem PySem.Spec PyProof.Rows L2 WU
/-! ### == and the like -/
def eqAtom : D → D → Option Bool
  | .int i, .int j => some (decide (i = j))
  | .bl i, .bl j => some (decide (i = j))
  | .str i, .str j => some (decide (i = j))
  | .non, .non => some true
  | .non, .int _ => some false
  | .non, .bl _ => some false
  | .non, .str _ => some false
  | .int _, .non => some false
  | .bl _, .non => some false
  | .str _, .non => some false
  | .int _, .str _ => some false
  | .str _, .int _ => some false
  | .bl _, .str _ => some false
  | .str _, .bl _ => some false
  | _, _ => none
theorem eqAtom_ok {K : PySem.W.Frag} {G : Hp} {x y : V} {a b : D} {r : Bool} (ra : Rep K G x a) (rb : Rep K G y b) (h : eqAtom a b = some r) : scal x y = true ∧ r = decide (x = y) := by
  cases ra <;> cases rb <;> first | (cases h; done) | (cases h; refine ⟨rfl, ?_⟩; simp)
def fEq (a b : W) (M : Mem) : Option (W × Prop) := match trW M a, trW M b with
  | some x, some y => match eqAtom x y with
    | some r => some (.d (.bl r), True)
    | none => match pyD x, pyD y with
      | some p, some q => some (.d (.bl (PyData.eqv p q)), SeqAt.shaped p = true ∧ SeqAt.shaped q = true)
      | _, _ => none
  | _, _ => none
def fNe (a b : W) (M : Mem) : Option (W × Prop) := match trW M a, trW M b with
  | some x, some y => match eqAtom x y with
    | some r => some (.d (.bl (!r)), True)
    | none => match pyD x, pyD y with
      | some p, some q => some (.d (.bl (!PyData.eqv p q)), SeqAt.shaped p = true ∧ SeqAt.shaped q = true)
      | _, _ => none
  | _, _ => none
def fLt (a b : W) (M : Mem) : Option (W × Prop) := match a, b with
  | .d (.int i), .d (.int j) => some (.d (.bl (decide (i < j))), True)
  | a, b => match pyW M a, pyW M b with
    | some p, some q => some (.d (.bl (PySem.W.dataLt p q)), PySem.W.alike p q = true ∧ p ≠ .none ∧ p.depth ≤ 60)
    | _, _ => none
def fCmp (f : Int → Int → Bool) (a b : W) (_ : Mem) : Option (W × Prop) := match a, b with
  | .d (.int i), .d (.int j) => some (.d (.bl (f i j)), True)
  | _, _ => none
def fIsN (a b : W) (_ : Mem) : Option (W × Prop) := match a, b with
  | .d .non, .d .non => some (.d (.bl true), True)
  | .d (.at _), .d .non => none
  | _, .d .non => some (.d (.bl false), True)
  | _, _ => none
def fNoN (a b : W) (_ : Mem) : Option (W × Prop) := match a, b with
  | .d .non, .d .non => some (.d (.bl false), True)
  | .d (.at _), .d .non => none
  | _, .d .non => some (.d (.bl true), True)
  | _, _ => none
def flatD : D → Bool
  | .non => true
  | .bl _ => true
  | .int _ => true
  | .str _ => true
  | _ => false
def eqFlat : D → D → Bool
  | .non, .non => true
  | .bl a, .bl b => a == b
  | .bl a, .int b => (if a then 1 else 0) == b
  | .int a, .bl b => a == (if b then 1 else 0)
  | .int a, .int b => a == b
  | .str a, .str b => a == b
  | _, _ => false
/-- x in a sequence: flat items, or any data in a list -/
def inD (neg : Bool) (a b : W) (M : Mem) : Option (W × Prop) := match a, seqW M b with
  | .d x, some (k, ds) => if flatD x && ds.all flatD then some (.d (.bl (xor neg (ds.any fun z => eqFlat z x))), True)
    else match k, pyD x, pyAll ds with
      | true, some p, some ps => some (.d (.bl (xor neg (ps.any fun z => PyData.eqv z p))), SeqAt.shaped p = true ∧ SeqAt.shaped (.list ps) = true)
      | _, _, _ => none
  | _, _ => none
theorem flat_rep {K : PySem.W.Frag} {G : Hp} {v : V} {d : D} (r : Rep K G v d) (h : flatD d = true) : flatV v = true := by cases r <;> first | rfl | cases h
theorem flat_all {K : PySem.W.Frag} {G : Hp} : ∀ {vs : List V} {ds : List D}, RepAll K G vs ds → ds.all flatD = true → vs.all flatV = true
  | _, _, .nil, _ => rfl
  | _, _, .cons h r, e => by
    rw [List.all_cons, Bool.and_eq_true] at e ⊢
    exact ⟨flat_rep h e.1, flat_all r e.2⟩
theorem flat_eq {K : PySem.W.Frag} {G : Hp} {x y : V} {a b : D} (ra : Rep K G x a) (rb : Rep K G y b) (ha : flatD a = true) (hb : flatD b = true) : eqV x y = eqFlat a b := by
  cases ra <;> first | (cases ha; done) | (cases rb <;> first | (cases hb; done) | rfl)
theorem flat_in {K : PySem.W.Frag} {G : Hp} {x : V} {a : D} (ra : Rep K G x a) (ha : flatD a = true) : ∀ {vs : List V} {ds : List D}, RepAll K G vs ds → ds.all flatD = true → inV x vs = ds.any fun z => eqFlat z a
  | _, _, .nil, _ => rfl
  | _, _, .cons h r, e => by
    rw [List.all_cons, Bool.and_eq_true] at e
    have ih := flat_in ra ha r e.2
    unfold inV at ih ⊢
    rw [List.any_cons, List.any_cons, ih, flat_eq h ra e.1 ha]
/-! ### subscripts -/
def fIx (a b : W) (M : Mem) : Option (W × Prop) := match a, b with
  | .d (.str z), .d (.int i) => (atI z.cps.toList i).map fun c => (.d (.str ⟨#[c]⟩), z.length ≤ sizeLine)
  | a, .d (.int i) => match seqW M a with
    | some (_, ds) => (atI ds i).map fun d => (.d d, True)
    | none => none
  | _, _ => none
theorem repAll_atI {K : PySem.W.Frag} {G : Hp} {vs : List V} {ds : List D} {i : Int} {d : D} (r : RepAll K G vs ds) (h : atI ds i = some d) : ∃ v, atI vs i = some v ∧ Rep K G v d := by
  unfold atI at h ⊢
  rw [r.len]
  cases e : ixN ds.length i with
  | none =>
    rw [e] at h
    cases h
  | some j =>
    rw [e] at h
    exact r.get h
def cutD (xs : List D) (lo hi : Option Int) : List D := (xs.drop (HT.sIx xs.length 0 lo)).take (HT.sIx xs.length xs.length hi - HT.sIx xs.length 0 lo)
theorem repAll_cut {K : PySem.W.Frag} {G : Hp} {vs : List V} {ds : List D} (r : RepAll K G vs ds) (lo hi : Option Int) : RepAll K G (cutV vs lo hi) (cutD ds lo hi) := by
  unfold cutV cutD
  rw [r.len]
  exact (r.drop _).take _
abbrev Po := En → Mem → (Option Int → Mem → Prop) → XW → Prop
class SO (K : PySem.W.Frag) (Wx : WX) (t : TO) (w : outParam Po) : Prop where
  mono : ∀ {ρ M k k' e e'}, (∀ a m, k a m → k' a m) → (∀ c f m, e c f m → e' c f m) → w ρ M k e → w ρ M k' e'
  ok : ∀ {G L M ρ σ H Q}, Sim K G L M H → Sl K G L σ ρ → w ρ M (fun i M' => ∀ G' L' H', Ext G L H G' L' H' → Sim K G' L' M' H' → Q i H') (PostX K G L H (WE Wx σ)) → t σ H Q
def oNo : Po := fun _ M k _ => k none M
def oPart (a : WEx) : Po := fun ρ M k e => a ρ M (fun w M1 => ∃ i, w = .d (.int i) ∧ k (some i) M1) e
def isFt : W → Bool
  | .d (.ft _) => true
  | .d (.nt _) => true
  | _ => false
def fSl (a : W) (lo hi : Option Int) (M : Mem) : Option W := if isFt a = true then none else match seqW M a with
  | some (true, ds) => some (.d (.lst (cutD ds lo hi)))
  | some (false, ds) => some (.d (.tup (cutD ds lo hi)))
  | none => none
def rSlP (K : PySem.W.Frag) : V → Option Int → Option Int → Hp → VK → Prop := fun x lo hi H Q => ∃ G L M a, Sim K G L M H ∧ RepW K G L x a ∧ ∃ b, fSl a lo hi M = some b ∧ Post K G L H Q b M
def wSl (a : WEx) (lo hi : Po) : WEx := fun ρ M k e => a ρ M (fun w M1 => lo ρ M1 (fun l M2 => hi ρ M2 (fun h M3 => ob (fSl w l h M3) fun b => k b M3) e) e) e
section
variable {K : PySem.W.Frag} {Wx : WX}
instance : SO K Wx tNoPart oNo where
  mono := fun hk _ h => hk _ _ h
  ok := fun S s h => h _ _ _ Ext.refl S
instance {t : TE} {a : WEx} [A : SE K Wx t a] : SO K Wx (tPart t) (oPart a) where
  mono := fun hk he h => A.mono (fun _ _ ⟨i, e, q⟩ => ⟨i, e, hk _ _ q⟩) he h
  ok := fun S s h => A.ok S s (A.mono (fun w M1 ⟨i, e, q⟩ G1 L1 H1 v e1 S1 r1 => by
    subst e
    exact ⟨i, rep_int r1, q _ _ _ e1 S1⟩) (fun _ _ _ z => z) h)
instance {t : TE} {tl th : TO} {a : WEx} {lo hi : Po} [A : SE K Wx t a] [B : SO K Wx tl lo] [C : SO K Wx th hi] : SE K Wx (tSl (rSlP K) t tl th) (wSl a lo hi) where
  mono := fun hk he h => A.mono (fun _ _ q => B.mono (fun _ _ q => C.mono (fun _ _ ⟨b, e, q⟩ => ⟨b, e, hk _ _ q⟩) he q) he q) he h
  ok := fun S s h => A.ok S s (A.mono (fun w M1 q G1 L1 H1 v e1 S1 r1 => B.ok S1 (s.ext e1) (B.mono (fun l M2 q G2 L2 H2 e2 S2 => C.ok S2 ((s.ext e1).ext e2) (C.mono (fun u M3 ⟨b, e, q⟩ G3 L3 H3 e3 S3 =>
    ⟨G3, L3, M3, w, S3, (r1.ext e2).ext e3, b, e, q.after ((e1.trans e2).trans e3)⟩) (fun _ _ _ z => z.after (e1.trans e2)) q)) (fun _ _ _ z => z.after e1) q)) (fun _ _ _ z => z) h)
end
section
variable {X : Cx} {K : PySem.W.Frag}
theorem op_eqP0 (hu : X.A.units + 64 < cLine) : OpR X (compareOp .Eq) (rP2 X.K (pf2 fEq)) := op_of fun G L M H x y a b Q S ra rb hq => by
  obtain ⟨⟨d, c⟩, e, hc, q⟩ := hq
  unfold fEq at e
  split at e
  · rename_i u v e1 e2
    have r1 := rep_now S ra e1
    have r2 := rep_now S rb e2
    split at e
    · rename_i r e3
      cases e
      obtain ⟨h1, h2⟩ := eqAtom_ok r1 r2 e3
      subst h2
      exact ⟨_, op_eq, h1, post_bl S q⟩
    · split at e
      · rename_i p q' e4 e5
        cases e
        exact ⟨_, op_eqD hu, p, q', r1.dp e4, r2.dp e5, hc.1, hc.2, post_bl S q⟩
      · cases e
  · cases e
theorem op_neP0 (hu : X.A.units + 64 < cLine) : OpR X (compareOp .NotEq) (rP2 X.K (pf2 fNe)) := op_of fun G L M H x y a b Q S ra rb hq => by
  obtain ⟨⟨d, c⟩, e, hc, q⟩ := hq
  unfold fNe at e
  split at e
  · rename_i u v e1 e2
    have r1 := rep_now S ra e1
    have r2 := rep_now S rb e2
    split at e
    · rename_i r e3
      cases e
      obtain ⟨h1, h2⟩ := eqAtom_ok r1 r2 e3
      subst h2
      exact ⟨_, op_ne, h1, post_bl S q⟩
    · split at e
      · rename_i p q' e4 e5
        cases e
        exact ⟨_, op_neD hu, p, q', r1.dp e4, r2.dp e5, hc.1, hc.2, post_bl S q⟩
      · cases e
  · cases e
def rLtQ (K : PySem.W.Frag) : R2 := fun x y H Q => ∃ d e, Dp K H x d ∧ Dp K H y e ∧ PySem.W.alike d e = true ∧ d ≠ .none ∧ d.depth ≤ 60 ∧ Q (.bl (PySem.W.dataLt d e)) H
theorem op_ltQ (hu : X.A.units + 64 < cLine) : OpR X (compareOp .Lt) (rLtQ X.K) := by
  intro pins s σ H x y v u Q I rx ry h
  obtain ⟨d, e, hd, he, al, nn, dp, q⟩ := h
  obtain ⟨as, r1⟩ := Dp.reads I d x v hd rx
  obtain ⟨bs, r2⟩ := Dp.reads I e y u he ry
  exact PySem.W.lt_data r1 r2 al nn (by omega) ⟨.bl _, H, I, rfl, q⟩
theorem op_ltP0 (hu : X.A.units + 64 < cLine) : OpR X (compareOp .Lt) (rP2 X.K (pf2 fLt)) := op_of fun G L M H x y a b Q S ra rb hq => by
  obtain ⟨⟨d, c⟩, e, hc, q⟩ := hq
  unfold fLt at e
  split at e
  · cases e
    cases rep_int ra
    cases rep_int rb
    exact ⟨_, op_lt, _, _, rfl, rfl, post_bl S q⟩
  · split at e
    · rename_i p q' e1 e2
      cases e
      exact ⟨_, op_ltQ hu, p, q', dp_now S ra e1, dp_now S rb e2, hc.1, hc.2.1, hc.2.2, post_bl S q⟩
    · cases e
theorem op_cmpP0 {op : CmpOp} {f : Int → Int → Bool} (h : OpR X (compareOp op) (rI0 fun i j => .bl (f i j))) : OpR X (compareOp op) (rP2 X.K (pf2 (fCmp f))) := op_of fun G L M H x y a b Q S ra rb hq => by
  obtain ⟨⟨d, c⟩, e, hc, q⟩ := hq
  unfold fCmp at e
  split at e
  · cases e
    cases rep_int ra
    cases rep_int rb
    exact ⟨_, h, _, _, rfl, rfl, post_bl S q⟩
  · cases e
theorem non_rep {K : PySem.W.Frag} {G : Hp} {L : List Addr} {x : V} {a : W} (r : RepW K G L x a) (h1 : a ≠ .d .non) (h2 : ∀ v, a ≠ .d (.at v)) : x ≠ .non := by
  cases a with
  | p n =>
    obtain ⟨c, _, rfl⟩ := r
    exact nofun
  | d y =>
    cases r with
    | non => exact absurd rfl h1
    | «at» => exact absurd rfl (h2 _)
    | _ => exact nofun
theorem op_isNP0 : OpR X (compareOp .Is) (rP2 X.K (pf2 fIsN)) := op_of fun G L M H x y a b Q S ra rb hq => by
  obtain ⟨⟨d, c⟩, e, hc, q⟩ := hq
  unfold fIsN at e
  split at e
  · cases e
    cases rep_non ra
    cases rep_non rb
    exact ⟨_, op_isN, rfl, post_bl S q⟩
  · cases e
  · rename_i n1 n2
    cases e
    cases rep_non rb
    refine ⟨_, op_isN, rfl, ?_⟩
    rw [decide_eq_false (non_rep ra (fun z => n1 z) fun v z => n2 v z)]
    exact post_bl S q
  · cases e
theorem op_noNP0 : OpR X (compareOp .IsNot) (rP2 X.K (pf2 fNoN)) := op_of fun G L M H x y a b Q S ra rb hq => by
  obtain ⟨⟨d, c⟩, e, hc, q⟩ := hq
  unfold fNoN at e
  split at e
  · cases e
    cases rep_non ra
    cases rep_non rb
    exact ⟨_, op_notN, rfl, post_bl S q⟩
  · cases e
  · rename_i n1 n2
    cases e
    cases rep_non rb
    refine ⟨_, op_notN, rfl, ?_⟩
    rw [decide_eq_false (non_rep ra (fun z => n1 z) fun v z => n2 v z)]
    exact post_bl S q
  · cases e
theorem op_inP0 (hu : X.A.units + 65 < cLine) : OpR X (compareOp .In) (rP2 X.K (pf2 (inD false))) := op_of fun G L M H x y a b Q S ra rb hq => by
  obtain ⟨⟨d, c⟩, e, hc, q⟩ := hq
  unfold inD at e
  split at e
  · rename_i z k ds e1
    obtain ⟨c', vs, rfl, rr, sq⟩ := seq_at S rb e1
    split at e
    · rename_i hf
      cases e
      rw [Bool.and_eq_true] at hf
      refine ⟨_, op_in_seq, c', vs, rfl, sqB_len sq, flat_rep ra hf.1, flat_all rr hf.2, ?_⟩
      rw [if_neg Bool.false_ne_true, flat_in ra hf.1 rr hf.2]
      rw [Bool.false_xor] at q
      exact post_bl S q
    · split at e
      · rename_i p ps e2 e3
        cases e
        rw [Bool.false_xor] at q
        exact ⟨_, op_inD hu, p, ps, (Rep.mono S.le ra).dp e2, .lst sq (RepAll.dp (RepAll.mono S.le rr) e3), hc.1, hc.2, post_bl S q⟩
      · cases e
  · cases e
theorem op_ninP0 (hu : X.A.units + 65 < cLine) : OpR X (compareOp .NotIn) (rP2 X.K (pf2 (inD true))) := op_of fun G L M H x y a b Q S ra rb hq => by
  obtain ⟨⟨d, c⟩, e, hc, q⟩ := hq
  unfold inD at e
  split at e
  · rename_i z k ds e1
    obtain ⟨c', vs, rfl, rr, sq⟩ := seq_at S rb e1
    split at e
    · rename_i hf
      cases e
      rw [Bool.and_eq_true] at hf
      refine ⟨_, op_notIn_seq, c', vs, rfl, sqB_len sq, flat_rep ra hf.1, flat_all rr hf.2, ?_⟩
      rw [if_pos rfl, flat_in ra hf.1 rr hf.2]
      rw [Bool.true_xor] at q
      exact post_bl S q
    · split at e
      · rename_i p ps e2 e3
        cases e
        rw [Bool.true_xor] at q
        exact ⟨_, op_notInD hu, p, ps, (Rep.mono S.le ra).dp e2, .lst sq (RepAll.dp (RepAll.mono S.le rr) e3), hc.1, hc.2, post_bl S q⟩
      · cases e
  · cases e
theorem ix_P0 : IxR X (rP2 X.K (pf2 fIx)) := ix_of fun G L M H x y a b Q S ra rb hq => by
  obtain ⟨⟨d, c⟩, e, hc, q⟩ := hq
  unfold fIx at e
  split at e
  · rename_i z i
    cases e1 : atI z.cps.toList i with
    | none =>
      rw [e1] at e
      cases e
    | some u =>
      rw [e1] at e
      cases e
      cases rep_str ra
      cases rep_int rb
      exact ⟨_, ix_str, z, i, u, rfl, rfl, hc, e1, post_str S q⟩
  · rename_i i _
    split at e
    · rename_i k ds e1
      cases e2 : atI ds i with
      | none =>
        rw [e2] at e
        cases e
      | some u =>
        rw [e2] at e
        cases e
        obtain ⟨c', vs, rfl, rr, sq⟩ := seq_at S ra e1
        cases rep_int rb
        obtain ⟨v, hv, rv⟩ := repAll_atI rr e2
        have fin := post_at S (show RepW X.K G L v (.d u) from rv) q
        rcases sqB_len sq with sq | sq
        · exact ⟨_, ix_list, c', vs, i, v, rfl, rfl, sq, hv, fin⟩
        · exact ⟨_, ix_tup, c', vs, i, v, rfl, rfl, sq, hv, fin⟩
    · cases e
  · cases e
theorem sl_P0 : SlR X (rSlP X.K) := by
  rintro pins s σ H x v vl vu lo hi sl Q I rx hs pl pu ⟨G, L, M, a, S, ra, b, e, q⟩
  unfold fSl at e
  by_cases ft : isFt a = true
  · rw [if_pos ft] at e
    cases e
  rw [if_neg ft] at e
  split at e
  · rename_i ds e1
    cases e
    obtain ⟨c', vs, rfl, rr, sq⟩ := seq_at S ra e1
    exact sl_list pins s σ H _ v vl vu lo hi sl Q I rx hs pl pu ⟨c', vs, rfl, sq, post_lst S (repAll_cut rr lo hi) q⟩
  · rename_i ds e1
    cases e
    obtain ⟨c', vs, rfl, rr, sq⟩ := seq_at S ra e1
    refine sl_tupA pins s σ H _ v vl vu lo hi sl Q I rx hs pl pu ⟨c', vs, rfl, sq, fun ⟨z1, z2⟩ => ?_, fun _ => post_tup S (repAll_cut rr lo hi) q⟩
    have : cutD ds lo hi = ds := by
      unfold cutD
      rw [← rr.len, z1, z2, List.drop_zero, Nat.sub_zero, rr.len, List.take_length]
    rw [this] at q
    refine post_at S ?_ q
    cases a with
    | p n =>
      cases e2 : M[n]? with
      | none =>
        rw [seqW, e2] at e1
        cases e1
      | some cc =>
        rw [seqW, e2] at e1
        cases cc <;> cases e1
    | d y => cases y <;> first | (cases e1; exact ra) | (exact absurd rfl ft) | cases e1
  · cases e
theorem op_eqP (hu : X.A.units + 64 < cLine) (hK : X.K = K := by rfl) : OpR X (compareOp .Eq) (rP2 K (pf2 fEq)) := hK ▸ op_eqP0 hu
theorem op_neP (hu : X.A.units + 64 < cLine) (hK : X.K = K := by rfl) : OpR X (compareOp .NotEq) (rP2 K (pf2 fNe)) := hK ▸ op_neP0 hu
theorem op_ltP (hu : X.A.units + 64 < cLine) (hK : X.K = K := by rfl) : OpR X (compareOp .Lt) (rP2 K (pf2 fLt)) := hK ▸ op_ltP0 hu
theorem op_leP (hK : X.K = K := by rfl) : OpR X (compareOp .LtE) (rP2 K (pf2 (fCmp fun i j => decide (i ≤ j)))) := hK ▸ op_cmpP0 op_le
theorem op_gtP (hK : X.K = K := by rfl) : OpR X (compareOp .Gt) (rP2 K (pf2 (fCmp fun i j => decide (j < i)))) := hK ▸ op_cmpP0 op_gt
theorem op_geP (hK : X.K = K := by rfl) : OpR X (compareOp .GtE) (rP2 K (pf2 (fCmp fun i j => decide (j ≤ i)))) := hK ▸ op_cmpP0 op_ge
theorem op_isNP (hK : X.K = K := by rfl) : OpR X (compareOp .Is) (rP2 K (pf2 fIsN)) := hK ▸ op_isNP0
theorem op_noNP (hK : X.K = K := by rfl) : OpR X (compareOp .IsNot) (rP2 K (pf2 fNoN)) := hK ▸ op_noNP0
theorem op_inP (hu : X.A.units + 65 < cLine) (hK : X.K = K := by rfl) : OpR X (compareOp .In) (rP2 K (pf2 (inD false))) := hK ▸ op_inP0 hu
theorem op_ninP (hu : X.A.units + 65 < cLine) (hK : X.K = K := by rfl) : OpR X (compareOp .NotIn) (rP2 K (pf2 (inD true))) := hK ▸ op_ninP0 hu
theorem ix_P (hK : X.K = K := by rfl) : IxR X (rP2 K (pf2 fIx)) := hK ▸ ix_P0
theorem sl_P (hK : X.K = K := by rfl) : SlR X (rSlP K) := hK ▸ sl_P0
end
end PU

set_option maxRecDepth 100000
set_option maxHeartbeats 8000000
/-! calls of built-ins, methods of lists, stores, truth -/
namespace PU
open PySem PySem.Spec PyProof.Rows L2 WU
def intsD : List D → Option (List Int)
  | [] => some []
  | .int i :: r => (intsD r).map (i :: ·)
  | _ => none
def blsD : List D → Option (List Bool)
  | [] => some []
  | .bl i :: r => (blsD r).map (i :: ·)
  | _ => none
def strsD : List D → Option (List Str)
  | [] => some []
  | .str i :: r => (strsD r).map (i :: ·)
  | _ => none
section
variable {K : PySem.W.Frag} {G : Hp}
theorem ints_rep : ∀ {vs : List V} {ds : List D} {ns : List Int}, RepAll K G vs ds → intsD ds = some ns → vs = ns.map V.int
  | _, [], _, .nil, h => by
    cases h
    rfl
  | _, d :: ds, _, .cons h r, e => by
    cases d <;> first | (cases e; done) | skip
    rename_i i
    cases e2 : intsD ds with
    | none =>
      rw [intsD, e2] at e
      cases e
    | some l =>
      rw [intsD, e2] at e
      cases e
      rw [rep_int h, ints_rep r e2]
      rfl
theorem bls_rep : ∀ {vs : List V} {ds : List D} {ns : List Bool}, RepAll K G vs ds → blsD ds = some ns → vs = ns.map V.bl
  | _, [], _, .nil, h => by
    cases h
    rfl
  | _, d :: ds, _, .cons h r, e => by
    cases d <;> first | (cases e; done) | skip
    rename_i i
    cases e2 : blsD ds with
    | none =>
      rw [blsD, e2] at e
      cases e
    | some l =>
      rw [blsD, e2] at e
      cases e
      rw [rep_bl h, bls_rep r e2]
      rfl
theorem strs_rep : ∀ {vs : List V} {ds : List D} {ns : List Str}, RepAll K G vs ds → strsD ds = some ns → vs = ns.map V.str
  | _, [], _, .nil, h => by
    cases h
    rfl
  | _, d :: ds, _, .cons h r, e => by
    cases d <;> first | (cases e; done) | skip
    rename_i i
    cases e2 : strsD ds with
    | none =>
      rw [strsD, e2] at e
      cases e
    | some l =>
      rw [strsD, e2] at e
      cases e
      rw [rep_str h, strs_rep r e2]
      rfl
end
@[simp] theorem intsD_map (ns : List Int) : intsD (ns.map D.int) = some ns := by
  induction ns with
  | nil => rfl
  | cons n ns ih => rw [List.map_cons, intsD, ih]; rfl
@[simp] theorem blsD_map (ns : List Bool) : blsD (ns.map D.bl) = some ns := by
  induction ns with
  | nil => rfl
  | cons n ns ih => rw [List.map_cons, blsD, ih]; rfl
@[simp] theorem strsD_map (ns : List Str) : strsD (ns.map D.str) = some ns := by
  induction ns with
  | nil => rfl
  | cons n ns ih => rw [List.map_cons, strsD, ih]; rfl
def fLen (as : List W) (M : Mem) : Option (W × Prop) := match as with
  | [.d (.str x)] => some (.d (.int x.length), x.length ≤ sizeLine)
  | [a] => match seqW M a with
    | some (_, ds) => some (.d (.int ds.length), True)
    | none => none
  | _ => none
def fList (as : List W) (M : Mem) : Option (W × Prop) := match as with
  | [a] => match seqW M a with
    | some (_, ds) => some (.d (.lst ds), True)
    | none => none
  | _ => none
def fTuple (as : List W) (M : Mem) : Option (W × Prop) := match as with
  | [.d (.ft xs)] => some (.d (.ft xs), True)
  | [.d (.nt xs)] => some (.d (.nt xs), True)
  | [a] => match seqW M a with
    | some (_, ds) => some (.d (.tup ds), True)
    | none => none
  | _ => none
def fSum (as : List W) (M : Mem) : Option (W × Prop) := match as with
  | [a] => match seqW M a with
    | some (true, ds) => (intsD ds).map fun ns => (.d (.int ns.sum), True)
    | _ => none
  | _ => none
def fAny (as : List W) (M : Mem) : Option (W × Prop) := match as with
  | [a] => match seqW M a with
    | some (true, ds) => (blsD ds).map fun ns => (.d (.bl (ns.any id)), True)
    | _ => none
  | _ => none
def fAll (as : List W) (M : Mem) : Option (W × Prop) := match as with
  | [a] => match seqW M a with
    | some (true, ds) => (blsD ds).map fun ns => (.d (.bl (ns.all id)), True)
    | _ => none
  | _ => none
def fMax (as : List W) (M : Mem) : Option (W × Prop) := match as with
  | [.d (.int i), .d (.int j)] => some (.d (.int (if j > i then j else i)), True)
  | [a] => match seqW M a with
    | some (true, ds) => match intsD ds with
      | some (n :: ns) => some (.d (.int (ns.foldl max n)), True)
      | _ => none
    | _ => none
  | _ => none
def fMin (as : List W) (M : Mem) : Option (W × Prop) := match as with
  | [.d (.int i), .d (.int j)] => some (.d (.int (if j < i then j else i)), True)
  | [a] => match seqW M a with
    | some (true, ds) => match intsD ds with
      | some (n :: ns) => some (.d (.int (ns.foldl min n)), True)
      | _ => none
    | _ => none
  | _ => none
def fAbs (as : List W) (_ : Mem) : Option (W × Prop) := match as with
  | [.d (.int i)] => some (.d (.int (if i < 0 then -i else i)), True)
  | _ => none
def fInt (as : List W) (_ : Mem) : Option (W × Prop) := match as with
  | [.d (.int i)] => some (.d (.int i), True)
  | [.d (.bl b)] => some (.d (.int (if b then 1 else 0)), True)
  | _ => none
def fBool (as : List W) (_ : Mem) : Option (W × Prop) := match as with
  | [.d (.int i)] => some (.d (.bl (i != 0)), True)
  | [.d (.bl b)] => some (.d (.bl b), True)
  | _ => none
def fStr (as : List W) (_ : Mem) : Option (W × Prop) := match as with
  | [.d (.int i)] => some (.d (.str (toString i)), i.natAbs.log2 < 1920)
  | _ => none
def tyW (M : Mem) : W → Option Value
  | .d .non => some (.type "NoneType")
  | .d (.bl _) => some (.type "bool")
  | .d (.int _) => some (.type "int")
  | .d (.str _) => some (.type "str")
  | .d (.lst _) => some (.type "list")
  | .d (.tup _) => some (.type "tuple")
  | .d (.ft _) => some (.type "tuple")
  | .d (.nt _) => some (.type "tuple")
  | .p n => match M[n]? with
    | some (.lst _) => some (.type "list")
    | _ => none
  | _ => none
def clV : W → Option Value
  | .d (.at (.ty n)) => some (.type n)
  | .d (.at (.ref C)) => some (.ref C)
  | _ => none
/-- what isinstance asks of the class of an instance -/
def InsK (K : PySem.W.Frag) (C : Addr) : Prop := Cls K C ∧ PySem.W.findIn K (.ref C) "__class__" = some (some (.builtin "object.__class__")) ∧ PySem.W.specialIn K (.builtin "object.__class__") "__get__" = some (some (.builtin "getset_descriptor.__get__")) ∧
  PySem.W.takesIn K (.builtin "object.__class__") = some true ∧ PySem.W.mroIn K C (.type "object") = some true
def pIsi (K : PySem.W.Frag) : Pn := fun as M k => ∃ a c u b, as = [a, c] ∧ clV c = some u ∧ ((∃ t, tyW M a = some t ∧ PySem.W.kitOne K t u = some b) ∨ ∃ C, clsW M a = some C ∧ InsK K C ∧ PySem.W.kitOne K (.ref C) u = some b) ∧ k (.d (.bl b)) M
instance {K : PySem.W.Frag} : Un (pIsi K) := ⟨fun _ _ _ _ hk ⟨a, c, u, b, h1, h2, h3, q⟩ => ⟨a, c, u, b, h1, h2, h3, hk _ _ q⟩⟩
def one {α : Type} : List α → Option α
  | [a] => some a
  | _ => none
@[simp] theorem one_a {α : Type} {a : α} : one [a] = some a := rfl
theorem one_eq {α : Type} {as : List α} {a : α} (h : one as = some a) : as = [a] := by
  unfold one at h
  split at h
  · cases h
    rfl
  · cases h
def pListO : Pn := fun as M k => ob (one as) fun a => ob (seqW M a) fun r => k (.p M.length) (M ++ [.lst r.2])
instance : Un pListO := ⟨fun _ _ _ _ hk ⟨a, h1, r, h2, q⟩ => ⟨a, h1, r, h2, hk _ _ q⟩⟩
theorem repWs1 {K : PySem.W.Frag} {G : Hp} {L : List Addr} {vs : List V} {a : W} (h : RepWs K G L vs [a]) : ∃ v, vs = [v] ∧ RepW K G L v a := by
  cases h with
  | cons h t =>
    cases t
    exact ⟨_, rfl, h⟩
theorem repWs2 {K : PySem.W.Frag} {G : Hp} {L : List Addr} {vs : List V} {a b : W} (h : RepWs K G L vs [a, b]) : ∃ v u, vs = [v, u] ∧ RepW K G L v a ∧ RepW K G L u b := by
  cases h with
  | cons h t =>
    obtain ⟨u, rfl, r⟩ := repWs1 t
    exact ⟨_, _, rfl, h, r⟩
theorem max_of (n : Int) (ns : List Int) : ns.foldl max n ∈ n :: ns ∧ ∀ y ∈ n :: ns, y ≤ ns.foldl max n := by
  induction ns generalizing n with
  | nil => simp
  | cons m ns ih =>
    rw [List.foldl_cons]
    obtain ⟨h1, h2⟩ := ih (max n m)
    refine ⟨?_, fun y hy => ?_⟩
    · rcases List.mem_cons.mp h1 with e | e
      · rw [e]
        rcases Int.le_total n m with q | q
        · rw [Int.max_eq_right q]
          simp
        · rw [Int.max_eq_left q]
          simp
      · exact List.mem_cons_of_mem _ (List.mem_cons_of_mem _ e)
    · have h3 := h2 _ (List.mem_cons_self ..)
      rcases List.mem_cons.mp hy with e | e
      · omega
      · rcases List.mem_cons.mp e with e | e
        · omega
        · exact h2 y (List.mem_cons_of_mem _ e)
theorem min_of (n : Int) (ns : List Int) : ns.foldl min n ∈ n :: ns ∧ ∀ y ∈ n :: ns, ns.foldl min n ≤ y := by
  induction ns generalizing n with
  | nil => simp
  | cons m ns ih =>
    rw [List.foldl_cons]
    obtain ⟨h1, h2⟩ := ih (min n m)
    refine ⟨?_, fun y hy => ?_⟩
    · rcases List.mem_cons.mp h1 with e | e
      · rw [e]
        rcases Int.le_total n m with q | q
        · rw [Int.min_eq_left q]
          simp
        · rw [Int.min_eq_right q]
          simp
      · exact List.mem_cons_of_mem _ (List.mem_cons_of_mem _ e)
    · have h3 := h2 _ (List.mem_cons_self ..)
      rcases List.mem_cons.mp hy with e | e
      · omega
      · rcases List.mem_cons.mp e with e | e
        · omega
        · exact h2 y (List.mem_cons_of_mem _ e)
section
variable {X : Cx} {K : PySem.W.Frag}
theorem cr_lenP0 : CallR X (.builtin "len") (rPn X.K (pfn fLen)) := cr_of fun G L M H xs as Q S ra hq => by
  obtain ⟨⟨d, c⟩, e, hc, q⟩ := hq
  unfold fLen at e
  split at e
  · cases e
    obtain ⟨v, rfl, r⟩ := repWs1 ra
    cases rep_str r
    exact ⟨_, call_len_str, _, rfl, hc, post_int S q⟩
  · split at e
    · rename_i k ds e1
      cases e
      obtain ⟨v, rfl, r⟩ := repWs1 ra
      obtain ⟨c', vs, rfl, rr, sq⟩ := seq_at S r e1
      rw [← rr.len] at q
      exact ⟨_, call_len_seq, c', vs, rfl, sqB_len sq, post_int S q⟩
    · cases e
  · cases e
theorem cr_listP0 : CallR X (.type "list") (rPn X.K (pfn fList)) := cr_of fun G L M H xs as Q S ra hq => by
  obtain ⟨⟨d, c⟩, e, hc, q⟩ := hq
  unfold fList at e
  split at e
  · split at e
    · rename_i k ds e1
      cases e
      obtain ⟨v, rfl, r⟩ := repWs1 ra
      obtain ⟨c', vs, rfl, rr, sq⟩ := seq_at S r e1
      exact ⟨_, call_list_of, c', vs, rfl, sqB_len sq, post_lst S rr q⟩
    · cases e
  · cases e
theorem cr_listO0 : CallR X (.type "list") (rPn X.K pListO) := cr_of fun G L M H xs as Q S ra hq => by
  obtain ⟨a, h1, ⟨b, ds⟩, e1, q⟩ := hq
  obtain rfl := one_eq h1
  obtain ⟨v, rfl, r⟩ := repWs1 ra
  obtain ⟨c', vs, rfl, rr, sq⟩ := seq_at S r e1
  refine ⟨_, call_list_of, c', vs, rfl, sqB_len sq, fun p hp => ?_⟩
  obtain ⟨S2, e2⟩ := S.alloc (o := .lst vs) (c := .lst ds) hp ⟨_, upd_same, rr⟩
  exact q _ _ _ _ e2 S2 ⟨p, by rw [← S.len, List.getElem?_append_right (Nat.le_refl _), Nat.sub_self]; rfl, rfl⟩
theorem cr_tupleP0 : CallR X (.type "tuple") (rPn X.K (pfn fTuple)) := cr_of fun G L M H xs as Q S ra hq => by
  obtain ⟨⟨d, c⟩, e, hc, q⟩ := hq
  unfold fTuple at e
  split at e
  · cases e
    obtain ⟨v, rfl, r⟩ := repWs1 ra
    cases id r with
    | ft h1 h2 => exact ⟨_, call_tuple_of, _, _, rfl, .inr ⟨Le.sqT S.le h1, post_at S r q⟩⟩
  · cases e
    obtain ⟨v, rfl, r⟩ := repWs1 ra
    cases id r with
    | nt h1 h0 h2 => exact ⟨_, call_tuple_of, _, _, rfl, .inr ⟨.inl (.inr ⟨_, S.le _ _ h1⟩), post_at S r q⟩⟩
  · rename_i nf nf2
    split at e
    · rename_i a o k ds e1
      cases e
      obtain ⟨v, rfl, r⟩ := repWs1 ra
      obtain ⟨c', vs, rfl, rr, sq⟩ := seq_at S r e1
      cases k with
      | true => exact ⟨_, call_tuple_of, c', vs, rfl, .inl ⟨sq, post_tup S rr q⟩⟩
      | false =>
        refine ⟨_, call_tuple_of, c', vs, rfl, .inr ⟨sq, post_at S ?_ q⟩⟩
        cases a with
        | p n =>
          cases e2 : M[n]? with
          | none =>
            rw [seqW, e2] at e1
            cases e1
          | some cc =>
            rw [seqW, e2] at e1
            cases cc <;> cases e1
        | d y => cases y <;> first | (cases e1; exact r) | (exact (nf _ rfl).elim) | (exact (nf2 _ rfl).elim) | cases e1
    · cases e
  · cases e
theorem cr_sumP0 (hc : X.calm = true) : CallR X (.builtin "sum") (rPn X.K (pfn fSum)) := cr_of fun G L M H xs as Q S ra hq => by
  obtain ⟨⟨d, c⟩, e, hc', q⟩ := hq
  unfold fSum at e
  split at e
  · split at e
    · rename_i a ds e1
      cases e2 : intsD ds with
      | none =>
        rw [e2] at e
        cases e
      | some ns =>
        rw [e2] at e
        cases e
        obtain ⟨v, rfl, r⟩ := repWs1 ra
        obtain ⟨c', vs, rfl, rr, sq⟩ := seq_at S r e1
        rw [ints_rep rr e2] at sq
        exact ⟨_, cr_sum hc, c', ns, rfl, sq, post_int S q⟩
    · cases e
  · cases e
theorem cr_anyP0 (hc : X.calm = true) : CallR X (.builtin "any") (rPn X.K (pfn fAny)) := cr_of fun G L M H xs as Q S ra hq => by
  obtain ⟨⟨d, c⟩, e, hc', q⟩ := hq
  unfold fAny at e
  split at e
  · split at e
    · rename_i a ds e1
      cases e2 : blsD ds with
      | none =>
        rw [e2] at e
        cases e
      | some ns =>
        rw [e2] at e
        cases e
        obtain ⟨v, rfl, r⟩ := repWs1 ra
        obtain ⟨c', vs, rfl, rr, sq⟩ := seq_at S r e1
        rw [bls_rep rr e2] at sq
        exact ⟨_, cr_any hc, c', ns, rfl, sq, post_bl S q⟩
    · cases e
  · cases e
theorem cr_allP0 (hc : X.calm = true) : CallR X (.builtin "all") (rPn X.K (pfn fAll)) := cr_of fun G L M H xs as Q S ra hq => by
  obtain ⟨⟨d, c⟩, e, hc', q⟩ := hq
  unfold fAll at e
  split at e
  · split at e
    · rename_i a ds e1
      cases e2 : blsD ds with
      | none =>
        rw [e2] at e
        cases e
      | some ns =>
        rw [e2] at e
        cases e
        obtain ⟨v, rfl, r⟩ := repWs1 ra
        obtain ⟨c', vs, rfl, rr, sq⟩ := seq_at S r e1
        rw [bls_rep rr e2] at sq
        exact ⟨_, cr_all hc, c', ns, rfl, sq, post_bl S q⟩
    · cases e
  · cases e
theorem cr_maxP0 (hc : X.calm = true) : CallR X (.builtin "max") (rPn X.K (pfn fMax)) := cr_of fun G L M H xs as Q S ra hq => by
  obtain ⟨⟨d, c⟩, e, hc', q⟩ := hq
  unfold fMax at e
  split at e
  · cases e
    obtain ⟨v, u, rfl, r1, r2⟩ := repWs2 ra
    cases rep_int r1
    cases rep_int r2
    exact ⟨_, call_max2 hc, _, _, rfl, post_int S q⟩
  · split at e
    · rename_i a ds e1
      split at e
      · rename_i n ns e2
        cases e
        obtain ⟨v, rfl, r⟩ := repWs1 ra
        obtain ⟨c', vs, rfl, rr, sq⟩ := seq_at S r e1
        rw [ints_rep rr e2] at sq
        refine ⟨_, cr_max hc, c', n :: ns, rfl, sq, Nat.succ_pos _, fun m hm hm2 => ?_⟩
        obtain ⟨h1, h2⟩ := max_of n ns
        have : m = ns.foldl max n := Int.le_antisymm (h2 m hm) (hm2 _ h1)
        rw [this]
        exact post_int S q
      · cases e
    · cases e
  · cases e
theorem cr_minP0 (hc : X.calm = true) : CallR X (.builtin "min") (rPn X.K (pfn fMin)) := cr_of fun G L M H xs as Q S ra hq => by
  obtain ⟨⟨d, c⟩, e, hc', q⟩ := hq
  unfold fMin at e
  split at e
  · cases e
    obtain ⟨v, u, rfl, r1, r2⟩ := repWs2 ra
    cases rep_int r1
    cases rep_int r2
    exact ⟨_, call_min2 hc, _, _, rfl, post_int S q⟩
  · split at e
    · rename_i a ds e1
      split at e
      · rename_i n ns e2
        cases e
        obtain ⟨v, rfl, r⟩ := repWs1 ra
        obtain ⟨c', vs, rfl, rr, sq⟩ := seq_at S r e1
        rw [ints_rep rr e2] at sq
        refine ⟨_, cr_min hc, c', n :: ns, rfl, sq, Nat.succ_pos _, fun m hm hm2 => ?_⟩
        obtain ⟨h1, h2⟩ := min_of n ns
        have : m = ns.foldl min n := Int.le_antisymm (hm2 _ h1) (h2 m hm)
        rw [this]
        exact post_int S q
      · cases e
    · cases e
  · cases e
theorem cr_absP0 : CallR X (.builtin "abs") (rPn X.K (pfn fAbs)) := cr_of fun G L M H xs as Q S ra hq => by
  obtain ⟨⟨d, c⟩, e, hc', q⟩ := hq
  unfold fAbs at e
  split at e
  · cases e
    obtain ⟨v, rfl, r⟩ := repWs1 ra
    cases rep_int r
    exact ⟨_, call_abs, _, rfl, post_int S q⟩
  · cases e
theorem cr_intP0 : CallR X (.type "int") (rPn X.K (pfn fInt)) := cr_of fun G L M H xs as Q S ra hq => by
  obtain ⟨⟨d, c⟩, e, hc', q⟩ := hq
  unfold fInt at e
  split at e
  · cases e
    obtain ⟨v, rfl, r⟩ := repWs1 ra
    cases rep_int r
    exact ⟨_, call_int1, .inl ⟨_, rfl, post_int S q⟩⟩
  · cases e
    obtain ⟨v, rfl, r⟩ := repWs1 ra
    cases rep_bl r
    exact ⟨_, call_int1, .inr ⟨_, rfl, post_int S q⟩⟩
  · cases e
theorem cr_boolP0 : CallR X (.type "bool") (rPn X.K (pfn fBool)) := cr_of fun G L M H xs as Q S ra hq => by
  obtain ⟨⟨d, c⟩, e, hc', q⟩ := hq
  unfold fBool at e
  split at e
  · cases e
    obtain ⟨v, rfl, r⟩ := repWs1 ra
    cases rep_int r
    exact ⟨_, call_bool1, .inl ⟨_, rfl, post_bl S q⟩⟩
  · cases e
    obtain ⟨v, rfl, r⟩ := repWs1 ra
    cases rep_bl r
    exact ⟨_, call_bool1, .inr ⟨_, rfl, post_bl S q⟩⟩
  · cases e
theorem cr_strP0 : CallR X (.type "str") (rPn X.K (pfn fStr)) := cr_of fun G L M H xs as Q S ra hq => by
  obtain ⟨⟨d, c⟩, e, hc', q⟩ := hq
  unfold fStr at e
  split at e
  · cases e
    obtain ⟨v, rfl, r⟩ := repWs1 ra
    cases rep_int r
    exact ⟨_, call_str_int, _, rfl, hc', post_str S q⟩
  · cases e
theorem ty_at {K : PySem.W.Frag} {G H : Hp} {L : List Addr} {M : Mem} {x : V} {a : W} {t : Value} (S : Sim K G L M H) (r : RepW K G L x a) (h : tyW M a = some t) : TyX K H x t := by
  cases a with
  | d y =>
    cases y <;> first | (cases h; done) | skip
    · cases h; cases rep_non r; exact .base .non
    · cases h; cases rep_bl r; exact .base (.bl _)
    · cases h; cases rep_int r; exact .base (.int _)
    · cases h; cases rep_str r; exact .base (.str _)
    · cases h
      cases r with
      | lst h1 h2 => exact .base (.lst (S.le _ _ h1))
    · cases h
      obtain ⟨c, xs, rfl, h1, h2⟩ := rep_tup r
      rcases h1 with h1 | ⟨o, h1⟩
      · exact .base (.tup (S.le _ _ h1))
      · exact .fTuple (S.le _ _ h1)
    · cases h
      obtain ⟨c, xs, rfl, h1, h2⟩ : ∃ c xs, x = .ref c ∧ SqT K G c xs ∧ True := by
        cases r with
        | ft h1 h2 => exact ⟨_, _, rfl, h1, trivial⟩
      rcases h1 with h1 | ⟨o, its, n, h1, h2, _⟩
      · rcases h1 with h1 | ⟨o, h1⟩
        · exact .base (.tup (S.le _ _ h1))
        · exact .fTuple (S.le _ _ h1)
      · exact .kTuple h1 h2
    · cases h
      cases r with
      | nt h1 _ _ => exact .fTuple (S.le _ _ h1)
  | p n =>
    obtain ⟨c, e, rfl⟩ := r
    cases q : M[n]? with
    | none =>
      rw [tyW, q] at h
      cases h
    | some z =>
      obtain ⟨c', e', z'⟩ := S.cell q
      rw [e] at e'
      cases e'
      rw [tyW, q] at h
      cases z with
      | ins _ _ => cases h
      | lst l =>
        cases h
        obtain ⟨vs, hp, rr⟩ := z'
        exact .base (.lst hp)
theorem cl_at {K : PySem.W.Frag} {G : Hp} {L : List Addr} {x : V} {a : W} {u : Value} (r : RepW K G L x a) (h : clV a = some u) : ClsV x u := by
  cases a with
  | p n => cases h
  | d y =>
    cases y <;> first | (cases h; done) | skip
    rename_i v
    cases v <;> first | (cases h; done) | skip
    · cases h
      cases r
      exact .own _
    · cases h
      cases r
      exact .ty _
theorem cr_isiP0 : CallR X (.builtin "isinstance") (rPn X.K (pIsi X.K)) := cr_of fun G L M H xs as Q S ra hq => by
  obtain ⟨a, c, u, b, rfl, h2, h3, q⟩ := hq
  obtain ⟨v, w, rfl, r1, r2⟩ := repWs2 ra
  rcases h3 with ⟨t, ht, hk⟩ | ⟨C, hC, ⟨k1, k2, k3, k4, k5⟩, hk⟩
  · exact ⟨_, call_isi, v, w, t, u, b, rfl, cl_at r2 h2, ty_at S r1 ht, hk, post_bl S q⟩
  · obtain ⟨p, dx, fs, rfl, hp, _, _⟩ := ins_at S r1 hC
    exact ⟨_, call_isi, _, w, .ref C, u, b, rfl, cl_at r2 h2, .base (.ins hp k1 k2 k3 k4 k5), hk, post_bl S q⟩
theorem cr_lenP (hK : X.K = K := by rfl) : CallR X (.builtin "len") (rPn K (pfn fLen)) := hK ▸ cr_lenP0
theorem cr_listP (hK : X.K = K := by rfl) : CallR X (.type "list") (rPn K (pfn fList)) := hK ▸ cr_listP0
theorem cr_listO (hK : X.K = K := by rfl) : CallR X (.type "list") (rPn K pListO) := hK ▸ cr_listO0
theorem cr_tupleP (hK : X.K = K := by rfl) : CallR X (.type "tuple") (rPn K (pfn fTuple)) := hK ▸ cr_tupleP0
theorem cr_sumP (hc : X.calm = true) (hK : X.K = K := by rfl) : CallR X (.builtin "sum") (rPn K (pfn fSum)) := hK ▸ cr_sumP0 hc
theorem cr_anyP (hc : X.calm = true) (hK : X.K = K := by rfl) : CallR X (.builtin "any") (rPn K (pfn fAny)) := hK ▸ cr_anyP0 hc
theorem cr_allP (hc : X.calm = true) (hK : X.K = K := by rfl) : CallR X (.builtin "all") (rPn K (pfn fAll)) := hK ▸ cr_allP0 hc
theorem cr_maxP (hc : X.calm = true) (hK : X.K = K := by rfl) : CallR X (.builtin "max") (rPn K (pfn fMax)) := hK ▸ cr_maxP0 hc
theorem cr_minP (hc : X.calm = true) (hK : X.K = K := by rfl) : CallR X (.builtin "min") (rPn K (pfn fMin)) := hK ▸ cr_minP0 hc
theorem cr_absP (hK : X.K = K := by rfl) : CallR X (.builtin "abs") (rPn K (pfn fAbs)) := hK ▸ cr_absP0
theorem cr_intP (hK : X.K = K := by rfl) : CallR X (.type "int") (rPn K (pfn fInt)) := hK ▸ cr_intP0
theorem cr_boolP (hK : X.K = K := by rfl) : CallR X (.type "bool") (rPn K (pfn fBool)) := hK ▸ cr_boolP0
theorem cr_strP (hK : X.K = K := by rfl) : CallR X (.type "str") (rPn K (pfn fStr)) := hK ▸ cr_strP0
theorem cr_isiP (hK : X.K = K := by rfl) : CallR X (.builtin "isinstance") (rPn K (pIsi K)) := hK ▸ cr_isiP0
end
/-! ### list(range(..)), tuple(range(..)) -/
def wLRg1 (tp : Bool) (a : WEx) : WEx := fun ρ M k e => a ρ M (fun w M1 => ∃ n, w = .d (.int n) ∧ 0 ≤ n ∧ n ≤ 16777216 ∧ k (.d (if tp then .tup (rngD 0 n.toNat) else .lst (rngD 0 n.toNat))) M1) e
def wLRg2 (tp : Bool) (a b : WEx) : WEx := fun ρ M k e => a ρ M (fun w M1 => b ρ M1 (fun u M2 => ∃ n m, w = .d (.int n) ∧ u = .d (.int m) ∧ RgOk n m ∧ k (.d (if tp then .tup (rngD n (m - n).toNat) else .lst (rngD n (m - n).toNat))) M2) e) e
theorem rng_rep {K : PySem.W.Frag} {G : Hp} (a : Int) (n : Nat) : RepAll K G ((List.range n).map fun i => V.int (a + (i : Nat))) (rngD a n) := by
  unfold rngD
  induction List.range n with
  | nil => exact .nil
  | cons x xs ih => exact .cons (.int _) ih
section
variable {K : PySem.W.Frag} {Wx : WX}
instance {t : TE} {a : WEx} [A : SE K Wx t a] : SE K Wx (tLstRg (tRg1 t)) (wLRg1 false a) where
  mono := fun hk he h => A.mono (fun _ _ ⟨n, h1, h2, h3, q⟩ => ⟨n, h1, h2, h3, hk _ _ q⟩) he h
  ok := fun S s h => A.ok S s (A.mono (fun w M1 ⟨n, h1, h2, h3, q⟩ G1 L1 H1 v e1 S1 r1 => by
    subst h1
    refine ⟨n, rep_int r1, RgOk.of_le (Int.le_refl 0) h3 (by omega) h2, ?_⟩
    have := post_lst (Q := _) S1 (rng_rep 0 n.toNat) (q.after e1)
    unfold rgV
    rw [Int.sub_zero]
    exact this) (fun _ _ _ z => z) h)
instance {t : TE} {a : WEx} [A : SE K Wx t a] : SE K Wx (tTupRg (tRg1 t)) (wLRg1 true a) where
  mono := fun hk he h => A.mono (fun _ _ ⟨n, h1, h2, h3, q⟩ => ⟨n, h1, h2, h3, hk _ _ q⟩) he h
  ok := fun S s h => A.ok S s (A.mono (fun w M1 ⟨n, h1, h2, h3, q⟩ G1 L1 H1 v e1 S1 r1 => by
    subst h1
    refine ⟨n, rep_int r1, RgOk.of_le (Int.le_refl 0) h3 (by omega) h2, ?_⟩
    have := post_tup (Q := _) S1 (rng_rep 0 n.toNat) (q.after e1)
    unfold rgV
    rw [Int.sub_zero]
    exact this) (fun _ _ _ z => z) h)
instance {t u : TE} {a b : WEx} [A : SE K Wx t a] [B : SE K Wx u b] : SE K Wx (tLstRg (tRg2 t u)) (wLRg2 false a b) where
  mono := fun hk he h => A.mono (fun _ _ q => B.mono (fun _ _ ⟨n, m, h1, h2, h3, q⟩ => ⟨n, m, h1, h2, h3, hk _ _ q⟩) he q) he h
  ok := fun S s h => A.ok S s (A.mono (fun w M1 q G1 L1 H1 v e1 S1 r1 => B.ok S1 (s.ext e1) (B.mono (fun z M2 ⟨n, m, h1, h2, h3, qq⟩ G2 L2 H2 v2 e2 S2 r2 => by
    subst h1 h2
    exact ⟨n, m, rep_int r1, rep_int r2, h3, post_lst S2 (rng_rep n (m - n).toNat) (Post.after qq (e1.trans e2))⟩) (fun _ _ _ z => z.after e1) q)) (fun _ _ _ z => z) h)
instance {t u : TE} {a b : WEx} [A : SE K Wx t a] [B : SE K Wx u b] : SE K Wx (tTupRg (tRg2 t u)) (wLRg2 true a b) where
  mono := fun hk he h => A.mono (fun _ _ q => B.mono (fun _ _ ⟨n, m, h1, h2, h3, q⟩ => ⟨n, m, h1, h2, h3, hk _ _ q⟩) he q) he h
  ok := fun S s h => A.ok S s (A.mono (fun w M1 q G1 L1 H1 v e1 S1 r1 => B.ok S1 (s.ext e1) (B.mono (fun z M2 ⟨n, m, h1, h2, h3, qq⟩ G2 L2 H2 v2 e2 S2 r2 => by
    subst h1 h2
    exact ⟨n, m, rep_int r1, rep_int r2, h3, post_tup S2 (rng_rep n (m - n).toNat) (Post.after qq (e1.trans e2))⟩) (fun _ _ _ z => z.after e1) q)) (fun _ _ _ z => z) h)
/-! ### truth -/
def truW (M : Mem) : W → Option Bool
  | .d .non => some false
  | .d (.bl b) => some b
  | .d (.int i) => some (i != 0)
  | a => match seqW M a with
    | some (_, ds) => some (!ds.isEmpty)
    | none => none
def tTru (K : PySem.W.Frag) (t : TE) : TT := fun σ H Q => t σ H fun x H' => ∃ k, TruV K x H' k ∧ Q k H'
theorem pt_truP {X : Cx} {e : Expr} {t : TE} (h : PE X e t) (he : ∀ whole, isTrue e X.env whole = (do let v ← whole; standAt e.pos; holding [v] (truthy v)) := by intro _; rfl) (hK : X.K = K := by rfl) : PT X e (tTru K t) := hK ▸ pt_truth h he
def wTru (a : WEx) : WBx := fun ρ M k e => a ρ M (fun w M1 => ob (truW M1 w) fun b => k b M1) e
theorem tru_at {G H : Hp} {L : List Addr} {M : Mem} {x : V} {a : W} {b : Bool} (S : Sim K G L M H) (r : RepW K G L x a) (h : truW M a = some b) : TruV K x H b := by
  have key : ∀ z, seqW M a = some z → b = !z.2.isEmpty → TruV K x H b := fun ⟨k, ds⟩ e hb => by
    obtain ⟨c', vs, rfl, rr, sq⟩ := seq_at S r e
    have ev : vs.isEmpty = ds.isEmpty := by
      have := rr.len
      cases vs <;> cases ds <;> first | rfl | cases this
    subst hb
    rcases sqB_len sq with sq | sq
    · exact .inl ⟨vs, sq, by rw [ev]⟩
    · exact .inr (.inl ⟨vs, sq, by rw [ev]⟩)
  cases a with
  | p n =>
    cases e : seqW M (.p n) with
    | none =>
      rw [truW, e] at h
      · cases h
      all_goals exact nofun
    | some z =>
      rw [truW, e] at h
      · cases h
        exact key z e rfl
      all_goals exact nofun
  | d y =>
    cases y with
    | non => cases h; cases rep_non r; rfl
    | bl _ => cases h; cases rep_bl r; rfl
    | int _ => cases h; cases rep_int r; rfl
    | str _ => cases h
    | ins _ _ => cases h
    | «at» _ => cases h
    | dic _ _ => cases h
    | exc _ _ _ _ => cases h
    | lst ds => cases h; exact key _ rfl rfl
    | fl ds => cases h; exact key _ rfl rfl
    | tup ds => cases h; exact key _ rfl rfl
    | ft ds => cases h; exact key _ rfl rfl
    | nt ds => cases h; exact key _ rfl rfl
instance {t : TE} {a : WEx} [A : SE K Wx t a] : SB K Wx (tTru K t) (wTru a) where
  mono := fun hk he h => A.mono (fun _ _ ⟨b, e, q⟩ => ⟨b, e, hk _ _ q⟩) he h
  ok := fun S s h => A.ok S s (A.mono (fun w M1 ⟨b, e, q⟩ G1 L1 H1 v e1 S1 r1 => ⟨b, tru_at S1 r1 e, q _ _ _ e1 S1⟩) (fun _ _ _ z => z) h)
/-! ### methods of lists; a[i] = v -/
abbrev Pm := W → List W → Mem → KW → Prop
class Um (p : Pm) : Prop where
  up : ∀ a as M, Up (p a as M)
def rPm (K : PySem.W.Frag) (p : Pm) : V → List V → Hp → VK → Prop := fun x xs H Q => ∃ G L M a as, Sim K G L M H ∧ RepW K G L x a ∧ RepWs K G L xs as ∧ p a as M (Post K G L H Q)
/-- it is a list -/
def isL (M : Mem) (a : W) : Prop := ob (seqW M a) fun r => r.1 = true
def wMeth (p : Pm) (wo : WEx) (wa : WAx) : WEx := fun ρ M k e => wo ρ M (fun a M1 => isL M1 a ∧ wa ρ M1 (fun as M2 => p a as M2 k) e) e
def wMeth0 (p : Pm) (wo : WEx) : WEx := fun ρ M k e => wo ρ M (fun a M1 => isL M1 a ∧ p a [] M1 k) e
theorem tyV_list {G H : Hp} {L : List Addr} {M : Mem} {x : V} {a : W} (S : Sim K G L M H) (r : RepW K G L x a) (h : isL M a) : tyV K "list" x H := by
  obtain ⟨⟨b, ds⟩, e, hb⟩ := h
  obtain rfl : b = true := hb
  obtain ⟨c', vs, rfl, rr, sq⟩ := seq_at S r e
  exact .inl ⟨rfl, vs, sq⟩
instance {p : Pm} {to : TE} {ta : TA} {wo : WEx} {wa : WAx} [Um p] [A : SE K Wx to wo] [B : SA K Wx ta wa] : SE K Wx (tBM K "list" (rPm K p) to ta) (wMeth p wo wa) where
  mono := fun hk he h => A.mono (fun _ _ ⟨z, q⟩ => ⟨z, B.mono (fun _ _ q => Um.up _ _ _ _ _ hk q) he q⟩) he h
  ok := fun S s h => A.ok S s (A.mono (fun a M1 ⟨z, q⟩ G1 L1 H1 v e1 S1 r1 => ⟨tyV_list S1 r1 z, B.ok S1 (s.ext e1) (B.mono (fun as M2 q G2 L2 H2 vs e2 S2 r2 => ⟨G2, L2, M2, a, as, S2, r1.ext e2, r2, Um.up _ _ _ _ _ (fun _ _ z => z.after (e1.trans e2)) q⟩) (fun _ _ _ z => z.after e1) q)⟩) (fun _ _ _ z => z) h)
instance {p : Pm} {to : TE} {wo : WEx} [Um p] [A : SE K Wx to wo] : SE K Wx (tBM0 K "list" (rPm K p) to) (wMeth0 p wo) where
  mono := fun hk he h => A.mono (fun _ _ ⟨z, q⟩ => ⟨z, Um.up _ _ _ _ _ hk q⟩) he h
  ok := fun S s h => A.ok S s (A.mono (fun a M1 ⟨z, q⟩ G1 L1 H1 v e1 S1 r1 => ⟨tyV_list S1 r1 z, ⟨G1, L1, M1, a, [], S1, r1, .nil, Um.up _ _ _ _ _ (fun _ _ z => z.after e1) q⟩⟩) (fun _ _ _ z => z) h)
/-- what a method makes of a list at a place: the list behind it, the answer -/
def plW : W → Option Nat
  | .p n => some n
  | _ => none
@[simp] theorem plW_p {n : Nat} : plW (.p n) = some n := rfl
theorem plW_eq {a : W} {n : Nat} (h : plW a = some n) : a = .p n := by
  cases a with
  | p m =>
    cases h
    rfl
  | d x => cases h
def lsC : Option Cell → Option (List D)
  | some (.lst ds) => some ds
  | _ => none
@[simp] theorem lsC_l {ds : List D} : lsC (some (.lst ds)) = some ds := rfl
theorem lsC_eq {c : Option Cell} {ds : List D} (h : lsC c = some ds) : c = some (.lst ds) := by
  unfold lsC at h
  split at h
  · cases h
    rfl
  · cases h
def pMut (f : List D → List W → Option (List D × D × Prop)) : Pm := fun a as M k => ob (plW a) fun n => ob (lsC M[n]?) fun ds => ob (f ds as) fun r => r.2.2 ∧ k (.d r.2.1) (M.set n (.lst r.1))
instance {f : List D → List W → Option (List D × D × Prop)} : Um (pMut f) := ⟨fun _ _ _ _ _ hk ⟨n, h1, ds, h2, r, h3, h4, q⟩ => ⟨n, h1, ds, h2, r, h3, h4, hk _ _ q⟩⟩
def mApp (ds : List D) (as : List W) : Option (List D × D × Prop) := match as with
  | [.d x] => some (ds ++ [x], .non, ds.length < sizeLine)
  | _ => none
def mIns (ds : List D) (as : List W) : Option (List D × D × Prop) := match as with
  | [.d (.int i), .d x] => some (ds.take i.toNat ++ [x] ++ ds.drop i.toNat, .non, ds.length < sizeLine ∧ 0 ≤ i ∧ i < 2 ^ 63)
  | _ => none
def mRev (ds : List D) (as : List W) : Option (List D × D × Prop) := match as with
  | [] => some (ds.reverse, .non, True)
  | _ => none
def mClr (ds : List D) (as : List W) : Option (List D × D × Prop) := match as with
  | [] => some ([], .non, True)
  | _ => none
def mPop (ds : List D) (as : List W) : Option (List D × D × Prop) := match as with
  | [] => (ds[ds.length - 1]?).map fun d => (ds.dropLast, d, True)
  | [.d (.int i)] => match ixN ds.length i with
    | some j => (ds[j]?).map fun d => (ds.eraseIdx j, d, -(2 ^ 63) ≤ i ∧ i < 2 ^ 63)
    | none => none
  | _ => none
/-- extend: the other list is a tree -/
def mExt (ds : List D) (as : List W) : Option (List D × D × Prop) := match as with
  | [.d (.lst es)] => some (ds ++ es, .non, ds.length + es.length ≤ sizeLine)
  | _ => none
theorem place_at {G H : Hp} {L : List Addr} {M : Mem} {n : Nat} {x : V} {ds : List D} (S : Sim K G L M H) (r : RepW K G L x (.p n)) (h : M[n]? = some (.lst ds)) : ∃ c vs, x = .ref c ∧ L[n]? = some c ∧ H c = some (.lst vs) ∧ RepAll K G vs ds := by
  obtain ⟨c, e, rfl⟩ := r
  obtain ⟨c', e', vs, h1, h2⟩ := S.cell h
  rw [e] at e'
  cases e'
  exact ⟨c, vs, rfl, e, h1, h2⟩
theorem post_put {G H : Hp} {L : List Addr} {M : Mem} {n : Nat} {c : Addr} {vs : List V} {es : List D} {Q : VK} {v : V} {d : D} (S : Sim K G L M H) (e : L[n]? = some c) (r : RepAll K G vs es) (rd : Rep K G v d) (q : Post K G L H Q (.d d) (M.set n (.lst es))) : Q v (upd H c (.lst vs)) := by
  obtain ⟨S2, e2⟩ := S.put (o := .lst vs) (c := .lst es) e ⟨vs, upd_same, r⟩
  exact q _ _ _ _ e2 S2 rd
end
section
variable {X : Cx} {K : PySem.W.Frag}
theorem mt_mutP {id : String} {f : List D → List W → Option (List D × D × Prop)} (h : ∀ (G : Hp) (L : List Addr) (M : Mem) (H : Hp) (n : Nat) (ds es : List D) (as : List W) (d : D) (c : Prop) (l : Addr) (vs xs : List V) (Q : VK), Sim X.K G L M H → L[n]? = some l → H l = some (.lst vs) → RepAll X.K G vs ds → RepWs X.K G L xs as → f ds as = some (es, d, c) → c →
    Post X.K G L H Q (.d d) (M.set n (.lst es)) → ∃ r : V → List V → Hp → VK → Prop, MtR X id r ∧ r (.ref l) xs H Q) : MtR X id (rPm X.K (pMut f)) := by
  intro pins s σ H x xs v us Q I rx rxs hq
  obtain ⟨G, L, M, a, as, S, ra, rb, n, h1, ds, h2, ⟨es, d, c⟩, h3, h4, q⟩ := hq
  obtain rfl := plW_eq h1
  replace h2 := lsC_eq h2
  obtain ⟨l, vs, rfl, el, hl, rr⟩ := place_at S ra h2
  obtain ⟨r, hr, z⟩ := h G L M H n ds es as d c l vs xs Q S el hl rr rb h3 h4 q
  exact hr pins s σ H _ xs v us Q I rx rxs z
theorem mt_appP0 : MtR X "list.append" (rPm X.K (pMut mApp)) := mt_mutP fun G L M H n ds es as d c l vs xs Q S el hl rr rb e hc q => by
  unfold mApp at e
  split at e
  · cases e
    obtain ⟨v, rfl, rv⟩ := repWs1 rb
    have := rr.len
    exact ⟨_, mt_append, l, vs, v, rfl, rfl, hl, by omega, post_put S el (rr.append (.cons rv .nil)) .non q⟩
  · cases e
theorem mt_insP0 : MtR X "list.insert" (rPm X.K (pMut mIns)) := mt_mutP fun G L M H n ds es as d c l vs xs Q S el hl rr rb e hc q => by
  unfold mIns at e
  split at e
  · cases e
    obtain ⟨v, u, rfl, rv, ru⟩ := repWs2 rb
    cases rep_int rv
    have := rr.len
    obtain ⟨h1, h2, h3⟩ := hc
    exact ⟨_, mt_insert, l, vs, _, u, rfl, rfl, hl, by omega, h2, h3, post_put S el (((rr.take _).append (.cons ru .nil)).append (rr.drop _)) .non q⟩
  · cases e
theorem mt_revP0 : MtR X "list.reverse" (rPm X.K (pMut mRev)) := mt_mutP fun G L M H n ds es as d c l vs xs Q S el hl rr rb e hc q => by
  unfold mRev at e
  split at e
  · cases e
    cases rb
    exact ⟨_, mt_reverse, l, vs, rfl, rfl, hl, post_put S el rr.rev .non q⟩
  · cases e
theorem mt_clrP0 : MtR X "list.clear" (rPm X.K (pMut mClr)) := mt_mutP fun G L M H n ds es as d c l vs xs Q S el hl rr rb e hc q => by
  unfold mClr at e
  split at e
  · cases e
    cases rb
    exact ⟨_, mt_clear, l, vs, rfl, rfl, hl, post_put S el .nil .non q⟩
  · cases e
theorem repAll_erase {G : Hp} : ∀ {vs : List V} {ds : List D} (i : Nat), RepAll K G vs ds → RepAll K G (vs.eraseIdx i) (ds.eraseIdx i)
  | _, _, _, .nil => .nil
  | _, _, 0, .cons _ r => r
  | _, _, i + 1, .cons h r => .cons h (repAll_erase i r)
theorem mt_popP0 : MtR X "list.pop" (rPm X.K (pMut mPop)) := mt_mutP fun G L M H n ds es as d c l vs xs Q S el hl rr rb e hc q => by
  unfold mPop at e
  have hl' := rr.len
  split at e
  · cases e1 : ds[ds.length - 1]? with
    | none =>
      rw [e1] at e
      cases e
    | some u =>
      rw [e1] at e
      cases e
      cases rb
      obtain ⟨v, hv, rv⟩ := rr.get e1
      refine ⟨_, mt_pop, l, vs, v, rfl, rfl, hl, by rw [hl']; exact hv, ?_⟩
      refine post_put S el ?_ rv q
      rw [List.dropLast_eq_take, List.dropLast_eq_take, hl']
      exact rr.take _
  · split at e
    · rename_i i _ j e1
      cases e2 : ds[j]? with
      | none =>
        rw [e2] at e
        cases e
      | some u =>
        rw [e2] at e
        cases e
        obtain ⟨w, rfl, rw'⟩ := repWs1 rb
        cases rep_int rw'
        obtain ⟨v, hv, rv⟩ := rr.get e2
        obtain ⟨z1, _⟩ := ixN_seq e1
        exact ⟨_, mt_popAt, l, vs, i, j, v, rfl, rfl, hl, hc.1, hc.2, by rw [hl']; exact z1, hv, post_put S el (repAll_erase j rr) rv q⟩
    · cases e
  · cases e
theorem mt_extP0 : MtR X "list.extend" (rPm X.K (pMut mExt)) := mt_mutP fun G L M H n ds es as d c l vs xs Q S el hl rr rb e hc q => by
  unfold mExt at e
  split at e
  · cases e
    obtain ⟨v, rfl, rv⟩ := repWs1 rb
    have h1 := rr.len
    cases rv with
    | lst h2 h3 =>
      have h4 := h3.len
      exact ⟨_, mt_extend, l, _, vs, _, rfl, rfl, hl, S.le _ _ h2, by omega, post_put S el (rr.append h3) .non q⟩
  · cases e
theorem mt_appP (hK : X.K = K := by rfl) : MtR X "list.append" (rPm K (pMut mApp)) := hK ▸ mt_appP0
theorem mt_insP (hK : X.K = K := by rfl) : MtR X "list.insert" (rPm K (pMut mIns)) := hK ▸ mt_insP0
theorem mt_revP (hK : X.K = K := by rfl) : MtR X "list.reverse" (rPm K (pMut mRev)) := hK ▸ mt_revP0
theorem mt_clrP (hK : X.K = K := by rfl) : MtR X "list.clear" (rPm K (pMut mClr)) := hK ▸ mt_clrP0
theorem mt_popP (hK : X.K = K := by rfl) : MtR X "list.pop" (rPm K (pMut mPop)) := hK ▸ mt_popP0
theorem mt_extP (hK : X.K = K := by rfl) : MtR X "list.extend" (rPm K (pMut mExt)) := hK ▸ mt_extP0
/-- xs.index(y) of a list -/
def trA : List W → Option D
  | [.d x] => some x
  | _ => none
@[simp] theorem trA_d {x : D} : trA [.d x] = some x := rfl
theorem trA_eq {as : List W} {x : D} (h : trA as = some x) : as = [.d x] := by
  unfold trA at h
  split at h
  · cases h
    rfl
  · cases h
def pIdx : Pm := fun a as M k => ob (seqW M a) fun r => r.1 = true ∧ ob (trA as) fun x => ob (pyAll r.2) fun ps => ob (pyD x) fun p => SeqAt.shaped (.list ps) = true ∧ SeqAt.shaped p = true ∧ ob (ps.findIdx? fun z => PyData.eqv z p) fun j => k (.d (.int (j : Nat))) M
instance : Um pIdx := ⟨fun _ _ _ _ _ hk ⟨r, h1, h0, x, h2, ps, h3, p, h4, h5, h6, j, h7, q⟩ => ⟨r, h1, h0, x, h2, ps, h3, p, h4, h5, h6, j, h7, hk _ _ q⟩⟩
theorem mt_idxP0 (hu : X.A.units + 65 < cLine) : MtR X "list.index" (rPm X.K pIdx) := by
  intro pins s σ H x xs v us Q I rx rxs hq
  obtain ⟨G, L, M, a, as, S, ra, rb, ⟨b, ds⟩, h1, h0, y, h2, ps, h3, p, h4, h5, h6, j, h7, q⟩ := hq
  obtain rfl := trA_eq h2
  obtain rfl : b = true := h0
  obtain ⟨c, vs, rfl, rr, sq⟩ := seq_at S ra h1
  obtain ⟨u, rfl, ru⟩ := repWs1 rb
  obtain ⟨jl, j1, j2⟩ := List.findIdx?_eq_some_iff_getElem.mp h7
  exact mt_indexD hu pins s σ H _ _ v us Q I rx rxs ⟨c, u, p, ps, j, ps[j], rfl, rfl, .lst sq (RepAll.dp (RepAll.mono S.le rr) h3), (Rep.mono S.le ru).dp h4, h5, h6, List.getElem?_eq_getElem jl, j1, fun m z' hm hz => by
    have lt : m < ps.length := by omega
    rw [List.getElem?_eq_getElem lt] at hz
    cases hz
    have := j2 m hm
    simpa using this, post_int S q⟩
theorem mt_idxP (hu : X.A.units + 65 < cLine) (hK : X.K = K := by rfl) : MtR X "list.index" (rPm K pIdx) := hK ▸ mt_idxP0 hu
end
/-- a[i] = v for a list at a place -/
def gSub' (wo wi : WEx) : WGx := fun v ρ M k => wo ρ M (fun o M1 => wi ρ M1 (fun i M2 => ob (plW o) fun n => ob (int1 [i]) fun z => ob (lsC M2[n]?) fun ds => ob (ixN ds.length z) fun j => ob (trA [v]) fun x => k ρ (M2.set n (.lst (ds.set j x)))) fun _ _ _ => False) fun _ _ _ => False
section
variable {K : PySem.W.Frag}
instance {to ti : TE} {wo wi : WEx} [A : SE K WNo to wo] [B : SE K WNo ti wi] : SG K (gSub to ti rSetL) (gSub' wo wi) [] where
  mono := fun hk h => A.mono (fun _ _ q => B.mono (fun _ _ ⟨n, h1, z, h2, ds, h3, j, h4, x, h5, q⟩ => ⟨n, h1, z, h2, ds, h3, j, h4, x, h5, hk _ _ q⟩) (fun _ _ _ z => z) q) (fun _ _ _ z => z) h
  ok := fun S s r h => A.ok S s (A.mono (fun o M1 q G1 L1 H1 v1 e1 S1 r1 => B.ok S1 (s.ext e1) (B.mono (fun i M2 ⟨n, h1, z, h2, ds, h3, j, h4, x, h5, qq⟩ G2 L2 H2 v2 e2 S2 r2 => by
    obtain rfl := plW_eq h1
    obtain ⟨rfl⟩ := List.cons.inj (int1_eq h2)
    obtain ⟨rfl⟩ := List.cons.inj (trA_eq h5)
    replace h3 := lsC_eq h3
    obtain ⟨c, vs, rfl, el, hl, rr⟩ := place_at S2 (r1.ext e2) h3
    have e := rr.len
    refine ⟨c, vs, z, j, rfl, rep_int r2, hl, by rw [e]; exact h4, ?_⟩
    have rx := r.ext (e1.trans e2)
    obtain ⟨S3, e3⟩ := S2.put (o := .lst _) (c := .lst (ds.set j x)) el ⟨_, upd_same, RepAll.set rx j rr⟩
    exact qq _ _ _ _ ((e1.trans e2).trans e3) S3 (((s.ext e1).ext e2).ext e3) rfl fun _ _ => rfl) (fun _ _ _ z => z.elim) q)) (fun _ _ _ z => z.elim) h)
end
end PU

set_option maxRecDepth 100000
set_option maxHeartbeats 8000000
/-! own classes: methods, new instances, fields; errors that are raised -/
namespace PU
open PySem PySem.Spec PyProof.Rows L2 WU
theorem PE.imp {X : Cx} {e : Expr} {t t' : TE} (h : PE X e t) (i : ∀ σ H Q, t' σ H Q → t σ H Q) : PE X e t' := ⟨fun pins s σ H Q I q => h.run pins s σ H Q I (i σ H Q q)⟩
section
variable {X : Cx} {CX : CXT} {k i : Nat} {f C : Addr} {fd : FuncData} {ps : List Str} {sp : Sp} {dvs : List V} {ds : List Value} {x m : Str} {p pos apos : Pos} {e o : Expr} {es : List Expr} {ta : TE} {t : TA}
/-- o.m(..) of an instance of the class at C: a method that may raise -/
def tMethSD (C : Addr) (m : Str) (sp : Sp) (dvs : List V) (E : L2.St → XK) (ta : TE) (t : TA) : TE := fun σ H Q => ta σ H fun x H1 => ∃ a dx fs, x = .ref a ∧ H1 a = some (.ins C dx fs) ∧ fs.lookup m = none ∧
  t σ H1 fun vs H2 => sp (x :: (vs ++ dvs)) H2 Q (E σ)
theorem pe_methSD {pl : Sem Bool} {E : L2.St → XK} (he : PE X o ta) (c : Cls X.K C) (hm : Meth X.K C m f) (F : FnOk X.prog X.w X.K X.mg X.base CX k f fd ps sp) (hr : Room k X.A) (hb : L2.Binds X.K fd ps ds) (hd : Vals dvs ds) (hx : ∀ σ, PassesAt CX X σ (E σ)) (ha : PA X (e :: es) t)
    (hst : starEach (e :: es) X.env = (false, eval e X.env) :: starEach es X.env := by rfl) (hpl : (backTo pos (starEach es X.env)).any (·.1) = false := by rfl)
    (ht : eval (.Call (.Attribute o m apos) (e :: es) [] pos) X.env = (do
      let ov ← eval o X.env
      standAt apos.atName
      let (f, first) ← holding [ov] (getMethod ov m pl)
      callWith pos f first (backTo pos (starEach (e :: es) X.env)) (backToKw pos (keywordEach [] X.env))) := by rfl) :
    PE X (.Call (.Attribute o m apos) (e :: es) [] pos) (tMethSD C m sp dvs E ta t) := by
  refine ⟨fun pins s σ H Q I h => ?_⟩
  refine PySem.W.methodCall_KW (pl := pl) (thn (he.run pins s σ H _ I h) fun u s1 ⟨x, H1, I1, rx, a, dx, fs, ex, ea, l, q⟩ => ?_) ht
  subst ex
  obtain rfl : u = Value.ref a := rx
  refine getmeth_ok I1 ea c hm l ?_
  refine PySem.W.callWith_K (first := [.ref a]) (h₀ := X.base) I.ok.mod.kin hm.kp (thn (ha.run pos pins s1 σ H1 _ I1 q) fun us s2 ⟨vs, H2, I2, r, q2⟩ => ⟨I2.kIn, ?_⟩) hst hpl
  exact run_fnSD (us := .ref a :: us) (vs := .ref a :: vs) F hr hb hd (hx σ) I2 (.cons rfl r) q2
theorem run_makeS {E : XK} {pins : List (Addr × Obj)} {σ : L2.St} {H : Hp} {s : Shared} {Q : VK} {us : List Value} {vs : List V} (M : Mk X.K C f) (F : FnOk X.prog X.w X.K X.mg X.base CX k f fd ps sp) (hr : Room (k + 1) X.A) (hb : L2.Binds X.K fd ps [])
    (hx : PassesAt CX X σ E) (I : Inv X pins σ H s) (r : Vals vs us)
    (h : ∀ x dx, H x = none → H dx = none → dx ≠ x → sp (.ref x :: vs) (upd (upd H dx (.own x)) x (.ins C dx [])) (fun v H2 => v = .non ∧ Q (.ref x) H2) E) :
    wpAny (model X.prog X.w) X.A (call (.ref C) us) (EP X pins σ Q) X.xe s := by
  have hq := h (s.heap.objs.size + 1) s.heap.objs.size (I.hok.fresh (Nat.le_succ _)) (I.hok.fresh (Nat.le_refl _)) (Nat.ne_of_lt (Nat.lt_succ_self _))
  have I2 := Inv.made (C := C) I
  have r2 : Vals (V.ref (s.heap.objs.size + 1) :: vs) (Value.ref (s.heap.objs.size + 1) :: us) := .cons rfl r
  have hl : (Value.ref (s.heap.objs.size + 1) :: us ++ []).length = ps.length := by
    have e := r2.length
    rw [F.len _ _ _ _ hq] at e
    rw [List.append_nil]
    exact e.symm
  refine wpAny_call (make_map (f := f) I.kIn M.makes M.init (beq_iff_eq.mp M.fn) (codeAny_mono (F.run _ X.stack _ _ ⟨Value.ref (s.heap.objs.size + 1) :: us, []⟩ (Value.ref (s.heap.objs.size + 1) :: us ++ []) _ _ E (hr.make C us [])
    (I2.env0.make C us []) (hb _ (Value.ref (s.heap.objs.size + 1) :: us) I2.kIn hl) (by rw [List.append_nil]; exact r2) hq) fun r s' hq' => ?_))
  cases r with
  | error e => exact hx pins _ _ e s' I2 hq'
  | ok fl =>
    cases fl with
    | ret u =>
      obtain ⟨v, H', I3, rv, ev, q3⟩ := I2.after hq'
      subst ev
      exact ⟨rv, ⟨V.ref (s.heap.objs.size + 1), H', I3, rfl, q3⟩⟩
    | next => exact False.elim hq'
    | brk => exact False.elim hq'
    | cont => exact False.elim hq'
/-- C(..), an own class -/
def tMakeS (C : Addr) (sp : Sp) (E : L2.St → XK) (t : TA) : TE := fun σ H Q => t σ H fun vs H1 => ∀ x dx, H1 x = none → H1 dx = none → dx ≠ x →
  sp (.ref x :: vs) (upd (upd H1 dx (.own x)) x (.ins C dx [])) (fun v H2 => v = .non ∧ Q (.ref x) H2) (E σ)
theorem pe_makeS {E : L2.St → XK} (M : Mk X.K C f) (F : FnOk X.prog X.w X.K X.mg X.base CX k f fd ps sp) (hr : Room (k + 1) X.A) (hg : Gl X x) (hm : X.mg x = some (.ref C)) (hb : L2.Binds X.K fd ps []) (hx : ∀ σ, PassesAt CX X σ (E σ))
    (ha : PA X (e :: es) t) (hdb : (x == ("__debug__" : Str)) = false := by decide) (he : starEach (e :: es) X.env = (false, eval e X.env) :: starEach es X.env := by rfl) (hpl : (backTo pos (starEach es X.env)).any (·.1) = false := by rfl) :
    PE X (.Call (.Name x p) (e :: es) [] pos) (tMakeS C sp E t) := by
  refine ⟨fun pins s σ H Q I h => ?_⟩
  refine wpAny_Call_Name_kw (ld_glob I hg hm ?_ hdb)
  refine PySem.W.callWith_K (h₀ := X.base) I.ok.mod.kin M.kp (thn (ha.run pos pins s σ H _ I h) fun us s1 ⟨vs, H1, I1, r, q⟩ => ⟨I1.kIn, ?_⟩) he hpl
  exact run_makeS M F hr hb (hx σ) I1 r q
/-- the i-th slot holds the class -/
def tMakeL (i : Nat) (C : Addr) (sp : Sp) (E : L2.St → XK) (t : TA) : TE := fun σ H Q => σ[i]? = some (some (.ref C)) ∧ tMakeS C sp E t σ H Q
theorem pe_makeL {E : L2.St → XK} (M : Mk X.K C f) (F : FnOk X.prog X.w X.K X.mg X.base CX k f fd ps sp) (hr : Room (k + 1) X.A) (hN : X.N[i]? = some x) (hv : Vis X.env.scope x) (hb : L2.Binds X.K fd ps []) (hx : ∀ σ, PassesAt CX X σ (E σ))
    (ha : PA X (e :: es) t) (hdb : (x == ("__debug__" : Str)) = false := by decide) (hcd : (x == ("__classdict__" : Str)) = false := by decide) (he : starEach (e :: es) X.env = (false, eval e X.env) :: starEach es X.env := by rfl) (hpl : (backTo pos (starEach es X.env)).any (·.1) = false := by rfl) :
    PE X (.Call (.Name x p) (e :: es) [] pos) (tMakeL i C sp E t) := by
  refine ⟨fun pins s σ H Q I h => ?_⟩
  obtain ⟨hs, ht⟩ := h
  refine wpAny_Call_Name_kw (thn ((pe_var (pos := p) hN hv hdb hcd).run pins s σ H (fun v H1 => v = .ref C ∧ H1 = H) I ⟨.ref C, hs, rfl, rfl⟩) fun u s1 ⟨v, H1, I1, r1, q1⟩ => ?_)
  obtain ⟨rfl, rfl⟩ := q1
  cases r1
  refine PySem.W.callWith_K (h₀ := X.base) I.ok.mod.kin M.kp (thn (ha.run pos pins s1 σ _ _ I1 ht) fun us s2 ⟨vs, H2, I2, r, q⟩ => ⟨I2.kIn, ?_⟩) he hpl
  exact run_makeS M F hr hb (hx σ) I2 r q
end
section
variable {X : Cx} {CX : CXT} {k : Nat} {C p g : Addr} {mc : Value} {sp : Sp} {o e : Expr} {es : List Expr} {m : Str} {pos apos : Pos} {ta : TE} {t : TA} {pl : Sem Bool}
theorem run_fnRS {pins : List (Addr × Obj)} {σ : L2.St} {H : Hp} {s : Shared} {f : Addr} {E : XK} {Q : VK} {us : List Value} {vs : List V} (F : FnR X.prog X.w X.K X.mg X.base CX k f sp) (hr : Room k X.A) (hx : PassesAt CX X σ E) (I : Inv X pins σ H s) (r : Vals vs us) (h : sp vs H Q E) :
    codeAny (model X.prog X.w) X.A (.call (.ref f) ⟨us, []⟩) (fun r s' => match r with | .ok (.ret v) => EP X pins σ Q v s' | .ok _ => False | .error e => X.xe e s') s := by
  refine codeAny_mono (F X.A X.stack s H us vs Q E hr I.env0 r h) fun r s' hq => ?_
  cases r with
  | error e => exact hx pins H s e s' I hq
  | ok fl =>
    cases fl with
    | ret u => exact I.after hq
    | next => exact False.elim hq
    | brk => exact False.elim hq
    | cont => exact False.elim hq
def tCMethS (C : Addr) (sp : Sp) (E : L2.St → XK) (ta : TE) (t : TA) : TE := fun σ H Q => ta σ H fun x H1 => x = .ref C ∧ t σ H1 fun vs H2 => sp (.ref C :: vs) H2 Q (E σ)
theorem pe_cmethS {E : L2.St → XK} (he : PE X o ta) (r : ClX.CRead X.K C mc) (c : ClX.CMet X.K C mc m p g) (F : FnR X.prog X.w X.K X.mg X.base CX k g sp) (hr : Room k X.A) (hx : ∀ σ, PassesAt CX X σ (E σ)) (ha : PA X (e :: es) t)
    (hst : starEach (e :: es) X.env = (false, eval e X.env) :: starEach es X.env := by rfl) (hpl : (backTo pos (starEach es X.env)).any (·.1) = false := by rfl)
    (ht : eval (.Call (.Attribute o m apos) (e :: es) [] pos) X.env = (do
      let ov ← eval o X.env
      standAt apos.atName
      let (f, first) ← holding [ov] (getMethod ov m pl)
      callWith pos f first (backTo pos (starEach (e :: es) X.env)) (backToKw pos (keywordEach [] X.env))) := by rfl) :
    PE X (.Call (.Attribute o m apos) (e :: es) [] pos) (tCMethS C sp E ta t) := by
  refine ⟨fun pins s σ H Q I h => ?_⟩
  refine PySem.W.methodCall_KW (pl := pl) (thn (he.run pins s σ H _ I h) fun u s1 ⟨x, H1, I1, rx, ex, q⟩ => ?_) ht
  subst ex
  obtain rfl : u = Value.ref C := rx
  refine ClX.getmethcm_ok I1 r c fun s2 I2 => ?_
  refine ClX.callwith_cm I2 (ClX.base_none I1 (Nat.le_refl _)) c.fi (thn (ha.run pos _ s2 σ H1 _ I2 q) fun us s3 ⟨vs, H2, I3, rv, q2⟩ => ⟨⟨ClX.pin_at I3, I3.kIn⟩, ?_⟩) hst hpl
  have z : wpAny (model X.prog X.w) X.A (call (.ref s1.heap.objs.size) us) (EP X ((s1.heap.objs.size, PySem.W.methodObj (.ref g) (.ref C)) :: pins) σ Q) X.xe s3 := wpAny_call (PySem.W.method_call (ClX.pin_at I3) (run_fnRS (us := .ref C :: us) (vs := .ref C :: vs) F hr (hx σ) I3 (.cons rfl rv) q2))
  exact thn z fun _ _ y => ClX.unpinE y
end
section
variable {K : PySem.W.Frag} {Wx : WX}
def wMethC (C : Addr) (m : Str) (c : Con) (wo : WEx) (wa : WAx) : WEx := fun ρ M k e => wo ρ M (fun a M1 => clsW M1 a = some C ∧ fldW m M1 a = none ∧ wa ρ M1 (fun as M2 => c (a :: as) M2 k e) e) e
instance {C : Addr} {m : Str} {c : Con} {to : TE} {ta : TA} {wo : WEx} {wa : WAx} [UC c] [A : SE K Wx to wo] [B : SA K Wx ta wa] : SE K Wx (tMethSD C m (spP K c) [] (WE Wx) to ta) (wMethC C m c wo wa) where
  mono := fun hk he h => A.mono (fun _ _ ⟨h1, h2, q⟩ => ⟨h1, h2, B.mono (fun _ _ q => UC.up hk he q) he q⟩) he h
  ok := fun S s h => A.ok S s (A.mono (fun a M1 ⟨h1, h2, q⟩ G1 L1 H1 x e1 S1 r1 => by
    obtain ⟨p, dx, fs, rfl, hp, _, kn⟩ := ins_at S1 r1 h1
    refine ⟨p, dx, fs, rfl, hp, kn _ h2, B.ok S1 (s.ext e1) (B.mono (fun as M2 q G2 L2 H2 vs e2 S2 r2 => ?_) (fun _ _ _ z => z.after e1) q)⟩
    show spP K c (.ref p :: (vs ++ [])) H2 _ _
    rw [List.append_nil]
    exact ⟨G2, L2, M2, a :: as, S2, .cons (r1.ext e2) r2, UC.up (fun _ _ z => z.after (e1.trans e2)) (fun _ _ _ z => z.after (e1.trans e2)) q⟩) (fun _ _ _ z => z) h)
/-- the same where nothing is let out -/
instance {C : Addr} {m : Str} {c : Con} {to : TE} {ta : TA} {wo : WEx} {wa : WAx} [UC c] [A : SE K Wx to wo] [B : SA K Wx ta wa] : SE K Wx (tMethSD C m (spP K c) [] (fun _ => E0) to ta) (wMethC C m (fun ws M k _ => c ws M k fun _ _ _ => False) wo wa) where
  mono := fun hk he h => A.mono (fun _ _ ⟨h1, h2, q⟩ => ⟨h1, h2, B.mono (fun _ _ q => UC.up hk (fun _ _ _ z => z) q) he q⟩) he h
  ok := fun S s h => A.ok S s (A.mono (fun a M1 ⟨h1, h2, q⟩ G1 L1 H1 x e1 S1 r1 => by
    obtain ⟨p, dx, fs, rfl, hp, _, kn⟩ := ins_at S1 r1 h1
    refine ⟨p, dx, fs, rfl, hp, kn _ h2, B.ok S1 (s.ext e1) (B.mono (fun as M2 q G2 L2 H2 vs e2 S2 r2 => ?_) (fun _ _ _ z => z.after e1) q)⟩
    show spP K c (.ref p :: (vs ++ [])) H2 _ _
    rw [List.append_nil]
    exact ⟨G2, L2, M2, a :: as, S2, .cons (r1.ext e2) r2, UC.up (fun _ _ z => z.after (e1.trans e2)) (fun _ _ _ z => z.elim) q⟩) (fun _ _ _ z => z) h)
/-- a new instance: its __init__ fills a place, which then never changes -/
def wMake (C : Addr) (c : Con) (wa : WAx) : WEx := fun ρ M k e => wa ρ M (fun as M1 => c (.p M1.length :: as) (M1 ++ [.ins C []]) (fun r M2 => r = .d .non ∧ ∃ M3 fs gs, M2 = M3 ++ [.ins C fs] ∧ M3.length = M1.length ∧ (closedM M1 → closedM M3) ∧ treeFs fs = some gs ∧ k (.d (.ins C gs)) M3)
  (fun C' fs M2 => ∃ M3 M4, M2 = M3 ++ M4 ∧ M3.length = M1.length ∧ (closedM M1 → closedM M3) ∧ e C' fs M3)) e
/-- .. and stays a place -/
def wMakeO (C : Addr) (c : Con) (wa : WAx) : WEx := fun ρ M k e => wa ρ M (fun as M1 => c (.p M1.length :: as) (M1 ++ [.ins C []]) (fun r M2 => r = .d .non ∧ k (.p M1.length) M2)
  (fun C' fs M2 => ∃ M3 M4, M2 = M3 ++ M4 ∧ M3.length = M1.length ∧ (closedM M1 → closedM M3) ∧ e C' fs M3)) e
theorem make_start {G H : Hp} {L : List Addr} {M : Mem} {C x dx : Addr} (S : Sim K G L M H) (hx : H x = none) (hd : H dx = none) (ne : dx ≠ x) : Sim K G (L ++ [x]) (M ++ [.ins C []]) (upd (upd H dx (.own x)) x (.ins C dx [])) ∧ Ext G L H G (L ++ [x]) (upd (upd H dx (.own x)) x (.ins C dx [])) ∧ (L ++ [x])[M.length]? = some x := by
  obtain ⟨S1, e1⟩ := S.junk (o := .own x) hd
  obtain ⟨S2, e2⟩ := S1.alloc (p := x) (o := .ins C dx []) (c := .ins C []) (by rw [upd_ne (Ne.symm ne)]; exact hx) ⟨dx, [], upd_same, .nil⟩
  exact ⟨S2, e1.trans e2, by rw [← S.len, List.getElem?_append_right (Nat.le_refl _), Nat.sub_self]; rfl⟩
theorem prefix_at {α : Type} {l l' : List α} {n : Nat} {a : α} (p : l <+: l') (h : l[n]? = some a) : l'[n]? = some a := by
  obtain ⟨t, rfl⟩ := p
  rw [List.getElem?_append_left (List.getElem?_eq_some_iff.mp h).1]
  exact h
instance {C : Addr} {c : Con} {ta : TA} {wa : WAx} [UC c] [A : SA K Wx ta wa] : SE K Wx (tMakeS C (spP K c) (WE Wx) ta) (wMake C c wa) where
  mono := fun hk he h => A.mono (fun _ _ q => UC.up (fun r M2 ⟨h0, M3, fs, gs, h1, h2, h3, h4, q⟩ => ⟨h0, M3, fs, gs, h1, h2, h3, h4, hk _ _ q⟩) (fun _ _ _ ⟨M3, M4, h1, h2, h3, q⟩ => ⟨M3, M4, h1, h2, h3, he _ _ _ q⟩) q) he h
  ok := fun S s h => A.ok S s (A.mono (fun as M1 q G1 L1 H1 vs e1 S1 r1 x dx hx hd ne => by
    obtain ⟨S2, e2, at2⟩ := make_start (C := C) S1 hx hd ne
    refine ⟨G1, L1 ++ [x], _, .p M1.length :: as, S2, .cons ⟨x, at2, rfl⟩ (paired_all r1 fun _ _ _ z => RepW.ext z e2), UC.up (fun r M2 ⟨h0, M3, fs, gs, h1, h2, h3, h4, q⟩ => ?_) (fun C' fs M2 ⟨M3, M4, h1, h2, h3, q⟩ => ?_) q⟩
    · subst h0 h1
      intro G3 L3 H3 v e3 S3 r3
      obtain ⟨G', La, l1, pl, lg, e', S', fr, fi⟩ := S1.drop (e2.trans e3) S3 (Nat.le_of_eq h2.symm) h3
      refine ⟨rep_non r3, q _ _ _ _ (e1.trans e') S' ?_⟩
      obtain ⟨b, hb, z⟩ := fi 0 C fs gs rfl h4
      have := prefix_at e3.l at2
      rw [Nat.add_zero, h2, this] at hb
      cases hb
      exact z
    · subst h1
      intro G3 L3 H3 d us e3 S3 gd rf
      obtain ⟨G', La, l1, pl, lg, e', S', fr, fi⟩ := S1.drop (e2.trans e3) S3 (Nat.le_of_eq h2.symm) h3
      exact q _ _ _ _ _ (e1.trans e') S' (lg _ _ gd) (RepFs.mono lg rf)) (fun _ _ _ z => z) h)
instance {C : Addr} {c : Con} {ta : TA} {wa : WAx} [UC c] [A : SA K Wx ta wa] : SE K Wx (tOwn (tMakeS C (spP K c) (WE Wx) ta)) (wMakeO C c wa) where
  mono := fun hk he h => A.mono (fun _ _ q => UC.up (fun r M2 ⟨h0, q⟩ => ⟨h0, hk _ _ q⟩) (fun _ _ _ ⟨M3, M4, h1, h2, h3, q⟩ => ⟨M3, M4, h1, h2, h3, he _ _ _ q⟩) q) he h
  ok := fun S s h => A.ok S s (A.mono (fun as M1 q G1 L1 H1 vs e1 S1 r1 x dx hx hd ne => by
    obtain ⟨S2, e2, at2⟩ := make_start (C := C) S1 hx hd ne
    refine ⟨G1, L1 ++ [x], _, .p M1.length :: as, S2, .cons ⟨x, at2, rfl⟩ (paired_all r1 fun _ _ _ z => RepW.ext z e2), UC.up (fun r M2 ⟨h0, q⟩ => ?_) (fun C' fs M2 ⟨M3, M4, h1, h2, h3, q⟩ => ?_) q⟩
    · subst h0
      intro G3 L3 H3 v e3 S3 r3
      exact ⟨rep_non r3, q _ _ _ _ (e1.trans (e2.trans e3)) S3 ⟨x, prefix_at e3.l at2, rfl⟩⟩
    · subst h1
      intro G3 L3 H3 d us e3 S3 gd rf
      obtain ⟨G', La, l1, pl, lg, e', S', fr, fi⟩ := S1.drop (e2.trans e3) S3 (Nat.le_of_eq h2.symm) h3
      exact q _ _ _ _ _ (e1.trans e') S' (lg _ _ gd) (RepFs.mono lg rf)) (fun _ _ _ z => z) h)
/-- o.f = v -/
def putW (f : Str) (v : W) : List (Str × W) → List (Str × W)
  | [] => [(f, v)]
  | (g, x) :: r => if g = f then (g, v) :: r else (g, x) :: putW f v r
def sFldW (K : PySem.W.Frag) (wo wv : WEx) (f : Str) : WSx := fun ρ M k e => wv ρ M (fun y M1 => wo ρ M1 (fun a M2 => ∃ n C fs, a = .p n ∧ M2[n]? = some (.ins C fs) ∧ Cls K C ∧ NoAttr K C f ∧ fs.length < 1000 ∧ k (.nx ρ (M2.set n (.ins C (putW f y fs))))) (e ρ)) (e ρ)
theorem repFW_put {G : Hp} {L : List Addr} {f : Str} {v : V} {w : W} (h : RepW K G L v w) : ∀ {vs : List (Str × V)} {fs : List (Str × W)}, RepFW K G L vs fs → RepFW K G L (putF f v vs) (putW f w fs)
  | _, _, .nil => .cons ⟨rfl, h⟩ .nil
  | (g, u) :: _, (g', x) :: _, .cons ⟨q, z⟩ t => by
    simp only at q
    subst q
    unfold putF putW
    by_cases e : g = f
    · rw [if_pos e, if_pos e]
      exact .cons ⟨rfl, h⟩ t
    · rw [if_neg e, if_neg e]
      exact .cons ⟨rfl, z⟩ (repFW_put h t)
instance {to tv : TE} {wo wv : WEx} {f : Str} [A : SE K Wx to wo] [B : SE K Wx tv wv] : SS K Wx (sFld K to tv f) (sFldW K wo wv f) where
  mono := fun hk he h => B.mono (fun _ _ q => A.mono (fun _ _ ⟨n, C, fs, h1, h2, h3, h4, h5, q⟩ => ⟨n, C, fs, h1, h2, h3, h4, h5, hk _ q⟩) (he _) q) (he _) h
  ok := fun S s h => B.ok S s (B.mono (fun y M1 q G1 L1 H1 v e1 S1 r1 => A.ok S1 (s.ext e1) (A.mono (fun a M2 ⟨n, C, fs, h1, h2, h3, h4, h5, qq⟩ G2 L2 H2 x e2 S2 r2 => by
    subst h1
    obtain ⟨c, el, rfl⟩ := r2
    obtain ⟨c', el', dx, vs, hc, rr⟩ := S2.cell h2
    rw [el] at el'
    cases el'
    have ln : vs.length = fs.length := Paired.length rr
    refine ⟨c, C, dx, vs, rfl, hc, h3, h4, by omega, ?_⟩
    obtain ⟨S3, e3⟩ := S2.put (o := .ins C dx (putF f v vs)) (c := .ins C (putW f y fs)) el ⟨dx, _, upd_same, repFW_put (r1.ext e2) rr⟩
    exact qq _ _ _ _ ((e1.trans e2).trans e3) S3 (((s.ext e1).ext e2).ext e3)) (fun _ _ _ z => (z.after e1).ex (s.ext e1)) q)) (fun _ _ _ z => z.ex s) h)
end
/-! ### errors -/
def spIni (K : PySem.W.Frag) (C : Addr) (fs : List Str) : Sp := fun vs H Q _ => ∃ (a : Addr) (ys : List V), vs = .ref a :: ys ∧ ys.length = fs.length ∧ OexC K C ∧ (∀ f ∈ fs, PySem.W.findIn K (.ref C) f = some none) ∧ H a = some (exo a C none) ∧
  ∀ dx H', H dx = none → dx ≠ a → H' a = some (exo a C (some dx)) → H' dx = some (exd dx (fs.zip ys).reverse) → (∀ b, b ≠ a → b ≠ dx → H' b = H b) → Q .non H'
section
variable {P : Program} {w : World} {K : PySem.W.Frag} {mg : Str → Option Value} {base : Heap}
theorem ok_ini1 {st : Stmt} {qual f1 : Str} {f C : Addr} {fd : FuncData} (F : FunD K "__init__" qual (defArgs st) (defBody st) (defScope st) [] [] f fd) (S : FnScope (("self" : Str) :: [f1]) (("self" : Str) :: [f1]) (defScope st))
    (body : ∀ X : Cx, X.N = (("self" : Str) :: [f1]) → X.env.scope = defScope st → PSs X (defBody st) (tOst X.K f1 (tVar 0) (tVar 1))) : FnOk P w K mg base (L2.CX P w) 1 f fd (("self" : Str) :: [f1]) (spIni K C [f1]) := by
  refine F.ok S (fun vs H Q E h => ?_) (fun cdv A outer s H vs Q E hr h => ?_)
  · obtain ⟨a, ys, rfl, l, _⟩ := h
    rw [List.length_cons, l]
    rfl
  · obtain ⟨a, ys, rfl, l, hC, hno, ha, k⟩ := h
    match ys, l with
    | [y], _ =>
      refine ⟨_, body _ rfl rfl, ?_⟩
      refine ⟨_, rfl, _, rfl, a, C, rfl, hC, hno f1 (List.mem_singleton.mpr rfl), .inl ⟨ha, fun dx n ne => k dx _ n ne upd_same ?_ fun b n1 n2 => ?_⟩⟩
      · rw [upd_ne ne, upd_same]
        rfl
      · rw [upd_ne n1, upd_ne n2]
theorem ok_ini2 {st : Stmt} {qual f1 f2 : Str} {f C : Addr} {fd : FuncData} (F : FunD K "__init__" qual (defArgs st) (defBody st) (defScope st) [] [] f fd) (S : FnScope (("self" : Str) :: [f1, f2]) (("self" : Str) :: [f1, f2]) (defScope st))
    (body : ∀ X : Cx, X.N = (("self" : Str) :: [f1, f2]) → X.env.scope = defScope st → PSs X (defBody st) (tSeq (tOst X.K f1 (tVar 0) (tVar 1)) (tOst X.K f2 (tVar 0) (tVar 2)))) : FnOk P w K mg base (L2.CX P w) 1 f fd (("self" : Str) :: [f1, f2]) (spIni K C [f1, f2]) := by
  refine F.ok S (fun vs H Q E h => ?_) (fun cdv A outer s H vs Q E hr h => ?_)
  · obtain ⟨a, ys, rfl, l, _⟩ := h
    rw [List.length_cons, l]
    rfl
  · obtain ⟨a, ys, rfl, l, hC, hno, ha, k⟩ := h
    match ys, l with
    | [y, z], _ =>
      refine ⟨_, body _ rfl rfl, ?_⟩
      refine ⟨_, rfl, _, rfl, a, C, rfl, hC, hno f1 (List.mem_cons_self ..), .inl ⟨ha, fun dx n ne => ?_⟩⟩
      refine ⟨_, rfl, _, rfl, a, C, rfl, hC, hno f2 (List.mem_cons_of_mem _ (List.mem_singleton.mpr rfl)), .inr ⟨dx, _, upd_same, by rw [upd_ne ne]; exact upd_same, (by show 1 ≤ 900; decide), ?_⟩⟩
      refine k dx _ n ne ?_ ?_ fun b n1 n2 => ?_
      · rw [upd_ne (Ne.symm ne), upd_same]
      · rw [upd_same]
        rfl
      · rw [upd_ne n2, upd_ne n1, upd_ne n2]
end
/-- a class of errors, its fields -/
structure XC (P : Program) (w : World) (K : PySem.W.Frag) (mg : Str → Option Value) (base : Heap) (x : Str) (fs : List Str) : Prop where
  glob : mg x = some (.ref (He.ga K x))
  oex : OexC K (He.ga K x)
  no : ∀ f ∈ fs, PySem.W.findIn K (.ref (He.ga K x)) f = some none
  init : PySem.W.findIn K (.ref (He.ga K x)) "__init__" = some (some (.ref (He.ma K (He.ga K x) "__init__")))
  tI : PySem.W.typeIn K (.ref (He.ma K (He.ga K x) "__init__")) = some (.type "function")
  fn : ∃ fd, FnOk P w K mg base (L2.CX P w) 1 (He.ma K (He.ga K x) "__init__") fd (("self" : Str) :: fs) (spIni K (He.ga K x) fs) ∧ L2.Binds K fd (("self" : Str) :: fs) []
section
variable {X : Cx} {x : Str} {fs : List Str} {e : Expr} {es : List Expr} {ta : TA} {p pos pos2 : Pos}
theorem pmk_N (T : XC X.prog X.w X.K X.mg X.base x fs) (hr : Room 2 X.A) (ha : PA X (e :: es) ta) (hfs : fs.length ≤ 100 := by decide) (hg : Gl X x := by rfl) (hdb : (x == ("__debug__" : Str)) = false := by decide)
    (he : starEach (e :: es) X.env = (false, eval e X.env) :: starEach es X.env := by rfl) (hpl : (backTo pos (starEach es X.env)).any (·.1) = false := by rfl) :
    PMk X (.Call (.Name x p) (e :: es) [] pos) (tMkN (He.ga X.K x) fs ta) := by
  obtain ⟨fd, F, b⟩ := T.fn
  intro pins s σ H Q I h
  refine pmk_oex (CX := L2.CX X.prog X.w) (dvs := []) T.oex T.init T.tI F hr b .nil passU hg T.glob (pa_lax ha) hdb he hpl pins s σ H Q I ⟨_, h, fun vs H1 hv => ?_⟩
  obtain ⟨hl, kk⟩ := hv
  refine ⟨by omega, fun a na => ⟨a, vs, by rw [List.append_nil], hl, T.oex, T.no, upd_same, fun dx H' ndx hdx ea ed fr => ⟨rfl, dx, (fs.zip vs).reverse, ea, ed, ?_, ?_⟩⟩⟩
  · rw [upd_ne hdx] at ndx
    exact ndx
  · rw [upd_ne hdx] at ndx
    refine kk dx _ (fun c o hc => ?_) ndx upd_same
    have c1 : c ≠ dx := ne_of_none hc ndx
    have c2 : c ≠ a := ne_of_none hc na
    rw [upd_ne c1, del_ne c2, fr c c2 c1, upd_ne c2]
    exact hc
theorem ps_raiseN {W : WX} {K : PySem.W.Frag} (hc : X.calm = true) (tk : Takes X W) (T : XC X.prog X.w X.K X.mg X.base x fs) (hr : Room 2 X.A) (ha : PA X (e :: es) ta) (hfs : fs.length ≤ 100 := by decide) (hg : Gl X x := by rfl) (hdb : (x == ("__debug__" : Str)) = false := by decide)
    (he : starEach (e :: es) X.env = (false, eval e X.env) :: starEach es X.env := by rfl) (hpl : (backTo pos (starEach es X.env)).any (·.1) = false := by rfl) (hK : X.K = K := by rfl) :
    PS X (.Raise (some (.Call (.Name x p) (e :: es) [] pos)) none pos2) (tRz W (tMkN (He.ga K x) fs ta)) := hK ▸ ps_raise hc tk (pmk_N T hr ha hfs hg hdb he hpl)
end
section
variable {X : Cx}
theorem ps_own {st : Stmt} {t : TE} {g : TG} (h : PS X st (tAsg t g)) : PS X st (tAsg (tOwn t) g) := h
theorem pe_bm0P {K : PySem.W.Frag} {o : Expr} {to : TE} {name : Str} {apos cpos : Pos} {T : String} {r : V → List V → Hp → VK → Prop} (h : PE X (.Call (.Attribute o name apos) [] [] cpos) (tBM0 X.K T r to)) (hK : X.K = K := by rfl) : PE X (.Call (.Attribute o name apos) [] [] cpos) (tBM0 K T r to) := hK ▸ h
theorem pe_bmP {K : PySem.W.Frag} {o e : Expr} {es : List Expr} {to : TE} {t : TA} {name : Str} {apos cpos : Pos} {T : String} {r : V → List V → Hp → VK → Prop} (h : PE X (.Call (.Attribute o name apos) (e :: es) [] cpos) (tBM X.K T r to t)) (hK : X.K = K := by rfl) : PE X (.Call (.Attribute o name apos) (e :: es) [] cpos) (tBM K T r to t) := hK ▸ h
theorem pe_fldP {K : PySem.W.Frag} {e : Expr} {f : Str} {pos : Pos} {ta : TE} (he : PE X e ta) (hb : attributeBase e f X.env (eval e X.env) = eval e X.env) (hK : X.K = K := by rfl) : PE X (.Attribute e f pos) (tFld K ta f) := hK ▸ pe_fld he hb
theorem pg_tupP {K : PySem.W.Frag} {e : Expr} {n : Nat} {t : TGs} (h : PG X e (gTup X.K n t)) (hK : X.K = K := by rfl) : PG X e (gTup K n t) := hK ▸ h
theorem ps_fldP {K : PySem.W.Frag} {st : Stmt} {ta tv : TE} {f : Str} (h : PS X st (sFld X.K ta tv f)) (hK : X.K = K := by rfl) : PS X st (sFld K ta tv f) := hK ▸ h
end
end PU

set_option maxRecDepth 100000
set_option maxHeartbeats 8000000
/-! the rest of the constructs; how a body is read -/
namespace PU
open PySem PySem.Spec PyProof.Rows L2 WU
/-- the built-ins, all as they are -/
structure BltU (mg : Str → Option Value) : Prop where
  isi : mg "isinstance" = none
  int : mg "int" = none
  bool : mg "bool" = none
  str : mg "str" = none
  len : mg "len" = none
  abs : mg "abs" = none
  range : mg "range" = none
  tuple : mg "tuple" = none
  lst : mg "list" = none
  all : mg "all" = none
  any : mg "any" = none
  sum : mg "sum" = none
  max : mg "max" = none
  min : mg "min" = none
  zip : mg "zip" = none
  enum : mg "enumerate" = none
  sorted : mg "sorted" = none
  repr : mg "repr" = none
  set : mg "set" = none
theorem hu64 {k : Nat} {A : Around} (r : Room k A) : A.units + 64 < cLine := by have := r.un; omega
theorem hu65 {k : Nat} {A : Around} (r : Room k A) : A.units + 65 < cLine := by have := r.un; omega
section
variable {K : PySem.W.Frag} {Wx : WX}
/-! ### x op= y -/
def fIAdd (a b : W) (_ : Mem) : Option (W × Prop) := match a, b with
  | .d (.int i), .d (.int j) => some (.d (.int (i + j)), True)
  | _, _ => none
end
section
variable {X : Cx} {K : PySem.W.Frag}
theorem ip_addP0 : PIp X .Add (rP2 X.K (pf2 fIAdd)) := by
  rintro pins s σ H x y u v Q I rx ry ⟨G, L, M, a, b, S, ra, rb, ⟨d, c⟩, e, hc, q⟩
  unfold fIAdd at e
  split at e
  · cases e
    cases rep_int ra
    cases rep_int rb
    exact ip_add pins s σ H _ _ u v Q I rx ry ⟨_, _, rfl, rfl, post_int S q⟩
  · cases e
theorem ip_subP0 : PIp X .Sub (rP2 X.K (pf2 fSub)) := by
  rintro pins s σ H x y u v Q I rx ry ⟨G, L, M, a, b, S, ra, rb, ⟨d, c⟩, e, hc, q⟩
  unfold fSub at e
  split at e
  · cases e
    cases rep_int ra
    cases rep_int rb
    exact ip_sub pins s σ H _ _ u v Q I rx ry ⟨_, _, rfl, rfl, post_int S q⟩
  · cases e
theorem ip_addP (hK : X.K = K := by rfl) : PIp X .Add (rP2 K (pf2 fIAdd)) := hK ▸ ip_addP0
theorem ip_subP (hK : X.K = K := by rfl) : PIp X .Sub (rP2 K (pf2 fSub)) := hK ▸ ip_subP0
end
/-! ### enumerate -/
def ItEB (K : PySem.W.Frag) (a : Addr) : Bool → It
  | true => Ite K a
  | false => Itet K a
def iEnumB (K : PySem.W.Frag) (ta : TA) : TI := fun σ H R => ta σ H fun vs H1 => ∃ a xs k, vs = [.ref a] ∧ SqB K H1 a xs k ∧ R (ItEB K a k) H1
theorem pi_enumB {X : Cx} {K : PySem.W.Frag} {e : Expr} {ta : TA} {p pos tpos : Pos} {elts : List Expr} {kk : Nat} (hg : Gl X "enumerate") (hm : X.mg "enumerate" = none) (ha : PA X [e] ta) (hs : starEach [e] X.env = [(false, eval e X.env)] := by rfl) (hK : X.K = K := by rfl) :
    PI X (.Tuple elts kk tpos) (.Call (.Name "enumerate" p) [e] [] pos) (iEnumB K ta) := by
  subst hK
  constructor
  intro pn st sg G R inv h
  refine Call_ (ld_blt inv hg hm boot_enumerate (PyProof.Rows.callWith_type1 (thn (ha.run pos pn st sg G _ inv h) fun us s1 ⟨vs, G1, J1, r1, a, xs, k, ex, sq, q⟩ => ?_) hs rfl))
  subst ex
  cases r1 with
  | cons r rr =>
    cases rr
    cases r
    have le : ∀ b ∈ [s1.heap.objs.size + 1, s1.heap.objs.size], s1.heap.objs.size ≤ b := fun b hb => by
      rcases List.mem_cons.mp hb with z | z
      · rw [z]
        exact Nat.le_add_right _ _
      · rw [List.mem_singleton.mp z]
        exact Nat.le_refl _
    cases k with
    | false =>
      obtain ⟨us, rus, pus, _⟩ := J1.tuple sq
      obtain ⟨ot, et, ct, nt, dt⟩ := id pus
      refine call_enumT ⟨ot, et, ct, nt, dt⟩ fun h' ⟨en, hit, hk⟩ => wpAny_pyIter_enum en ?_
      have J2 : Inv X pn sg G1 { s1 with heap := h' } := J1.kept (t' := s1.toks) hk
      exact ⟨s1.heap.objs.size + 1, [s1.heap.objs.size + 1, s1.heap.objs.size], _, _, G1, rfl, J2, turn_enumT a (s1.heap.objs.size + 1) s1.heap.objs.size, ⟨⟨.none, en⟩, hit, Nat.succ_ne_self _⟩, fun b hb => J1.fpOk (le b hb) (J1.hok.fresh (le b hb)), q⟩
    | true =>
      obtain ⟨its, rv, p', hz⟩ := J1.list sq
      refine call_enumerate_list p'.isList fun h' he hit hsz hk => wpAny_pyIter_enum he ?_
      have J2 : Inv X pn sg G1 { s1 with heap := h' } := J1.kept (t' := s1.toks) hk
      exact ⟨s1.heap.objs.size + 1, [s1.heap.objs.size + 1, s1.heap.objs.size], _, _, G1, rfl, J2, turn_enum a (s1.heap.objs.size + 1) s1.heap.objs.size, ⟨⟨.none, he⟩, hit, Nat.succ_ne_self _⟩, fun b hb => J1.fpOk (le b hb) (J1.hok.fresh (le b hb)), q⟩
theorem walk_enumB {K : PySem.W.Frag} {a : Addr} {xs : List V} {k : Bool} : Walk (ItEB K a k) xs.length (fun H => SqB K H a xs k) (YPair (fun i => some (.int (i : Nat))) (fun i => xs[i]?)) := by
  cases k with
  | true => exact ⟨fun i H hi h => ⟨xs, xs[i], h, List.getElem?_eq_getElem hi⟩, fun H h => ⟨xs, h, Nat.le_refl _⟩, fun i H x H' hi h ⟨T, y, e, n, eH, f⟩ => ⟨T, _, y, e, n, eH, rfl, f xs h⟩⟩
  | false => exact ⟨fun i H hi h => ⟨xs, xs[i], h, List.getElem?_eq_getElem hi⟩, fun H h => ⟨xs, h, Nat.le_refl _⟩, fun i H x H' hi h ⟨T, y, e, n, eH, f⟩ => ⟨T, _, y, e, n, eH, rfl, f xs h⟩⟩
def enumD (xs : List D) : List D := xs.zipIdx.map fun z => .tup [.int (z.2 : Nat), z.1]
def wEnum (wa : WAx) : WIx := fun ρ M k e => wa ρ M (fun as M1 => ob (one as) fun a => ob (seqW M1 a) fun r => k (enumD r.2) (keepW a r.1 r.2) M1) e
theorem itok_enum {K : PySem.W.Frag} {G H : Hp} {L : List Addr} {M : Mem} {c : Addr} {a : W} {b : Bool} {ds : List D} (S : Sim K G L M H) (r : RepW K G L (.ref c) a) (h : seqW M a = some (b, ds)) : ItOk K G L (ItEB K c b) (enumD ds) (keepW a b ds) := by
  intro G2 L2 M2 H2 le pl S2 kp
  obtain ⟨c2, xs, e, ra, sq⟩ := seq_at S2 (r.mono le pl) (seq_stay S r h le pl S2 kp)
  cases e
  have l1 := ra.len
  have w := walk_enumB (K := K) (a := c) (xs := xs) (k := b)
  have lz : (enumD ds).length = ds.length := by rw [enumD, List.length_map, List.length_zipIdx]
  refine ⟨by rw [lz, ← l1]; exact w.stops _ sq, fun i d hd => ?_⟩
  have lt := (List.getElem?_eq_some_iff.mp hd).1
  rw [lz, ← l1] at lt
  refine ⟨w.goes i _ lt sq, fun x H' y => .inr ?_⟩
  obtain ⟨T, x1, x2, rfl, hT, rfl, g1, g2⟩ := w.yields i _ x H' lt sq y
  cases g1
  obtain ⟨d2, f2, r2⟩ := ra.get' g2
  have ed : d = .tup [.int (i : Nat), d2] := by
    rw [enumD, List.getElem?_map, List.getElem?_zipIdx, f2] at hd
    simp at hd
    exact hd.symm
  subst ed
  obtain ⟨S3, e3⟩ := S2.new (o := .tup [.int (i : Nat), x2]) hT
  exact ⟨T, _, hT, rfl, .tup (.inl upd_same) (.cons (.int _) (.cons (r2.mono e3.g) .nil))⟩
section
variable {K : PySem.W.Frag} {Wx : WX}
instance {ta : TA} {wa : WAx} [A : SA K Wx ta wa] : SI K Wx (iEnumB K ta) (wEnum wa) where
  mono := fun hk he h => A.mono (fun _ _ ⟨a, h0, r, h1, q⟩ => ⟨a, h0, r, h1, hk _ _ _ q⟩) he h
  ok := fun S s h => A.ok S s (A.mono (fun as M1 ⟨a, h0, ⟨b, xs⟩, h1, q⟩ G1 L1 H1 vs e1 S1 r1 => by
    obtain rfl := one_eq h0
    obtain ⟨v, rfl, r⟩ := repWs1 r1
    obtain ⟨c, us, rfl, ra, sq⟩ := seq_at S1 r h1
    exact ⟨c, us, b, rfl, sq, q _ _ _ _ e1 S1 (itok_enum S1 r h1)⟩) (fun _ _ _ z => z) h)
/-! ### not x by truth, x or y by truth -/
def wNotT (a : WEx) : WEx := fun ρ M k e => a ρ M (fun w M1 => ob (truW M1 w) fun b => k (.d (.bl (!b))) M1) e
instance {t : TE} {a : WEx} [A : SE K Wx t a] : SE K Wx (tNotT K t) (wNotT a) where
  mono := fun hk he h => A.mono (fun _ _ ⟨b, e, q⟩ => ⟨b, e, hk _ _ q⟩) he h
  ok := fun S s h => A.ok S s (A.mono (fun w M1 ⟨b, e, q⟩ G1 L1 H1 v e1 S1 r1 => ⟨b, tru_at S1 r1 e, q _ _ _ _ e1 S1 (.bl _)⟩) (fun _ _ _ z => z) h)
theorem pe_notP {X : Cx} {a : Expr} {ta : TE} {pos : Pos} (ha : PE X a ta) (hK : X.K = K := by rfl) : PE X (.UnaryOp .Not a pos) (tNotT K ta) := hK ▸ pe_notT ha
/-! ### isinstance(x, (list, tuple)) -/
def pIsT (K : PySem.W.Frag) (n1 n2 : String) (w : W) (M1 : Mem) (k : KW) : Prop := ∃ b, ((∃ t, tyW M1 w = some t ∧ PySem.W.kitAny K t [.type n1, .type n2] = some b) ∨ ∃ C, clsW M1 w = some C ∧ InsK K C ∧ PySem.W.kitAny K (.ref C) [.type n1, .type n2] = some b) ∧ k (.d (.bl b)) M1
def wIsT (K : PySem.W.Frag) (a : WEx) (n1 n2 : String) : WEx := fun ρ M k e => a ρ M (fun w M1 => pIsT K n1 n2 w M1 k) e
instance {t : TE} {a : WEx} {n1 n2 : String} [A : SE K Wx t a] : SE K Wx (tCB (rIsiT K) (tCons t (tCons (tTup (tCons (tC (.ty n1)) (tCons (tC (.ty n2)) tNil))) tNil))) (wIsT K a n1 n2) where
  mono := fun hk he h => A.mono (fun _ _ ⟨b, e, q⟩ => ⟨b, e, hk _ _ q⟩) he h
  ok := fun S s h => A.ok S s (A.mono (fun w M1 ⟨b, e, q⟩ G1 L1 H1 v e1 S1 r1 => by
    refine ⟨by show 2 ≤ sizeLine; decide, fun p hp => ?_⟩
    obtain ⟨S2, e2⟩ := S1.junk (o := .tup [.ty n1, .ty n2]) hp
    rcases e with ⟨ty, ht, hk⟩ | ⟨C, hC, ⟨k1, k2, k3, k4, k5⟩, hk⟩
    · exact ⟨v, p, _, ty, _, b, rfl, upd_same, .cons (.ty n1) (.cons (.ty n2) .nil), ty_at S2 (r1.ext e2) ht, hk, q _ _ _ _ (e1.trans e2) S2 (.bl b)⟩
    · obtain ⟨c, dx, fs, rfl, hc, _, _⟩ := ins_at S2 (r1.ext e2) hC
      exact ⟨_, p, _, .ref C, _, b, rfl, upd_same, .cons (.ty n1) (.cons (.ty n2) .nil), .base (.ins hc k1 k2 k3 k4 k5), hk, q _ _ _ _ (e1.trans e2) S2 (.bl b)⟩) (fun _ _ _ z => z) h)
theorem call_isiTP {X : Cx} (hK : X.K = K := by rfl) : CallR X (.builtin "isinstance") (rIsiT K) := hK ▸ call_isiT
end
/-! ### how a body is read -/
@[simp] theorem wVar_u (i : Nat) : wVar i = (fun ρ M k _ => ∃ a, ρ[i]? = some (some a) ∧ k a M) := rfl
@[simp] theorem wC_u (d : D) : wC d = (fun _ M k _ => k (.d d) M) := rfl
@[simp] theorem w2_u (p : P2) (wa wb : WEx) : w2 p wa wb = (fun ρ M k e => wa ρ M (fun a M1 => wb ρ M1 (fun b M2 => p a b M2 k) e) e) := rfl
@[simp] theorem w1_u (p : P1) (wa : WEx) : w1 p wa = (fun ρ M k e => wa ρ M (fun a M1 => p a M1 k) e) := rfl
@[simp] theorem wn_u (p : Pn) (wa : WAx) : wn p wa = (fun ρ M k e => wa ρ M (fun as M1 => p as M1 k) e) := rfl
@[simp] theorem wNil_u : wNil  = (fun _ M k _ => k [] M) := rfl
@[simp] theorem wCons_u (wa : WEx) (wr : WAx) : wCons wa wr = (fun ρ M k e => wa ρ M (fun a M1 => wr ρ M1 (fun as M2 => k (a :: as) M2) e) e) := rfl
@[simp] theorem wCall_u (c : Con) (wa : WAx) : wCall c wa = (fun ρ M k e => wa ρ M (fun as M1 => c as M1 k e) e) := rfl
@[simp] theorem wCall0_u (c : Con) (wa : WAx) : wCall0 c wa = (fun ρ M k e => wa ρ M (fun as M1 => c as M1 k fun _ _ _ => False) e) := rfl
@[simp] theorem wTup_u (wa : WAx) : wTup wa = (fun ρ M k e => wa ρ M (fun as M1 => ob (allD as) fun ds => ds.length ≤ sizeLine ∧ k (.d (.tup ds)) M1) e) := rfl
@[simp] theorem wLst_u (wa : WAx) : wLst wa = (fun ρ M k e => wa ρ M (fun as M1 => ob (allD as) fun ds => ds.length ≤ sizeLine ∧ k (.d (.lst ds)) M1) e) := rfl
@[simp] theorem wLstO_u (wa : WAx) : wLstO wa = (fun ρ M k e => wa ρ M (fun as M1 => ob (allD as) fun ds => ds.length ≤ sizeLine ∧ k (.p M1.length) (M1 ++ [.lst ds])) e) := rfl
@[simp] theorem wFld_u (K : PySem.W.Frag) (wa : WEx) (f : Str) : wFld K wa f = (fun ρ M k e => wa ρ M (fun a M1 => ob (clsW M1 a) fun C => Cls K C ∧ NoAttr K C f ∧ ob (fldW f M1 a) fun b => k b M1) e) := rfl
@[simp] theorem wTest_u (w : WEx) : wTest w = (fun ρ M k e => w ρ M (fun a M1 => ob (blW a) fun b => k b M1) e) := rfl
@[simp] theorem wAnd_u (a b : WBx) : wAnd a b = (fun ρ M k e => a ρ M (fun c M1 => if c = true then b ρ M1 k e else k false M1) e) := rfl
@[simp] theorem wOr_u (a b : WBx) : wOr a b = (fun ρ M k e => a ρ M (fun c M1 => if c = true then k true M1 else b ρ M1 k e) e) := rfl
@[simp] theorem wNot_u (a : WBx) : wNot a = (fun ρ M k e => a ρ M (fun c M1 => k (!c) M1) e) := rfl
@[simp] theorem wAndV_u (a b : WEx) : wAndV a b = (fun ρ M k e => a ρ M (fun x M1 => ob (blW x) fun c => if c = true then b ρ M1 k e else k (.d (.bl false)) M1) e) := rfl
@[simp] theorem wOrV_u (a b : WEx) : wOrV a b = (fun ρ M k e => a ρ M (fun x M1 => ob (blW x) fun c => if c = true then k (.d (.bl true)) M1 else b ρ M1 k e) e) := rfl
@[simp] theorem wNotV_u (a : WEx) : wNotV a = (fun ρ M k e => a ρ M (fun x M1 => ob (blW x) fun c => k (.d (.bl (!c))) M1) e) := rfl
@[simp] theorem wIf_u (c : WBx) (a b : WEx) : wIf c a b = (fun ρ M k e => c ρ M (fun z M1 => if z = true then a ρ M1 k e else b ρ M1 k e) e) := rfl
@[simp] theorem wSeq_u (wa : WEx) : wSeq wa = (fun ρ M k e => wa ρ M (fun a M1 => ob (seqW M1 a) fun r => k r.2 (keepW a r.1 r.2) M1) e) := rfl
@[simp] theorem wRng1_u (wa : WAx) : wRng1 wa = (fun ρ M k e => wa ρ M (fun as M1 => ob (int1 as) fun j => -(2 ^ 62) ≤ j ∧ j < 2 ^ 62 ∧ k (rngD 0 j.toNat) (fun _ => True) M1) e) := rfl
@[simp] theorem wRng2_u (wa : WAx) : wRng2 wa = (fun ρ M k e => wa ρ M (fun as M1 => ob (int2 as) fun r => (-(2 ^ 62) ≤ r.1 ∧ r.1 < 2 ^ 62 ∧ -(2 ^ 62) ≤ r.2 ∧ r.2 < 2 ^ 62) ∧ k (rngD r.1 (r.2 - r.1).toNat) (fun _ => True) M1) e) := rfl
@[simp] theorem wZip_u (wa : WAx) : wZip wa = (fun ρ M k e => wa ρ M (fun as M1 => ob (two as) fun r => ob (seqW M1 r.1) fun s => ob (seqW M1 r.2) fun s' => k (zipD s.2 s'.2) (fun M2 => keepW r.1 s.1 s.2 M2 ∧ keepW r.2 s'.1 s'.2 M2) M1) e) := rfl
@[simp] theorem wEnum_u (wa : WAx) : wEnum wa = (fun ρ M k e => wa ρ M (fun as M1 => ob (one as) fun a => ob (seqW M1 a) fun r => k (enumD r.2) (keepW a r.1 r.2) M1) e) := rfl
@[simp] theorem gN_u (i : Nat) : gN i = (fun a ρ M k => k (ρ.set i (some a)) M) := rfl
@[simp] theorem gNil'_u : gNil'  = (fun as ρ M k => as = [] ∧ k ρ M) := rfl
@[simp] theorem gCons'_u (g : WGx) (gs : WGs) : gCons' g gs = (fun as ρ M k => ob (unc as) fun p => g p.1 ρ M fun ρ1 M1 => gs p.2 ρ1 M1 k) := rfl
@[simp] theorem gTup'_u (n : Nat) (gs : WGs) : gTup' n gs = (fun a ρ M k => ob (tupW a) fun xs => xs.length = n ∧ gs (xs.map .d) ρ M k) := rfl
@[simp] theorem wLc_u (wi : WIx) (g : WGx) (is : List Nat) (t : WBx) (w : WEx) (vs : List Nat) : wLc wi g is t w vs = (fun ρ M k e => subB is vs = true ∧ wi ρ M (fun ds cd M1 => lcL g t w (wipeE ρ vs) cd (fun acc M2 => k (.d (.lst acc)) M2) ds [] M1) e) := rfl
@[simp] theorem wLcO_u (wi : WIx) (g : WGx) (is : List Nat) (t : WBx) (w : WEx) (vs : List Nat) : wLcO wi g is t w vs = (fun ρ M k e => subB is vs = true ∧ wi ρ M (fun ds cd M1 => lcL g t w (wipeE ρ vs) cd (fun acc M2 => k (.p M2.length) (M2 ++ [.lst acc])) ds [] M1) e) := rfl
@[simp] theorem wLc2_u (wi : WIx) (g : WGx) (is : List Nat) (t : WBx) (wi1 : WIx) (g1 : WGx) (is1 : List Nat) (t1 : WBx) (w : WEx) (vs vs1 : List Nat) : wLc2 wi g is t wi1 g1 is1 t1 w vs vs1 = (fun ρ M k e => subB is vs = true ∧ subB is1 vs1 = true ∧ wi ρ M (fun ds cd M1 => lcL2 g t wi1 g1 t1 w vs1 (wipeE ρ vs) cd (fun acc M2 => k (.d (.lst acc)) M2) ds [] M1) e) := rfl
@[simp] theorem wYes_u : wYes  = (fun _ M k _ => k true M) := rfl
@[simp] theorem sNext_u : sNext  = (fun ρ M k _ => k (.nx ρ M)) := rfl
@[simp] theorem sBreak_u : sBreak  = (fun ρ M k _ => k (.bk ρ M)) := rfl
@[simp] theorem sCont_u : sCont  = (fun ρ M k _ => k (.ct ρ M)) := rfl
@[simp] theorem sNever_u : sNever  = (fun _ _ _ _ => False) := rfl
@[simp] theorem sThn_u (a b : WSx) : sThn a b = (fun ρ M k e => a ρ M (fun f => match f with
  | .nx ρ1 M1 => b ρ1 M1 k e
  | f => k f) e) := rfl
@[simp] theorem sDrop_u (a : WEx) : sDrop a = (fun ρ M k e => a ρ M (fun _ M1 => k (.nx ρ M1)) (e ρ)) := rfl
@[simp] theorem sRet_u (a : WEx) : sRet a = (fun ρ M k e => a ρ M (fun v M1 => k (.rt v M1)) (e ρ)) := rfl
@[simp] theorem sRetN_u : sRetN  = (fun _ M k _ => k (.rt (.d .non) M)) := rfl
@[simp] theorem sIf_u (c : WBx) (a b : WSx) : sIf c a b = (fun ρ M k e => c ρ M (fun z M1 => if z = true then a ρ M1 k e else b ρ M1 k e) (e ρ)) := rfl
@[simp] theorem sAsg_u (a : WEx) (g : WGx) : sAsg a g = (fun ρ M k e => a ρ M (fun v M1 => g v ρ M1 fun ρ1 M2 => k (.nx ρ1 M2)) (e ρ)) := rfl
@[simp] theorem sAug_u (i : Nat) (a : WEx) (p : P2) : sAug i a p = (fun ρ M k e => ∃ x, ρ[i]? = some (some x) ∧ a ρ M (fun y M1 => p x y M1 fun z M2 => k (.nx (ρ.set i (some z)) M2)) (e ρ)) := rfl
@[simp] theorem sFor_u (wi : WIx) (g : WGx) (b : WSx) : sFor wi g b = (fun ρ M k e => wi ρ M (fun ds cd M1 => forL g b cd k e ds ρ M1) (e ρ)) := rfl
@[simp] theorem sRaise_u (C : Addr) (fs : List Str) (wa : WAx) : sRaise C fs wa = (fun ρ M _ e => wa ρ M (fun ws M1 => ∃ ds, allD ws = some ds ∧ ds.length = fs.length ∧ e ρ C (fs.zip ds).reverse M1) (e ρ)) := rfl
@[simp] theorem oNo_u : oNo  = (fun _ M k _ => k none M) := rfl
@[simp] theorem oPart_u (a : WEx) : oPart a = (fun ρ M k e => a ρ M (fun w M1 => ∃ i, w = .d (.int i) ∧ k (some i) M1) e) := rfl
@[simp] theorem wSl_u (a : WEx) (lo hi : Po) : wSl a lo hi = (fun ρ M k e => a ρ M (fun w M1 => lo ρ M1 (fun l M2 => hi ρ M2 (fun h M3 => ob (fSl w l h M3) fun b => k b M3) e) e) e) := rfl
@[simp] theorem pf2_u (f : W → W → Mem → Option (W × Prop)) : pf2 f = (fun a b M k => ob (f a b M) fun r => r.2 ∧ k r.1 M) := rfl
@[simp] theorem pf1_u (f : W → Mem → Option (W × Prop)) : pf1 f = (fun a M k => ob (f a M) fun r => r.2 ∧ k r.1 M) := rfl
@[simp] theorem pfn_u (f : List W → Mem → Option (W × Prop)) : pfn f = (fun as M k => ob (f as M) fun r => r.2 ∧ k r.1 M) := rfl
@[simp] theorem wLRg1_u (tp : Bool) (a : WEx) : wLRg1 tp a = (fun ρ M k e => a ρ M (fun w M1 => ∃ n, w = .d (.int n) ∧ 0 ≤ n ∧ n ≤ 16777216 ∧ k (.d (if tp then .tup (rngD 0 n.toNat) else .lst (rngD 0 n.toNat))) M1) e) := rfl
@[simp] theorem wLRg2_u (tp : Bool) (a b : WEx) : wLRg2 tp a b = (fun ρ M k e => a ρ M (fun w M1 => b ρ M1 (fun u M2 => ∃ n m, w = .d (.int n) ∧ u = .d (.int m) ∧ RgOk n m ∧ k (.d (if tp then .tup (rngD n (m - n).toNat) else .lst (rngD n (m - n).toNat))) M2) e) e) := rfl
@[simp] theorem wTru_u (a : WEx) : wTru a = (fun ρ M k e => a ρ M (fun w M1 => ob (truW M1 w) fun b => k b M1) e) := rfl
@[simp] theorem wMeth_u (p : Pm) (wo : WEx) (wa : WAx) : wMeth p wo wa = (fun ρ M k e => wo ρ M (fun a M1 => isL M1 a ∧ wa ρ M1 (fun as M2 => p a as M2 k) e) e) := rfl
@[simp] theorem wMeth0_u (p : Pm) (wo : WEx) : wMeth0 p wo = (fun ρ M k e => wo ρ M (fun a M1 => isL M1 a ∧ p a [] M1 k) e) := rfl
@[simp] theorem pMut_u (f : List D → List W → Option (List D × D × Prop)) : pMut f = (fun a as M k => ob (plW a) fun n => ob (lsC M[n]?) fun ds => ob (f ds as) fun r => r.2.2 ∧ k (.d r.2.1) (M.set n (.lst r.1))) := rfl
@[simp] theorem gSub'_u (wo wi : WEx) : gSub' wo wi = (fun v ρ M k => wo ρ M (fun o M1 => wi ρ M1 (fun i M2 => ob (plW o) fun n => ob (int1 [i]) fun z => ob (lsC M2[n]?) fun ds => ob (ixN ds.length z) fun j => ob (trA [v]) fun x => k ρ (M2.set n (.lst (ds.set j x)))) fun _ _ _ => False) fun _ _ _ => False) := rfl
@[simp] theorem wMethC_u (C : Addr) (m : Str) (c : Con) (wo : WEx) (wa : WAx) : wMethC C m c wo wa = (fun ρ M k e => wo ρ M (fun a M1 => clsW M1 a = some C ∧ fldW m M1 a = none ∧ wa ρ M1 (fun as M2 => c (a :: as) M2 k e) e) e) := rfl
@[simp] theorem wMake_u (C : Addr) (c : Con) (wa : WAx) : wMake C c wa = (fun ρ M k e => wa ρ M (fun as M1 => c (.p M1.length :: as) (M1 ++ [.ins C []]) (fun r M2 => r = .d .non ∧ ∃ M3 fs gs, M2 = M3 ++ [.ins C fs] ∧ M3.length = M1.length ∧ (closedM M1 → closedM M3) ∧ treeFs fs = some gs ∧ k (.d (.ins C gs)) M3)
  (fun C' fs M2 => ∃ M3 M4, M2 = M3 ++ M4 ∧ M3.length = M1.length ∧ (closedM M1 → closedM M3) ∧ e C' fs M3)) e) := rfl
@[simp] theorem wMakeO_u (C : Addr) (c : Con) (wa : WAx) : wMakeO C c wa = (fun ρ M k e => wa ρ M (fun as M1 => c (.p M1.length :: as) (M1 ++ [.ins C []]) (fun r M2 => r = .d .non ∧ k (.p M1.length) M2)
  (fun C' fs M2 => ∃ M3 M4, M2 = M3 ++ M4 ∧ M3.length = M1.length ∧ (closedM M1 → closedM M3) ∧ e C' fs M3)) e) := rfl
@[simp] theorem sFldW_u (K : PySem.W.Frag) (wo wv : WEx) (f : Str) : sFldW K wo wv f = (fun ρ M k e => wv ρ M (fun y M1 => wo ρ M1 (fun a M2 => ∃ n C fs, a = .p n ∧ M2[n]? = some (.ins C fs) ∧ Cls K C ∧ NoAttr K C f ∧ fs.length < 1000 ∧ k (.nx ρ (M2.set n (.ins C (putW f y fs))))) (e ρ)) (e ρ)) := rfl
@[simp] theorem wNotT_u (a : WEx) : wNotT a = (fun ρ M k e => a ρ M (fun w M1 => ob (truW M1 w) fun b => k (.d (.bl (!b))) M1) e) := rfl
@[simp] theorem wIsT_u (K : PySem.W.Frag) (a : WEx) (n1 n2 : String) : wIsT K a n1 n2 = (fun ρ M k e => a ρ M (fun w M1 => pIsT K n1 n2 w M1 k) e) := rfl
@[simp] theorem pListO_u : pListO  = (fun as M k => ob (one as) fun a => ob (seqW M a) fun r => k (.p M.length) (M ++ [.lst r.2])) := rfl
@[simp] theorem pIdx_u : pIdx  = (fun a as M k => ob (seqW M a) fun r => r.1 = true ∧ ob (trA as) fun x => ob (pyAll r.2) fun ps => ob (pyD x) fun p => SeqAt.shaped (.list ps) = true ∧ SeqAt.shaped p = true ∧ ob (ps.findIdx? fun z => PyData.eqv z p) fun j => k (.d (.int (j : Nat))) M) := rfl
@[simp] theorem subB_u (is vs : List Nat) : subB is vs = (is.all vs.contains) := rfl
@[simp] theorem wipeE_u1 (ρ : En) : wipeE ρ [] = ρ := rfl
@[simp] theorem wipeE_u2 (ρ : En) (v : Nat) (vs : List Nat) : wipeE ρ (v :: vs) = (wipeE ρ vs).set v none := rfl
@[simp] theorem allD_u1 : allD [] = some [] := rfl
@[simp] theorem allD_u2 (x : D) (r : List W) : allD (.d x :: r) = (allD r).map (x :: ·) := rfl
@[simp] theorem allD_u3 (n : Nat) (r : List W) : allD (.p n :: r) = none := rfl
@[simp] theorem treeFs_u1 : treeFs [] = some [] := rfl
@[simp] theorem treeFs_u2 (f : Str) (x : D) (r : List (Str × W)) : treeFs ((f, .d x) :: r) = (treeFs r).map ((f, x) :: ·) := rfl
@[simp] theorem treeFs_u3 (f : Str) (n : Nat) (r : List (Str × W)) : treeFs ((f, .p n) :: r) = none := rfl
@[simp] theorem putW_u1 (f : Str) (v : W) : putW f v [] = [(f, v)] := rfl
@[simp] theorem putW_u2 (f g : Str) (v x : W) (r : List (Str × W)) : putW f v ((g, x) :: r) = if g = f then (g, v) :: r else (g, x) :: putW f v r := rfl

section
variable {M : Mem} {i j : Int} {x y : Str} {a b : Bool} {xs ys ds : List D} {n : Nat} {C : Addr} {fs : List (Str × D)} {f : Str} {α β : Type}
@[simp] theorem ob_map {o : Option α} {g : α → β} {p : β → Prop} : ob (o.map g) p = ob o fun z => p (g z) := by cases o <;> simp
@[simp] theorem ob_bind {o : Option α} {g : α → Option β} {p : β → Prop} : ob (o.bind g) p = ob o fun z => ob (g z) p := by cases o <;> simp
def insC : Option Cell → Option (Addr × List (Str × W))
  | some (.ins C fs) => some (C, fs)
  | _ => none
@[simp] theorem insC_i {fs : List (Str × W)} : insC (some (.ins C fs)) = some (C, fs) := rfl
@[simp] theorem seqW_tup : seqW M (.d (.tup xs)) = some (false, xs) := rfl
@[simp] theorem seqW_lst : seqW M (.d (.lst xs)) = some (true, xs) := rfl
@[simp] theorem seqW_ft : seqW M (.d (.ft xs)) = some (false, xs) := rfl
@[simp] theorem seqW_nt : seqW M (.d (.nt xs)) = some (false, xs) := rfl
@[simp] theorem seqW_fl : seqW M (.d (.fl xs)) = some (true, xs) := rfl
@[simp] theorem seqW_p : seqW M (.p n) = (lsC M[n]?).map fun ds => (true, ds) := by
  show (match M[n]? with | some (.lst xs) => _ | _ => none) = _
  rcases M[n]? with _ | (_ | _) <;> rfl
@[simp] theorem trW_d {d : D} : trW M (.d d) = some d := rfl
@[simp] theorem trW_p : trW M (.p n) = (lsC M[n]?).map .lst := by
  show (match M[n]? with | some (.lst xs) => _ | _ => none) = _
  rcases M[n]? with _ | (_ | _) <;> rfl
@[simp] theorem lv_lst : lv M (.d (.lst xs)) = some xs := rfl
@[simp] theorem lv_p : lv M (.p n) = lsC M[n]? := by
  show (match M[n]? with | some (.lst xs) => _ | _ => none) = _
  rcases M[n]? with _ | (_ | _) <;> rfl
@[simp] theorem keepW_d {d : D} : keepW (.d d) a xs = fun _ => True := rfl
@[simp] theorem keepW_p : keepW (.p n) a xs = fun M => M[n]? = some (.lst xs) := rfl
@[simp] theorem clsW_i : clsW M (.d (.ins C fs)) = some C := rfl
@[simp] theorem clsW_p : clsW M (.p n) = (insC M[n]?).map (·.1) := by
  show (match M[n]? with | some (.ins C fs) => _ | _ => none) = _
  rcases M[n]? with _ | (_ | _) <;> rfl
@[simp] theorem fldW_i : fldW f M (.d (.ins C fs)) = (fs.lookup f).map .d := rfl
@[simp] theorem fldW_p : fldW f M (.p n) = (insC M[n]?).bind fun z => z.2.lookup f := by
  show (match M[n]? with | some (.ins C fs) => _ | _ => none) = _
  rcases M[n]? with _ | (_ | _) <;> rfl
@[simp] theorem tyW_non : tyW M (.d .non) = some (.type "NoneType") := rfl
@[simp] theorem tyW_bl : tyW M (.d (.bl a)) = some (.type "bool") := rfl
@[simp] theorem tyW_int : tyW M (.d (.int i)) = some (.type "int") := rfl
@[simp] theorem tyW_str : tyW M (.d (.str x)) = some (.type "str") := rfl
@[simp] theorem tyW_lst : tyW M (.d (.lst xs)) = some (.type "list") := rfl
@[simp] theorem tyW_tup : tyW M (.d (.tup xs)) = some (.type "tuple") := rfl
@[simp] theorem tyW_ins : tyW M (.d (.ins C fs)) = none := rfl
@[simp] theorem truW_non : truW M (.d .non) = some false := rfl
@[simp] theorem truW_bl : truW M (.d (.bl a)) = some a := rfl
@[simp] theorem truW_int : truW M (.d (.int i)) = some (i != 0) := rfl
@[simp] theorem truW_lst : truW M (.d (.lst xs)) = some (!xs.isEmpty) := rfl
@[simp] theorem truW_fl : truW M (.d (.fl xs)) = some (!xs.isEmpty) := rfl
@[simp] theorem truW_tup : truW M (.d (.tup xs)) = some (!xs.isEmpty) := rfl
@[simp] theorem truW_p : truW M (.p n) = (lsC M[n]?).map fun xs => !xs.isEmpty := by
  show (match seqW M (.p n) with | some (_, ds) => some (!ds.isEmpty) | none => none) = _
  rw [seqW_p]
  cases lsC M[n]? <;> rfl
@[simp] theorem fAdd_int : fAdd (.d (.int i)) (.d (.int j)) M = some (.d (.int (i + j)), True) := rfl
@[simp] theorem fAdd_str : fAdd (.d (.str x)) (.d (.str y)) M = some (.d (.str (x ++ y)), x.length + y.length ≤ sizeLine) := rfl
@[simp] theorem fAdd_tup : fAdd (.d (.tup xs)) (.d (.tup ys)) M = some (.d (.tup (xs ++ ys)), xs.length + ys.length ≤ sizeLine) := rfl
@[simp] theorem fAdd_lst : fAdd (.d (.lst xs)) (.d (.lst ys)) M = some (.d (.lst (xs ++ ys)), xs.length + ys.length ≤ sizeLine) := rfl
@[simp] theorem fSub_int : fSub (.d (.int i)) (.d (.int j)) M = some (.d (.int (i - j)), True) := rfl
@[simp] theorem fMul_int : fMul (.d (.int i)) (.d (.int j)) M = some (.d (.int (i * j)), CMul i j) := rfl
@[simp] theorem fMul_tup : fMul (.d (.tup xs)) (.d (.int i)) M = some (.d (.tup (List.replicate i.toNat xs).flatten), xs ≠ [] ∧ 0 ≤ i ∧ i ≤ 1000 ∧ xs.length ≤ 1000) := rfl
@[simp] theorem fMul_lst : fMul (.d (.lst xs)) (.d (.int i)) M = some (.d (.lst (List.replicate i.toNat xs).flatten), -(2 ^ 63) ≤ i ∧ i < 2 ^ 63 ∧ xs.length * i.toNat ≤ sizeLine) := rfl
@[simp] theorem fDiv_int : fDiv (.d (.int i)) (.d (.int j)) M = some (.d (.int (i / j)), 0 < j ∧ j < 1073741824) := rfl
@[simp] theorem fMod_int : fMod (.d (.int i)) (.d (.int j)) M = some (.d (.int (i % j)), 0 < j) := rfl
@[simp] theorem fNeg_int : fNeg (.d (.int i)) M = some (.d (.int (-i)), True) := rfl
@[simp] theorem fEq_int : fEq (.d (.int i)) (.d (.int j)) M = some (.d (.bl (decide (i = j))), True) := rfl
@[simp] theorem fEq_str : fEq (.d (.str x)) (.d (.str y)) M = some (.d (.bl (decide (x = y))), True) := rfl
@[simp] theorem fEq_bl : fEq (.d (.bl a)) (.d (.bl b)) M = some (.d (.bl (decide (a = b))), True) := rfl
@[simp] theorem fNe_int : fNe (.d (.int i)) (.d (.int j)) M = some (.d (.bl (!decide (i = j))), True) := rfl
@[simp] theorem fNe_str : fNe (.d (.str x)) (.d (.str y)) M = some (.d (.bl (!decide (x = y))), True) := rfl
@[simp] theorem fNe_bl : fNe (.d (.bl a)) (.d (.bl b)) M = some (.d (.bl (!decide (a = b))), True) := rfl
@[simp] theorem fLt_int : fLt (.d (.int i)) (.d (.int j)) M = some (.d (.bl (decide (i < j))), True) := rfl
@[simp] theorem fCmp_int {g : Int → Int → Bool} : fCmp g (.d (.int i)) (.d (.int j)) M = some (.d (.bl (g i j)), True) := rfl
@[simp] theorem fIx_tup : fIx (.d (.tup xs)) (.d (.int i)) M = (atI xs i).map fun d => (.d d, True) := rfl
@[simp] theorem fIx_lst : fIx (.d (.lst xs)) (.d (.int i)) M = (atI xs i).map fun d => (.d d, True) := rfl
@[simp] theorem fIx_fl : fIx (.d (.fl xs)) (.d (.int i)) M = (atI xs i).map fun d => (.d d, True) := rfl
@[simp] theorem fIx_str : fIx (.d (.str x)) (.d (.int i)) M = (atI x.cps.toList i).map fun c => (.d (.str ⟨#[c]⟩), x.length ≤ sizeLine) := rfl
@[simp] theorem fIx_p : fIx (.p n) (.d (.int i)) M = (lsC M[n]?).bind fun ds => (atI ds i).map fun d => (.d d, True) := by
  show (match seqW M (.p n) with | some (_, ds) => (atI ds i).map fun d => (W.d d, True) | none => none) = _
  rw [seqW_p]
  cases lsC M[n]? <;> rfl
@[simp] theorem fLen_str : fLen [.d (.str x)] M = some (.d (.int x.length), x.length ≤ sizeLine) := rfl
@[simp] theorem fLen_tup : fLen [.d (.tup xs)] M = some (.d (.int xs.length), True) := rfl
@[simp] theorem fLen_lst : fLen [.d (.lst xs)] M = some (.d (.int xs.length), True) := rfl
@[simp] theorem fLen_fl : fLen [.d (.fl xs)] M = some (.d (.int xs.length), True) := rfl
@[simp] theorem fLen_p : fLen [.p n] M = (lsC M[n]?).map fun ds => (.d (.int ds.length), True) := by
  show (match seqW M (.p n) with | some (_, ds) => some (W.d (.int ds.length), True) | none => none) = _
  rw [seqW_p]
  cases lsC M[n]? <;> rfl
@[simp] theorem fList_tup : fList [.d (.tup xs)] M = some (.d (.lst xs), True) := rfl
@[simp] theorem fList_lst : fList [.d (.lst xs)] M = some (.d (.lst xs), True) := rfl
@[simp] theorem fList_fl : fList [.d (.fl xs)] M = some (.d (.lst xs), True) := rfl
@[simp] theorem fList_p : fList [.p n] M = (lsC M[n]?).map fun ds => (.d (.lst ds), True) := by
  show (match seqW M (.p n) with | some (_, ds) => some (W.d (.lst ds), True) | none => none) = _
  rw [seqW_p]
  cases lsC M[n]? <;> rfl
@[simp] theorem fTuple_tup : fTuple [.d (.tup xs)] M = some (.d (.tup xs), True) := rfl
@[simp] theorem fTuple_lst : fTuple [.d (.lst xs)] M = some (.d (.tup xs), True) := rfl
@[simp] theorem fTuple_fl : fTuple [.d (.fl xs)] M = some (.d (.tup xs), True) := rfl
@[simp] theorem fTuple_p : fTuple [.p n] M = (lsC M[n]?).map fun ds => (.d (.tup ds), True) := by
  show (match seqW M (.p n) with | some (_, ds) => some (W.d (.tup ds), True) | none => none) = _
  rw [seqW_p]
  cases lsC M[n]? <;> rfl
@[simp] theorem fSum_lst : fSum [.d (.lst xs)] M = (intsD xs).map fun ns => (.d (.int ns.sum), True) := rfl
@[simp] theorem fSum_p : fSum [.p n] M = (lsC M[n]?).bind fun xs => (intsD xs).map fun ns => (.d (.int ns.sum), True) := by
  show (match seqW M (.p n) with | some (true, ds) => (intsD ds).map fun (ns : List Int) => (W.d (.int ns.sum), True) | _ => none) = _
  rw [seqW_p]
  cases lsC M[n]? <;> rfl
@[simp] theorem fAny_lst : fAny [.d (.lst xs)] M = (blsD xs).map fun ns => (.d (.bl (ns.any id)), True) := rfl
@[simp] theorem fAll_lst : fAll [.d (.lst xs)] M = (blsD xs).map fun ns => (.d (.bl (ns.all id)), True) := rfl
@[simp] theorem fMax_int : fMax [.d (.int i), .d (.int j)] M = some (.d (.int (if j > i then j else i)), True) := rfl
@[simp] theorem fMin_int : fMin [.d (.int i), .d (.int j)] M = some (.d (.int (if j < i then j else i)), True) := rfl
@[simp] theorem fAbs_int : fAbs [.d (.int i)] M = some (.d (.int (if i < 0 then -i else i)), True) := rfl
@[simp] theorem fInt_int : fInt [.d (.int i)] M = some (.d (.int i), True) := rfl
@[simp] theorem fInt_bl : fInt [.d (.bl a)] M = some (.d (.int (if a then 1 else 0)), True) := rfl
@[simp] theorem fBool_int : fBool [.d (.int i)] M = some (.d (.bl (i != 0)), True) := rfl
@[simp] theorem fStr_int : fStr [.d (.int i)] M = some (.d (.str (toString i)), i.natAbs.log2 < 1920) := rfl
variable {lo hi : Option Int}
@[simp] theorem fSl_tup : fSl (.d (.tup xs)) lo hi M = some (.d (.tup (cutD xs lo hi))) := rfl
@[simp] theorem fSl_lst : fSl (.d (.lst xs)) lo hi M = some (.d (.lst (cutD xs lo hi))) := rfl
@[simp] theorem fSl_fl : fSl (.d (.fl xs)) lo hi M = some (.d (.lst (cutD xs lo hi))) := rfl
@[simp] theorem fSl_p : fSl (.p n) lo hi M = (lsC M[n]?).map fun ds => .d (.lst (cutD ds lo hi)) := by
  show (if false = true then none else match seqW M (.p n) with | some (true, ds) => some (W.d (.lst (cutD ds lo hi))) | some (false, ds) => some (W.d (.tup (cutD ds lo hi))) | none => none) = _
  rw [if_neg Bool.false_ne_true]
  rw [seqW_p]
  cases lsC M[n]? <;> rfl
@[simp] theorem mApp_d {d : D} : mApp xs [.d d] = some (xs ++ [d], .non, xs.length < sizeLine) := rfl
@[simp] theorem mIns_d {d : D} : mIns xs [.d (.int i), .d d] = some (xs.take i.toNat ++ [d] ++ xs.drop i.toNat, .non, xs.length < sizeLine ∧ 0 ≤ i ∧ i < 2 ^ 63) := rfl
@[simp] theorem mExt_d : mExt xs [.d (.lst ys)] = some (xs ++ ys, .non, xs.length + ys.length ≤ sizeLine) := rfl
@[simp] theorem mRev_d : mRev xs [] = some (xs.reverse, .non, True) := rfl
@[simp] theorem fIAdd_int : fIAdd (.d (.int i)) (.d (.int j)) M = some (.d (.int (i + j)), True) := rfl
@[simp] theorem isL_lst : isL M (.d (.lst xs)) = True := by simp [isL]
@[simp] theorem isL_p : isL M (.p n) = ob (lsC M[n]?) fun _ => True := by simp [isL]
variable {c c' d d' e : Cell} {r : Mem}
@[simp] theorem mem_at0 : (M ++ c :: r)[M.length]? = some c := by simp
@[simp] theorem mem_at1 : (M ++ c :: d :: r)[M.length + 1]? = some d := by simp
@[simp] theorem mem_at2 : (M ++ c :: d :: e :: r)[M.length + 2]? = some e := by simp
@[simp] theorem mem_set0 : (M ++ c :: r).set M.length c' = M ++ c' :: r := by simp
@[simp] theorem mem_set1 : (M ++ c :: d :: r).set (M.length + 1) d' = M ++ c :: d' :: r := by simp
@[simp] theorem mem_set2 : (M ++ c :: d :: e :: r).set (M.length + 2) d' = M ++ c :: d :: d' :: r := by simp
@[simp] theorem atI_0 {d : D} : atI (d :: xs) 0 = some d := by simp [atI, ixN]
@[simp] theorem atI_1 {d e : D} : atI (d :: e :: xs) 1 = some e := by
  unfold atI ixN
  rw [if_pos (by decide), if_pos (by simp only [List.length_cons]; omega)]
  rfl
@[simp] theorem atI_2 {d e g : D} : atI (d :: e :: g :: xs) 2 = some g := by
  unfold atI ixN
  rw [if_pos (by decide), if_pos (by simp only [List.length_cons]; omega)]
  rfl
@[simp] theorem ixN_0 : ixN (n + 1) 0 = some 0 := by simp [ixN]
@[simp] theorem ixN_1 : ixN (n + 2) 1 = some 1 := by
  unfold ixN
  rw [if_pos (by decide), if_pos (by omega)]
  rfl
end
theorem pIsi_ty {K : PySem.W.Frag} {M : Mem} {k : KW} {d : D} {s n : String} {b : Bool} (ht : tyW M (.d d) = some (.type s)) (hc : clsW M (.d d) = none) (hb : kitB s n = some b) : pIsi K [.d d, .d (.at (.ty n))] M k = k (.d (.bl b)) M := by
  apply propext
  constructor
  · rintro ⟨a, c, u, b', e, e2, h, q⟩
    cases e
    cases e2
    rcases h with ⟨t, h1, h2⟩ | ⟨C, h1, _⟩
    · rw [ht] at h1
      cases h1
      rw [kit_ty hb] at h2
      cases h2
      exact q
    · rw [hc] at h1
      cases h1
  · exact fun q => ⟨_, _, _, b, rfl, rfl, .inl ⟨_, ht, kit_ty hb⟩, q⟩
theorem pIsT_ty {K : PySem.W.Frag} {M : Mem} {k : KW} {d : D} {s n1 n2 : String} {b1 b2 : Bool} (ht : tyW M (.d d) = some (.type s)) (hc : clsW M (.d d) = none) (h1 : kitB s n1 = some b1) (h2 : kitB s n2 = some b2) : pIsT K n1 n2 (.d d) M k = k (.d (.bl (b1 || b2))) M := by
  have ea : PySem.W.kitAny K (.type s) [.type n1, .type n2] = some (b1 || b2) := by
    unfold PySem.W.kitAny
    rw [kit_ty h1]
    cases b1 with
    | true => rfl
    | false =>
      unfold PySem.W.kitAny
      rw [kit_ty h2]
      cases b2 <;> rfl
  apply propext
  constructor
  · rintro ⟨b', h, q⟩
    rcases h with ⟨t, g1, g2⟩ | ⟨C, g1, _⟩
    · rw [ht] at g1
      cases g1
      rw [ea] at g2
      cases g2
      exact q
    · rw [hc] at g1
      cases g1
  · exact fun q => ⟨_, .inl ⟨_, ht, ea⟩, q⟩
@[simp] theorem isi_non_int {K : PySem.W.Frag} {M : Mem} {k : KW} : pIsi K [.d (D.non), .d (.at (.ty "int"))] M k = k (.d (.bl false)) M := pIsi_ty (s := "NoneType") rfl rfl (by decide +kernel)
@[simp] theorem isi_non_bool {K : PySem.W.Frag} {M : Mem} {k : KW} : pIsi K [.d (D.non), .d (.at (.ty "bool"))] M k = k (.d (.bl false)) M := pIsi_ty (s := "NoneType") rfl rfl (by decide +kernel)
@[simp] theorem isi_non_str {K : PySem.W.Frag} {M : Mem} {k : KW} : pIsi K [.d (D.non), .d (.at (.ty "str"))] M k = k (.d (.bl false)) M := pIsi_ty (s := "NoneType") rfl rfl (by decide +kernel)
@[simp] theorem isi_non_list {K : PySem.W.Frag} {M : Mem} {k : KW} : pIsi K [.d (D.non), .d (.at (.ty "list"))] M k = k (.d (.bl false)) M := pIsi_ty (s := "NoneType") rfl rfl (by decide +kernel)
@[simp] theorem isi_non_tuple {K : PySem.W.Frag} {M : Mem} {k : KW} : pIsi K [.d (D.non), .d (.at (.ty "tuple"))] M k = k (.d (.bl false)) M := pIsi_ty (s := "NoneType") rfl rfl (by decide +kernel)
@[simp] theorem ist_non_list {K : PySem.W.Frag} {M : Mem} {k : KW} : pIsT K "list" "tuple" (.d (D.non)) M k = k (.d (.bl false)) M := pIsT_ty (s := "NoneType") (b1 := false) (b2 := false) rfl rfl (by decide +kernel) (by decide +kernel)
@[simp] theorem ist_non_tuple {K : PySem.W.Frag} {M : Mem} {k : KW} : pIsT K "tuple" "list" (.d (D.non)) M k = k (.d (.bl false)) M := pIsT_ty (s := "NoneType") (b1 := false) (b2 := false) rfl rfl (by decide +kernel) (by decide +kernel)
@[simp] theorem isi_bl_int {K : PySem.W.Frag} {M : Mem} {k : KW} {a : Bool} : pIsi K [.d (D.bl a), .d (.at (.ty "int"))] M k = k (.d (.bl true)) M := pIsi_ty (s := "bool") rfl rfl (by decide +kernel)
@[simp] theorem isi_bl_bool {K : PySem.W.Frag} {M : Mem} {k : KW} {a : Bool} : pIsi K [.d (D.bl a), .d (.at (.ty "bool"))] M k = k (.d (.bl true)) M := pIsi_ty (s := "bool") rfl rfl (by decide +kernel)
@[simp] theorem isi_bl_str {K : PySem.W.Frag} {M : Mem} {k : KW} {a : Bool} : pIsi K [.d (D.bl a), .d (.at (.ty "str"))] M k = k (.d (.bl false)) M := pIsi_ty (s := "bool") rfl rfl (by decide +kernel)
@[simp] theorem isi_bl_list {K : PySem.W.Frag} {M : Mem} {k : KW} {a : Bool} : pIsi K [.d (D.bl a), .d (.at (.ty "list"))] M k = k (.d (.bl false)) M := pIsi_ty (s := "bool") rfl rfl (by decide +kernel)
@[simp] theorem isi_bl_tuple {K : PySem.W.Frag} {M : Mem} {k : KW} {a : Bool} : pIsi K [.d (D.bl a), .d (.at (.ty "tuple"))] M k = k (.d (.bl false)) M := pIsi_ty (s := "bool") rfl rfl (by decide +kernel)
@[simp] theorem ist_bl_list {K : PySem.W.Frag} {M : Mem} {k : KW} {a : Bool} : pIsT K "list" "tuple" (.d (D.bl a)) M k = k (.d (.bl false)) M := pIsT_ty (s := "bool") (b1 := false) (b2 := false) rfl rfl (by decide +kernel) (by decide +kernel)
@[simp] theorem ist_bl_tuple {K : PySem.W.Frag} {M : Mem} {k : KW} {a : Bool} : pIsT K "tuple" "list" (.d (D.bl a)) M k = k (.d (.bl false)) M := pIsT_ty (s := "bool") (b1 := false) (b2 := false) rfl rfl (by decide +kernel) (by decide +kernel)
@[simp] theorem isi_int_int {K : PySem.W.Frag} {M : Mem} {k : KW} {i : Int} : pIsi K [.d (D.int i), .d (.at (.ty "int"))] M k = k (.d (.bl true)) M := pIsi_ty (s := "int") rfl rfl (by decide +kernel)
@[simp] theorem isi_int_bool {K : PySem.W.Frag} {M : Mem} {k : KW} {i : Int} : pIsi K [.d (D.int i), .d (.at (.ty "bool"))] M k = k (.d (.bl false)) M := pIsi_ty (s := "int") rfl rfl (by decide +kernel)
@[simp] theorem isi_int_str {K : PySem.W.Frag} {M : Mem} {k : KW} {i : Int} : pIsi K [.d (D.int i), .d (.at (.ty "str"))] M k = k (.d (.bl false)) M := pIsi_ty (s := "int") rfl rfl (by decide +kernel)
@[simp] theorem isi_int_list {K : PySem.W.Frag} {M : Mem} {k : KW} {i : Int} : pIsi K [.d (D.int i), .d (.at (.ty "list"))] M k = k (.d (.bl false)) M := pIsi_ty (s := "int") rfl rfl (by decide +kernel)
@[simp] theorem isi_int_tuple {K : PySem.W.Frag} {M : Mem} {k : KW} {i : Int} : pIsi K [.d (D.int i), .d (.at (.ty "tuple"))] M k = k (.d (.bl false)) M := pIsi_ty (s := "int") rfl rfl (by decide +kernel)
@[simp] theorem ist_int_list {K : PySem.W.Frag} {M : Mem} {k : KW} {i : Int} : pIsT K "list" "tuple" (.d (D.int i)) M k = k (.d (.bl false)) M := pIsT_ty (s := "int") (b1 := false) (b2 := false) rfl rfl (by decide +kernel) (by decide +kernel)
@[simp] theorem ist_int_tuple {K : PySem.W.Frag} {M : Mem} {k : KW} {i : Int} : pIsT K "tuple" "list" (.d (D.int i)) M k = k (.d (.bl false)) M := pIsT_ty (s := "int") (b1 := false) (b2 := false) rfl rfl (by decide +kernel) (by decide +kernel)
@[simp] theorem isi_str_int {K : PySem.W.Frag} {M : Mem} {k : KW} {x : Str} : pIsi K [.d (D.str x), .d (.at (.ty "int"))] M k = k (.d (.bl false)) M := pIsi_ty (s := "str") rfl rfl (by decide +kernel)
@[simp] theorem isi_str_bool {K : PySem.W.Frag} {M : Mem} {k : KW} {x : Str} : pIsi K [.d (D.str x), .d (.at (.ty "bool"))] M k = k (.d (.bl false)) M := pIsi_ty (s := "str") rfl rfl (by decide +kernel)
@[simp] theorem isi_str_str {K : PySem.W.Frag} {M : Mem} {k : KW} {x : Str} : pIsi K [.d (D.str x), .d (.at (.ty "str"))] M k = k (.d (.bl true)) M := pIsi_ty (s := "str") rfl rfl (by decide +kernel)
@[simp] theorem isi_str_list {K : PySem.W.Frag} {M : Mem} {k : KW} {x : Str} : pIsi K [.d (D.str x), .d (.at (.ty "list"))] M k = k (.d (.bl false)) M := pIsi_ty (s := "str") rfl rfl (by decide +kernel)
@[simp] theorem isi_str_tuple {K : PySem.W.Frag} {M : Mem} {k : KW} {x : Str} : pIsi K [.d (D.str x), .d (.at (.ty "tuple"))] M k = k (.d (.bl false)) M := pIsi_ty (s := "str") rfl rfl (by decide +kernel)
@[simp] theorem ist_str_list {K : PySem.W.Frag} {M : Mem} {k : KW} {x : Str} : pIsT K "list" "tuple" (.d (D.str x)) M k = k (.d (.bl false)) M := pIsT_ty (s := "str") (b1 := false) (b2 := false) rfl rfl (by decide +kernel) (by decide +kernel)
@[simp] theorem ist_str_tuple {K : PySem.W.Frag} {M : Mem} {k : KW} {x : Str} : pIsT K "tuple" "list" (.d (D.str x)) M k = k (.d (.bl false)) M := pIsT_ty (s := "str") (b1 := false) (b2 := false) rfl rfl (by decide +kernel) (by decide +kernel)
@[simp] theorem isi_lst_int {K : PySem.W.Frag} {M : Mem} {k : KW} {xs : List D} : pIsi K [.d (D.lst xs), .d (.at (.ty "int"))] M k = k (.d (.bl false)) M := pIsi_ty (s := "list") rfl rfl (by decide +kernel)
@[simp] theorem isi_lst_bool {K : PySem.W.Frag} {M : Mem} {k : KW} {xs : List D} : pIsi K [.d (D.lst xs), .d (.at (.ty "bool"))] M k = k (.d (.bl false)) M := pIsi_ty (s := "list") rfl rfl (by decide +kernel)
@[simp] theorem isi_lst_str {K : PySem.W.Frag} {M : Mem} {k : KW} {xs : List D} : pIsi K [.d (D.lst xs), .d (.at (.ty "str"))] M k = k (.d (.bl false)) M := pIsi_ty (s := "list") rfl rfl (by decide +kernel)
@[simp] theorem isi_lst_list {K : PySem.W.Frag} {M : Mem} {k : KW} {xs : List D} : pIsi K [.d (D.lst xs), .d (.at (.ty "list"))] M k = k (.d (.bl true)) M := pIsi_ty (s := "list") rfl rfl (by decide +kernel)
@[simp] theorem isi_lst_tuple {K : PySem.W.Frag} {M : Mem} {k : KW} {xs : List D} : pIsi K [.d (D.lst xs), .d (.at (.ty "tuple"))] M k = k (.d (.bl false)) M := pIsi_ty (s := "list") rfl rfl (by decide +kernel)
@[simp] theorem ist_lst_list {K : PySem.W.Frag} {M : Mem} {k : KW} {xs : List D} : pIsT K "list" "tuple" (.d (D.lst xs)) M k = k (.d (.bl true)) M := pIsT_ty (s := "list") (b1 := true) (b2 := false) rfl rfl (by decide +kernel) (by decide +kernel)
@[simp] theorem ist_lst_tuple {K : PySem.W.Frag} {M : Mem} {k : KW} {xs : List D} : pIsT K "tuple" "list" (.d (D.lst xs)) M k = k (.d (.bl true)) M := pIsT_ty (s := "list") (b1 := false) (b2 := true) rfl rfl (by decide +kernel) (by decide +kernel)
@[simp] theorem isi_tup_int {K : PySem.W.Frag} {M : Mem} {k : KW} {xs : List D} : pIsi K [.d (D.tup xs), .d (.at (.ty "int"))] M k = k (.d (.bl false)) M := pIsi_ty (s := "tuple") rfl rfl (by decide +kernel)
@[simp] theorem isi_tup_bool {K : PySem.W.Frag} {M : Mem} {k : KW} {xs : List D} : pIsi K [.d (D.tup xs), .d (.at (.ty "bool"))] M k = k (.d (.bl false)) M := pIsi_ty (s := "tuple") rfl rfl (by decide +kernel)
@[simp] theorem isi_tup_str {K : PySem.W.Frag} {M : Mem} {k : KW} {xs : List D} : pIsi K [.d (D.tup xs), .d (.at (.ty "str"))] M k = k (.d (.bl false)) M := pIsi_ty (s := "tuple") rfl rfl (by decide +kernel)
@[simp] theorem isi_tup_list {K : PySem.W.Frag} {M : Mem} {k : KW} {xs : List D} : pIsi K [.d (D.tup xs), .d (.at (.ty "list"))] M k = k (.d (.bl false)) M := pIsi_ty (s := "tuple") rfl rfl (by decide +kernel)
@[simp] theorem isi_tup_tuple {K : PySem.W.Frag} {M : Mem} {k : KW} {xs : List D} : pIsi K [.d (D.tup xs), .d (.at (.ty "tuple"))] M k = k (.d (.bl true)) M := pIsi_ty (s := "tuple") rfl rfl (by decide +kernel)
@[simp] theorem ist_tup_list {K : PySem.W.Frag} {M : Mem} {k : KW} {xs : List D} : pIsT K "list" "tuple" (.d (D.tup xs)) M k = k (.d (.bl true)) M := pIsT_ty (s := "tuple") (b1 := false) (b2 := true) rfl rfl (by decide +kernel) (by decide +kernel)
@[simp] theorem ist_tup_tuple {K : PySem.W.Frag} {M : Mem} {k : KW} {xs : List D} : pIsT K "tuple" "list" (.d (D.tup xs)) M k = k (.d (.bl true)) M := pIsT_ty (s := "tuple") (b1 := true) (b2 := false) rfl rfl (by decide +kernel) (by decide +kernel)
@[simp] theorem isi_ft_int {K : PySem.W.Frag} {M : Mem} {k : KW} {xs : List D} : pIsi K [.d (D.ft xs), .d (.at (.ty "int"))] M k = k (.d (.bl false)) M := pIsi_ty (s := "tuple") rfl rfl (by decide +kernel)
@[simp] theorem isi_nt_int {K : PySem.W.Frag} {M : Mem} {k : KW} {xs : List D} : pIsi K [.d (D.nt xs), .d (.at (.ty "int"))] M k = k (.d (.bl false)) M := pIsi_ty (s := "tuple") rfl rfl (by decide +kernel)
@[simp] theorem isi_ft_bool {K : PySem.W.Frag} {M : Mem} {k : KW} {xs : List D} : pIsi K [.d (D.ft xs), .d (.at (.ty "bool"))] M k = k (.d (.bl false)) M := pIsi_ty (s := "tuple") rfl rfl (by decide +kernel)
@[simp] theorem isi_nt_bool {K : PySem.W.Frag} {M : Mem} {k : KW} {xs : List D} : pIsi K [.d (D.nt xs), .d (.at (.ty "bool"))] M k = k (.d (.bl false)) M := pIsi_ty (s := "tuple") rfl rfl (by decide +kernel)
@[simp] theorem isi_ft_str {K : PySem.W.Frag} {M : Mem} {k : KW} {xs : List D} : pIsi K [.d (D.ft xs), .d (.at (.ty "str"))] M k = k (.d (.bl false)) M := pIsi_ty (s := "tuple") rfl rfl (by decide +kernel)
@[simp] theorem isi_nt_str {K : PySem.W.Frag} {M : Mem} {k : KW} {xs : List D} : pIsi K [.d (D.nt xs), .d (.at (.ty "str"))] M k = k (.d (.bl false)) M := pIsi_ty (s := "tuple") rfl rfl (by decide +kernel)
@[simp] theorem isi_ft_list {K : PySem.W.Frag} {M : Mem} {k : KW} {xs : List D} : pIsi K [.d (D.ft xs), .d (.at (.ty "list"))] M k = k (.d (.bl false)) M := pIsi_ty (s := "tuple") rfl rfl (by decide +kernel)
@[simp] theorem isi_nt_list {K : PySem.W.Frag} {M : Mem} {k : KW} {xs : List D} : pIsi K [.d (D.nt xs), .d (.at (.ty "list"))] M k = k (.d (.bl false)) M := pIsi_ty (s := "tuple") rfl rfl (by decide +kernel)
@[simp] theorem isi_ft_tuple {K : PySem.W.Frag} {M : Mem} {k : KW} {xs : List D} : pIsi K [.d (D.ft xs), .d (.at (.ty "tuple"))] M k = k (.d (.bl true)) M := pIsi_ty (s := "tuple") rfl rfl (by decide +kernel)
@[simp] theorem isi_nt_tuple {K : PySem.W.Frag} {M : Mem} {k : KW} {xs : List D} : pIsi K [.d (D.nt xs), .d (.at (.ty "tuple"))] M k = k (.d (.bl true)) M := pIsi_ty (s := "tuple") rfl rfl (by decide +kernel)
@[simp] theorem ist_ft_list {K : PySem.W.Frag} {M : Mem} {k : KW} {xs : List D} : pIsT K "list" "tuple" (.d (D.ft xs)) M k = k (.d (.bl true)) M := pIsT_ty (s := "tuple") (b1 := false) (b2 := true) rfl rfl (by decide +kernel) (by decide +kernel)
@[simp] theorem ist_nt_list {K : PySem.W.Frag} {M : Mem} {k : KW} {xs : List D} : pIsT K "list" "tuple" (.d (D.nt xs)) M k = k (.d (.bl true)) M := pIsT_ty (s := "tuple") (b1 := false) (b2 := true) rfl rfl (by decide +kernel) (by decide +kernel)
@[simp] theorem ist_ft_tuple {K : PySem.W.Frag} {M : Mem} {k : KW} {xs : List D} : pIsT K "tuple" "list" (.d (D.ft xs)) M k = k (.d (.bl true)) M := pIsT_ty (s := "tuple") (b1 := true) (b2 := false) rfl rfl (by decide +kernel) (by decide +kernel)
@[simp] theorem ist_nt_tuple {K : PySem.W.Frag} {M : Mem} {k : KW} {xs : List D} : pIsT K "tuple" "list" (.d (D.nt xs)) M k = k (.d (.bl true)) M := pIsT_ty (s := "tuple") (b1 := true) (b2 := false) rfl rfl (by decide +kernel) (by decide +kernel)
theorem fin0 {M0 : Mem} {k : KW} {a : W} {M' : Mem} (h : k a M') : FinK M0 k a M' := .inl h
theorem fin1 {M0 : Mem} {k : KW} {x : D} {M2 : Mem} (h : k (.d x) M0) : FinK M0 k (.d x) (M0 ++ M2) := .inr ⟨M0, M2, _, rfl, Nat.le_refl _, id, .d x, h⟩
theorem finL {M0 : Mem} {k : KW} {ds : List D} (h : k (.d (.lst ds)) M0) : FinK M0 k (.p M0.length) (M0 ++ [.lst ds]) := .inr ⟨M0, _, _, rfl, Nat.le_refl _, id, .lst (j := 0) rfl, h⟩
end PU

set_option maxRecDepth 100000
set_option maxHeartbeats 8000000
/-! loops by invariants -/
namespace PU
open PySem PySem.Spec PyProof.Rows L2 WU
section
variable {g : WGx} {t : WBx} {w : WEx} {ρ : En} {cd : Mem → Prop} {k : List D → Mem → Prop}
/-- a comprehension: what holds of the turn, of what is made so far, of the memory -/
theorem lcL_inv (I : Nat → List D → Mem → Prop) {ds : List D} {M : Mem} (hl : ds.length ≤ sizeLine) (h0 : I 0 [] M) (hcd : ∀ i acc M, I i acc M → cd M)
    (hs : ∀ i d acc M, ds[i]? = some d → I i acc M → ∀ (Q : D → Mem → Prop) (R : Mem → Prop), (∀ z M3, I (i + 1) (acc ++ [z]) M3 → Q z M3) → (∀ M3, I (i + 1) acc M3 → R M3) →
      g (.d d) ρ M fun ρ1 M1 => t ρ1 M1 (fun b M2 => if b = true then w ρ1 M2 (fun y M3 => ∃ z, y = .d z ∧ Q z M3) fun _ _ _ => False else R M2) fun _ _ _ => False)
    (fin : ∀ acc M, I ds.length acc M → k acc M) : lcL g t w ρ cd k ds [] M := by
  have key : ∀ (n : Nat) (acc : List D) (M : Mem), n ≤ ds.length → acc.length ≤ ds.length - n → I (ds.length - n) acc M → lcL g t w ρ cd k (ds.drop (ds.length - n)) acc M := by
    intro n
    induction n with
    | zero =>
      intro acc M _ _ h
      rw [Nat.sub_zero, List.drop_length]
      rw [Nat.sub_zero] at h
      exact ⟨hcd _ _ _ h, fin acc M h⟩
    | succ n ih =>
      intro acc M hn la h
      have lt : ds.length - (n + 1) < ds.length := by omega
      rw [List.drop_eq_getElem_cons lt]
      have e1 : ds.length - (n + 1) + 1 = ds.length - n := by omega
      refine ⟨hcd _ _ _ h, hs _ _ acc M (List.getElem?_eq_getElem lt) h (fun z M3 => acc.length < sizeLine ∧ lcL g t w ρ cd k (ds.drop (ds.length - (n + 1) + 1)) (acc ++ [z]) M3) (fun M3 => lcL g t w ρ cd k (ds.drop (ds.length - (n + 1) + 1)) acc M3) (fun z M3 q => ⟨by omega, ?_⟩) (fun M3 q => ?_)⟩
      · rw [e1] at q ⊢
        exact ih _ _ (by omega) (by rw [List.length_append, List.length_singleton]; omega) q
      · rw [e1] at q ⊢
        exact ih _ _ (by omega) (by omega) q
  have := key ds.length [] M (Nat.le_refl _) (Nat.zero_le _) (by rw [Nat.sub_self]; exact h0)
  rw [Nat.sub_self, List.drop_zero] at this
  exact this
/-- each item gives one, the memory stays -/
theorem lcL_map (f : D → D) {ds : List D} {M : Mem} (hl : ds.length ≤ sizeLine) (hcd : cd M)
    (hs : ∀ d ∈ ds, ∀ Q : D → Mem → Prop, Q (f d) M → g (.d d) ρ M fun ρ1 M1 => w ρ1 M1 (fun y M3 => ∃ z, y = .d z ∧ Q z M3) fun _ _ _ => False)
    (fin : k (ds.map f) M) : lcL g wYes w ρ cd k ds [] M :=
  lcL_inv (fun i acc M' => M' = M ∧ acc = (ds.take i).map f) hl ⟨rfl, rfl⟩ (fun i acc M' h => by rw [h.1]; exact hcd) (fun i d acc M' hd h Q R hQ _ => by
    obtain ⟨rfl, rfl⟩ := h
    simp only [wYes, if_pos]
    exact hs d (List.mem_of_getElem? hd) Q (hQ _ _ ⟨rfl, by rw [List.take_succ, hd, List.map_append]; rfl⟩)) fun acc M' h => by
      obtain ⟨rfl, rfl⟩ := h
      rw [List.take_length]
      exact fin
/-- .. by place -/
theorem lcL_mapIx {α : Type} (zs : List α) (src : α → D) (f : α → D) {M : Mem} (hl : zs.length ≤ sizeLine) (hcd : cd M)
    (hs : ∀ z ∈ zs, ∀ Q : D → Mem → Prop, Q (f z) M → g (.d (src z)) ρ M fun ρ1 M1 => w ρ1 M1 (fun y M3 => ∃ z, y = .d z ∧ Q z M3) fun _ _ _ => False)
    (fin : k (zs.map f) M) : lcL g wYes w ρ cd k (zs.map src) [] M :=
  lcL_inv (fun i acc M' => M' = M ∧ acc = (zs.take i).map f) (by rw [List.length_map]; exact hl) ⟨rfl, rfl⟩ (fun i acc M' h => by rw [h.1]; exact hcd) (fun i d acc M' hd h Q R hQ _ => by
    obtain ⟨rfl, rfl⟩ := h
    rw [List.getElem?_map] at hd
    cases e : zs[i]? with
    | none =>
      rw [e] at hd
      cases hd
    | some z =>
      rw [e] at hd
      cases hd
      simp only [wYes, if_pos]
      exact hs z (List.mem_of_getElem? e) Q (hQ _ _ ⟨rfl, by rw [List.take_succ, e, List.map_append]; rfl⟩)) fun acc M' h => by
      obtain ⟨rfl, rfl⟩ := h
      rw [List.length_map, List.take_length]
      exact fin
end
/-- what a turn of a for may end in -/
structure ForK (k k' : FK) (J : En → Mem → Prop) : Prop where
  nx : ∀ ρ M, J ρ M → k' (.nx ρ M)
  ct : ∀ ρ M, J ρ M → k' (.ct ρ M)
  bk : ∀ ρ M, k (.nx ρ M) → k' (.bk ρ M)
  rt : ∀ w M, k (.rt w M) → k' (.rt w M)
section
variable {g : WGx} {b : WSx} {cd : Mem → Prop} {k : FK} {e : En → XW}
theorem forL_inv (I : Nat → En → Mem → Prop) {ds : List D} {ρ : En} {M : Mem} (h0 : I 0 ρ M) (hcd : ∀ i ρ M, I i ρ M → cd M)
    (hs : ∀ i d ρ M, ds[i]? = some d → I i ρ M → ∀ k', ForK k k' (I (i + 1)) → g (.d d) ρ M fun ρ1 M1 => b ρ1 M1 k' e)
    (fin : ∀ ρ M, I ds.length ρ M → k (.nx ρ M)) : forL g b cd k e ds ρ M := by
  have key : ∀ (n : Nat) (ρ : En) (M : Mem), n ≤ ds.length → I (ds.length - n) ρ M → forL g b cd k e (ds.drop (ds.length - n)) ρ M := by
    intro n
    induction n with
    | zero =>
      intro ρ M _ h
      rw [Nat.sub_zero, List.drop_length]
      rw [Nat.sub_zero] at h
      exact ⟨hcd _ _ _ h, fin ρ M h⟩
    | succ n ih =>
      intro ρ M hn h
      have lt : ds.length - (n + 1) < ds.length := by omega
      rw [List.drop_eq_getElem_cons lt]
      have e1 : ds.length - (n + 1) + 1 = ds.length - n := by omega
      refine ⟨hcd _ _ _ h, hs _ _ ρ M (List.getElem?_eq_getElem lt) h _ ⟨fun ρ2 M2 q => ?_, fun ρ2 M2 q => ?_, fun _ _ q => q, fun _ _ q => q⟩⟩
      · show forL g b cd k e (ds.drop (ds.length - (n + 1) + 1)) ρ2 M2
        rw [e1] at q ⊢
        exact ih _ _ (by omega) q
      · show forL g b cd k e (ds.drop (ds.length - (n + 1) + 1)) ρ2 M2
        rw [e1] at q ⊢
        exact ih _ _ (by omega) q
  have := key ds.length ρ M (Nat.le_refl _) (by rw [Nat.sub_self]; exact h0)
  rw [Nat.sub_self, List.drop_zero] at this
  exact this
/-- a while by a measure -/
theorem whL_inv {c : WBx} (I : En → Mem → Prop) (μ : En → Mem → Nat) {ρ : En} {M : Mem} (h0 : I ρ M)
    (hs : ∀ ρ M, I ρ M → ∀ (kt : Mem → Prop), (∀ M1, (∀ k', ForK k k' (fun ρ2 M2 => I ρ2 M2 ∧ μ ρ2 M2 < μ ρ M) → b ρ M1 k' e) → kt M1) → c ρ M (fun z M1 => if z = true then kt M1 else k (.nx ρ M1)) (e ρ)) : ∃ n, whL c b k e n ρ M := by
  have key : ∀ (m : Nat) (ρ : En) (M : Mem), μ ρ M < m → I ρ M → whL c b k e m ρ M := by
    intro m
    induction m with
    | zero => exact fun _ _ h => absurd h (Nat.not_lt_zero _)
    | succ m ih =>
      intro ρ M hm h
      exact hs ρ M h _ fun M1 hb => hb _ ⟨fun ρ2 M2 q => ih _ _ (by omega) q.1, fun ρ2 M2 q => ih _ _ (by omega) q.1, fun _ _ q => q, fun _ _ q => q⟩
  exact ⟨_, key _ _ _ (Nat.lt_succ_self _) h0⟩
end
@[simp] theorem blsD_mapf {α : Type} (f : α → Bool) (l : List α) : blsD (l.map fun z => D.bl (f z)) = some (l.map f) := by
  rw [← blsD_map, List.map_map]
  rfl
@[simp] theorem intsD_mapf {α : Type} (f : α → Int) (l : List α) : intsD (l.map fun z => D.int (f z)) = some (l.map f) := by
  rw [← intsD_map, List.map_map]
  rfl
@[simp] theorem strsD_mapf {α : Type} (f : α → Str) (l : List α) : strsD (l.map fun z => D.str (f z)) = some (l.map f) := by
  rw [← strsD_map, List.map_map]
  rfl
/-! ### kinds of values -/
/-- a sequence of either kind -/
def Sq (d : D) (xs : List D) : Prop := d = .tup xs ∨ d = .lst xs
theorem Sq.at {d : D} {xs : List D} (h : Sq d xs) (M : Mem) : ∃ b, seqW M (.d d) = some (b, xs) := by
  rcases h with rfl | rfl
  · exact ⟨false, rfl⟩
  · exact ⟨true, rfl⟩
theorem Sq.tup {xs : List D} : Sq (.tup xs) xs := .inl rfl
theorem Sq.lst {xs : List D} : Sq (.lst xs) xs := .inr rfl
abbrev dI (i : Int) : D := .int i
abbrev tI (r : List Int) : D := .tup (r.map D.int)
abbrev tM (m : List (List Int)) : D := .tup (m.map tI)
/-- the law's hand: the numbers drawn, the place of the next -/
def HM (M : Mem) (R : Mem) : Prop := ∃ (ds : List Int) (i : Int), 0 ≤ i ∧ (∀ n ∈ ds, 0 ≤ n) ∧ M = .lst [.lst (ds.map D.int), .int i] :: R
end PU
namespace PU
open PySem PySem.Spec PyProof.Rows L2 WU
/-! ### contracts -/
/-- args z, where pre z, gives res z; the memory stays -/
def cF {α : Type} (args : α → List W) (pre : α → Prop) (res : α → D) : Con := fun ws M k _ => ∃ z, ws = args z ∧ pre z ∧ k (.d (res z)) M
instance {α : Type} {args : α → List W} {pre : α → Prop} {res : α → D} : UC (cF args pre res) := ⟨fun hk _ ⟨z, h1, h2, q⟩ => ⟨z, h1, h2, hk _ _ q⟩⟩
/-- with the memory: where pre z M, any answer that res allows -/
def cM {α : Type} (args : α → List W) (pre : α → Mem → Prop) (res : α → Mem → W → Mem → Prop) : Con := fun ws M k _ => ∃ z, ws = args z ∧ pre z M ∧ ∀ a M', res z M a M' → k a M'
instance {α : Type} {args : α → List W} {pre : α → Mem → Prop} {res : α → Mem → W → Mem → Prop} : UC (cM args pre res) := ⟨fun hk _ ⟨z, h1, h2, q⟩ => ⟨z, h1, h2, fun a M' r => hk _ _ (q a M' r)⟩⟩
/-- .. or an error: its class, its fields -/
def cE {α : Type} (args : α → List W) (pre : α → Prop) (res : α → D ⊕ (Addr × List (Str × D))) : Con := fun ws M k e => ∃ z, ws = args z ∧ pre z ∧ (∀ d, res z = .inl d → k (.d d) M) ∧ ∀ c f, res z = .inr (c, f) → e c f M
instance {α : Type} {args : α → List W} {pre : α → Prop} {res : α → D ⊕ (Addr × List (Str × D))} : UC (cE args pre res) := ⟨fun hk he ⟨z, h1, h2, q, r⟩ => ⟨z, h1, h2, fun d e => hk _ _ (q d e), fun c f e => he _ _ _ (r c f e)⟩⟩
end PU

set_option maxRecDepth 100000
set_option maxHeartbeats 8000000
/-! defs that ask for repr: what runs around guards nothing -/
namespace PU
open PySem PySem.Spec PyProof.Rows L2 WU
/-- as FnOk, where nothing is being shown -/
structure FnOkG (P : Program) (w : World) (K : PySem.W.Frag) (mg : Str → Option Value) (base : Heap) (k : Nat) (f : Addr) (fd : FuncData) (ps : List Str) (sp : Sp) : Prop where
  len : ∀ vs H Q E, sp vs H Q E → vs.length = ps.length
  run : ∀ (B : Around) (fr : List Env) (st : Shared) (G : Hp) (ar : Args) (vals : List Value) (xs : List V) (R : VK) (Z : XK), Room k B → B.guards = some [] → Env0 P w K mg base B fr st G → BindsTo st fd ar (ps.zip vals) → Vals xs vals → sp xs G R Z →
    codeAny (model P w) B (.call (.ref f) ar) (CR (L2.CX P w) fr P w G st R Z) st
section
variable {P : Program} {w : World} {K : PySem.W.Frag} {mg : Str → Option Value} {base : Heap} {k : Nat} {f : Addr} {fd : FuncData} {ps : List Str} {sp : Sp}
theorem toG (F : FnOk P w K mg base (L2.CX P w) k f fd ps sp) : FnOkG P w K mg base k f fd ps sp := ⟨F.len, fun B fr st G ar vals xs R Z room _ env bd rel h => F.run B fr st G ar vals xs R Z room env bd rel h⟩
theorem FnOkG.mono {j : Nat} (F : FnOkG P w K mg base j f fd ps sp) (h : j ≤ k) : FnOkG P w K mg base k f fd ps sp := ⟨F.len, fun B fr st G ar vals xs R Z room g env bd rel q => F.run B fr st G ar vals xs R Z (room.mono h) g env bd rel q⟩
/-- what a body's end gives its caller -/
theorem left_ok {N : List Str} {qual : Str} {sc : Scope} {cd : Value} {B : Around} {fr : List Env} {st st' : Shared} {G H' : Hp} {Z : XK} {R : VK} {σ' : L2.St} {v : V} {u : Value} (J : L2.Inv (cxOf (L2.CX P w) P w K mg base N qual sc f cd B fr st G Z) [] σ' H' st') (rv : RelV v u) (q : R v H') : CE fr P w G st R u st' :=
  ⟨v, H', J.os, J.bare, J.base, J.hok, rv, q⟩
theorem fun_okG0 {dvs : List V} {kws : List (Str × V)} {x qual : Str} {sd : Stmt} {N : List Str} (F : FunD K x qual (defArgs sd) (defBody sd) (defScope sd) dvs kws f fd) (Sc : FnScope N ps (defScope sd)) (hlen : ∀ vs H Q E, sp vs H Q E → vs.length = ps.length)
    (hb : ∀ (cdv : Value) (B : Around) (fr : List Env) (st : Shared) (G : Hp) (xs : List V) (R : VK) (Z : XK), Room k (B.deeper (envOfC qual (defScope sd) st.heap.objs.size f cdv)) → B.guards = some [] → sp xs G R Z →
      ∃ t, PSs (cxOf (L2.CX P w) P w K mg base N qual (defScope sd) f cdv B fr st G Z) (defBody sd) t ∧ t { nx := fun _ H' => R .non H', rt := R } (L2.start N xs) G) : FnOkG P w K mg base (k + 1) f fd ps sp := by
  obtain ⟨oc, od, dV, kV, doc, pm, an, cdv, ct, osl, rfl, at_, code, _, _⟩ := F.ex
  refine ⟨hlen, ?_⟩
  intro B fr st G ar vals xs R Z room grd env bd rel h
  have ln := hlen xs G R Z h
  have inK : K.In st.heap := env.mod.kin.keeps fun b o eo => (env.bs b o eo).1
  have nolim : st.heap.NoLimit := env.mod.nolimit.keeps fun b o eo => (env.bs b o eo).1
  have pk : ∀ y ∈ ps.zip vals, (defScope sd).names.lookup y.1 = some .local ∨ ((defScope sd).names.lookup y.1 = some .cell ∧ ((cellsFrom (st.heap.objs.size + 1) (defScope sd).names []).lookup y.1).isSome = true) := by
    rintro ⟨n, v⟩ hy
    exact (Sc.par n (List.of_mem_zip hy).1).imp id fun q => ⟨q, PySem.W.cellsFrom_some _ _ _ (.inl q)⟩
  refine codeAny_call_function room.depth (inK _ _ at_) rfl Sc.co Sc.gen rfl (PySem.W.codeRec_of inK code) (bd _ _ _ _ ?_)
  refine wpAny_newFunctionEnv_cells Sc.kind pk ?_
  intro env2 ee st1 into
  subst ee
  refine ⟨nolim.keeps into.toInCall.keep, codeAny_func ?_⟩
  obtain ⟨t, run, q⟩ := hb cdv B fr st G xs R Z (room.deeper _) grd h
  have I0 : L2.Inv (cxOf (L2.CX P w) P w K mg base N qual (defScope sd) f cdv B fr st G Z) [] (L2.start N xs) G st1 := inv_start Sc room.hd env ln rel into
  refine wpAny_mono (run.run [] st1 (L2.start N xs) G _ I0 q) (fun flow st' ends => ?_) fun er st' he => he
  match flow, ends with
  | .ret u, ⟨v, σ', H', J, rv, q⟩ => exact left_ok J rv q
  | .next, ⟨σ', H', J, q⟩ => exact left_ok (v := .non) (u := .none) J rfl q
  | .brk, ⟨_, _, _, q⟩ => exact q.elim
  | .cont, ⟨_, _, _, q⟩ => exact q.elim
/-- as fun_okP -/
theorem fun_okG {dvs : List V} {kws : List (Str × V)} {x qual : Str} {sd : Stmt} {N : List Str} {c : Con} [UC c] (F : FunD K x qual (defArgs sd) (defBody sd) (defScope sd) dvs kws f fd) (Sc : FnScope N ps (defScope sd)) (hlen : ∀ ws M k e, c ws M k e → ws.length = ps.length)
    (hb : ∀ (cdv : Value) (A : Around) (outer : List Env) (s : Shared) (H : Hp) (E : XK), Room k (A.deeper (envOfC qual (defScope sd) s.heap.objs.size f cdv)) → A.guards = some [] →
      ∃ t wt, PSs (cxOf (L2.CX P w) P w K mg base N qual (defScope sd) f cdv A outer s H E) (defBody sd) t ∧ SS K (WD0 E) t wt ∧ BodyOk N wt c) : FnOkG P w K mg base (k + 1) f fd ps (spP K c) := by
  refine fun_okG0 F Sc (fun vs H Q E h => ?_) (fun cdv A outer s H vs Q E hr hg h => ?_)
  · obtain ⟨G, L, M, ws, S, r, h⟩ := h
    rw [Paired.length r]
    exact hlen _ _ _ _ h
  · obtain ⟨G, L, M, ws, S, r, h⟩ := h
    obtain ⟨t, wt, hp, B, bo⟩ := hb cdv A outer s H E hr hg
    refine ⟨t, hp, B.ok S (sl_start r) (B.mono (fun f q => ?_) (fun ρ C fs M' q => ?_) (bo ws M _ _ h))⟩
    · cases f with
      | nx ρ1 M1 => exact fun G1 L1 H1 σ1 e1 S1 s1 => fin_ok S q _ _ _ _ e1 S1 .non
      | rt a M1 => exact fin_ok S q
      | bk _ _ => exact q.elim
      | ct _ _ => exact q.elim
    · exact fun G1 L1 H1 σ1 d vs e1 S1 _ gd rf => finX_ok S q _ _ _ _ _ e1 S1 gd rf
end
/-- the name x stands for such a def -/
structure CalG (P : Program) (w : World) (K : PySem.W.Frag) (mg : Str → Option Value) (base : Heap) (k : Nat) (x : Str) (f : Addr) (fd : FuncData) (ps : List Str) (sp : Sp) : Prop where
  glob : mg x = some (.ref f)
  kp : PySem.W.keepIn K (.ref f) = true
  binds : L2.Binds K fd ps []
  ok : FnOkG P w K mg base k f fd ps sp
section
variable {X : Cx} {k : Nat} {x : Str} {f : Addr} {fd : FuncData} {ps : List Str} {sp : Sp} {e : Expr} {es : List Expr} {t : TA} {p pos : Pos} {W : WX}
theorem pe_calG (C : CalG X.prog X.w X.K X.mg X.base k x f fd ps sp) (room : Room k X.A) (grd : X.A.guards = some []) (ha : PA X (e :: es) t) (tk : Takes X W) (hg : Gl X x := by rfl) (hdb : (x == ("__debug__" : Str)) = false := by decide)
    (he : starEach (e :: es) X.env = (false, eval e X.env) :: starEach es X.env := by rfl) (hpl : (backTo pos (starEach es X.env)).any (·.1) = false := by rfl) : PE X (.Call (.Name x p) (e :: es) [] pos) (tCallS sp (WE W) t) := by
  constructor
  intro pn st sg G R inv h
  refine wpAny_Call_Name_kw (ld_glob inv hg C.glob ?_ hdb)
  refine PySem.W.callWith_K (h₀ := X.base) inv.ok.mod.kin C.kp (thn (ha.run pos pn st sg G _ inv h) fun vals st1 z => ?_) he hpl
  obtain ⟨xs, G1, J, rel, q⟩ := z
  refine ⟨J.kIn, ?_⟩
  have ln : vals.length = ps.length := rel.length.symm.trans (C.ok.len _ _ _ _ q)
  have bd := C.binds st1 vals J.kIn (by rw [List.append_nil]; exact ln)
  rw [List.append_nil] at bd
  refine wpAny_call (codeAny_mono (C.ok.run X.A X.stack st1 G1 ⟨vals, []⟩ vals xs R (WE W sg) room grd J.env0 bd rel q) fun r st' z => ?_)
  match r, z with
  | .error er, z => exact passAt tk sg pn G1 st1 er st' J z
  | .ok (.ret u), z => exact J.after z
  | .ok .next, z => exact False.elim z
  | .ok .brk, z => exact False.elim z
  | .ok .cont, z => exact False.elim z
/-- repr of a list or tuple of data -/
def pRepr : Pn := fun as M k => ob (trA as) fun d => ob (pyD d) fun p => ((∃ ds, d = .tup ds) ∨ ∃ ds, d = .lst ds) ∧ p.showable = true ∧ p.hasDict = false ∧ p.depth ≤ 60 ∧ p.shown.length ≤ sizeLine ∧ k (.d (.str p.shown)) M
instance : Un pRepr := ⟨fun _ _ _ _ hk ⟨d, h1, p, h2, h3, h4, h5, h6, h7, q⟩ => ⟨d, h1, p, h2, h3, h4, h5, h6, h7, hk _ _ q⟩⟩
theorem cr_reprP0 (grd : X.A.guards = some []) (hu : X.A.units + 64 < cLine) : CallR X (.builtin "repr") (rPn X.K pRepr) := by
  intro pn st sg H xs us Q I r hq
  obtain ⟨G, L, M, as, S, ra, d, h1, p, h2, h3, h4, h5, h6, h7, q⟩ := hq
  obtain rfl := trA_eq h1
  obtain ⟨v, rfl, rv⟩ := repWs1 ra
  have dp := (Rep.mono S.le rv).dp h2
  obtain ⟨u, eu, ru⟩ := Vals.one r
  subst eu
  obtain ⟨al, rd⟩ := Dp.reads I p v u dp ru
  have isr : ∃ a, v = .ref a := by
    rcases h3 with ⟨ds, rfl⟩ | ⟨ds, rfl⟩
    · cases rv with
      | tup _ _ => exact ⟨_, rfl⟩
    · cases rv with
      | lst _ _ => exact ⟨_, rfl⟩
  obtain ⟨a, rfl⟩ := isr
  cases ru
  exact repr_of_reads' rd h4 (fun z => by rw [h5] at z; cases z) grd (by omega) (fun _ _ e => e) (fun h' tk' tk hk => ⟨.str p.shown, H, I.kept (t' := tk) hk, ⟨_, rfl⟩, post_str S q⟩) h7
theorem cr_reprP {K : PySem.W.Frag} (grd : X.A.guards = some []) (hu : X.A.units + 64 < cLine) (hK : X.K = K := by rfl) : CallR X (.builtin "repr") (rPn K pRepr) := hK ▸ cr_reprP0 grd hu
end
@[simp] theorem pRepr_u : pRepr  = (fun as M k => ob (trA as) fun d => ob (pyD d) fun p => ((∃ ds, d = .tup ds) ∨ ∃ ds, d = .lst ds) ∧ p.showable = true ∧ p.hasDict = false ∧ p.depth ≤ 60 ∧ p.shown.length ≤ sizeLine ∧ k (.d (.str p.shown)) M) := rfl
/-! ### the law's own call -/
section
variable {P : Program} {w : World} {K : PySem.W.Frag} {mg mb : Str → Option Value} {k : Nat} {fa a : Addr} {fd : FuncData} {x : Str} {sp : Sp} {st : Shared} {vs : List Value} {ns : List Int}
/-- the heap with the script locked in it, or with nothing -/
def onlyH (K : PySem.W.Frag) (a : Addr) (vs : List Value) (ns : List Int) : Hp := fun b => if K.lookup a = none ∧ b = a then some (.frz { cls := .type "list", data := .seq vs.toArray } (.lst (ns.map V.int))) else none
theorem onlyH_a {b : Addr} (h : onlyH K a vs ns b ≠ none) : b = a ∧ K.lookup a = none := by
  unfold onlyH at h
  by_cases z : K.lookup a = none ∧ b = a
  · exact ⟨z.2, z.1⟩
  · rw [if_neg z] at h
    exact absurd rfl h
theorem law_runG (inK : K.In st.heap) (g : st.heap.Ns mainGlobals mg) (b : st.heap.Ns builtinsNs mb) (bb : ∀ y : Str, y ≠ "__name__" → mb y = bootBuiltins y) (lim : st.heap.NoLimit) (noG : st.gens = #[])
    (at_ : st.heap.get? a = some { cls := .type "list", data := .seq vs.toArray }) (itsI : IntsAre vs ns) (ln : ns.length ≤ sizeLine) (room : Room k callerA)
    (F : ∀ base : Heap, K.In base → base.Ns mainGlobals mg → FnOkG P w K mg base k fa fd [x] sp) (bd : ∀ (s : Shared) (u : Value), BindsTo s fd ⟨[u], []⟩ [(x, u)])
    (want : ∀ H : Hp, SqL K H a (ns.map V.int) → sp [.ref a] H (fun v _ => v = .bl true) fun _ _ _ => False) :
    codeAny (model P w) callerA (.call (.ref fa) ⟨[.ref a], []⟩) (fun r s' => r = .ok (.ret (.bool true)) ∧ OldK st.heap s'.heap ∧ s'.os = st.os ∧ AllBare s'.gens) st := by
  have rel := vals_ints itsI
  have lv := itsI.length
  let H := onlyH K a vs ns
  have oneA : ∀ {c : Addr}, H c ≠ none → c = a := fun h => (onlyH_a h).1
  have sq : SqL K H a (ns.map V.int) := by
    cases q : K.lookup a with
    | none => exact .inl (.inr ⟨_, if_pos ⟨q, rfl⟩⟩)
    | some ob =>
      have eo := inK a ob q
      rw [at_] at eo
      cases eo
      exact .inr ⟨_, vs.toArray, _, q, rfl, rfl, rfl, by rw [List.size_toArray, lv]; exact ln, by simpa using rel⟩
  have held : HOk P w H st.heap := by
    intro c u hc
    have z := oneA (c := c) (by rw [hc]; nofun)
    subst z
    have z2 : K.lookup c = none := (onlyH_a (K := K) (a := c) (vs := vs) (ns := ns) (b := c) (by show H c ≠ none; rw [hc]; nofun)).2
    have z3 : H c = some (.frz { cls := .type "list", data := .seq vs.toArray } (.lst (ns.map V.int))) := if_pos ⟨z2, rfl⟩
    rw [hc] at z3
    cases z3
    exact ⟨at_, by rw [List.length_map]; exact ln, vs, _, rel, at_⟩
  have keepB : ∀ {c : Addr} {ob : Obj}, st.heap.get? c = some ob → H c = none → (hidT st.heap H).get? c = some ob := fun e n => hidT_get e n
  have freeD : ∀ {c : Addr} {ob : Obj} {es : Array DictEntry} {ep : Nat}, st.heap.get? c = some ob → ob.data = .dict es ep → H c = none := by
    intro c ob es ep e d
    cases q : H c with
    | none => rfl
    | some u =>
      obtain rfl := oneA (c := c) (by rw [q]; nofun)
      rw [at_] at e
      cases e
      cases d
  have nsB : ∀ {c : Addr} {m : Str → Option Value}, st.heap.Ns c m → (hidT st.heap H).Ns c m := fun ⟨o, es, ep, e, d, r⟩ => ⟨o, es, ep, keepB e (freeD e d), d, r⟩
  have inB : K.In (hidT st.heap H) := by
    intro c ob e
    refine keepB (inK c ob e) ?_
    cases q : H c with
    | none => rfl
    | some u =>
      have z := onlyH_a (K := K) (a := a) (vs := vs) (ns := ns) (b := c) (by show H c ≠ none; rw [q]; nofun)
      obtain ⟨rfl, z2⟩ := z
      rw [z2] at e
      cases e
  have md : Mod K mg (hidT st.heap H) := ⟨inB, nsB g, ⟨mb, nsB b, bb⟩, let ⟨m, h1, h2⟩ := lim; ⟨m, nsB h1, h2⟩⟩
  have env : Env0 P w K mg (hidT st.heap H) callerA [] st H := ⟨rfl, md, fun c ob e => of_hidT e, Nat.le_of_eq (hidT_size _ _), trivial, fun c hc => absurd (show c ∈ ([] : List Addr) from hc) (by simp), held, .of_eq noG⟩
  refine codeAny_mono ((F _ inB (nsB g)).run callerA [] st H ⟨[.ref a], []⟩ [.ref a] [.ref a] _ _ room rfl env (bd st (.ref a)) (.cons rfl .nil) (want H sq)) fun r s' z => ?_
  match r, z with
  | .error er, z =>
    obtain ⟨_, _, _, _, _, _, _, _, _, _, _, _, no⟩ := z
    exact no.elim
  | .ok .next, z => exact False.elim z
  | .ok .brk, z => exact False.elim z
  | .ok .cont, z => exact False.elim z
  | .ok (.ret u), z =>
    obtain ⟨v, H', os, bare, un, held', rv, ev⟩ := z
    have e1 : v = .bl true := ev
    subst e1
    obtain rfl : u = Value.bool true := rv
    refine ⟨rfl, OldK.of_keep ?_, os, bare⟩
    intro c ob e
    cases q : H c with
    | none => exact un.keep c ob e q (by intro z; exact absurd (show c ∈ ([] : List Addr) from z) (by simp)) (by simp)
    | some u =>
      obtain ⟨rfl, z2⟩ := onlyH_a (K := K) (a := a) (vs := vs) (ns := ns) (b := c) (by show H c ≠ none; rw [q]; nofun)
      have z3 : H c = some (.frz { cls := .type "list", data := .seq vs.toArray } (.lst (ns.map V.int))) := if_pos ⟨z2, rfl⟩
      have z4 := un.frzs c _ _ z3
      obtain ⟨f1, _⟩ := held' c _ z4
      rw [at_] at e
      cases e
      exact f1
end
theorem walk_ofG {l : PySem.W.OpenLaw} {n k : Nat} {q : Program} {loose : List Str} {XP : (Str → Option Value) → Heap → Prop} {YP : World → Heap → Prop} {d : DefRec} {K : Params → PySem.W.Frag} {sp : World → Sp} {x : Str} (most : l.most = some n) (small : n ≤ sizeLine) (nodef : d.params.defaults = []) (room : Room k callerA)
    (says : ∀ (w : World) (h : Heap), YP w h → (K w.params).In h)
    (F : ∀ (w : World) (mg : Str → Option Value) (fa : Addr) (h : Heap), (K w.params).In h → h.Ns mainGlobals mg → mg d.name = some (.ref fa) →
      ∃ fd : FuncData, (∀ (s : Shared) (u : Value), BindsTo s fd ⟨[u], []⟩ [(x, u)]) ∧ ∀ base : Heap, (K w.params).In base → base.Ns mainGlobals mg → FnOkG l.prog w (K w.params) mg base k fa fd [x] (sp w))
    (want : ∀ (w : World) (H : Hp) (a : Addr) (ns : List Int), ns.length ≤ n → SqL (K w.params) H a (ns.map V.int) → sp w [.ref a] H (fun v _ => v = .bl true) fun _ _ _ => False) : PySem.W.WalkO q loose XP YP l.row.toRowW d [] (fun f vs => PySem.call f vs) := by
  refine Att.attach_call most nodef ?_
  intro w s₀ s₁ mg mb fa o pm cd doc a vs ns G Y ho hd hcd named obj itsI few noG
  have inK := says w _ Y
  obtain ⟨fd, bd, ok⟩ := F w mg fa _ inK G.T.g named
  exact law_runG inK G.T.g G.T.b G.T.builtins G.T.nolimit noG obj itsI (Nat.le_trans few small) room ok bd fun H sq => want w H a ns few sq
end PU

set_option maxRecDepth 100000
set_option maxHeartbeats 8000000
namespace PU
open PySem PySem.Spec PyProof.Rows L2 WU
def FI : Hp → V → Int → Prop := fun _ v z => v = V.int z
def TF {α : Type} (F : Hp → V → α → Prop) : Hp → V → List α → Prop := fun H v l => ∃ c xs, v = .ref c ∧ Rd H c (.tup xs) ∧ Paired (F H) xs l
abbrev T1 := TF FI
abbrev T2 := TF T1
def Dt (K : PySem.W.Frag) {α : Type} (F : Hp → V → α → Prop) (d : α → PyData) : Prop := ∀ H v z, F H v z → Dp K H v (d z)
theorem dt_all {K : PySem.W.Frag} {α : Type} {F : Hp → V → α → Prop} {d : α → PyData} (h : Dt K F d) {H : Hp} : ∀ {xs : List V} {l : List α}, Paired (F H) xs l → DpAll K H xs (l.map d)
  | _, _, .nil => .nil
  | _, _, .cons x t => .cons (h _ _ _ x) (dt_all h t)
theorem dt_TF {K : PySem.W.Frag} {α : Type} {F : Hp → V → α → Prop} {d : α → PyData} (h : Dt K F d) : Dt K (TF F) fun l => .tuple (l.map d) := fun H v l ⟨c, xs, e, hc, p⟩ => e ▸ .tup (.inl hc) (dt_all h p)
theorem dt_FI {K : PySem.W.Frag} : Dt K FI PyData.int := fun H v z e => by
  have e : v = .int z := e
  rw [e]
  exact .int z
def d1 (r : List Int) : PyData := .tuple (r.map PyData.int)
def d2 (m : List (List Int)) : PyData := .tuple (m.map d1)
def d3 (q : List (List (List Int))) : PyData := .tuple (q.map d2)
theorem dt1 {K : PySem.W.Frag} : Dt K T1 d1 := dt_TF dt_FI
theorem dt2 {K : PySem.W.Frag} : Dt K T2 d2 := dt_TF dt1



theorem eqvAll_ints : ∀ a b : List Int, PyData.eqvAll (a.map PyData.int) (b.map PyData.int) = true → a = b
  | [], [], _ => rfl
  | [], _ :: _, h => by simp [PyData.eqvAll] at h
  | _ :: _, [], h => by simp [PyData.eqvAll] at h
  | x :: a, y :: b, h => by
    simp only [List.map_cons, PyData.eqvAll, PyData.eqv, Bool.and_eq_true] at h
    have := eqvAll_ints a b h.2
    simp_all
theorem eqvAll_rows : ∀ a b : List (List Int), PyData.eqvAll (a.map d1) (b.map d1) = true → a = b
  | [], [], _ => rfl
  | [], _ :: _, h => by simp [PyData.eqvAll] at h
  | _ :: _, [], h => by simp [PyData.eqvAll] at h
  | x :: a, y :: b, h => by
    simp only [List.map_cons, PyData.eqvAll, d1, PyData.eqv, Bool.and_eq_true] at h
    rw [eqvAll_ints x y h.1, eqvAll_rows a b h.2]
theorem eqv_d2 {a b : List (List Int)} (h : PyData.eqv (d2 a) (d2 b) = true) : a = b := eqvAll_rows a b (by simpa [d2, PyData.eqv] using h)
theorem alikeI : ∀ a b : List Int, PySem.W.alikeAll (a.map PyData.int) (b.map PyData.int) = true
  | [], _ => by simp [PySem.W.alikeAll]
  | _ :: _, [] => by simp [PySem.W.alikeAll]
  | x :: a, y :: b => by
    simp only [List.map_cons, PySem.W.alikeAll, PySem.W.alike, Bool.true_and]
    exact alikeI a b
theorem alikeR : ∀ a b : List (List Int), PySem.W.alikeAll (a.map d1) (b.map d1) = true
  | [], _ => by simp [PySem.W.alikeAll]
  | _ :: _, [] => by simp [PySem.W.alikeAll]
  | x :: a, y :: b => by
    simp only [List.map_cons, PySem.W.alikeAll, d1, PySem.W.alike, Bool.and_eq_true]
    exact ⟨alikeI x y, alikeR a b⟩
theorem alike2 (a b : List (List Int)) : PySem.W.alike (d2 a) (d2 b) = true := by
  show PySem.W.alike (.tuple _) (.tuple _) = true
  rw [PySem.W.alike]
  exact alikeR a b
theorem depthI : ∀ a : List Int, PyData.depthAll (a.map PyData.int) ≤ 1
  | [] => by simp [PyData.depthAll]
  | x :: a => by
    have := depthI a
    simp only [List.map_cons, PyData.depthAll, PyData.depth]
    omega
theorem depthR : ∀ a : List (List Int), PyData.depthAll (a.map d1) ≤ 3
  | [] => by simp [PyData.depthAll]
  | x :: a => by
    have := depthR a
    have := depthI x
    simp only [List.map_cons, PyData.depthAll, d1, PyData.depth]
    omega
theorem depth2 (a : List (List Int)) : (d2 a).depth ≤ 60 := by
  have := depthR a
  show (PyData.tuple _).depth ≤ 60
  rw [PyData.depth]
  omega
def ltM (a b : List (List Int)) : Bool := PySem.W.dataLt (d2 a) (d2 b)
theorem ltM_irr (a : List (List Int)) : ltM a a = false := PyProof.Rows.lex_irrefl _
theorem ltM_tr {a b c : List (List Int)} (h : ltM a b = true) (k : ltM b c = true) : ltM a c = true := PyProof.Rows.lex_trans _ _ _ h k
theorem ltM_tot {a b : List (List Int)} (h : ltM a b = false) (k : ltM b a = false) : a = b := by
  have e := PyProof.Rows.lex_total (O := PyProof.Rows.itemOrd) _ _ h k
  refine eqv_d2 ?_
  cases q : PyData.eqv (d2 a) (d2 b) with
  | true => rfl
  | false =>
    exfalso
    have z := (PySem.W.toks_eqv (d2 a) (d2 b) (alike2 a b)).2 q [Sum.inl 0] [Sum.inl 1]
    rw [e, PySem.W.lex_pre] at z
    rw [PyProof.Rows.lex_irrefl] at z
    revert z
    decide






def RisG {α : Type} (d : α → PyData) (l : List α) : Prop := ∀ i a b, l[i]? = some a → l[i + 1]? = some b → PySem.W.dataLt (d a) (d b) = true
structure Ord {α : Type} (d : α → PyData) : Prop where
  al : ∀ a b, PySem.W.alike (d a) (d b) = true
  dp : ∀ a, (d a).depth ≤ 60
  nn : ∀ a, d a ≠ .none
def ltG {α : Type} (d : α → PyData) (a b : α) : Bool := PySem.W.dataLt (d a) (d b)
theorem ltG_irr {α : Type} {d : α → PyData} (a : α) : ltG d a a = false := PyProof.Rows.lex_irrefl _
theorem ltG_tr {α : Type} {d : α → PyData} {a b c : α} (h : ltG d a b = true) (k : ltG d b c = true) : ltG d a c = true := PyProof.Rows.lex_trans _ _ _ h k
theorem ltG_tot {α : Type} {d : α → PyData} (O : Ord d) (inj : ∀ a b, PyData.eqv (d a) (d b) = true → a = b) {a b : α} (h : ltG d a b = false) (k : ltG d b a = false) : a = b := by
  have e := PyProof.Rows.lex_total (O := PyProof.Rows.itemOrd) _ _ h k
  refine inj _ _ ?_
  cases q : PyData.eqv (d a) (d b) with
  | true => rfl
  | false =>
    exfalso
    have z := (PySem.W.toks_eqv (d a) (d b) (O.al _ _)).2 q [Sum.inl 0] [Sum.inl 1]
    rw [e, PySem.W.lex_pre] at z
    rw [PyProof.Rows.lex_irrefl] at z
    revert z
    decide
theorem risG_nil {α : Type} {d : α → PyData} : RisG d [] := fun i a b h => by simp at h
theorem risG_app {α : Type} {d : α → PyData} {l : List α} {m : α} (hr : RisG d l) (h : ∀ x ∈ l, ltG d x m = true) : RisG d (l ++ [m]) := fun i a b e1 e2 => by
  by_cases hi : i + 1 < l.length
  · rw [List.getElem?_append_left (by omega)] at e1
    rw [List.getElem?_append_left hi] at e2
    exact hr i a b e1 e2
  · have hl : i + 1 < (l ++ [m]).length := (List.getElem?_eq_some_iff.mp e2).1
    rw [List.length_append, List.length_singleton] at hl
    rw [List.getElem?_append_right (by omega), show i + 1 - l.length = 0 by omega] at e2
    rw [List.getElem?_append_left (by omega)] at e1
    cases e2
    exact h a (List.mem_of_getElem? e1)
theorem risG_lt {α : Type} {d : α → PyData} {l : List α} (hr : RisG d l) : ∀ (k i : Nat) (a b : α), l[i]? = some a → l[i + 1 + k]? = some b → ltG d a b = true
  | 0, i, a, b, e1, e2 => hr i a b e1 e2
  | k + 1, i, a, b, e1, e2 => by
    have hl := (List.getElem?_eq_some_iff.mp e2).1
    have e3 := List.getElem?_eq_getElem (l := l) (i := i + 1 + k) (by omega)
    exact ltG_tr (risG_lt hr k i a _ e1 e3) (hr _ _ _ e3 e2)
theorem risG_pw {α : Type} {d : α → PyData} {l : List α} (hr : RisG d l) : l.Pairwise (fun a b => ltG d a b = true) := by
  rw [List.pairwise_iff_getElem]
  intro i j hi hj hij
  exact risG_lt hr (j - i - 1) i _ _ (List.getElem?_eq_getElem hi) (by rw [show i + 1 + (j - i - 1) = j by omega]; exact List.getElem?_eq_getElem hj)
theorem pw_risG {α : Type} {d : α → PyData} {l : List α} (h : l.Pairwise (fun a b => ltG d a b = true)) : RisG d l := fun i a b e1 e2 => by
  obtain ⟨h1, rfl⟩ := List.getElem?_eq_some_iff.mp e1
  obtain ⟨h2, rfl⟩ := List.getElem?_eq_some_iff.mp e2
  exact List.pairwise_iff_getElem.mp h i (i + 1) h1 h2 (by omega)
theorem risG_one {α : Type} {d : α → PyData} {l m : List α} (hl : RisG d l) (hm : RisG d m) (p : l.Perm m) : l = m :=
  p.eq_of_pairwise (le := fun a b => ltG d a b = true) (fun a b _ _ h k => by
    have z := ltG_tr h k
    rw [ltG_irr] at z
    cases z) (risG_pw hl) (risG_pw hm)
theorem risG_of {α : Type} {d : α → PyData} (O : Ord d) (inj : ∀ a b, PyData.eqv (d a) (d b) = true → a = b) {l : List α} (h : l.Pairwise (fun a b => ltG d b a = false)) (n : l.Nodup) : RisG d l :=
  pw_risG ((h.and n).imp fun {a b} ⟨h1, h2⟩ => by
    cases z : ltG d a b with
    | true => rfl
    | false => exact absurd (ltG_tot O inj z h1) h2)









structure Lay {α : Type} (d : α → PyData) : Prop where
  inj : ∀ a b, PyData.eqv (d a) (d b) = true → a = b
  rfl' : ∀ a, PyData.eqv (d a) (d a) = true
  sh : ∀ a, SeqAt.shaped (d a) = true
theorem Lay.no {α : Type} {d : α → PyData} (Y : Lay d) {a b : α} (h : a ≠ b) : PyData.eqv (d a) (d b) = false := by
  cases e : PyData.eqv (d a) (d b) with
  | false => rfl
  | true => exact absurd (Y.inj _ _ e) h
theorem Lay.all {α : Type} {d : α → PyData} (Y : Lay d) : ∀ l : List α, PyData.canLayAll0 (l.map d) = true
  | [] => rfl
  | a :: l => by
    have h := Y.sh a
    unfold SeqAt.shaped at h
    rw [Bool.and_eq_true] at h
    rw [List.map_cons, PyData.canLayAll0, Y.all l, Bool.and_true]
    exact h.1
theorem Lay.dep {α : Type} {d : α → PyData} (O : Ord d) : ∀ l : List α, PyData.depthAll (l.map d) ≤ 60
  | [] => by simp [PyData.depthAll]
  | m :: q => by
    have h1 := Lay.dep O q
    have h2 := O.dp m
    simp only [List.map_cons, PyData.depthAll]
    omega
theorem nodup_at {α : Type} {l : List α} {i j : Nat} {a : α} (n : l.Nodup) (h1 : l[i]? = some a) (h2 : l[j]? = some a) : i = j := (List.getElem?_inj (List.getElem?_eq_some_iff.mp h1).1 n).mp (h1.trans h2.symm)



theorem canI : ∀ r : List Int, PyData.canLayAll0 (r.map PyData.int) = true
  | [] => rfl
  | x :: r => by
    rw [List.map_cons, PyData.canLayAll0, canI r]
    rfl
theorem canR : ∀ m : List (List Int), PyData.canLayAll0 (m.map d1) = true
  | [] => rfl
  | r :: m => by
    rw [List.map_cons, PyData.canLayAll0, canR m, Bool.and_true]
    show PyData.canLay0 (.tuple _) = true
    rw [PyData.canLay0]
    exact canI r
theorem canM : ∀ q : List (List (List Int)), PyData.canLayAll0 (q.map d2) = true
  | [] => rfl
  | m :: q => by
    rw [List.map_cons, PyData.canLayAll0, canM q, Bool.and_true]
    show PyData.canLay0 (.tuple _) = true
    rw [PyData.canLay0]
    exact canR m
theorem depthM : ∀ q : List (List (List Int)), PyData.depthAll (q.map d2) ≤ 60
  | [] => by simp [PyData.depthAll]
  | m :: q => by
    have h1 := depthM q
    have h2 := depth2 m
    simp only [List.map_cons, PyData.depthAll]
    omega
theorem shaped2 (m : List (List Int)) : SeqAt.shaped (d2 m) = true := by
  show ((PyData.tuple _).canLay0 && decide ((d2 m).depth ≤ 64)) = true
  rw [PyData.canLay0, canR, decide_eq_true (Nat.le_trans (depth2 m) (by decide))]
  rfl
theorem shapedL (q : List (List (List Int))) : SeqAt.shaped (.list (q.map d2)) = true := by
  show ((PyData.list _).canLay0 && decide ((PyData.list _).depth ≤ 64)) = true
  rw [PyData.canLay0, canM, PyData.depth, decide_eq_true (by have := depthM q; omega)]
  rfl
theorem eqvI : ∀ r : List Int, PyData.eqvAll (r.map PyData.int) (r.map PyData.int) = true
  | [] => by simp [PyData.eqvAll]
  | x :: r => by simp [PyData.eqvAll, PyData.eqv, eqvI r]
theorem eqvR : ∀ m : List (List Int), PyData.eqvAll (m.map d1) (m.map d1) = true
  | [] => by simp [PyData.eqvAll]
  | r :: m => by simp [PyData.eqvAll, d1, PyData.eqv, eqvI r, eqvR m]
theorem eqv2r (m : List (List Int)) : PyData.eqv (d2 m) (d2 m) = true := by simp [d2, PyData.eqv, eqvR m]

theorem lay2 : Lay d2 where
  inj := fun a b h => eqv_d2 h
  rfl' := eqv2r
  sh := shaped2
theorem ord2 : Ord d2 := ⟨alike2, depth2, fun a z => by cases z⟩
theorem paired_of {α β : Type} {F : α → β → Prop} {xs : List α} {l : List β} (h : Paired F xs l) {i : Nat} {z : β} (e : l[i]? = some z) : ∃ x, xs[i]? = some x ∧ F x z := paired_ix h e
theorem paired_at {α β : Type} {F : α → β → Prop} {xs : List α} {l : List β} (h : Paired F xs l) {i : Nat} {x : α} (e : xs[i]? = some x) : ∃ z, l[i]? = some z ∧ F x z := paired_ix' h e
theorem paired_len {α β : Type} {F : α → β → Prop} {xs : List α} {l : List β} (h : Paired F xs l) : xs.length = l.length := Paired.length h
theorem paired_mono {α β : Type} {F F' : α → β → Prop} (f : ∀ x y, F x y → F' x y) {xs : List α} {l : List β} (h : Paired F xs l) : Paired F' xs l := Paired.mapP h f
theorem fi_map : ∀ {xs : List V} {r : List Int}, Paired (fun (v : V) (z : Int) => v = V.int z) xs r → xs = r.map V.int
  | _, _, .nil => rfl
  | _, _, .cons h t => by rw [List.map_cons, ← fi_map t, h]
end PU

set_option maxRecDepth 100000
set_option maxHeartbeats 4000000
/-! set(xs) and sorted(set) where the members are data with such keys -/
namespace PU
open PySem PySem.Spec PyProof.Rows L2 GS WU
/-- the set at a, but for what its members are -/
structure SetG0 (P : Program) (w : World) (h : Heap) (a : Addr) (M : List (NestedKey × Addr)) : Prop where
  ex : ∃ (es : Array (Int × Value)) (ep : Nat) (t : SetTable), (∃ o, h.get? a = some o ∧ o.ExactSet ∧ o.data = .set es ep t) ∧ es.toList = (M.map fun e => (hsh P w e.1, Value.ref e.2)) ∧ TabOk t (M.map fun e => hsh P w e.1) ∧ (M.map Prod.fst).Nodup ∧ t.plain = true ∧
    (w.params.followText "set-order" = true ∨ t.led = true) ∧ M.length * 5 < t.mask * 3 ∧ M.length < 64
def SetGO (P : Program) (w : World) (a : Addr) (M : List (NestedKey × Addr)) : HO := .ext fun h => SetG0 P w h a M
theorem setG0_of {P : Program} {w : World} {h : Heap} {a : Addr} {M : List (NestedKey × Addr)} {es : Array (Int × Value)} {ep : Nat} {t : SetTable} (R : SetG P w h a M es ep t) : SetG0 P w h a M := ⟨es, ep, t, R.obj, R.ent, R.table, R.once, R.pl, R.le, R.sp, R.sm⟩
theorem SetG0.all {P : Program} {w : World} {h : Heap} {a : Addr} {M : List (NestedKey × Addr)} (R : SetG0 P w h a M) (keys : ∀ e ∈ M, Ky P w h e.1 e.2) : ∃ es ep t, SetG P w h a M es ep t := by
  obtain ⟨es, ep, t, c1, c2, c3, c4, c5, c6, c7, c8⟩ := R.ex
  exact ⟨es, ep, t, c1, c2, c3, c4, keys, c5, c6, c7, c8⟩
theorem setGO_ok {P : Program} {w : World} {H : Hp} {h : Heap} {a : Addr} {M : List (NestedKey × Addr)} (R : SetG0 P w h a M) : ObjOk P w H h a (SetGO P w a M) := by
  obtain ⟨es, ep, t, ⟨o, ho, _⟩, _⟩ := id R.ex
  refine ⟨R, ⟨o, ho⟩, fun h1 h2 p k => ?_⟩
  obtain ⟨es', ep', t', ⟨o', ho', r'⟩, q'⟩ := SetG0.ex p
  exact ⟨es', ep', t', ⟨o', k o' ho', r'⟩, q'⟩
/-- data whose value is a key -/
def Kyd {α : Type} (G : Hp → V → α → Prop) (nk : α → NestedKey) : Prop := ∀ (X : Cx) (pins : List (Addr × Obj)) (σ : L2.St) (H : Hp) (s : Shared) (v : V) (z : α), Inv X pins σ H s → G H v z → ∃ c, v = .ref c ∧ Ky X.prog X.w s.heap (nk z) c
def nk1 (r : List Int) : NestedKey := .tup (r.map .num)
def nk2 (m : List (List Int)) : NestedKey := .tup (m.map nk1)
theorem nums_all {h : Heap} : ∀ {r : List Int} {us : List Value}, Vals (r.map V.int) us → NestedAll h (r.map .num) us
  | [], _, .nil => .nil
  | i :: r, _, .cons x t => by
    obtain ⟨tk, rfl⟩ := x
    exact .cons (.int i tk) (nums_all t)
theorem nums_dep : ∀ r : List Int, NestedKey.depthAll (r.map .num) = 0
  | [] => rfl
  | i :: r => by
    rw [List.map_cons, NestedKey.depthAll, nums_dep r]
    rfl
theorem nums_bare : ∀ r : List Int, bares (r.map .num) = true
  | [] => rfl
  | i :: r => by
    rw [List.map_cons, bares, nums_bare r]
    rfl
theorem rows_dep : ∀ m : List (List Int), NestedKey.depthAll (m.map nk1) ≤ 1
  | [] => Nat.zero_le _
  | r :: m => by
    have e : (nk1 r).depth = 1 := by
      show (NestedKey.tup _).depth = 1
      rw [NestedKey.depth, nums_dep]
    have := rows_dep m
    rw [List.map_cons, NestedKey.depthAll, e]
    omega
theorem rows_bare : ∀ m : List (List Int), bares (m.map nk1) = true
  | [] => rfl
  | r :: m => by
    rw [List.map_cons, bares, rows_bare m, Bool.and_true]
    show bare (.tup _) = true
    rw [bare, nums_bare]
section
variable {X : Cx} {pins : List (Addr × Obj)} {σ : L2.St} {H : Hp} {s : Shared}
theorem is_nk1 (I : Inv X pins σ H s) {v : V} {r : List Int} {u : Value} (h : T1 H v r) (ru : RelV v u) : NestedIs s.heap (nk1 r) u := by
  obtain ⟨c, xs, rfl, hc, p⟩ := h
  cases ru
  have e := fi_map p
  subst e
  obtain ⟨its, rv, ⟨o, ho, hcl, n, hd⟩, _⟩ := I.tuple (.inl hc)
  exact .tup ho hcl hd (nums_all rv)
theorem rows_all (I : Inv X pins σ H s) : ∀ {xs : List V} {m : List (List Int)} {us : List Value}, Paired (T1 H) xs m → Vals xs us → NestedAll s.heap (m.map nk1) us
  | _, _, _, .nil, h => by cases h; exact .nil
  | _, _, _, .cons a t, h => by
    cases h with
    | cons x q => exact .cons (is_nk1 I a x) (rows_all I t q)
end
theorem kyd1 : Kyd T1 nk1 := fun X pins σ H s v z I h => by
  have h' := h
  obtain ⟨c, xs, rfl, _, _⟩ := h
  refine ⟨c, rfl, ⟨is_nk1 I h' rfl, ?_⟩, ?_⟩
  · show (NestedKey.tup _).depth ≤ 8
    rw [NestedKey.depth, nums_dep]
    omega
  · show bare (.tup _) = true
    rw [bare, nums_bare]
theorem kyd2 : Kyd T2 nk2 := fun X pins σ H s v z I ⟨c, xs, e, hc, p⟩ => by
  subst e
  obtain ⟨its, rv, ⟨o, ho, hcl, n, hd⟩, _⟩ := I.tuple (.inl hc)
  refine ⟨c, rfl, ⟨.tup ho hcl hd (rows_all I p rv), ?_⟩, ?_⟩
  · show (NestedKey.tup _).depth ≤ 8
    rw [NestedKey.depth]
    have := rows_dep z
    omega
  · show bare (.tup _) = true
    rw [bare, rows_bare]
theorem nums_inj : ∀ {a b : List Int}, a.map NestedKey.num = b.map NestedKey.num → a = b
  | [], [], _ => rfl
  | [], _ :: _, h => nomatch h
  | _ :: _, [], h => nomatch h
  | x :: a, y :: b, h => by
    rw [List.map_cons, List.map_cons] at h
    injection h with h1 h2
    injection h1 with h1
    rw [h1, nums_inj h2]
theorem nk1_inj {a b : List Int} (h : nk1 a = nk1 b) : a = b := nums_inj (NestedKey.tup.inj h)
theorem nk2_inj {a b : List (List Int)} (h : nk2 a = nk2 b) : a = b := by
  have h := NestedKey.tup.inj h
  induction a generalizing b with
  | nil =>
    cases b with
    | nil => rfl
    | cons y b => cases h
  | cons x a ih =>
    cases b with
    | nil => cases h
    | cons y b =>
      rw [List.map_cons, List.map_cons] at h
      injection h with h1 h2
      rw [nk1_inj h1, ih (congrArg NestedKey.tup h2) h2]
theorem sortG_pw {β : Type} (d : β → PyData) (l : List β) : (l.mergeSort (PySem.W.dataLe false d)).Pairwise (fun a b => ltG d b a = false) := by
  have tot : ∀ a b : β, (PySem.W.dataLe false d a b || PySem.W.dataLe false d b a) = true := fun a b => by
    rw [PySem.W.dataLe_eq]
    show ((!ltG d b a) || (!ltG d a b)) = true
    cases k : ltG d b a with
    | false => rfl
    | true =>
      cases k2 : ltG d a b with
      | false => rfl
      | true =>
        have := ltG_tr k k2
        rw [ltG_irr] at this
        cases this
  have tra : ∀ a b c : β, PySem.W.dataLe false d a b = true → PySem.W.dataLe false d b c = true → PySem.W.dataLe false d a c = true := fun a b c h1 h2 => by
    rw [PySem.W.dataLe_eq] at h1 h2 ⊢
    have h1 : (!ltG d b a) = true := h1
    have h2 : (!ltG d c b) = true := h2
    show (!ltG d c a) = true
    cases k : ltG d c a with
    | false => rfl
    | true =>
      exfalso
      have h1 : ltG d b a = false := by simpa using h1
      have h2 : ltG d c b = false := by simpa using h2
      cases k2 : ltG d b c with
      | true => rw [ltG_tr k2 k] at h1; cases h1
      | false =>
        have e := PyProof.Rows.lex_total (O := PyProof.Rows.itemOrd) _ _ k2 h2
        unfold ltG PySem.W.dataLt at k h1
        rw [← e, h1] at k
        cases k
  refine (List.pairwise_mergeSort tra tot l).imp fun {a b} h => ?_
  rw [PySem.W.dataLe_eq] at h
  have h : (!ltG d b a) = true := h
  simpa using h
/-- set(xs) -/
def rSetG {α : Type} (P : Program) (w : World) (G : Hp → V → α → Prop) (nk : α → NestedKey) : List V → Hp → VK → Prop := fun vs H Q => ∃ (l : Addr) (xs : List V) (zs : List α), vs = [.ref l] ∧ H l = some (.lst xs) ∧ Paired (G H) xs zs ∧
  (∀ us : List α, us.Nodup → (∀ u ∈ us, u ∈ zs) → us.length < 64) ∧ ∀ (a : Addr) (us : List (α × Addr)), H a = none → (us.map Prod.fst).Nodup → (∀ e ∈ us, G H (.ref e.2) e.1) → (∀ u, u ∈ us.map Prod.fst ↔ u ∈ zs) →
    Q (.ref a) (upd H a (SetGO P w a (us.map fun e => (nk e.1, e.2))))
theorem with_refs {α : Type} {X : Cx} {pins : List (Addr × Obj)} {σ : L2.St} {H : Hp} {s : Shared} {G : Hp → V → α → Prop} {nk : α → NestedKey} (hk : Kyd G nk) (I : Inv X pins σ H s) : ∀ {xs : List V} {zs : List α} {its : List Value}, Paired (G H) xs zs → Vals xs its →
    ∃ ps : List (α × Addr), ps.map Prod.fst = zs ∧ its = ps.map (fun e => Value.ref e.2) ∧ ∀ e ∈ ps, G H (.ref e.2) e.1 ∧ Ky X.prog X.w s.heap (nk e.1) e.2
  | _, _, _, .nil, h => by
    cases h
    exact ⟨[], rfl, rfl, fun e he => nomatch he⟩
  | _, _, _, .cons a t, h => by
    cases h with
    | cons x q =>
      obtain ⟨ps, e1, e2, e3⟩ := with_refs hk I t q
      obtain ⟨c, rfl, k⟩ := hk X pins σ H s _ _ I a
      cases x
      refine ⟨(_, c) :: ps, by rw [List.map_cons, e1], by rw [List.map_cons, e2], fun e he => ?_⟩
      rcases List.mem_cons.mp he with z | z
      · rw [z]
        exact ⟨a, k⟩
      · exact e3 e z
theorem lift_all {α β : Type} (f : α → β) {ps : List α} : ∀ {M : List β}, (∀ e ∈ M, e ∈ ps.map f) → ∃ us : List α, us.map f = M ∧ ∀ u ∈ us, u ∈ ps
  | [], _ => ⟨[], rfl, fun u h => nomatch h⟩
  | e :: M, h => by
    obtain ⟨us, h1, h2⟩ := lift_all f (M := M) fun x hx => h x (List.mem_cons_of_mem _ hx)
    obtain ⟨u, hu, rfl⟩ := List.mem_map.mp (h e List.mem_cons_self)
    refine ⟨u :: us, by rw [List.map_cons, h1], fun x hx => ?_⟩
    rcases List.mem_cons.mp hx with z | z
    · rw [z]
      exact hu
    · exact h2 x z
theorem nodup_map {α β : Type} (f : α → β) {l : List α} (h : (l.map f).Nodup) : l.Nodup := h.of_map f fun _ _ n e => n (congrArg f e)
theorem nodup_inj {α β : Type} {f : α → β} (inj : ∀ a b, f a = f b → a = b) {l : List α} (h : l.Nodup) : (l.map f).Nodup := List.pairwise_map.mpr (h.imp fun n e => n (inj _ _ e))
section
variable {X : Cx}
theorem cr_setG {α : Type} {G : Hp → V → α → Prop} {nk : α → NestedKey} (hk : Kyd G nk) (inj : ∀ a b, nk a = nk b → a = b) (hc : X.calm = true) (hu : X.A.units + 64 < cLine) : CallR X (.type "set") (rSetG X.prog X.w G nk) := by
  intro pins s σ H vs us0 Q I r h
  obtain ⟨l, xs, zs, rfl, hl, hP, few, q⟩ := h
  obtain rfl := Vals.ref1 r
  obtain ⟨its, rv, pl, hz⟩ := I.list (SqL.of hl)
  obtain ⟨ps, e1, e2, e3⟩ := with_refs hk I hP rv
  have hn : H s.heap.objs.size = none := I.hok.fresh (Nat.le_refl _)
  have mem : ∀ {M : List (NestedKey × Addr)}, (∀ e ∈ M, e ∈ ps.map fun e => (nk e.1, e.2)) → ∃ us : List (α × Addr), us.map (fun e => (nk e.1, e.2)) = M ∧ ∀ u ∈ us, u ∈ ps := fun h => lift_all _ h
  have keys : ∀ us : List (α × Addr), ((us.map fun e => (nk e.1, e.2)).map Prod.fst) = (us.map Prod.fst).map nk := fun us => by rw [List.map_map, List.map_map]; rfl
  refine set_of_keys (P := X.prog) (w := X.w) (ps.map fun e => (nk e.1, e.2)) (I.ok.hd hc) pl.isList (show its.toArray.toList = _ from by rw [List.map_map]; exact e2) (fun e he => ?_) (fun M h1 h2 => ?_) (by omega) fun h' tk M es ep t S g k => ?_
  · obtain ⟨e', he', rfl⟩ := List.mem_map.mp he
    exact (e3 e' he').2
  · obtain ⟨us, rfl, h3⟩ := mem h2
    rw [keys] at h1
    rw [List.length_map, ← List.length_map (f := Prod.fst)]
    refine few _ (nodup_map nk h1) fun u hu => ?_
    obtain ⟨e, he, rfl⟩ := List.mem_map.mp hu
    rw [← e1]
    exact List.mem_map.mpr ⟨e, h3 e he, rfl⟩
  · obtain ⟨us, rfl, h3⟩ := mem fun e he => List.mem_of_mem_take (g.of e he)
    have once := S.once
    rw [keys] at once
    refine ⟨.ref s.heap.objs.size, upd H s.heap.objs.size (SetGO X.prog X.w s.heap.objs.size (us.map fun e => (nk e.1, e.2))), I.laid (t' := tk) k (Nat.le_refl _) (setGO_ok (setG0_of S)), rfl, q _ us hn (nodup_map nk once) (fun e he => (e3 e (h3 e he)).1) fun u => ⟨fun hu => ?_, fun hu => ?_⟩⟩
    · obtain ⟨e, he, rfl⟩ := List.mem_map.mp hu
      rw [← e1]
      exact List.mem_map.mpr ⟨e, h3 e he, rfl⟩
    · rw [← e1] at hu
      obtain ⟨e, he, rfl⟩ := List.mem_map.mp hu
      have z := g.all (nk e.1, e.2) (by rw [List.take_length]; exact List.mem_map.mpr ⟨e, he, rfl⟩)
      rw [keys] at z
      obtain ⟨u', hu', eq⟩ := List.mem_map.mp z
      rw [inj _ _ eq] at hu'
      exact hu'
/-- sorted(set) -/
def rSortS {α : Type} (P : Program) (w : World) (G : Hp → V → α → Prop) (nk : α → NestedKey) (d : α → PyData) : List V → Hp → VK → Prop := fun vs H Q => ∃ (a : Addr) (us : List (α × Addr)), vs = [.ref a] ∧ H a = some (SetGO P w a (us.map fun e => (nk e.1, e.2))) ∧ (us.map Prod.fst).Nodup ∧ (∀ e ∈ us, G H (.ref e.2) e.1) ∧
  ∀ (ys : List V) (m : List α) (p : Addr), Paired (G H) ys m → m.Perm (us.map Prod.fst) → RisG d m → H p = none → Q (.ref p) (upd H p (.lst ys))
theorem cr_sortS0 {α : Type} {G : Hp → V → α → Prop} {nk : α → NestedKey} {d : α → PyData} (hk : Kyd G nk) (hd : Dt X.K G d) (O : Ord d) (Y : Lay d) (tup : ∀ a, ∃ xs, d a = .tuple xs) (flat : ∀ (s : Shared) (H : Hp) (pins : List (Addr × Obj)) (σ : L2.St) (v : V) (u : Value) (z : α), Inv X pins σ H s → G H v z → RelV v u → Reads s.heap u (d z) [])
    (hc : X.calm = true) (hu : X.A.units + 64 < cLine) : CallR X (.builtin "sorted") (rSortS X.prog X.w G nk d) := by
  intro pins s σ H vs us0 Q I r h
  obtain ⟨a, us, rfl, ha, once, mem, q⟩ := h
  obtain rfl := Vals.ref1 r
  have S0 : SetG0 X.prog X.w s.heap a (us.map fun e => (nk e.1, e.2)) := (I.hok a _ ha).1
  have ky : ∀ e ∈ us, Ky X.prog X.w s.heap (nk e.1) e.2 := fun e he => by
    obtain ⟨c, e1, k⟩ := hk X pins σ H s _ _ I (mem e he)
    cases e1
    exact k
  obtain ⟨es, ep, t, S⟩ := S0.all fun e he => by
    obtain ⟨e', he', rfl⟩ := List.mem_map.mp he
    exact ky e' he'
  obtain ⟨o, ho, hex, hdt⟩ := S.obj
  have z0 := ent_size S.ent
  have z1 := S.sm
  refine PySem.Calls.call_function_entry kind_sorted plain_sorted entry_sorted (args_sorted1 _) ?_
  unfold Builtin.«sorted»
  refine wpAny_bind (m := checkCount "sorted" 1 1 _) (wpAny_pure ?_)
  refine wpAny_bind (collect_set (A := X.A.in1) (I.ok.hd hc) ⟨o, ho, hex.1, hdt⟩ S.fits (by unfold scanBound; omega) S.table.ris S.le fun s1 vs1 k1 hz g1 o1 pm => ?_)
  rw [S.ent, List.map_map, List.map_map] at pm
  obtain ⟨us1, pu, ev⟩ := perm_lift (fun e : α × Addr => Value.ref e.2) pm us rfl
  subst ev
  have lu : us1.length < 64 := by
    rw [pu.length_eq, ← List.length_map (f := fun e : α × Addr => (nk e.1, e.2))]
    exact z1
  refine wpAny_bind (wpAny_newList ?_ (by rw [List.length_map, sizeLine_eq]; omega))
  have hn : H s1.heap.objs.size = none := I.hok.fresh hz
  have eL : (s1.heap.push (seqObj "list" (us1.map fun e : α × Addr => Value.ref e.2).toArray 0)).get? s1.heap.objs.size = some (seqObj "list" (us1.map fun e : α × Addr => Value.ref e.2).toArray 0) := Heap.get?_push_size _ rfl
  have k2 : ∀ b u, s.heap.get? b = some u → (s1.heap.push (seqObj "list" (us1.map fun e : α × Addr => Value.ref e.2).toArray 0)).get? b = some u := fun b u e => Heap.get?_push_of_some _ (k1 b u e)
  have J : Inv X pins σ H { s with heap := s1.heap.push (seqObj "list" (us1.map fun e : α × Addr => Value.ref e.2).toArray 0), toks := s1.toks } := I.kept (t' := s1.toks) k2
  have each : ∀ l : List (α × Addr), (∀ e ∈ l, e ∈ us1) → PySem.W.EachIs (fun (u : Value) (e : α × Addr) => u = Value.ref e.2 ∧ G H (.ref e.2) e.1) (l.map fun e => Value.ref e.2) l := fun l => by
    induction l with
    | nil => exact fun _ => .nil
    | cons e l ih => exact fun hl => .cons ⟨rfl, mem e (pu.mem_iff.mp (hl e List.mem_cons_self))⟩ (ih fun x hx => hl x (List.mem_cons_of_mem _ hx))
  refine wpAny_bind (wpAny_holding (GS.list_sort_tuples (s := { s1 with heap := s1.heap.push (seqObj "list" (us1.map fun e : α × Addr => Value.ref e.2).toArray 0) }) (β := α × Addr) (enc := fun e => d e.1) (bs := us1) (R := fun (u : Value) (e : α × Addr) => u = Value.ref e.2 ∧ G H (.ref e.2) e.1) eL (each us1 fun _ h => h)
    ((each us1 fun _ h => h).mono fun u e ⟨h1, h2⟩ => ⟨[], (by have z := flat _ H pins σ (.ref e.2) u e.1 J h2 (by rw [h1]; rfl); exact z), fun h => nomatch h⟩) (PySem.W.AllAlike.of fun b b' => O.al _ _) (fun b => tup _) (by rw [sizeLine_eq]; omega) (fun b _ => by have := O.dp b.1; show X.A.units + 1 + 1 + _ < cLine; omega) fun out l1 eo => ?_))
  obtain ⟨c, hg⟩ := PyProof.Rows.sortedHeap_at (vs := us1.map fun e : α × Addr => Value.ref e.2) (out := out.toArray) eL
  have p2 : (us1.mergeSort (PySem.W.dataLe false fun e : α × Addr => d e.1)).Perm us1 := List.mergeSort_perm _ _
  have w2 : (us1.mergeSort (PySem.W.dataLe false fun e : α × Addr => d e.1)).Pairwise (fun e f => ltG d f.1 e.1 = false) := (sortG_pw (fun e : α × Addr => d e.1) us1).imp fun h => h
  generalize us1.mergeSort (PySem.W.dataLe false fun e : α × Addr => d e.1) = zs at eo p2 w2
  have p3 : zs.Perm us := p2.trans pu
  have look : ∀ {out : List Value} {zs : List (α × Addr)}, PySem.W.EachIs (fun (u : Value) (e : α × Addr) => u = Value.ref e.2 ∧ G H (.ref e.2) e.1) out zs → Vals (zs.map fun e => V.ref e.2) out ∧ Paired (G H) (zs.map fun e => V.ref e.2) (zs.map Prod.fst) := by
    intro out zs h
    induction h with
    | nil => exact ⟨.nil, .nil⟩
    | cons h t ih => exact ⟨.cons h.1 ih.1, .cons h.2 ih.2⟩
  obtain ⟨v1, v2⟩ := look eo
  have lz : (zs.map fun e : α × Addr => V.ref e.2).length ≤ sizeLine := by rw [List.length_map, p2.length_eq, sizeLine_eq]; omega
  have k3 : ∀ b u, s.heap.get? b = some u → (sortedHeap (s1.heap.push (seqObj "list" (us1.map fun e : α × Addr => Value.ref e.2).toArray 0)) s1.heap.objs.size (us1.map fun e : α × Addr => Value.ref e.2) out.toArray).get? b = some u := fun b u e => by
    have q1 := k1 b u e
    have lt := Heap.lt_size q1
    rw [sortedHeap_old (Nat.ne_of_lt lt) (by rw [size_push']; exact Nat.lt_succ_of_lt lt)]
    exact k2 b u e
  obtain ⟨h1, g2, d2, t2, o2⟩ := s1
  have g1 : g2 = s.gens := g1
  have o1 : o2 = s.os := o1
  subst g1 o1
  have J2 : Inv X pins σ (upd H h1.objs.size (.lst (zs.map fun e : α × Addr => V.ref e.2))) { s with heap := sortedHeap (h1.push (seqObj "list" (us1.map fun e : α × Addr => Value.ref e.2).toArray 0)) h1.objs.size (us1.map fun e : α × Addr => Value.ref e.2) out.toArray, drawn := d2, toks := t2 } :=
    I.call (ch := []) (Un.laid k3 hz hn) (I.hok.laid k3 hz ⟨lz, out, c, v1, hg⟩) I.bare (fun _ z => nomatch z)
  exact wpAny_pure ⟨_, rfl, .ref h1.objs.size, _, J2, rfl, q _ _ _ v2 (p3.map Prod.fst) (risG_of O Y.inj (List.pairwise_map.mpr w2) ((p3.map Prod.fst).nodup_iff.mpr once)) hn⟩
theorem cr_sortS {K : PySem.W.Frag} {α : Type} {G : Hp → V → α → Prop} {nk : α → NestedKey} {d : α → PyData} (hk : Kyd G nk) (hd : Dt K G d) (O : Ord d) (Y : Lay d) (tup : ∀ a, ∃ xs, d a = .tuple xs) (flat : ∀ (s : Shared) (H : Hp) (pins : List (Addr × Obj)) (σ : L2.St) (v : V) (u : Value) (z : α), Inv X pins σ H s → G H v z → RelV v u → Reads s.heap u (d z) [])
    (hc : X.calm = true) (hu : X.A.units + 64 < cLine) (hK : X.K = K := by rfl) : CallR X (.builtin "sorted") (rSortS X.prog X.w G nk d) := by
  subst hK
  exact cr_sortS0 hk hd O Y tup flat hc hu
theorem flat_nums {h : Heap} : ∀ {r : List Int} {us : List Value}, Vals (r.map V.int) us → ReadsAll h us (r.map PyData.int) []
  | [], _, .nil => .nil
  | i :: r, _, .cons x t => by
    obtain ⟨tk, rfl⟩ := x
    exact .cons (.int i tk) (flat_nums t)
variable {pins : List (Addr × Obj)} {σ : L2.St} {H : Hp} {s : Shared}
theorem flat1 (I : Inv X pins σ H s) {v : V} {r : List Int} {u : Value} (h : T1 H v r) (ru : RelV v u) : Reads s.heap u (d1 r) [] := by
  obtain ⟨c, xs, rfl, hc, p⟩ := h
  cases ru
  have e := fi_map p
  subst e
  obtain ⟨its, rv, ⟨o, ho, hcl, n, hd⟩, _⟩ := I.tuple (.inl hc)
  exact .tuple ho hcl hd (flat_nums rv)
theorem flat_rows (I : Inv X pins σ H s) : ∀ {xs : List V} {m : List (List Int)} {us : List Value}, Paired (T1 H) xs m → Vals xs us → ReadsAll s.heap us (m.map d1) []
  | _, _, _, .nil, h => by cases h; exact .nil
  | _, _, _, .cons a t, h => by
    cases h with
    | cons x q => exact .cons (flat1 I a x) (flat_rows I t q)
theorem flat2 (I : Inv X pins σ H s) {v : V} {m : List (List Int)} {u : Value} (h : T2 H v m) (ru : RelV v u) : Reads s.heap u (d2 m) [] := by
  obtain ⟨c, xs, rfl, hc, p⟩ := h
  cases ru
  obtain ⟨its, rv, ⟨o, ho, hcl, n, hd⟩, _⟩ := I.tuple (.inl hc)
  exact .tuple ho hcl hd (flat_rows I p rv)
end
/-- questions: set and sorted(set) -/
abbrev rSetQ (P : Program) (w : World) := rSetG P w T2 nk2
abbrev rSortQ (P : Program) (w : World) := rSortS P w T2 nk2 d2
section
variable {X : Cx}
theorem cr_setQ (hc : X.calm = true) (hu : X.A.units + 64 < cLine) : CallR X (.type "set") (rSetQ X.prog X.w) := cr_setG kyd2 (fun _ _ => nk2_inj) hc hu
theorem cr_sortQ {K : PySem.W.Frag} (hc : X.calm = true) (hu : X.A.units + 64 < cLine) (hK : X.K = K := by rfl) : CallR X (.builtin "sorted") (rSortQ X.prog X.w) :=
  cr_sortS (K := K) kyd2 dt2 ord2 lay2 (fun a => ⟨_, rfl⟩) (fun s H pins σ v u z I h ru => flat2 I h ru) hc hu hK
end
end PU

set_option maxRecDepth 100000
set_option maxHeartbeats 4000000
/-! dicts whose keys are data with such keys -/
namespace PU
open PySem PySem.Spec PyProof.Rows L2 GS WU
/-- the dict at a, but for what its keys are -/
structure DicN0 (P : Program) (w : World) (h : Heap) (a : Addr) (M : List (NestedKey × Addr × V)) : Prop where
  ex : ∃ (xs : List (NestedKey × Addr × Value)) (o : Obj) (es : Array DictEntry) (ep : Nat), h.get? a = some o ∧ o.ExactDict ∧ o.data = .dict es ep ∧ es.toList = xs.map (entryOfKey (nestedKind P w)) ∧ Paired (fun (m : NestedKey × Addr × V) (x : NestedKey × Addr × Value) => x.1 = m.1 ∧ x.2.1 = m.2.1 ∧ RelV m.2.2 x.2.2) M xs
  once : (M.map Prod.fst).Nodup
  few : M.length < 100000
def DicNO (P : Program) (w : World) (a : Addr) (M : List (NestedKey × Addr × V)) : HO := .ext fun h => DicN0 P w h a M
theorem dicNO_ok {P : Program} {w : World} {H : Hp} {h : Heap} {a : Addr} {M : List (NestedKey × Addr × V)} (R : DicN0 P w h a M) : ObjOk P w H h a (DicNO P w a M) := by
  obtain ⟨xs, o, es, ep, ho, _⟩ := id R.ex
  refine ⟨R, ⟨o, ho⟩, fun h1 h2 p k => ?_⟩
  have p : DicN0 P w h1 a M := p
  obtain ⟨xs', o', es', ep', ho', r⟩ := p.ex
  exact ⟨⟨xs', o', es', ep', k o' ho', r⟩, p.once, p.few⟩
theorem same_keys : ∀ {M : List (NestedKey × Addr × V)} {xs : List (NestedKey × Addr × Value)}, Paired (fun (m : NestedKey × Addr × V) (x : NestedKey × Addr × Value) => x.1 = m.1 ∧ x.2.1 = m.2.1 ∧ RelV m.2.2 x.2.2) M xs → xs.map (·.1) = M.map Prod.fst
  | _, _, .nil => rfl
  | _, _, .cons h t => by rw [List.map_cons, List.map_cons, same_keys t, h.1]
theorem DicN0.whole {P : Program} {w : World} {h : Heap} {a : Addr} {M : List (NestedKey × Addr × V)} (R : DicN0 P w h a M) (keys : ∀ m ∈ M, (nestedKind P w).is h m.1 m.2.1) :
    ∃ xs, h.DictOfH (nestedKind P w) a xs ∧ Paired (fun (m : NestedKey × Addr × V) (x : NestedKey × Addr × Value) => x.1 = m.1 ∧ x.2.1 = m.2.1 ∧ RelV m.2.2 x.2.2) M xs := by
  obtain ⟨xs, o, es, ep, c1, c2, c3, c4, c5⟩ := R.ex
  refine ⟨xs, ⟨o, es, ep, c1, c2, c3, c4, ?_, by rw [same_keys c5]; exact R.once⟩, c5⟩
  intro x hx
  obtain ⟨i, hi⟩ := List.mem_iff_getElem?.mp hx
  obtain ⟨m, hm, e1, e2, _⟩ := paired_of c5 hi
  rw [e1, e2]
  exact keys m (List.mem_of_getElem? hm)
theorem dicN_of {P : Program} {w : World} {h : Heap} {a : Addr} {M : List (NestedKey × Addr × V)} {xs : List (NestedKey × Addr × Value)} (d : h.DictOfH (nestedKind P w) a xs) (p : Paired (fun (m : NestedKey × Addr × V) (x : NestedKey × Addr × Value) => x.1 = m.1 ∧ x.2.1 = m.2.1 ∧ RelV m.2.2 x.2.2) M xs) (few : M.length < 100000) : DicN0 P w h a M := by
  obtain ⟨o, es, ep, c1, c2, c3, c4, _, c6⟩ := d
  exact ⟨⟨xs, o, es, ep, c1, c2, c3, c4, p⟩, by rw [← same_keys p]; exact c6, few⟩
/-- d[k] -/
def rGetN {α : Type} (P : Program) (w : World) (G : Hp → V → α → Prop) (nk : α → NestedKey) : R2 := fun x y H Q => ∃ (a : Addr) (ms : List (α × Addr × V)) (z : α) (i : Nat) (c : Addr) (v : V), x = .ref a ∧ H a = some (DicNO P w a (ms.map fun m => (nk m.1, m.2))) ∧ (∀ m ∈ ms, G H (.ref m.2.1) m.1) ∧ G H y z ∧ ms[i]? = some (z, c, v) ∧ Q v H
section
variable {X : Cx}
theorem keys_in {α : Type} {G : Hp → V → α → Prop} {nk : α → NestedKey} (hk : Kyd G nk) {pins : List (Addr × Obj)} {σ : L2.St} {H : Hp} {s : Shared} (I : Inv X pins σ H s) {ms : List (α × Addr × V)} (mem : ∀ m ∈ ms, G H (.ref m.2.1) m.1) :
    ∀ m ∈ ms.map (fun m => (nk m.1, m.2)), (nestedKind X.prog X.w).is s.heap m.1 m.2.1 := fun m hm => by
  obtain ⟨m', hm', rfl⟩ := List.mem_map.mp hm
  obtain ⟨c, e, k⟩ := hk X pins σ H s _ _ I (mem m' hm')
  cases e
  exact k.nk
theorem ix_dicN {α : Type} {G : Hp → V → α → Prop} {nk : α → NestedKey} (hk : Kyd G nk) (hu : X.A.units + 64 < cLine) : IxR X (rGetN X.prog X.w G nk) := by
  intro value slice pins s σ H x y v u Q I rx ry h hs
  obtain ⟨a, ms, z, i, c, t, rfl, ha, mem, hz, hi, q⟩ := h
  cases rx
  obtain ⟨c', ey, k⟩ := hk X pins σ H s _ _ I hz
  subst ey
  cases ry
  have D0 : DicN0 X.prog X.w s.heap a (ms.map fun m => (nk m.1, m.2)) := (I.hok a _ ha).1
  obtain ⟨xs, D, p⟩ := D0.whole (keys_in hk I mem)
  have hm : (ms.map fun m => (nk m.1, m.2))[i]? = some (nk z, c, t) := by rw [List.getElem?_map, hi]; rfl
  obtain ⟨x, hx, e1, e2, rv⟩ := paired_at p hm
  obtain ⟨x1, x2, x3⟩ := x
  have e1 : x1 = nk z := e1
  subst e1
  obtain ⟨_, _, _, _, _, _, _, _, nd⟩ := id D
  refine tail_any (ops := [.ref a, .ref c']) D.typeIs slot_dict_getitem.lookup (wpAny_getItem_heap (knd := nestedKind X.prog X.w) (show X.A.units + 1 + 8 < cLine by omega) k.nk D (atKey_of_get nd hx) ⟨t, H, I.tok _, rv, q⟩) hs
/-- d[k] = v, k new, in the dict at D that is built -/
theorem put_dicN {α : Type} {G : Hp → V → α → Prop} {nk : α → NestedKey} (hk : Kyd G nk) (inj : ∀ a b, nk a = nk b → a = b) (hu : X.A.units + 64 < cLine) {pins : List (Addr × Obj)} {σ : L2.St} {H : Hp} {s : Shared} {E : Value → Shared → Prop} {D : Addr} {ms : List (α × Addr × V)} {z : α} {c : Addr} {v : V} {u : Value}
    {Q : Unit → Shared → Prop} (I : Inv X pins σ H s) (hD : H D = some (DicNO X.prog X.w D (ms.map fun m => (nk m.1, m.2)))) (mem : ∀ m ∈ ms, G H (.ref m.2.1) m.1) (hz : G H (.ref c) z) (fresh : z ∉ ms.map Prod.fst) (few : ms.length < 99999) (rv : RelV v u)
    (q : ∀ s', Inv X pins σ (upd H D (DicNO X.prog X.w D ((ms ++ [(z, c, v)]).map fun m => (nk m.1, m.2)))) s' → Q () s') : wpAny (model X.prog X.w) X.A (dictSet D (.ref c) u) Q E s := by
  have D0 : DicN0 X.prog X.w s.heap D (ms.map fun m => (nk m.1, m.2)) := (I.hok D _ hD).1
  obtain ⟨xs, dict, p⟩ := D0.whole (keys_in hk I mem)
  obtain ⟨c', e, k⟩ := hk X pins σ H s _ _ I hz
  cases e
  have lx := paired_len p
  rw [List.length_map] at lx
  have no : nk z ∉ xs.map (·.1) := fun h => by
    rw [same_keys p, List.map_map] at h
    obtain ⟨m, hm, e⟩ := List.mem_map.mp h
    exact fresh (List.mem_map.mpr ⟨m, hm, inj _ _ e⟩)
  have none_ : atKey xs (nk z) = none := atKey_none_of_get fun j pq hj => no (List.mem_map.mpr ⟨_, List.mem_of_getElem? hj, rfl⟩)
  refine wpAny_dictSet_heap (knd := nestedKind X.prog X.w) (show X.A.units + 8 < cLine by omega) k.nk dict (fun h' d' sb => q _ ?_) (by rw [sizeLine_eq]; omega)
  rw [storedH_new none_] at d'
  have R' : DicN0 X.prog X.w h' D ((ms ++ [(z, c, v)]).map fun m => (nk m.1, m.2)) := dicN_of d' (by rw [List.map_append]; exact paired_app p (.cons ⟨rfl, rfl, rv⟩ .nil)) (by rw [List.length_map, List.length_append, List.length_singleton]; omega)
  obtain ⟨_, o, _, _, ho, _⟩ := R'.ex
  exact d_write I (by rw [hD]; exact True.intro) sb ⟨o, ho⟩ (dicNO_ok R')
end
end PU

set_option maxRecDepth 100000
set_option maxHeartbeats 4000000
/-! {k: v for ..} whose keys are data with such keys, each new -/
namespace PU
open PySem PySem.Spec PyProof.Rows L2 GS WU
/-- the reading: D is the new dict -/
def tDcN {α : Type} (P : Program) (w : World) (G : Hp → V → α → Prop) (nk : α → NestedKey) (wi : TI) (g : TG) (tk tv : TE) (vs : List Nat) : TE := fun σ H Q => wi σ H fun J H1 => ∀ D, H1 D = none → ∃ W : Nat → Nat → Hp → Prop, (∃ m, W 0 m (upd H1 D (DicNO P w D []))) ∧ ∀ i m H2, W i m H2 →
  (J.stop i H2 ∧ Q (.ref D) H2) ∨ (J.go i H2 ∧ ∃ Nx : Hp → Prop, (∀ H', Nx H' → ∃ m', m' < m ∧ W (i + 1) m' H') ∧ ∀ x H', J.yld i H2 x H' → g x (wipe σ vs) H' fun σ2 H3 => wipe σ2 vs = wipe σ vs ∧ tk σ2 H3 fun y H4 => tv σ2 H4 fun t H5 =>
    ∃ (ms : List (α × Addr × V)) (z : α) (c : Addr), y = .ref c ∧ H5 D = some (DicNO P w D (ms.map fun m => (nk m.1, m.2))) ∧ (∀ m ∈ ms, G H5 (.ref m.2.1) m.1) ∧ G H5 (.ref c) z ∧ z ∉ ms.map Prod.fst ∧ ms.length < 99999 ∧ Nx (upd H5 D (DicNO P w D ((ms ++ [(z, c, t)]).map fun m => (nk m.1, m.2)))))
theorem dicN_nil {P : Program} {w : World} {h : Heap} : DicN0 P w (h.push { cls := .type "dict", data := .dict #[] }) h.objs.size [] := dicN_of (Heap.DictOfH.new h) .nil (by decide)
section
variable {X : Cx} {α : Type} {G : Hp → V → α → Prop} {nk : α → NestedKey}
theorem pe_dcN (hk : Kyd G nk) (inj : ∀ a b, nk a = nk b → a = b) (hu : X.A.units + 64 < cLine) {kx vx tg iter : Expr} {scope : Scope} {own : List (Str × Nat)} {pos : Pos} {wi : TI} {g : TG} {tk tv : TE} (calm : X.calm = true) (hN : X.N.Nodup) (hi : PI X tg iter wi) (ok : BlkOk X.N X.env.scope scope own)
    (hg : ∀ (s : Shared) (H : Hp) (C : Addr) (cl : List (Str × Addr)) (fp : List Addr), PG (X.blk s H scope (compEnvC scope cl C X.env) fp) tg g)
    (hkx : ∀ (s : Shared) (H : Hp) (C : Addr) (cl : List (Str × Addr)) (fp : List Addr), PE (X.blk s H scope (compEnvC scope cl C X.env) fp) kx tk)
    (hvx : ∀ (s : Shared) (H : Hp) (C : Addr) (cl : List (Str × Addr)) (fp : List Addr), PE (X.blk s H scope (compEnvC scope cl C X.env) fp) vx tv) (hs : ∀ x, foldedSetIterable iter X.env x = pure x := by intro _; rfl) :
    PE X (.DictComp kx vx [⟨tg, iter, [], 0⟩] scope pos) (tDcN X.prog X.w G nk wi g tk tv (own.map (·.2))) := by
  refine ⟨fun pins s σ H Q I h => ?_⟩
  rw [arm_eval_DictComp]
  have reach : ∀ y ∈ scope.names, y.2 = .free → ∃ c, X.env.cells.lookup y.1 = some c := fun y hy e => (ok.free y hy e).elim (fun z => I.ok.has _ (.inl z)) fun z => I.ok.has _ (.inr z)
  refine wpAny_comprehension_free rfl hs (closure_ok reach) ok.kind (fun y hy e => by rw [ok.uniq y hy, e]) (thn (hi.run pins s σ H _ I h) fun _ s1 h1 => thn h1 fun _ s2 ⟨it, fp, tn, J, H2, e2, I2, T, st2, off2, q⟩ => ?_)
  subst e2
  refine wpAny_newObj_type (newEnv_comp ?_)
  generalize eD : s2.heap.objs.size = D
  have nD : H2 D = none := I2.hok.fresh (Nat.le_of_eq eD)
  obtain ⟨W, ⟨m0, w0⟩, turn⟩ := q D nD
  generalize es3 : ({ s2 with heap := s2.heap.push { cls := .type "dict", data := .dict #[] } } : Shared) = s3
  have I3 : Inv X pins σ (upd H2 D (DicNO X.prog X.w D [])) s3 := by
    rw [← es3]
    refine I2.laid (t' := s2.toks) (fun b o e => Heap.get?_push_of_some _ e) (Nat.le_of_eq eD) ?_
    rw [← eD]
    exact dicNO_ok dicN_nil
  have eh3 : s3.heap = s2.heap.push { cls := .type "dict", data := .dict #[] } := by rw [← es3]
  have on3 : ∀ b o, s2.heap.get? b = some o → s3.heap.get? b = some o := fun b o e => by rw [eh3]; exact Heap.get?_push_of_some _ e
  have lo : ∀ b ∈ fp, b < s2.heap.objs.size := fun b hb => let ⟨_, e, _⟩ := T.obj _ _ st2 b hb; Heap.lt_size e
  have off3 : ∀ b ∈ fp, FpOk X pins (upd H2 D (DicNO X.prog X.w D [])) b ∧ b < s3.heap.objs.size := fun b hb => by
    have l := lo b hb
    refine ⟨⟨?_, (off2 b hb).2⟩, by rw [eh3, Heap.size_push]; exact Nat.lt_succ_of_lt l⟩
    rw [upd_ne (by rw [← eD]; exact Nat.ne_of_lt l)]
    exact (off2 b hb).1
  have st3 : tn 0 s3.heap := T.keep _ _ _ st2 fun b _ o e => on3 b o e
  have I4 := block_start I3 ok hN off3
  have pg := hg s3 (upd H2 D (DicNO X.prog X.w D [])) s3.heap.objs.size (cellsFrom (s3.heap.objs.size + 1) scope.names (cloFrom X.env.cells scope.names [])) fp
  have pk := hkx s3 (upd H2 D (DicNO X.prog X.w D [])) s3.heap.objs.size (cellsFrom (s3.heap.objs.size + 1) scope.names (cloFrom X.env.cells scope.names [])) fp
  have pv := hvx s3 (upd H2 D (DicNO X.prog X.w D [])) s3.heap.objs.size (cellsFrom (s3.heap.objs.size + 1) scope.names (cloFrom X.env.cells scope.names [])) fp
  show codeAny _ _ (.compStart (.DictComp kx vx [⟨tg, iter, [], 0⟩] scope pos) 0 (.ref it) (.ref D) (compEnvC scope (cellsFrom (s3.heap.objs.size + 1) scope.names (cloFrom X.env.cells scope.names [])) s3.heap.objs.size X.env)) (compPost (model X.prog X.w) X.A X.xe none (EP X pins σ Q) (.ref D) s3.heap.objs.size) { s3 with heap := pushCells (s3.heap.push { cls := .type "dict", data := .dict #[] }) scope.names }
  have gone3 : ∀ b ∈ fp, (upd H2 D (DicNO X.prog X.w D [])) b = none := fun b hb => (off3 b hb).1.1
  generalize ece : compEnvC scope (cellsFrom (s3.heap.objs.size + 1) scope.names (cloFrom X.env.cells scope.names [])) s3.heap.objs.size X.env = ce at I4 pg pk pv ⊢
  have ceL : ce.locals = s3.heap.objs.size := by rw [← ece]; rfl
  generalize upd H2 D (DicNO X.prog X.w D []) = H3 at I3 I4 pg pk pv w0 gone3 off3
  generalize es4 : ({ s3 with heap := pushCells (s3.heap.push { cls := .type "dict", data := .dict #[] }) scope.names } : Shared) = s4 at I4 ⊢
  have st4 : tn 0 s4.heap := T.keep _ _ _ st3 fun b _ o e => by rw [← es4]; exact pushCells_keeps _ _ _ _ (Heap.get?_push_of_some _ e)
  have again : ∀ {σ' : L2.St} {H' : Hp} {s' : Shared}, Inv (X.blk s3 H3 scope ce fp) [] σ' H' s' → (∀ b ∈ fp, H' b = none) → ∀ b ∈ fp, FpOk (X.blk s3 H3 scope ce fp) [] H' b := fun {σ' H' s'} I' n b hb =>
    ⟨n b hb, (I'.ok.exf b hb).1, I'.ok.exfs b hb, .inl hb, fun x c e => (I'.ok.exf b hb).2 x c e, fun p hp => absurd (show p ∈ ([] : List (Addr × Obj)) ++ [] from hp) (by simp)⟩
  have loop : codeAny (model X.prog X.w) X.A (.compLoop (.DictComp kx vx [⟨tg, iter, [], 0⟩] scope pos) 0 (.ref it) (.ref D) ce) (compPost (model X.prog X.w) X.A X.xe none (EP X pins σ Q) (.ref D) s3.heap.objs.size) s4 := by
    refine compLoop_anyD (fun n s' => ∃ i H', Inv (X.blk s3 H3 scope ce fp) [] (wipe σ (own.map (·.2))) H' s' ∧ tn i s'.heap ∧ (∀ b ∈ fp, H' b = none) ∧ W i n H') ?_ m0 ⟨0, H3, I4, st4, gone3, w0⟩
    rintro n s5 ⟨i, H5, I5, st5, n5, w5⟩
    rcases turn i n H5 w5 with ⟨stop, fin⟩ | ⟨go, Nx, next, step⟩
    · refine thnF (T.done (X.blk s3 H3 scope ce fp) rfl rfl rfl calm i [] s5 _ H5 (fun _ _ => False) I5 (again I5 n5) st5 stop) fun r s6 ⟨er, I6⟩ => ?_
      subst er
      have I7 : Inv X pins σ H5 s6 := I3.call' (ch := fp) I6.os I6.base I6.hok I6.bare fun b hb => let f := (off3 b hb).1; ⟨f.2.2.2.1, f.2.1, f.2.2.2.2.1, f.2.2.2.2.2⟩
      have nC : H5 s3.heap.objs.size = none := by
        rw [← ceL]
        exact I6.free
      obtain ⟨m, ns, _⟩ := I6.loc
      have ns : s6.heap.Ns s3.heap.objs.size m := by
        rw [← ceL]
        exact ns
      refine ⟨m, ns, fun h' sb => ?_⟩
      obtain ⟨f0, f1, f2, f3, f4, f5⟩ := I3.fpOk (Nat.le_refl _) nC
      exact ⟨.ref D, H5, I7.turned (t' := s6.toks) (fun b o hb e => (sb.2 b hb).trans e) f0 f1 f3 f4 f5, rfl, fin⟩
    · refine thnF (T.item (X.blk s3 H3 scope ce fp) rfl rfl rfl calm i [] s5 _ H5 (fun _ _ => False) I5 (again I5 n5) st5 go) fun r s6 ⟨u, er, h6⟩ => ?_
      subst er
      refine thnF h6 fun _ s7 ⟨x, H7, I7, r7, y7, st7, n7⟩ => ?_
      refine thnF (pg.run _ s7 _ H7 x u _ (I7.pinned (again I7 n7) (T.obj _ _ st7)) r7 (step x H7 y7)) fun _ s8 ⟨σ8, H8, I8, ew8, q8⟩ => ?_
      refine wpAny_mono (Q := fun b s' => b = true ∧ s' = s8) (wpAny_pure ⟨rfl, rfl⟩) (fun b s9 ⟨eb, e9⟩ => ?_) fun _ _ z => z
      subst eb e9
      rw [if_pos rfl]
      refine thnF (pk.run _ s9 σ8 H8 _ I8 q8) fun _ s10 ⟨y, H10, I10, r10, q10⟩ => ?_
      refine thnF (pv.run _ s10 σ8 H10 _ I10 q10) fun vu s11 ⟨t, H11, I11, r11, ms, z, c, ey, eD11, mem, hz, fresh, few, nx⟩ => ?_
      subst ey
      cases r10
      refine put_dicN (X := X.blk s3 H3 scope ce fp) hk inj hu I11 eD11 mem hz fresh few r11 fun s12 I12 => ?_
      obtain ⟨m', lm, w'⟩ := next _ nx
      have pin : ∀ b ∈ fp, ∀ o, s7.heap.get? b = some o → s12.heap.get? b = some o ∧ (upd H11 D (DicNO X.prog X.w D ((ms ++ [(z, c, t)]).map fun m => (nk m.1, m.2)))) b = none := fun b hb o e =>
        let p := I12.pin (b, o) (List.mem_append_right _ (List.mem_append_right _ (mem_pinsAt hb e)))
        ⟨p.1, p.2.1⟩
      refine ⟨m', lm, i + 1, _, (I12.unpinned (pins := [])).weak (by rw [← ew8, wipe_length]) (fun j v e => ?_), T.keep _ _ _ st7 fun b hb o e => (pin b hb o e).1, fun b hb => ?_, w'⟩
      · rw [← ew8] at e
        exact (wipe_some e).1
      · obtain ⟨o, e, _⟩ := T.obj _ _ st7 b hb
        exact (pin b hb o e).2
  exact codeAny_compStart_dict loop (T.self X.A 0 _ _ _ st4 loop)
end
end PU

set_option maxRecDepth 100000
set_option maxHeartbeats 8000000
/-! sorted(set(questions)), dicts by questions, as trees -/
namespace PU
open PySem PySem.Spec PyProof.Rows L2 GS WU
abbrev Mx := List (List Int)
theorem rep_ints {K : PySem.W.Frag} {G : Hp} : ∀ {xs : List V} {r : List Int}, RepAll K G xs (r.map D.int) → Paired (FI G) xs r
  | _, [], .nil => .nil
  | _, _ :: _, .cons h t => .cons (rep_int h) (rep_ints t)
theorem rep_T1 {K : PySem.W.Frag} {G : Hp} {v : V} {r : List Int} (h : Rep K G v (tI r)) : T1 G v r := by
  obtain ⟨c, xs, rfl, hc, ra⟩ := rep_tup h
  exact ⟨c, xs, rfl, hc, rep_ints ra⟩
theorem rep_rows {K : PySem.W.Frag} {G : Hp} : ∀ {xs : List V} {m : Mx}, RepAll K G xs (m.map tI) → Paired (T1 G) xs m
  | _, [], .nil => .nil
  | _, _ :: _, .cons h t => .cons (rep_T1 h) (rep_rows t)
theorem rep_T2 {K : PySem.W.Frag} {G : Hp} {v : V} {m : Mx} (h : Rep K G v (tM m)) : T2 G v m := by
  obtain ⟨c, xs, rfl, hc, ra⟩ := rep_tup h
  exact ⟨c, xs, rfl, hc, rep_rows ra⟩
theorem ints_rep' {K : PySem.W.Frag} {G : Hp} : ∀ {xs : List V} {r : List Int}, Paired (FI G) xs r → RepAll K G xs (r.map D.int)
  | _, _, .nil => .nil
  | _, _, .cons h t => by
    have e : _ = V.int _ := h
    subst e
    exact .cons (.int _) (ints_rep' t)
theorem T1_rep {K : PySem.W.Frag} {G : Hp} {v : V} {r : List Int} (h : T1 G v r) : Rep K G v (tI r) := by
  obtain ⟨c, xs, rfl, hc, p⟩ := h
  exact .tup hc (ints_rep' p)
theorem rows_rep {K : PySem.W.Frag} {G : Hp} : ∀ {xs : List V} {m : Mx}, Paired (T1 G) xs m → RepAll K G xs (m.map tI)
  | _, _, .nil => .nil
  | _, _, .cons h t => .cons (T1_rep h) (rows_rep t)
theorem T2_rep {K : PySem.W.Frag} {G : Hp} {v : V} {m : Mx} (h : T2 G v m) : Rep K G v (tM m) := by
  obtain ⟨c, xs, rfl, hc, p⟩ := h
  exact .tup hc (rows_rep p)
theorem T1_le {G H : Hp} (l : Le G H) {v : V} {r : List Int} (h : T1 G v r) : T1 H v r := by
  obtain ⟨c, xs, e, hc, p⟩ := h
  exact ⟨c, xs, e, l.rd hc, p⟩
theorem T2_le {G H : Hp} (l : Le G H) {v : V} {m : Mx} (h : T2 G v m) : T2 H v m := by
  obtain ⟨c, xs, e, hc, p⟩ := h
  exact ⟨c, xs, e, Le.rd l hc, paired_mono (fun _ _ q => T1_le l q) p⟩
/-- questions by what is frozen -/
def Gp (G0 : Hp) : Hp → V → Mx → Prop := fun H v q => Le G0 H ∧ T2 G0 v q
theorem kydP (G0 : Hp) : Kyd (Gp G0) nk2 := fun X pins σ H s v z I h => kyd2 X pins σ H s v z I (T2_le h.1 h.2)
theorem dtP {K : PySem.W.Frag} (G0 : Hp) : Dt K (Gp G0) d2 := fun H v z h => dt2 H v z (T2_le h.1 h.2)
def rSetE (P : Program) (w : World) : List V → Hp → VK → Prop := fun vs H Q => ∃ G0, rSetG P w (Gp G0) nk2 vs H Q
def rSortE (P : Program) (w : World) : List V → Hp → VK → Prop := fun vs H Q => ∃ G0, rSortS P w (Gp G0) nk2 d2 vs H Q
section
variable {X : Cx} {P : Program} {w : World}
theorem cr_setE (hc : X.calm = true) (hu : X.A.units + 64 < cLine) (hP : X.prog = P := by rfl) (hw : X.w = w := by rfl) : CallR X (.type "set") (rSetE P w) := by
  subst hP hw
  rintro pins s σ H vs us Q I r ⟨G0, h⟩
  exact cr_setG (kydP G0) (fun _ _ => nk2_inj) hc hu pins s σ H vs us Q I r h
theorem cr_sortE (hc : X.calm = true) (hu : X.A.units + 64 < cLine) (hP : X.prog = P := by rfl) (hw : X.w = w := by rfl) : CallR X (.builtin "sorted") (rSortE P w) := by
  subst hP hw
  rintro pins s σ H vs us Q I r ⟨G0, h⟩
  exact cr_sortS0 (kydP G0) (dtP G0) ord2 lay2 (fun a => ⟨_, rfl⟩) (fun s H pins σ v u z I h ru => flat2 I (T2_le h.1 h.2) ru) hc hu pins s σ H vs us Q I r h
theorem ix_dicE (hu : X.A.units + 64 < cLine) (hP : X.prog = P := by rfl) (hw : X.w = w := by rfl) : IxR X (rGetN P w T2 nk2) := by
  subst hP hw
  exact ix_dicN kyd2 hu
theorem pe_dcE {kx vx tg iter : Expr} {scope : Scope} {own : List (Str × Nat)} {pos : Pos} {wi : TI} {g : TG} {tk tv : TE} (hu : X.A.units + 64 < cLine) (calm : X.calm = true) (hN : X.N.Nodup) (hi : PI X tg iter wi) (ok : BlkOk X.N X.env.scope scope own)
    (h1 : ∀ (s : Shared) (H : Hp) (C : Addr) (cl : List (Str × Addr)) (fp : List Addr), PG (X.blk s H scope (compEnvC scope cl C X.env) fp) tg g)
    (h2 : ∀ (s : Shared) (H : Hp) (C : Addr) (cl : List (Str × Addr)) (fp : List Addr), PE (X.blk s H scope (compEnvC scope cl C X.env) fp) kx tk)
    (h3 : ∀ (s : Shared) (H : Hp) (C : Addr) (cl : List (Str × Addr)) (fp : List Addr), PE (X.blk s H scope (compEnvC scope cl C X.env) fp) vx tv) (hs : ∀ x, foldedSetIterable iter X.env x = pure x := by intro _; rfl) (hP : X.prog = P := by rfl) (hw : X.w = w := by rfl) :
    PE X (.DictComp kx vx [⟨tg, iter, [], 0⟩] scope pos) (tDcN P w T2 nk2 wi g tk tv (own.map (·.2))) := by
  subst hP hw
  exact pe_dcN kyd2 (fun _ _ => nk2_inj) hu calm hN hi ok h1 h2 h3 hs
end
/-- rs: the members of qs once, rising -/
def IsQs (rs qs : List Mx) : Prop := RisG d2 rs ∧ ∀ q, q ∈ rs ↔ q ∈ qs
def Few64 (qs : List Mx) : Prop := ∀ us : List Mx, us.Nodup → (∀ u ∈ us, u ∈ qs) → us.length < 64
def wSortSet (a : WEx) : WEx := fun ρ M k e => a ρ M (fun v M1 => ∃ qs : List Mx, lv M1 v = some (qs.map tM) ∧ Few64 qs ∧ ∀ rs, IsQs rs qs → k (.d (.lst (rs.map tM))) M1) e
theorem qs_paired {K : PySem.W.Frag} {G : Hp} : ∀ {xs : List V} {qs : List Mx}, RepAll K G xs (qs.map tM) → Paired (T2 G) xs qs
  | _, [], .nil => .nil
  | _, _ :: _, .cons h t => .cons (rep_T2 h) (qs_paired t)
theorem qs_rep {K : PySem.W.Frag} {G : Hp} : ∀ {xs : List V} {qs : List Mx}, Paired (T2 G) xs qs → RepAll K G xs (qs.map tM)
  | _, _, .nil => .nil
  | _, _, .cons h t => .cons (T2_rep h) (qs_rep t)
section
variable {K : PySem.W.Frag} {Wx : WX} {P : Program} {w : World}
instance {t : TE} {a : WEx} [A : SE K Wx t a] : SE K Wx (tCB (rSortE P w) (tCons (tCB (rSetE P w) (tCons t tNil)) tNil)) (wSortSet a) where
  mono := fun hk he h => A.mono (fun _ _ ⟨qs, h1, h2, q⟩ => ⟨qs, h1, h2, fun rs r => hk _ _ (q rs r)⟩) he h
  ok := fun S s h => A.ok S s (A.mono (fun v M1 ⟨qs, h1, h2, q⟩ G1 L1 H1 x e1 S1 r1 => by
    obtain ⟨l, xs, rfl, hl, ra⟩ := lv_at S1 r1 h1
    refine ⟨G1, l, xs, qs, rfl, hl, paired_mono (fun _ _ z => ⟨S1.le, z⟩) (qs_paired ra), h2, fun a us ha once mem all => ?_⟩
    obtain ⟨S2, e2⟩ := S1.junk (o := SetGO P w a (us.map fun e => (nk2 e.1, e.2))) ha
    refine ⟨G1, a, us, rfl, upd_same, once, fun e he => ⟨S2.le, (mem e he).2⟩, fun ys m p hp perm ris hn => ?_⟩
    obtain ⟨S3, e3⟩ := S2.new (o := .lst ys) hn
    refine q m ⟨ris, fun u => ?_⟩ _ _ _ _ ((e1.trans e2).trans e3) S3 (.lst upd_same (RepAll.mono e3.g (qs_rep (paired_mono (fun _ _ z => z.2) hp))))
    rw [← all u]
    exact perm.mem_iff) (fun _ _ _ z => z) h)
/-! ### dicts by questions -/
abbrev dicQ (P : Program) (w : World) (kvs : List (Mx × D)) : D := .dic (DicNO P w) (kvs.map fun p => (tM p.1, p.2))
theorem nkI : ∀ r : List Int, nkAll (r.map D.int) = some (r.map .num)
  | [] => rfl
  | i :: r => by
    rw [List.map_cons, nkAll, nkI r]
    rfl
theorem nkR : ∀ m : Mx, nkAll (m.map tI) = some (m.map nk1)
  | [] => rfl
  | r :: m => by
    have e : nkD (tI r) = some (nk1 r) := by
      show (nkAll (r.map D.int)).map NestedKey.tup = _
      rw [nkI]
      rfl
    rw [List.map_cons, nkAll, nkR m, e]
    rfl
theorem nkM (m : Mx) : nkD (tM m) = some (nk2 m) := by
  show (nkAll (m.map tI)).map NestedKey.tup = _
  rw [nkR]
  rfl
/-- the entries of such a dict -/
theorem kv_at {G : Hp} : ∀ {ms : List (NestedKey × Addr × V)} {kvs : List (Mx × D)}, RepKv K G ms (kvs.map fun p => (tM p.1, p.2)) → ∃ es : List (Mx × Addr × V), ms = (es.map fun m => (nk2 m.1, m.2)) ∧ Paired (fun (m : Mx × Addr × V) (p : Mx × D) => m.1 = p.1 ∧ T2 G (.ref m.2.1) m.1 ∧ Rep K G m.2.2 p.2) es kvs
  | _, [], .nil => ⟨[], rfl, .nil⟩
  | _, (q, d) :: kvs, .cons (k := k) (c := c) (v := v) e h1 h2 t => by
    obtain ⟨es, rfl, p⟩ := kv_at t
    rw [nkM] at e
    cases e
    exact ⟨(q, c, v) :: es, rfl, .cons ⟨rfl, rep_T2 h1, h2⟩ p⟩
def wIxDic (P : Program) (w : World) (a b : WEx) : WEx := fun ρ M k e => a ρ M (fun x M1 => b ρ M1 (fun y M2 => ∃ (kvs : List (Mx × D)) (q : Mx) (d : D) (i : Nat), x = .d (dicQ P w kvs) ∧ y = .d (tM q) ∧ kvs[i]? = some (q, d) ∧ k (.d d) M2) e) e
instance {t u : TE} {a b : WEx} [A : SE K Wx t a] [B : SE K Wx u b] : SE K Wx (tOp (rGetN P w T2 nk2) t u) (wIxDic P w a b) where
  mono := fun hk he h => A.mono (fun _ _ q => B.mono (fun _ _ ⟨kvs, q', d, i, h1, h2, h3, q⟩ => ⟨kvs, q', d, i, h1, h2, h3, hk _ _ q⟩) he q) he h
  ok := fun S s h => A.ok S s (A.mono (fun x M1 q G1 L1 H1 v e1 S1 r1 => B.ok S1 (s.ext e1) (B.mono (fun y M2 ⟨kvs, q', d, i, h1, h2, h3, qq⟩ G2 L2 H2 u e2 S2 r2 => by
    subst h1 h2
    cases r1 with
    | dic ha rk =>
      rename_i a ms
      obtain ⟨es, rfl, p⟩ := kv_at rk
      obtain ⟨m, hm, f1, f2, f3⟩ := paired_ix p h3
      obtain ⟨m1, c, t⟩ := m
      obtain rfl : m1 = q' := f1
      refine ⟨a, es, m1, i, c, t, rfl, S2.le _ _ (e2.g _ _ ha), fun m hm => ?_, T2_le S2.le (rep_T2 r2), hm, qq _ _ _ _ (e1.trans e2) S2 (f3.mono e2.g)⟩
      obtain ⟨j, hj⟩ := List.getElem?_of_mem hm
      obtain ⟨_, _, z⟩ := paired_ix' p hj
      exact T2_le S2.le (T2_le e2.g z.2.1)) (fun _ _ _ z => z.after e1) q)) (fun _ _ _ z => z) h)
def dcL (g : WGx) (wk wv : WEx) (ρ : En) (cd : Mem → Prop) (k : List (Mx × D) → Mem → Prop) : List D → List (Mx × D) → Mem → Prop
  | [], acc, M => cd M ∧ k acc M
  | d :: ds, acc, M => cd M ∧ g (.d d) ρ M fun ρ1 M1 => wk ρ1 M1 (fun y M2 => wv ρ1 M2 (fun t M3 => ∃ (q : Mx) (z : D), y = .d (tM q) ∧ t = .d z ∧ q ∉ acc.map Prod.fst ∧ acc.length < 99999 ∧ dcL g wk wv ρ cd k ds (acc ++ [(q, z)]) M3) fun _ _ _ => False) fun _ _ _ => False
def wDc (P : Program) (w : World) (wi : WIx) (g : WGx) (is : List Nat) (wk wv : WEx) (vs : List Nat) : WEx := fun ρ M k e => subB is vs = true ∧ wi ρ M (fun ds cd M1 => dcL g wk wv (wipeE ρ vs) cd (fun acc M2 => k (.d (dicQ P w acc)) M2) ds [] M1) e
theorem dcL_mono {g : WGx} {wk wv : WEx} {ρ : En} {cd : Mem → Prop} {k k' : List (Mx × D) → Mem → Prop} (hg : ∀ {a ρ M k k'}, (∀ r m, k r m → k' r m) → g a ρ M k → g a ρ M k') (h1 : ∀ {ρ M k k' e e'}, (∀ a m, k a m → k' a m) → (∀ c f m, e c f m → e' c f m) → wk ρ M k e → wk ρ M k' e')
    (h2 : ∀ {ρ M k k' e e'}, (∀ a m, k a m → k' a m) → (∀ c f m, e c f m → e' c f m) → wv ρ M k e → wv ρ M k' e') (hk : ∀ a m, k a m → k' a m) : ∀ (ds : List D) (acc : List (Mx × D)) (M : Mem), dcL g wk wv ρ cd k ds acc M → dcL g wk wv ρ cd k' ds acc M
  | [], _, _, ⟨c, h⟩ => ⟨c, hk _ _ h⟩
  | d :: ds, acc, M, ⟨c, h⟩ => ⟨c, hg (fun ρ1 M1 q => h1 (fun y M2 q => h2 (fun t M3 ⟨q', z, e1, e2, n, l, q⟩ => ⟨q', z, e1, e2, n, l, dcL_mono (g := g) (wk := wk) (wv := wv) hg h1 h2 hk ds _ M3 q⟩) (fun _ _ _ z => z) q) (fun _ _ _ z => z) q) h⟩
/-- the dict while it is made -/
structure Mkd (P : Program) (w : World) (G0 : Hp) (L0 : List Addr) (H0 : Hp) (K : PySem.W.Frag) (D0 : Addr) (acc : List (Mx × D)) (G : Hp) (L : List Addr) (M : Mem) (H : Hp) : Prop where
  sim : Sim K G L M H
  ext : Ext G0 L0 H0 G L H
  off : G D0 = none
  ol : D0 ∉ L
  at_ : ∃ es : List (Mx × Addr × V), H D0 = some (DicNO P w D0 (es.map fun m => (nk2 m.1, m.2))) ∧ Paired (fun (m : Mx × Addr × V) (p : Mx × D) => m.1 = p.1 ∧ T2 G (.ref m.2.1) m.1 ∧ Rep K G m.2.2 p.2) es acc
theorem Mkd.step {G0 H0 G H G' H' : Hp} {L0 L L' : List Addr} {M M' : Mem} {D0 : Addr} {acc : List (Mx × D)} (m : Mkd P w G0 L0 H0 K D0 acc G L M H) (e : Ext G L H G' L' H') (S : Sim K G' L' M' H') : Mkd P w G0 L0 H0 K D0 acc G' L' M' H' := by
  obtain ⟨es, h, r⟩ := m.at_
  refine ⟨S, m.ext.trans e, ?_, fun z => ?_, es, e.fr _ _ m.ol h, paired_mono (fun _ _ z => ⟨z.1, T2_le e.g z.2.1, z.2.2.mono e.g⟩) r⟩
  · cases q : G' D0 with
    | none => rfl
    | some u =>
      rcases e.gn _ _ q with z | z
      · rw [m.off] at z
        cases z
      · rw [h] at z
        cases z
  · rcases e.ln _ z with z | z
    · exact m.ol z
    · rw [h] at z
      cases z
theorem Mkd.put {G0 H0 G H : Hp} {L0 L : List Addr} {M : Mem} {D0 : Addr} {acc : List (Mx × D)} {es : List (Mx × Addr × V)} {o : HO} {q : Mx} {c : Addr} {t : V} {z : D} (hD : H0 D0 = none) (m : Mkd P w G0 L0 H0 K D0 acc G L M H) (p : Paired (fun (m : Mx × Addr × V) (p : Mx × D) => m.1 = p.1 ∧ T2 G (.ref m.2.1) m.1 ∧ Rep K G m.2.2 p.2) es acc) (hq : T2 G (.ref c) q) (r : Rep K G t z) :
    Mkd P w G0 L0 H0 K D0 (acc ++ [(q, z)]) G L M (upd H D0 (DicNO P w D0 ((es ++ [(q, c, t)]).map fun m => (nk2 m.1, m.2)))) := by
  have ne : ∀ a ∈ L, a ≠ D0 := fun a m' e => m.ol (e ▸ m')
  refine ⟨⟨fun a u e => ?_, m.sim.off, m.sim.nd, paired_all m.sim.cl fun a c m' q => CellOk.mono q Le.refl (List.prefix_refl _) fun u e => by rw [upd_ne (ne a m')]; exact e⟩, ⟨m.ext.g, m.ext.gn, m.ext.l, m.ext.ln, fun a u n e => ?_, fun a e => ?_⟩, m.off, m.ol, _, upd_same, paired_app p (.cons ⟨rfl, hq, r⟩ .nil)⟩
  · rw [upd_ne (fun q => by rw [q, m.off] at e; cases e)]
    exact m.sim.le a u e
  · rw [upd_ne (fun q => by rw [q, hD] at e; cases e)]
    exact m.ext.fr a u n e
  · by_cases q : a = D0
    · subst q
      exact hD
    · rw [upd_ne q] at e
      exact m.ext.dm a e
theorem kv_of {G : Hp} : ∀ {es : List (Mx × Addr × V)} {kvs : List (Mx × D)}, Paired (fun (m : Mx × Addr × V) (p : Mx × D) => m.1 = p.1 ∧ T2 G (.ref m.2.1) m.1 ∧ Rep K G m.2.2 p.2) es kvs → RepKv K G (es.map fun m => (nk2 m.1, m.2)) (kvs.map fun p => (tM p.1, p.2))
  | _, _, .nil => .nil
  | (q, c, t) :: _, (q', z) :: _, .cons h r => by
    obtain ⟨h1, h2, h3⟩ := h
    obtain rfl : q = q' := h1
    exact .cons (nkM q) (T2_rep h2) h3 (kv_of r)
theorem Mkd.fin {G0 H0 G H : Hp} {L0 L : List Addr} {M : Mem} {D0 : Addr} {acc : List (Mx × D)} (hD : H0 D0 = none) (m : Mkd P w G0 L0 H0 K D0 acc G L M H) : ∃ G', Ext G0 L0 H0 G' L H ∧ Sim K G' L M H ∧ Rep K G' (.ref D0) (dicQ P w acc) := by
  obtain ⟨es, h, p⟩ := m.at_
  have lg : Le G (upd G D0 (DicNO P w D0 (es.map fun m => (nk2 m.1, m.2)))) := fun a u e => by
    rw [upd_ne (fun q => by rw [q, m.off] at e; cases e)]
    exact e
  have ne : ∀ a ∈ L, a ≠ D0 := fun a m' e => m.ol (e ▸ m')
  refine ⟨_, ⟨fun a u e => lg a u (m.ext.g a u e), fun a u e => ?_, m.ext.l, m.ext.ln, m.ext.fr, m.ext.dm⟩, ⟨fun a u e => ?_, fun a m' => by rw [upd_ne (ne a m')]; exact m.sim.off a m', m.sim.nd, paired_all m.sim.cl fun a c _ q => CellOk.mono q lg (List.prefix_refl _) fun _ e => e⟩,
    .dic upd_same (RepKv.mono lg (kv_of p))⟩
  · by_cases q : a = D0
    · subst q
      exact .inr hD
    · rw [upd_ne q] at e
      exact m.ext.gn a u e
  · by_cases q : a = D0
    · subst q
      rw [upd_same] at e
      cases e
      exact h
    · rw [upd_ne q] at e
      exact m.sim.le a u e
instance {wi : TI} {wwi : WIx} {g : TG} {wg : WGx} {is : List Nat} {tk tv : TE} {wk wv : WEx} {vs : List Nat} [I : SI K Wx wi wwi] [GG : SG K g wg is] [T : SE K WNo tk wk] [E : SE K WNo tv wv] : SE K Wx (tDcN P w T2 nk2 wi g tk tv vs) (wDc P w wwi wg is wk wv vs) where
  mono := fun hk he ⟨a, h⟩ => ⟨a, I.mono (fun ds cd M1 q => dcL_mono (g := wg) (wk := wk) (wv := wv) GG.mono T.mono E.mono (fun _ _ z => hk _ _ z) _ _ _ q) he h⟩
  ok := by
    intro G L M ρ σ H Q S s ⟨hs, h⟩
    refine I.ok S s (I.mono (fun ds cd M1 q G1 L1 H1 J e1 S1 it D0 hD0 => ?_) (fun _ _ _ z => z) h)
    refine ⟨fun i m H2 => m = ds.length - i ∧ i ≤ ds.length ∧ ∃ G2 La M2 acc, Mkd P w G1 L1 H1 K D0 acc G2 La M2 H2 ∧ dcL wg wk wv (wipeE ρ vs) cd (fun acc M2 => Post K G L H Q (.d (dicQ P w acc)) M2) (ds.drop i) acc M2, ⟨ds.length, rfl, Nat.zero_le _, G1, L1, M1, [], ?_, q⟩, ?_⟩
    · obtain ⟨S2, e2⟩ := S1.junk (o := DicNO P w D0 []) hD0
      refine ⟨S2, e2, ?_, fun z => ?_, [], upd_same, .nil⟩
      · cases z : G1 D0 with
        | none => rfl
        | some u =>
          rw [S1.le _ _ z] at hD0
          cases hD0
      · obtain ⟨u, z⟩ := S1.live z
        rw [z] at hD0
        cases hD0
    · rintro i m H2 ⟨rfl, hi, G2, La, M2, acc, mk, q2⟩
      by_cases lt : i < ds.length
      · rw [List.drop_eq_getElem_cons lt] at q2
        obtain ⟨cdh, q2⟩ := q2
        have hx : ds[i]? = some ds[i] := List.getElem?_eq_getElem lt
        obtain ⟨go, yl⟩ := (it G2 La M2 H2 mk.ext.g mk.ext.l mk.sim cdh).2 i _ hx
        refine .inr ⟨go, fun H3 => ∃ m', m' < ds.length - i ∧ m' = ds.length - (i + 1) ∧ ∃ G2 La M2 acc, Mkd P w G1 L1 H1 K D0 acc G2 La M2 H3 ∧ dcL wg wk wv (wipeE ρ vs) cd (fun acc M2 => Post K G L H Q (.d (dicQ P w acc)) M2) (ds.drop (i + 1)) acc M2, fun H3 ⟨m', a, b, c⟩ => ⟨m', a, b, lt, c⟩, fun x H3 hy => ?_⟩
        obtain ⟨G3, e3, S3, r3⟩ : ∃ G3, Ext G2 La H2 G3 La H3 ∧ Sim K G3 La M2 H3 ∧ Rep K G3 x ds[i] := by
          rcases yl x H3 hy with ⟨rfl, r⟩ | ⟨T, o, hT, rfl, r⟩
          · exact ⟨G2, Ext.refl, mk.sim, r⟩
          · obtain ⟨a, b⟩ := mk.sim.new (o := o) hT
            exact ⟨_, b, a, r⟩
        have mk3 := mk.step e3 S3
        have s3 : Sl K G3 La (_root_.L2.wipe σ vs) (wipeE ρ vs) := Sl.wipe ((s.ext e1).ext mk3.ext) vs
        refine GG.ok S3 s3 (show RepW K G3 La x (.d ds[i]) from r3) (GG.mono (fun ρ1 M4 q G4 L4 H4 σ4 e4 S4 s4 lc tc => ?_) q2)
        refine ⟨wipe_eq (subB_ok hs) (by rw [lc, wipe_length]) tc, ?_⟩
        have mk4 := mk3.step e4 S4
        refine T.ok S4 s4 (T.mono (fun y M5 q G5 L5 H5 u e5 S5 r5 => ?_) (fun _ _ _ z => z.elim) q)
        have mk5 := mk4.step e5 S5
        refine E.ok S5 (s4.ext e5) (E.mono (fun t M6 ⟨q', z, ey, et, nin, la, qq⟩ G6 L6 H6 v e6 S6 r6 => ?_) (fun _ _ _ z => z.elim) q)
        subst ey et
        have mk6 := mk5.step e6 S6
        obtain ⟨es, hes, pe⟩ := mk6.at_
        have hq5 := T2_le e6.g (rep_T2 r5)
        obtain ⟨c, us, rfl, _⟩ := id hq5
        have el := paired_len pe
        refine ⟨es, q', c, rfl, hes, fun m hm => ?_, T2_le S6.le hq5, fun hm => nin ?_, by omega, _, by omega, rfl, G6, L6, M6, acc ++ [(q', z)], mk6.put (o := .lst []) hD0 pe hq5 r6, qq⟩
        · obtain ⟨j, hj⟩ := List.getElem?_of_mem hm
          obtain ⟨_, _, z⟩ := paired_ix' pe hj
          exact T2_le S6.le z.2.1
        · obtain ⟨m, hm2, em⟩ := List.mem_map.mp hm
          obtain ⟨j, hj⟩ := List.getElem?_of_mem hm2
          obtain ⟨p, hp, z⟩ := paired_ix' pe hj
          rw [← em, z.1]
          exact List.mem_map.mpr ⟨p, List.mem_of_getElem? hp, rfl⟩
      · have ei : i = ds.length := by omega
        subst ei
        rw [List.drop_length] at q2
        obtain ⟨cdh, q2⟩ := q2
        obtain ⟨G', e', S', r'⟩ := mk.fin hD0
        exact .inl ⟨(it G2 La M2 H2 mk.ext.g mk.ext.l mk.sim cdh).1, q2 _ _ _ _ (e1.trans e') S' r'⟩
end
@[simp] theorem wSortSet_u (a : WEx) : wSortSet a = (fun ρ M k e => a ρ M (fun v M1 => ∃ qs : List Mx, lv M1 v = some (qs.map tM) ∧ Few64 qs ∧ ∀ rs, IsQs rs qs → k (.d (.lst (rs.map tM))) M1) e) := rfl
@[simp] theorem wIxDic_u (P : Program) (w : World) (a b : WEx) : wIxDic P w a b = (fun ρ M k e => a ρ M (fun x M1 => b ρ M1 (fun y M2 => ∃ (kvs : List (Mx × D)) (q : Mx) (d : D) (i : Nat), x = .d (dicQ P w kvs) ∧ y = .d (tM q) ∧ kvs[i]? = some (q, d) ∧ k (.d d) M2) e) e) := rfl
@[simp] theorem wDc_u (P : Program) (w : World) (wi : WIx) (g : WGx) (is : List Nat) (wk wv : WEx) (vs : List Nat) : wDc P w wi g is wk wv vs = (fun ρ M k e => subB is vs = true ∧ wi ρ M (fun ds cd M1 => dcL g wk wv (wipeE ρ vs) cd (fun acc M2 => k (.d (dicQ P w acc)) M2) ds [] M1) e) := rfl
end PU

set_option maxRecDepth 100000
set_option maxHeartbeats 8000000
/-! ranges by steps, classes as values, the older promises as contracts -/
namespace PU
open PySem PySem.Spec PyProof.Rows L2 WU
def int3 : List W → Option (Int × Int × Int)
  | [.d (.int i), .d (.int j), .d (.int c)] => some (i, j, c)
  | _ => none
@[simp] theorem int3_j {i j c : Int} : int3 [.d (.int i), .d (.int j), .d (.int c)] = some (i, j, c) := rfl
theorem int3_eq {as : List W} {r : Int × Int × Int} (h : int3 as = some r) : as = [.d (.int r.1), .d (.int r.2.1), .d (.int r.2.2)] := by
  unfold int3 at h
  split at h
  · cases h
    rfl
  · cases h
def stepD (lo c : Int) (n : Nat) : List D := (List.range n).map fun i => .int (lo + (i : Nat) * c)
def wRng3 (wa : WAx) : WIx := fun ρ M k e => wa ρ M (fun as M1 => ob (int3 as) fun r => ∃ n, RgC r.1 r.2.1 r.2.2 n ∧ k (stepD r.1 r.2.2 n) (fun _ => True) M1) e
def wMakeL (i : Nat) (C : Addr) (c : Con) (wa : WAx) : WEx := fun ρ M k e => ρ[i]? = some (some (.d (.at (.ref C)))) ∧ wMake C c wa ρ M k e
def wCMeth (C : Addr) (c : Con) (wo : WEx) (wa : WAx) : WEx := fun ρ M k e => wo ρ M (fun a M1 => a = .d (.at (.ref C)) ∧ wa ρ M1 (fun as M2 => c (.d (.at (.ref C)) :: as) M2 k e) e) e
section
variable {K : PySem.W.Frag} {Wx : WX}
theorem itok_step {G : Hp} {L : List Addr} {lo c : Int} {n : Nat} {cd : Mem → Prop} : ItOk K G L (Itc lo c n) (stepD lo c n) cd := by
  intro G2 L2 M2 H2 le pl S2 kp
  have hl : (stepD lo c n).length = n := by rw [stepD, List.length_map, List.length_range]
  refine ⟨by rw [hl]; exact Nat.le_refl n, fun i d hd => ?_⟩
  have lt := (List.getElem?_eq_some_iff.mp hd).1
  have e := (List.getElem?_eq_some_iff.mp hd).2
  rw [hl] at lt
  refine ⟨lt, fun x H' y => .inl ⟨y.1, ?_⟩⟩
  rw [y.2, ← e]
  simp only [stepD, List.getElem_map, List.getElem_range]
  exact .int _
theorem repWs_three {G : Hp} {L : List Addr} {vs : List V} {i j c : Int} (h : RepWs K G L vs [.d (.int i), .d (.int j), .d (.int c)]) : vs = [.int i, .int j, .int c] := by
  cases h with
  | cons h t =>
    cases h
    rw [repWs_two t]
instance {ta : TA} {wa : WAx} [A : SA K Wx ta wa] : SI K Wx (iRng3 ta) (wRng3 wa) where
  mono := fun hk he h => A.mono (fun _ _ ⟨r, h0, n, h1, q⟩ => ⟨r, h0, n, h1, hk _ _ _ q⟩) he h
  ok := fun S s h => A.ok S s (A.mono (fun a M1 ⟨r, h0, n, h1, q⟩ G1 L1 H1 vs e1 S1 r1 => by
    obtain rfl := int3_eq h0
    exact ⟨_, _, _, n, repWs_three r1, h1, q _ _ _ _ e1 S1 itok_step⟩) (fun _ _ _ z => z) h)
instance {i : Nat} {C : Addr} {c : Con} {ta : TA} {wa : WAx} [UC c] [A : SA K Wx ta wa] [B : SE K Wx (tMakeS C (spP K c) (WE Wx) ta) (wMake C c wa)] : SE K Wx (tMakeL i C (spP K c) (WE Wx) ta) (wMakeL i C c wa) where
  mono := fun hk he ⟨h0, h⟩ => ⟨h0, B.mono hk he h⟩
  ok := fun S s ⟨h0, h⟩ => by
    obtain ⟨v, hv, r⟩ := s.2 _ _ h0
    cases r
    exact ⟨hv, B.ok S s h⟩
instance {C : Addr} {c : Con} {to : TE} {ta : TA} {wo : WEx} {wa : WAx} [UC c] [A : SE K Wx to wo] [B : SA K Wx ta wa] : SE K Wx (tCMethS C (spP K c) (WE Wx) to ta) (wCMeth C c wo wa) where
  mono := fun hk he h => A.mono (fun _ _ ⟨h1, q⟩ => ⟨h1, B.mono (fun _ _ q => UC.up hk he q) he q⟩) he h
  ok := fun S s h => A.ok S s (A.mono (fun a M1 ⟨h1, q⟩ G1 L1 H1 x e1 S1 r1 => by
    subst h1
    cases r1
    exact ⟨rfl, B.ok S1 (s.ext e1) (B.mono (fun as M2 q G2 L2 H2 vs e2 S2 r2 => ⟨G2, L2, M2, .d (.at (.ref C)) :: as, S2, .cons (.at _) r2, UC.up (fun _ _ z => z.after (e1.trans e2)) (fun _ _ _ z => z.after (e1.trans e2)) q⟩) (fun _ _ _ z => z.after e1) q)⟩) (fun _ _ _ z => z) h)
end
@[simp] theorem wRng3_u (wa : WAx) : wRng3 wa = (fun ρ M k e => wa ρ M (fun as M1 => ob (int3 as) fun r => ∃ n, RgC r.1 r.2.1 r.2.2 n ∧ k (stepD r.1 r.2.2 n) (fun _ => True) M1) e) := rfl
@[simp] theorem wMakeL_u (i : Nat) (C : Addr) (c : Con) (wa : WAx) : wMakeL i C c wa = (fun ρ M k e => ρ[i]? = some (some (.d (.at (.ref C)))) ∧ wMake C c wa ρ M k e) := rfl
@[simp] theorem wCMeth_u (C : Addr) (c : Con) (wo : WEx) (wa : WAx) : wCMeth C c wo wa = (fun ρ M k e => wo ρ M (fun a M1 => a = .d (.at (.ref C)) ∧ wa ρ M1 (fun as M2 => c (.d (.at (.ref C)) :: as) M2 k e) e) e) := rfl
/-! ### " ".join(xs) -/
def tM1 (r : V → List V → Hp → VK → Prop) (to te : TE) : TE := fun σ H Q => to σ H fun x H1 => te σ H1 fun y H2 => r x [y] H2 Q
section
variable {P : Program} {w : World} {K : PySem.W.Frag} {mg : Str → Option Value} {base : Heap} {k : Nat} {f : Addr} {fd : FuncData} {ps : List Str} {sp sp' : Sp}
/-- a promise that asks more -/
theorem fn_weak (F : FnOk P w K mg base (L2.CX P w) k f fd ps sp) (h : ∀ vs H Q E, sp' vs H Q E → sp vs H Q E) : FnOk P w K mg base (L2.CX P w) k f fd ps sp' :=
  ⟨fun vs H Q E q => F.len vs H Q E (h _ _ _ _ q), fun A outer s H args us vs Q E hr e0 hb r q => F.run A outer s H args us vs Q E hr e0 hb r (h _ _ _ _ q)⟩
/-- what an older promise leaves: a new list of ints -/
theorem post_more {G H H' : Hp} {L : List Addr} {M : Mem} {Q : VK} {p : Addr} {xs : List V} {ds : List D} (S : Sim K G L M H) (sm : Same H H') (np : H p = none) (hp : H' p = some (.lst xs)) (r : RepAll K G xs ds) (h : Post K G L H Q (.d (.lst ds)) M) : Q (.ref p) H' := by
  obtain ⟨S2, e2⟩ := S.more sm
  obtain ⟨S3, e3⟩ := S2.know np (fun a m z => by
    obtain ⟨o, q⟩ := S.live m
    rw [q] at z
    cases z) S.le hp e2
  exact h _ _ _ _ e3 S3 (.lst upd_same (r.mono e3.g))
theorem post_same {G H H' : Hp} {L : List Addr} {M : Mem} {Q : VK} {v : V} {d : D} (S : Sim K G L M H) (sm : Same H H') (r : Rep K G v d) (h : Post K G L H Q (.d d) M) : Q v H' := by
  obtain ⟨S2, e2⟩ := S.more sm
  exact h _ _ _ _ e2 S2 r
end
/-- how many steps -/
theorem rg_all : ∀ n ∈ List.range 13, ∀ m ∈ List.range 17, n ≠ 0 → Builtin.Range.small 0 ((n * m : Nat) : Int) (n : Int) = true ∧ Builtin.Range.rangeSize 0 ((n * m : Nat) : Int) (n : Int) = m := by decide +kernel
theorem rg_of {n m : Nat} (h1 : 1 ≤ n) (h2 : n ≤ 12) (h3 : m ≤ 16) : RgC 0 ((n * m : Nat) : Int) (n : Int) m := by
  obtain ⟨a, b⟩ := rg_all n (List.mem_range.mpr (by omega)) m (List.mem_range.mpr (by omega)) (by omega)
  exact ⟨by omega, by omega, a, b⟩
end PU

set_option maxRecDepth 100000
set_option maxHeartbeats 8000000
/-! scopes of comprehensions within others, by their place in the text -/
namespace PU
open PySem PySem.Spec PyProof.Rows L2 WU
def exSub : Expr → List Expr
  | .BoolOp _ es _ => es
  | .BinOp a _ b _ => [a, b]
  | .UnaryOp _ a _ => [a]
  | .IfExp a b c _ => [a, b, c]
  | .ListComp e gs _ _ => e :: gs.flatMap fun g => g.iter :: g.ifs
  | .DictComp a b gs _ _ => a :: b :: gs.flatMap fun g => g.iter :: g.ifs
  | .Compare a _ bs _ => a :: bs
  | .Call f as _ _ => f :: as
  | .Attribute a _ _ => [a]
  | .Subscript a b _ => [a, b]
  | .Starred a _ => [a]
  | .List es _ => es
  | .Tuple es _ _ => es
  | _ => []
def exSc : Expr → Scope
  | .ListComp _ _ sc _ => sc
  | .DictComp _ _ _ sc _ => sc
  | _ => defScope (.Pass ⟨0, 0, 0, 0⟩)
def stEx : Stmt → List Expr
  | .Return (some e) _ => [e]
  | .Assign ts v _ => v :: ts
  | .AugAssign t _ v _ => [v, t]
  | .For t it _ _ _ => [it]
  | .While t _ _ _ => [t]
  | .If t _ _ _ => [t]
  | .Expr e _ => [e]
  | .Raise (some e) _ _ => [e]
  | _ => []
def stSub : Stmt → List Stmt
  | .For _ _ b o _ => b ++ o
  | .While _ b o _ => b ++ o
  | .If _ b o _ => b ++ o
  | .Try b _ _ _ _ => b
  | _ => []
def exAt (e : Expr) : List Nat → Expr
  | [] => e
  | i :: p => exAt ((exSub e).getD i (.Name "" ⟨0, 0, 0, 0⟩)) p
def stAt (s : Stmt) : List Nat → Stmt
  | [] => s
  | i :: p => stAt ((stSub s).getD i (.Pass ⟨0, 0, 0, 0⟩)) p
/-- the scope of the comprehension: the statement's place, the expression's -/
def scAt (s : Stmt) (i : Nat) (p : List Nat) (j : Nat) (q : List Nat) : Scope :=
  exSc (exAt ((stEx (stAt ((defBody s).getD i (.Pass ⟨0, 0, 0, 0⟩)) p)).getD j (.Name "" ⟨0, 0, 0, 0⟩)) q)
@[simp] theorem all_yes {α : Type} (l : List α) : (l.all fun _ => true) = true := by simp
theorem cmul_of {i j : Int} (h1 : -(2 ^ 64) < i) (h2 : i < 2 ^ 64) : CMul i j := .inl ⟨h1, h2⟩
theorem cmul_r {i j : Int} (h1 : -(2 ^ 64) < j) (h2 : j < 2 ^ 64) : CMul i j := .inr ⟨h1, h2⟩
/-- as lcL_mapIx, onto what is made -/
theorem lcL_mapA {g : WGx} {w : WEx} {ρ : En} {cd : Mem → Prop} {k : List D → Mem → Prop} {α : Type} (src : α → D) (f : α → D) {M : Mem} (hcd : cd M) : ∀ (zs : List α) (acc : List D), acc.length + zs.length ≤ sizeLine →
    (∀ z ∈ zs, ∀ Q : D → Mem → Prop, Q (f z) M → g (.d (src z)) ρ M fun ρ1 M1 => w ρ1 M1 (fun y M3 => ∃ z, y = .d z ∧ Q z M3) fun _ _ _ => False) → k (acc ++ zs.map f) M → lcL g wYes w ρ cd k (zs.map src) acc M
  | [], acc, _, _, fin => ⟨hcd, by simpa using fin⟩
  | z :: zs, acc, hl, hs, fin => by
    rw [List.length_cons] at hl
    refine ⟨hcd, ?_⟩
    simp only [wYes, if_pos]
    refine hs z (List.mem_cons_self ..) (fun d M3 => acc.length < sizeLine ∧ lcL g wYes w ρ cd k (zs.map src) (acc ++ [d]) M3) ⟨by omega, ?_⟩
    refine lcL_mapA src f hcd zs _ (by rw [List.length_append, List.length_singleton]; omega) (fun z hz => hs z (List.mem_cons_of_mem _ hz)) ?_
    rw [List.append_assoc]
    exact fin
/-- two for's: each item of the first gives a list -/
theorem lcL2_flat {g : WGx} {wi1 : WIx} {g1 : WGx} {t1 : WBx} {w : WEx} {vs1 : List Nat} {ρ : En} {cd : Mem → Prop} {k : List D → Mem → Prop} {α : Type} (src : α → D) (f : α → List D) {M : Mem} {m : Nat} (hcd : cd M) : ∀ (zs : List α) (acc : List D), acc.length + zs.length * m ≤ sizeLine → (∀ z ∈ zs, (f z).length ≤ m) →
    (∀ z ∈ zs, ∀ (acc : List D) (Q : List D → Mem → Prop), acc.length + (f z).length ≤ sizeLine → Q (acc ++ f z) M → g (.d (src z)) ρ M fun ρ1 M1 => wi1 ρ1 M1 (fun ds1 cd1 M3 => lcL g1 t1 w (wipeE ρ1 vs1) cd1 Q ds1 acc M3) fun _ _ _ => False) →
    k (acc ++ zs.flatMap f) M → lcL2 g wYes wi1 g1 t1 w vs1 ρ cd k (zs.map src) acc M
  | [], acc, _, _, _, fin => ⟨hcd, by simpa using fin⟩
  | z :: zs, acc, hl, hm, hs, fin => by
    have h1 := hm z (List.mem_cons_self ..)
    rw [List.length_cons, Nat.succ_mul] at hl
    refine ⟨hcd, ?_⟩
    simp only [wYes, if_pos]
    refine hs z (List.mem_cons_self ..) acc (fun acc' M4 => lcL2 g wYes wi1 g1 t1 w vs1 ρ cd k (zs.map src) acc' M4) (by omega) ?_
    refine lcL2_flat src f hcd zs _ (m := m) (by rw [List.length_append]; omega) (fun z hz => hm z (List.mem_cons_of_mem _ hz)) (fun z hz => hs z (List.mem_cons_of_mem _ hz)) ?_
    rw [List.append_assoc, ← List.flatMap_cons]
    exact fin
@[simp] theorem atI_nat (xs : List D) (n : Nat) : atI xs (n : Int) = xs[n]? := by
  unfold atI ixN
  rw [if_pos (Int.natCast_nonneg n)]
  by_cases h : n < xs.length
  · rw [if_pos (by omega)]
    rfl
  · rw [if_neg (by omega)]
    exact (List.getElem?_eq_none (by omega)).symm
@[simp] theorem fPow_int {i j : Int} {M : Mem} : fPow (.d (.int i)) (.d (.int j)) M = some (.d (.int (i ^ j.toNat)), CPow i j) := rfl
@[simp] theorem in_no (n : Nat) (M : Mem) : inD false (.d (.bl false)) (.d (.lst (List.replicate n (.bl true)))) M = some (.d (.bl false), True) := by
  have h1 : (List.replicate n (D.bl true)).all flatD = true := by
    rw [List.all_eq_true]
    intro x hx
    rw [(List.mem_replicate.mp hx).2]
    rfl
  have h2 : (List.replicate n (D.bl true)).any (fun z => eqFlat z (.bl false)) = false := by
    rw [List.any_eq_false]
    intro x hx
    rw [(List.mem_replicate.mp hx).2]
    decide
  show (if flatD (.bl false) && (List.replicate n (D.bl true)).all flatD then some (W.d (.bl (xor false ((List.replicate n (D.bl true)).any fun z => eqFlat z (.bl false)))), True) else _) = _
  rw [h1, h2]
  rfl
/-- isinstance(o, an own class) -/
theorem pIsi_ins {K : PySem.W.Frag} {M : Mem} {k : KW} {C L : Addr} {fs : List (Str × D)} {b : Bool} (hi : InsK K C) (hk : PySem.W.kitOne K (.ref C) (.ref L) = some b) : pIsi K [.d (.ins C fs), .d (.at (.ref L))] M k = k (.d (.bl b)) M := by
  apply propext
  constructor
  · rintro ⟨a, c, u, b', e, e2, h, q⟩
    cases e
    cases e2
    rcases h with ⟨t, h1, _⟩ | ⟨C', h1, _, h2⟩
    · cases h1
    · cases h1
      rw [hk] at h2
      cases h2
      exact q
  · exact fun q => ⟨_, _, _, b, rfl, rfl, .inr ⟨C, rfl, hi, hk⟩, q⟩
/-- a method of an own class -/
structure MtC (P : Program) (w : World) (K : PySem.W.Frag) (mg : Str → Option Value) (base : Heap) (k : Nat) (C : Addr) (m : Str) (f : Addr) (fd : FuncData) (ps : List Str) (sp : Sp) : Prop where
  m : Meth K C m f
  ok : FnOk P w K mg base (L2.CX P w) k f fd ps sp
  b : L2.Binds K fd ps []
end PU

set_option maxRecDepth 100000
set_option maxHeartbeats 8000000
/-! the sorted questions, the numbers of asks -/
namespace PU
open PySem PySem.Spec PyProof.Rows L2 WU
def putQ (x : Mx) : List Mx → List Mx
  | [] => [x]
  | y :: r => if y = x then y :: r else if ltG d2 x y = true then x :: y :: r else y :: putQ x r
def sq (xs : List Mx) : List Mx := xs.foldl (fun l x => putQ x l) []
theorem mem_putQ {x q : Mx} : ∀ {l : List Mx}, q ∈ putQ x l ↔ q = x ∨ q ∈ l
  | [] => by simp [putQ]
  | y :: r => by
    unfold putQ
    by_cases e : y = x
    · rw [if_pos e, List.mem_cons, e]
      constructor
      · exact fun h => .inr h
      · rintro (h | h)
        · exact .inl h
        · exact h
    · rw [if_neg e]
      by_cases c : ltG d2 x y = true
      · rw [if_pos c, List.mem_cons]
      · rw [if_neg c, List.mem_cons, mem_putQ (l := r), List.mem_cons]
        constructor
        · rintro (h | h | h)
          · exact .inr (.inl h)
          · exact .inl h
          · exact .inr (.inr h)
        · rintro (h | h | h)
          · exact .inr (.inl h)
          · exact .inl h
          · exact .inr (.inr h)
theorem gt_of {x y : Mx} (e : y ≠ x) (c : ¬ ltG d2 x y = true) : ltG d2 y x = true := by
  cases h : ltG d2 y x with
  | true => rfl
  | false => exact absurd (ltG_tot ord2 (fun _ _ z => eqv_d2 z) h (by simpa using c)) e
theorem pw_putQ {x : Mx} : ∀ {l : List Mx}, l.Pairwise (fun a b => ltG d2 a b = true) → (putQ x l).Pairwise (fun a b => ltG d2 a b = true)
  | [], _ => List.pairwise_singleton ..
  | y :: r, h => by
    obtain ⟨h1, h2⟩ := List.pairwise_cons.mp h
    unfold putQ
    by_cases e : y = x
    · rw [if_pos e]
      exact h
    · rw [if_neg e]
      by_cases c : ltG d2 x y = true
      · rw [if_pos c]
        refine List.pairwise_cons.mpr ⟨fun z hz => ?_, h⟩
        rcases List.mem_cons.mp hz with rfl | hz
        · exact c
        · exact ltG_tr c (h1 z hz)
      · rw [if_neg c]
        refine List.pairwise_cons.mpr ⟨fun z hz => ?_, pw_putQ h2⟩
        rcases mem_putQ.mp hz with rfl | hz
        · exact gt_of e c
        · exact h1 z hz
theorem sq_gen : ∀ (xs l : List Mx), l.Pairwise (fun a b => ltG d2 a b = true) → (xs.foldl (fun l x => putQ x l) l).Pairwise (fun a b => ltG d2 a b = true) ∧ ∀ q, q ∈ xs.foldl (fun l x => putQ x l) l ↔ q ∈ xs ∨ q ∈ l
  | [], l, h => ⟨h, fun q => by simp⟩
  | x :: xs, l, h => by
    obtain ⟨a, b⟩ := sq_gen xs (putQ x l) (pw_putQ h)
    refine ⟨a, fun q => ?_⟩
    rw [List.foldl_cons, b q, mem_putQ, List.mem_cons]
    constructor
    · rintro (h | h | h)
      · exact .inl (.inr h)
      · exact .inl (.inl h)
      · exact .inr h
    · rintro ((h | h) | h)
      · exact .inr (.inl h)
      · exact .inl h
      · exact .inr (.inr h)
theorem sq_pw (xs : List Mx) : (sq xs).Pairwise (fun a b => ltG d2 a b = true) := (sq_gen xs [] .nil).1
theorem sq_mem {xs : List Mx} {q : Mx} : q ∈ sq xs ↔ q ∈ xs := by
  rw [sq, (sq_gen xs [] .nil).2]
  simp
theorem sq_ris (xs : List Mx) : RisG d2 (sq xs) := pw_risG (sq_pw xs)
theorem pw_nd {l : List Mx} (h : l.Pairwise (fun a b => ltG d2 a b = true)) : l.Nodup := h.imp fun {a b} q e => by
  rw [e, ltG_irr] at q
  cases q
theorem sq_nd (xs : List Mx) : (sq xs).Nodup := pw_nd (sq_pw xs)
theorem isQs_one {rs qs : List Mx} (h : IsQs rs qs) : rs = sq qs := by
  refine risG_one h.1 (sq_ris qs) ?_
  rw [List.perm_ext_iff_of_nodup (pw_nd (risG_pw h.1)) (sq_nd qs)]
  intro a
  rw [h.2 a, sq_mem]
theorem putQ_app {x : Mx} {b : List Mx} : ∀ {a : List Mx}, (∀ y ∈ a, y ≠ x ∧ ¬ ltG d2 x y = true) → putQ x (a ++ b) = a ++ putQ x b
  | [], _ => rfl
  | y :: r, h => by
    obtain ⟨h1, h2⟩ := h y (List.mem_cons_self ..)
    show putQ x (y :: (r ++ b)) = y :: (r ++ putQ x b)
    rw [putQ, if_neg h1, if_neg h2, putQ_app fun z hz => h z (List.mem_cons_of_mem _ hz)]
theorem putQ_len {x : Mx} : ∀ {l : List Mx}, (putQ x l).length ≤ l.length + 1
  | [] => Nat.le_refl _
  | y :: r => by
    unfold putQ
    split
    · exact Nat.le_succ _
    · split
      · exact Nat.le_refl _
      · exact Nat.succ_le_succ putQ_len
theorem sq_len : ∀ (xs l : List Mx), (xs.foldl (fun l x => putQ x l) l).length ≤ l.length + xs.length
  | [], l => Nat.le_refl _
  | x :: xs, l => by
    have := sq_len xs (putQ x l)
    have h2 := @putQ_len x l
    rw [List.foldl_cons, List.length_cons]
    omega
/-- a dict of questions, item by item -/
theorem dcL_mapA {g : WGx} {wk wv : WEx} {ρ : En} {cd : Mem → Prop} {k : List (Mx × D) → Mem → Prop} {α : Type} (src : α → D) (kf : α → Mx) (vf : α → D) {M : Mem} (hcd : cd M) : ∀ (zs : List α) (acc : List (Mx × D)), (acc.map Prod.fst ++ zs.map kf).Nodup → acc.length + zs.length ≤ 99999 →
    (∀ z ∈ zs, ∀ Q : Mx → D → Mem → Prop, Q (kf z) (vf z) M → g (.d (src z)) ρ M fun ρ1 M1 => wk ρ1 M1 (fun y M2 => wv ρ1 M2 (fun t M3 => ∃ (q : Mx) (z : D), y = .d (tM q) ∧ t = .d z ∧ Q q z M3) fun _ _ _ => False) fun _ _ _ => False) →
    k (acc ++ zs.map fun z => (kf z, vf z)) M → dcL g wk wv ρ cd k (zs.map src) acc M
  | [], acc, _, _, _, fin => ⟨hcd, by simpa using fin⟩
  | z :: zs, acc, hn, hl, hs, fin => by
    rw [List.length_cons] at hl
    refine ⟨hcd, ?_⟩
    refine hs z (List.mem_cons_self ..) (fun q d M3 => q ∉ acc.map Prod.fst ∧ acc.length < 99999 ∧ dcL g wk wv ρ cd k (zs.map src) (acc ++ [(q, d)]) M3) ⟨fun h => ?_, by omega, ?_⟩
    · rw [List.map_cons] at hn
      exact (List.nodup_append.mp hn).2.2 _ h _ (List.mem_cons_self ..) rfl
    · refine dcL_mapA src kf vf hcd zs _ ?_ (by rw [List.length_append, List.length_singleton]; omega) (fun z hz => hs z (List.mem_cons_of_mem _ hz)) ?_
      · rw [List.map_append, List.append_assoc]
        exact hn
      · rw [List.append_assoc]
        exact fin
theorem enumD_map {α : Type} (f : α → D) (xs : List α) : enumD (xs.map f) = xs.zipIdx.map fun z => .tup [.int (z.2 : Nat), f z.1] := by
  unfold enumD
  rw [List.zipIdx_map, List.map_map]
  rfl
/-! ### draws -/
/-- a weight and its asks: for each wish a row, in it a question (a number) for each house -/
abbrev DrQ := List (Int × List (List Mx))
abbrev DrN := List (Int × List (List Int))
/-- what house n is asked -/
def askd (n : Nat) (ds : DrQ) : List Mx := ds.flatMap fun d => d.2.map fun r => (r[n]?).getD []
/-- the number of q among qs -/
def nrow (qs : List (List Mx)) (r : List Mx) : List Int := List.zipWith (fun (l : List Mx) q => ((l.idxOf q : Nat) : Int)) qs r
def qsOf (c : Nat) (ds : DrQ) : List (List Mx) := (List.range c).map fun n => sq (askd n ds)
def numD (qs : List (List Mx)) (ds : DrQ) : DrN := ds.map fun d => (d.1, d.2.map (nrow qs))
/-- the questions behind the numbers -/
def qrow (qs : List (List Mx)) (r : List Int) : List Mx := List.zipWith (fun (l : List Mx) (i : Int) => (l[i.toNat]?).getD []) qs r
def unD (qs : List (List Mx)) (ns : DrN) : DrQ := ns.map fun d => (d.1, d.2.map (qrow qs))
theorem row_back : ∀ (qs : List (List Mx)) (r : List Mx), r.length = qs.length → (∀ (i : Nat) (q : Mx) (l : List Mx), r[i]? = some q → qs[i]? = some l → q ∈ l) → qrow qs (nrow qs r) = r
  | [], [], _, _ => rfl
  | [], _ :: _, h, _ => by simp at h
  | _ :: _, [], h, _ => by simp at h
  | l :: qs, q :: r, h, k => by
    have hq : q ∈ l := k 0 q l rfl rfl
    have := row_back qs r (by simpa using h) fun i a b h1 h2 => k (i + 1) a b (by simpa using h1) (by simpa using h2)
    unfold qrow nrow at this ⊢
    rw [List.zipWith_cons_cons, List.zipWith_cons_cons, this]
    have hl : l.idxOf q < l.length := List.idxOf_lt_length_iff.mpr hq
    rw [Int.toNat_natCast, List.getElem?_eq_getElem hl, List.getElem_idxOf hl]
    rfl
/-- draws whose every wish asks c houses -/
def Wide (c : Nat) (ds : DrQ) : Prop := ∀ d ∈ ds, ∀ r ∈ d.2, r.length = c
theorem askd_mem {c n : Nat} {ds : DrQ} {q : Mx} {d : Int × List (List Mx)} {r : List Mx} (h1 : d ∈ ds) (h2 : r ∈ d.2) (h3 : r[n]? = some q) : q ∈ askd n ds := List.mem_flatMap.mpr ⟨d, h1, List.mem_map.mpr ⟨r, h2, by rw [h3]; rfl⟩⟩
theorem un_num {c : Nat} {ds : DrQ} (h : Wide c ds) : unD (qsOf c ds) (numD (qsOf c ds) ds) = ds := by
  unfold unD numD
  rw [List.map_map]
  refine Eq.trans (List.map_congr_left fun d hd => ?_) (List.map_id ds)
  show (d.1, (d.2.map (nrow (qsOf c ds))).map (qrow (qsOf c ds))) = d
  rw [List.map_map]
  have : d.2.map (qrow (qsOf c ds) ∘ nrow (qsOf c ds)) = d.2 := by
    refine Eq.trans (List.map_congr_left fun r hr => ?_) (List.map_id _)
    refine row_back _ _ (by rw [h d hd r hr, qsOf, List.length_map, List.length_range]) fun i q l h1 h2 => ?_
    unfold qsOf at h2
    rw [List.getElem?_map] at h2
    cases e : (List.range c)[i]? with
    | none =>
      rw [e] at h2
      cases h2
    | some j =>
      rw [e] at h2
      cases h2
      obtain ⟨lt, ej⟩ := List.getElem?_eq_some_iff.mp e
      rw [List.getElem_range] at ej
      subst ej
      exact sq_mem.mpr (askd_mem (c := c) hd hr h1)
  rw [this]
end PU

namespace WU
open PySem PySem.Spec PyProof.Rows L2
def top (i : Nat) : Stmt := PySem.Challenge.pw_wishunseen_k45_reordered_and_rehoused.main.body.getD i (.Pass ⟨0, 0, 0, 0⟩)
abbrev s_wall : Stmt := top 0
abbrev sInvalidNumber_init : Stmt := inClass (top 3) 0
abbrev sInvalidMatrix_init : Stmt := inClass (top 4) 0
abbrev sInvalidLibrary_init : Stmt := inClass (top 5) 0
abbrev sInvalidPlan_init : Stmt := inClass (top 6) 0
abbrev sUndefined_init : Stmt := inClass (top 7) 0
abbrev sIsInt : Stmt := top 9
abbrev sIsNum : Stmt := top 10
abbrev sIsBel : Stmt := top 11
abbrev s_is_positive : Stmt := top 12
abbrev sSeq : Stmt := top 13
abbrev s_is_rising : Stmt := top 14
abbrev s_is_order : Stmt := top 15
abbrev sLets : Stmt := top 16
abbrev sIsFld : Stmt := top 19
abbrev sCheck : Stmt := top 20
abbrev sLibrary_init : Stmt := inClass (top 22) 0
abbrev sLibrary_eq : Stmt := inClass (top 22) 1
abbrev sLibrary_book : Stmt := inClass (top 22) 2
abbrev sLibrary_changed : Stmt := inClass (top 22) 3
abbrev sLibrary_of_letters : Stmt := inClass (top 22) 4
abbrev sLibrary_check_book : Stmt := inClass (top 22) 5
abbrev s_are_books : Stmt := top 23
abbrev s_letters_of : Stmt := top 24
abbrev s_is_matrix : Stmt := top 26
abbrev s_products : Stmt := top 27
abbrev s_check_matrix : Stmt := top 28
abbrev s_width_of_rows : Stmt := top 29
abbrev s_columns_at : Stmt := top 30
abbrev s_is_row : Stmt := top 31
abbrev s_u_products : Stmt := top 32
abbrev sPlan_init : Stmt := inClass (top 34) 0
abbrev sPlan_eq : Stmt := inClass (top 34) 1
abbrev sPlan_asked : Stmt := inClass (top 34) 2
abbrev sPlan_asked_rows : Stmt := inClass (top 34) 3
abbrev sPlan_answer_size : Stmt := inClass (top 34) 4
abbrev sPlan_answer : Stmt := inClass (top 34) 5
abbrev sPlan_answers : Stmt := inClass (top 34) 6
abbrev sPlan_made : Stmt := inClass (top 34) 7
abbrev s_check_sizes : Stmt := top 35
abbrev s_members_of : Stmt := top 36
abbrev s_check_places : Stmt := top 37
abbrev s_check_draws : Stmt := top 38
abbrev s_kept_questions : Stmt := top 39
abbrev s_kept_draws : Stmt := top 40
abbrev s_weight_of : Stmt := top 41
abbrev s_is_draw : Stmt := top 42
abbrev s_check_wish : Stmt := top 43
abbrev s_check_ask : Stmt := top 44
abbrev s_check_question : Stmt := top 45
abbrev s_check_library : Stmt := top 46
abbrev s_parts_of : Stmt := top 47
abbrev s_draws_asking : Stmt := top 48
abbrev s_are_questions : Stmt := top 49
abbrev s_is_framed : Stmt := top 50
abbrev s_is_made : Stmt := top 51
abbrev s_questions_asked : Stmt := top 52
abbrev s_numbered_asks : Stmt := top 53
abbrev s_columns_of_book : Stmt := top 55
abbrev s_reordered_plan : Stmt := top 57
abbrev s_rehoused_plan : Stmt := top 58
abbrev s_plan_like : Stmt := top 59
abbrev s_plan_of_books : Stmt := top 60
abbrev s_rehoused : Stmt := top 61
abbrev sDraws : Stmt := top 63
abbrev sTake : Stmt := top 64
abbrev s_law_put_in : Stmt := top 65
abbrev s_law_numbered : Stmt := top 66
abbrev s_law_told : Stmt := top 67
abbrev s_law_is_plan : Stmt := top 68
abbrev s_law_question : Stmt := top 69
abbrev s_law_drawn : Stmt := top 70
abbrev s_law_shape : Stmt := top 71
abbrev s_law_order : Stmt := top 72
abbrev s_law_no_order : Stmt := top 73
abbrev s_law_reordered : Stmt := top 74
abbrev s_law_rehoused : Stmt := top 75
abbrev s_law_with_more : Stmt := top 76
abbrev s_law_back : Stmt := top 77
abbrev s_law_refusal : Stmt := top 78
abbrev sLaw : Stmt := top 79
theorem scInvalidNumber : FnScope ["self", "value"] ["self", "value"] (defScope sInvalidNumber_init) := ⟨rfl, rfl, rfl, by decide +kernel, rfl, by decide +kernel, by decide +kernel⟩
theorem bodyInvalidNumber (X : Cx) (hN : X.N = (["self", "value"] : List Str)) (hs : X.env.scope = defScope sInvalidNumber_init) : PSs X (defBody sInvalidNumber_init) (tOst X.K "value" (tVar 0) (tVar 1)) :=
  pss_one (ps_ost (pv 0 (by rw [hN] <;> rfl) (by rw [hs]; exact .inl rfl)) (pv 1 (by rw [hN] <;> rfl) (by rw [hs]; exact .inl rfl)))
theorem scInvalidMatrix : FnScope ["self", "value"] ["self", "value"] (defScope sInvalidMatrix_init) := ⟨rfl, rfl, rfl, by decide +kernel, rfl, by decide +kernel, by decide +kernel⟩
theorem bodyInvalidMatrix (X : Cx) (hN : X.N = (["self", "value"] : List Str)) (hs : X.env.scope = defScope sInvalidMatrix_init) : PSs X (defBody sInvalidMatrix_init) (tOst X.K "value" (tVar 0) (tVar 1)) :=
  pss_one (ps_ost (pv 0 (by rw [hN] <;> rfl) (by rw [hs]; exact .inl rfl)) (pv 1 (by rw [hN] <;> rfl) (by rw [hs]; exact .inl rfl)))
theorem scInvalidLibrary : FnScope ["self", "value"] ["self", "value"] (defScope sInvalidLibrary_init) := ⟨rfl, rfl, rfl, by decide +kernel, rfl, by decide +kernel, by decide +kernel⟩
theorem bodyInvalidLibrary (X : Cx) (hN : X.N = (["self", "value"] : List Str)) (hs : X.env.scope = defScope sInvalidLibrary_init) : PSs X (defBody sInvalidLibrary_init) (tOst X.K "value" (tVar 0) (tVar 1)) :=
  pss_one (ps_ost (pv 0 (by rw [hN] <;> rfl) (by rw [hs]; exact .inl rfl)) (pv 1 (by rw [hN] <;> rfl) (by rw [hs]; exact .inl rfl)))
theorem scUndefined : FnScope ["self", "what"] ["self", "what"] (defScope sUndefined_init) := ⟨rfl, rfl, rfl, by decide +kernel, rfl, by decide +kernel, by decide +kernel⟩
theorem bodyUndefined (X : Cx) (hN : X.N = (["self", "what"] : List Str)) (hs : X.env.scope = defScope sUndefined_init) : PSs X (defBody sUndefined_init) (tOst X.K "what" (tVar 0) (tVar 1)) :=
  pss_one (ps_ost (pv 0 (by rw [hN] <;> rfl) (by rw [hs]; exact .inl rfl)) (pv 1 (by rw [hN] <;> rfl) (by rw [hs]; exact .inl rfl)))
end WU

set_option maxRecDepth 100000
set_option maxHeartbeats 4000000
namespace WU
open PySem PySem.Spec PyProof.Rows L2
abbrev FnS (K : PySem.W.Frag) (x : Str) (st : Stmt) (f : Addr) (fd : FuncData) : Prop := FunD K x x (defArgs st) (defBody st) (defScope st) [] [] f fd
theorem small4k {n : Nat} (h : n ≤ 4000) : n < sizeLine := Nat.lt_of_le_of_lt h (by decide)
/-! ### any values -/
def isIB : V → Bool
  | .int _ => true
  | .bl _ => true
  | _ => false
def isB : V → Bool
  | .bl _ => true
  | _ => false
def isI : V → Bool
  | .int _ => true
  | _ => false
/-- the value has a type, of which int and bool are known -/
def Ty3 (K : PySem.W.Frag) (H : Hp) (v : V) : Prop := ∃ t, TyX K H v t ∧ PySem.W.kitOne K t (.type "int") = some (isIB v) ∧ PySem.W.kitOne K t (.type "bool") = some (isB v)
section
variable {K : PySem.W.Frag} {H : Hp}
theorem ty3_int (i : Int) : Ty3 K H (.int i) := ⟨_, .base (.int i), kit_ty (show kitB "int" "int" = some true by decide +kernel), kit_ty (show kitB "int" "bool" = some false by decide +kernel)⟩
theorem ty3_bl (b : Bool) : Ty3 K H (.bl b) := ⟨_, .base (.bl b), kit_ty (show kitB "bool" "int" = some true by decide +kernel), kit_ty (show kitB "bool" "bool" = some true by decide +kernel)⟩
theorem ty3_non : Ty3 K H .non := ⟨_, .base .non, kit_ty (show kitB "NoneType" "int" = some false by decide +kernel), kit_ty (show kitB "NoneType" "bool" = some false by decide +kernel)⟩
theorem ty3_str (z : Str) : Ty3 K H (.str z) := ⟨_, .base (.str z), kit_ty (show kitB "str" "int" = some false by decide +kernel), kit_ty (show kitB "str" "bool" = some false by decide +kernel)⟩
theorem ty3_lst {a : Addr} {xs : List V} (e : H a = some (.lst xs)) : Ty3 K H (.ref a) := ⟨_, .base (.lst e), kit_ty (show kitB "list" "int" = some false by decide +kernel), kit_ty (show kitB "list" "bool" = some false by decide +kernel)⟩
theorem ty3_tup {a : Addr} {xs : List V} (e : H a = some (.tup xs)) : Ty3 K H (.ref a) := ⟨_, .base (.tup e), kit_ty (show kitB "tuple" "int" = some false by decide +kernel), kit_ty (show kitB "tuple" "bool" = some false by decide +kernel)⟩
end
section
variable {P : Program} {w : World} {K : PySem.W.Frag} {mg : Str → Option Value} {base : Heap}
structure Blt (mg : Str → Option Value) : Prop where
  isi : mg "isinstance" = none
  int : mg "int" = none
  bool : mg "bool" = none
def spIsInt (K : PySem.W.Frag) : Sp := fun vs H Q _ => ∃ v, vs = [v] ∧ Ty3 K H v ∧ Q (.bl (isI v)) H
theorem scIsInt : FnScope ["value"] ["value"] (defScope sIsInt) := ⟨rfl, rfl, rfl, by decide +kernel, rfl, by decide +kernel, by decide +kernel⟩
theorem ok_isInt {f : Addr} {fd : FuncData} (F : FnS K "is_integer" sIsInt f fd) (B : Blt mg) : FnOk P w K mg base (L2.CX P w) 1 f fd ["value"] (spIsInt K) := by
  refine F.ok scIsInt (fun vs H Q E h => ?_) (fun cdv A outer s H vs Q E hr h => ?_)
  · obtain ⟨v, rfl, _⟩ := h
    rfl
  · obtain ⟨v, rfl, ⟨t, ht, h1, h2⟩, k⟩ := h
    refine ⟨_, pss_one (ps_ret (pe_and (pe_callB call_isi (by rfl) B.isi (by decide +kernel) (pa_cons (pv 0) (pa_cons (pe_bltn (v := .ty "int") (by rfl) B.int (by decide +kernel) rfl) pa_nil)))
      (pe_one (pe_not (pe_callB call_isi (by rfl) B.isi (by decide +kernel) (pa_cons (pv 0) (pa_cons (pe_bltn (v := .ty "bool") (by rfl) B.bool (by decide +kernel) rfl) pa_nil))))))), ?_⟩
    refine ⟨_, rfl, _, _, _, _, _, rfl, .ty "int", ht, h1, _, rfl, ?_⟩
    cases v with
    | int n =>
      refine iteT ⟨_, rfl, _, _, _, _, _, rfl, .ty "bool", ht, h2, _, rfl, k⟩
    | bl b => exact iteT ⟨_, rfl, _, _, _, _, _, rfl, .ty "bool", ht, h2, _, rfl, k⟩
    | _ => exact iteF k
theorem bN {x : Str} {st : Stmt} {f : Addr} {fd : FuncData} {ps : List Str} (F : FnS K x st f fd)
    (h : ∀ (kV doc pm : Value) (an : Option Addr) (cdv ct : Value) (us : List Value), us.length = ps.length → bindArgs (PySem.W.fnOf x x (defArgs st) (defBody st) (defScope st) .none kV doc pm an cdv ct) ⟨us, []⟩ = pure (ps.zip us)) : Binds K fd ps [] := F.bindsN h
theorem cal_mk {x : Str} {st : Stmt} {f : Addr} {fd : FuncData} {ps : List Str} {k : Nat} {sp : Sp} (F : FnS K x st f fd) (g : mg x = some (.ref f)) (ok : FnOk P w K mg base (L2.CX P w) k f fd ps sp)
    (h : ∀ (kV doc pm : Value) (an : Option Addr) (cdv ct : Value) (us : List Value), us.length = ps.length → bindArgs (PySem.W.fnOf x x (defArgs st) (defBody st) (defScope st) .none kV doc pm an cdv ct) ⟨us, []⟩ = pure (ps.zip us)) : Cal P w K mg base k x f fd ps sp :=
  ⟨g, F.kp, F.bindsN h, ok⟩
/-- whether it is a number; .. below n -/
def isN : V → Bool
  | .int i => decide (0 ≤ i)
  | _ => false
def isBel (n : Int) : V → Bool
  | .int i => decide (0 ≤ i) && decide (i < n)
  | _ => false
def spIsNum (K : PySem.W.Frag) : Sp := fun vs H Q _ => ∃ v, vs = [v] ∧ Ty3 K H v ∧ Q (.bl (isN v)) H
def spIsBel (K : PySem.W.Frag) : Sp := fun vs H Q _ => ∃ v n, vs = [v, .int n] ∧ Ty3 K H v ∧ Q (.bl (isBel n v)) H
theorem scIsNum : FnScope ["value"] ["value"] (defScope sIsNum) := ⟨rfl, rfl, rfl, by decide +kernel, rfl, by decide +kernel, by decide +kernel⟩
theorem ok_isNum {f f1 : Addr} {fd fd1 : FuncData} (F : FnS K "is_number" sIsNum f fd) (C1 : Cal P w K mg base 1 "is_integer" f1 fd1 ["value"] (spIsInt K)) : FnOk P w K mg base (L2.CX P w) 2 f fd ["value"] (spIsNum K) := by
  refine F.ok scIsNum (fun vs H Q E h => ?_) (fun cdv A outer s H vs Q E hr h => ?_)
  · obtain ⟨v, rfl, _⟩ := h
    rfl
  · obtain ⟨v, rfl, ht, k⟩ := h
    refine ⟨_, pss_one (ps_ret (pe_and (pe_cal C1 hr (pa_cons (pv 0) pa_nil) passU) (pe_one (pe_cmp (pc_ge (pv 0) pe_int))))), ?_⟩
    refine ⟨_, rfl, v, rfl, ht, _, rfl, ?_⟩
    cases v with
    | int n => exact iteT ⟨_, rfl, _, _, rfl, rfl, k⟩
    | _ => exact iteF k
theorem scIsBel : FnScope ["value", "limit"] ["value", "limit"] (defScope sIsBel) := ⟨rfl, rfl, rfl, by decide +kernel, rfl, by decide +kernel, by decide +kernel⟩
theorem ok_isBel {f f1 : Addr} {fd fd1 : FuncData} (F : FnS K "is_below" sIsBel f fd) (C1 : Cal P w K mg base 2 "is_number" f1 fd1 ["value"] (spIsNum K)) : FnOk P w K mg base (L2.CX P w) 3 f fd ["value", "limit"] (spIsBel K) := by
  refine F.ok scIsBel (fun vs H Q E h => ?_) (fun cdv A outer s H vs Q E hr h => ?_)
  · obtain ⟨v, n, rfl, _⟩ := h
    rfl
  · obtain ⟨v, n, rfl, ht, k⟩ := h
    refine ⟨_, pss_one (ps_ret (pe_and (pe_cal C1 hr (pa_cons (pv 0) pa_nil) passU) (pe_one (pe_cmp (pc_lt (pv 0) (pv 1)))))), ?_⟩
    refine ⟨_, rfl, v, rfl, ht, _, rfl, ?_⟩
    cases v with
    | int i =>
      have k' : Q (.bl (decide (0 ≤ i) && decide (i < n))) H := k
      show if decide (0 ≤ i) = true then _ else _
      by_cases h0 : 0 ≤ i
      · rw [decide_eq_true h0] at k' ⊢
        exact iteT ⟨_, rfl, _, rfl, _, _, rfl, rfl, k'⟩
      · rw [decide_eq_false h0] at k' ⊢
        exact iteF k'
    | _ => exact iteF k
/-- the primes to 31 -/
def primes : List Int := [2, 3, 5, 7, 11, 13, 17, 19, 23, 29, 31]
def isFld : V → Bool
  | .int i => inV (.int i) (primes.map V.int)
  | _ => false
def spIsFld (K : PySem.W.Frag) : Sp := fun vs H Q _ => ∃ v, vs = [v] ∧ Ty3 K H v ∧ Q (.bl (isFld v)) H
theorem scIsFld : FnScope ["p"] ["p"] (defScope sIsFld) := ⟨rfl, rfl, rfl, by decide +kernel, rfl, by decide +kernel, by decide +kernel⟩
theorem ok_isFld {f f1 fP : Addr} {fd fd1 : FuncData} (F : FnS K "is_field" sIsFld f fd) (C1 : Cal P w K mg base 1 "is_integer" f1 fd1 ["value"] (spIsInt K)) (gP : mg "PRIMES" = some (.ref fP)) (tP : ∀ H, SqT K H fP (primes.map V.int)) :
    FnOk P w K mg base (L2.CX P w) 2 f fd ["p"] (spIsFld K) := by
  refine F.ok scIsFld (fun vs H Q E h => ?_) (fun cdv A outer s H vs Q E hr h => ?_)
  · obtain ⟨v, rfl, _⟩ := h
    rfl
  · obtain ⟨v, rfl, ht, k⟩ := h
    refine ⟨_, pss_one (ps_ret (pe_and (pe_cal C1 hr (pa_cons (pv 0) pa_nil) passU) (pe_one (pe_cmpR op_in_seq (pv 0) (pe_glob (v := .ref fP) rfl gP rfl) rfl)))), ?_⟩
    refine ⟨_, rfl, v, rfl, ht, _, rfl, ?_⟩
    cases v with
    | int n => exact iteT ⟨_, rfl, _, _, rfl, .inr (tP H), rfl, by decide, k⟩
    | _ => exact iteF k
/-- an error of class C with its own dict at d, in a heap that has grown -/
def Errs (C : Addr) (f : Str) (v : V) (H : Hp) (E : XK) : Prop := ∀ d H', Same H H' → H d = none → H' d = some (.xd [(f, v)]) → E (.ref C) (some d) H'
def spCheck (K : PySem.W.Frag) : Sp := fun vs H Q E => ∃ v, vs = [v] ∧ Ty3 K H v ∧ (isFld v = true → Q .non H) ∧ (isFld v = false → Errs (He.ga K "InvalidNumber") "value" v H E)
theorem scCheck : FnScope ["p"] ["p"] (defScope sCheck) := ⟨rfl, rfl, rfl, by decide +kernel, rfl, by decide +kernel, by decide +kernel⟩
theorem ok_check {f f1 : Addr} {fd fd1 fdI : FuncData} (F : FnS K "check_field" sCheck f fd) (C1 : Cal P w K mg base 2 "is_field" f1 fd1 ["p"] (spIsFld K)) (T : Exc1 K mg "InvalidNumber" "value")
    (FI : FnOk P w K mg base (L2.CX P w) 1 (He.ma K (He.ga K "InvalidNumber") "__init__") fdI ["self", "value"] (spInit1 K (He.ga K "InvalidNumber") "value")) (bI : Binds K fdI ["self", "value"] []) :
    FnOk P w K mg base (L2.CX P w) 3 f fd ["p"] (spCheck K) := by
  refine F.ok scCheck (fun vs H Q E h => ?_) (fun cdv A outer s H vs Q E hr h => ?_)
  · obtain ⟨v, rfl, _⟩ := h
    rfl
  · obtain ⟨v, rfl, ht, kY, kN⟩ := h
    refine ⟨_, pss_one (ps_if (pt_not (pt_val (pe_cal C1 hr (pa_cons (pv 0) pa_nil) passU))) (pss_one (ps_raise1 rfl (takes_of rfl rfl rfl rfl) T FI bI hr (pa_cons (pv 0) pa_nil))) pss_nil), ?_⟩
    refine ⟨_, rfl, v, rfl, ht, _, rfl, ?_⟩
    cases e : isFld v with
    | true => exact iteF (kY e)
    | false => exact iteT ⟨_, rfl, v, rfl, kN e⟩
end
section
variable {P : Program} {w : World} {K : PySem.W.Frag} {mg : Str → Option Value} {base : Heap}
/-! ### the errors' __init__ -/
theorem ok_init1 {st : Stmt} {qual fld par : Str} {f C : Addr} {fd : FuncData} (F : FunD K "__init__" qual (defArgs st) (defBody st) (defScope st) [] [] f fd) (S : FnScope (("self" : Str) :: [par]) (("self" : Str) :: [par]) (defScope st))
    (body : ∀ X : Cx, X.N = (("self" : Str) :: [par]) → X.env.scope = defScope st → PSs X (defBody st) (tOst X.K fld (tVar 0) (tVar 1))) :
    FnOk P w K mg base (L2.CX P w) 1 f fd (("self" : Str) :: [par]) (spInit1 K C fld) := by
  refine F.ok S (fun vs H Q E h => ?_) (fun cdv A outer s H vs Q E hr h => ?_)
  · obtain ⟨a, y, rfl, _⟩ := h
    rfl
  · obtain ⟨a, y, rfl, hC, hno, ha, k⟩ := h
    refine ⟨_, body _ rfl rfl, ?_⟩
    exact ⟨_, rfl, _, rfl, a, C, rfl, hC, hno, .inl ⟨ha, fun dx n ne => k dx n ne⟩⟩
theorem fld_mem {p : Int} (h : isFld (.int p) = true) : p ∈ primes := by
  have h' : ((primes.map V.int).any fun y => eqV y (.int p)) = true := h
  obtain ⟨y, hy, e⟩ := List.any_eq_true.mp h'
  obtain ⟨q, hq, rfl⟩ := List.mem_map.mp hy
  have e' : (q == p) = true := e
  rw [← beq_iff_eq.mp e']
  exact hq
theorem mem_fld {p : Int} (h : p ∈ primes) : isFld (.int p) = true := by
  show ((primes.map V.int).any fun y => eqV y (.int p)) = true
  exact List.any_eq_true.mpr ⟨.int p, List.mem_map.mpr ⟨p, h, rfl⟩, by show (p == p) = true; simp⟩
theorem fld_le {p : Int} (h : p ∈ primes) : 2 ≤ p ∧ p ≤ 31 := by
  have all : ∀ q ∈ primes, 2 ≤ q ∧ q ≤ 31 := by decide
  exact all p h
/-- the built-ins that the law's helpers call -/
structure Blt2 (mg : Str → Option Value) : Prop extends Blt mg where
  len : mg "len" = none
  abs : mg "abs" = none
  range : mg "range" = none
  tuple : mg "tuple" = none
/-- numbers from 0 on -/
def Nn (ns : List Int) : Prop := ∀ n ∈ ns, 0 ≤ n
/-- _law_draws(script, many) -/
def spDraws (K : PySem.W.Frag) (many : Int) : Sp := fun vs H Q _ => ∃ (a : Addr) (ns : List Int), vs = [.ref a, .int many] ∧ SqL K H a (ns.map V.int) ∧ ns.length ≤ 63 ∧
  ∀ p ds H', Same H H' → H p = none → H' p = some (.lst (ds.map V.int)) → Nn ds → ds.length ≤ many.toNat → Q (.ref p) H'
theorem scDraws : FnScope ["script", "many", "cell", "rests", "draws", "k", "at", "mixed"] ["script", "many"] (defScope sDraws) := ⟨rfl, rfl, rfl, by decide +kernel, rfl, by decide +kernel, by decide +kernel⟩
def rMd : R2 := rI (fun _ j => j ≠ 0) fun i j => .int (i.fmod j)
def rDv : R2 := rI CDivN fun i j => .int (i.fdiv j)
def rMl : R2 := rI CMul fun i j => .int (i * j)
def rAd : R2 := rI0 fun i j => .int (i + j)
def tI1 (t : TE) : TE := tCB (fun xs H Q => (∃ i, xs = [V.int i] ∧ Q (.int i) H) ∨ ∃ k, xs = [V.bl k] ∧ Q (.int (if k then 1 else 0)) H) (tCons t tNil)
/-- the end of a turn: two mixings, one number put behind the others -/
def tTail (K : PySem.W.Frag) : TS := tSeq (tAsg (tOp rMd (tI1 (tOp rAd (tOp rAd (tOp rMl (tVar 2) (tC (.int 48271))) (tOp rMl (tVar 5) (tC (.int 69621)))) (tC (.int 11)))) (tC (.int 2147483647))) (gName 7))
  (tSeq (tAsg (tOp rMd (tI1 (tOp rAd (tOp rDv (tOp rMl (tVar 7) (tVar 7)) (tC (.int 4096))) (tVar 7))) (tC (.int 2147483629))) (gName 7))
    (tDrop (tBM K "list" rAppend (tVar 4) (tCons (tOp rMd (tI1 (tOp rAd (tOp rDv (tOp rMl (tVar 7) (tVar 7)) (tC (.int 4096))) (tOp rMl (tVar 5) (tC (.int 7919))))) (tC (.int 2147483629))) tNil))))
theorem fmod_bd (x : Int) {m : Int} (h : 0 < m) : 0 ≤ x.fmod m ∧ x.fmod m < m := ⟨Int.fmod_nonneg_of_pos x h, Int.fmod_lt_of_pos x h⟩
theorem tail_ok {D : Ends} {s0 s1 s3 s6 s7 : Option V} {c k : Int} {L : Addr} {ds : List Int} {H : Hp} (hL : H L = some (.lst (ds.map V.int))) (hl : ds.length ≤ 4000)
    (kk : ∀ (x : Int) (y : Option V), 0 ≤ x → D.nx [s0, s1, some (.int c), s3, some (.ref L), some (.int k), s6, y] (upd H L (.lst ((ds ++ [x]).map V.int)))) :
    tTail K D [s0, s1, some (.int c), s3, some (.ref L), some (.int k), s6, s7] H := by
  have b1 := fmod_bd (c * 48271 + k * 69621 + 11) (m := 2147483647) (by decide)
  refine ⟨_, rfl, _, _, rfl, rfl, .inr ⟨by decide, by decide⟩, _, rfl, _, _, rfl, rfl, .inr ⟨by decide, by decide⟩, _, _, rfl, rfl, _, _, rfl, rfl, .inl ⟨_, rfl, _, _, rfl, rfl, (show (2147483647 : Int) ≠ 0 by decide), ?_⟩⟩
  dsimp only
  generalize (c * 48271 + k * 69621 + 11).fmod 2147483647 = m at b1 ⊢
  have b2 := fmod_bd ((m * m).fdiv 4096 + m) (m := 2147483629) (by decide)
  refine ⟨_, rfl, _, rfl, _, _, rfl, rfl, .inl ⟨by omega, by omega⟩, _, _, rfl, rfl, ⟨by decide, by decide⟩, _, rfl, _, _, rfl, rfl, .inl ⟨_, rfl, _, _, rfl, rfl, (show (2147483629 : Int) ≠ 0 by decide), ?_⟩⟩
  dsimp only
  generalize ((m * m).fdiv 4096 + m).fmod 2147483629 = n at b2 ⊢
  refine ⟨_, rfl, .inl ⟨rfl, _, SqL.of hL⟩, ?_⟩
  refine ⟨_, rfl, _, rfl, _, _, rfl, rfl, .inl ⟨by omega, by omega⟩, _, _, rfl, rfl, ⟨by decide, by decide⟩, _, rfl, _, _, rfl, rfl, .inr ⟨by decide, by decide⟩, _, _, rfl, rfl, .inl ⟨_, rfl, _, _, rfl, rfl, (show (2147483629 : Int) ≠ 0 by decide), ?_⟩⟩
  refine ⟨L, _, _, rfl, rfl, hL, ?_, ?_⟩
  · rw [List.length_map]
    exact small4k hl
  · have b3 := fmod_bd ((n * n).fdiv 4096 + k * 7919) (m := 2147483629) (by decide)
    have q := kk _ (some (.int n)) b3.1
    rw [List.map_append] at q
    exact q
theorem ok_draws {f : Addr} {fd : FuncData} (F : FnS K "_law_draws" sDraws f fd) (B : Blt2 mg) {many : Int} (hm0 : 0 ≤ many) (hm : many ≤ 4000) : FnOk P w K mg base (L2.CX P w) 1 f fd ["script", "many"] (spDraws K many) := by
  refine F.ok scDraws (fun vs H Q E h => ?_) (fun cdv A outer s H vs Q E hr h => ?_)
  · obtain ⟨a, ns, rfl, _⟩ := h
    rfl
  · obtain ⟨a, ns, rfl, hS, hl, k⟩ := h
    have nd := scDraws.nd
    refine ⟨_, (pss_cons (ps_setLc (i := 3) (own := [("cell", 2)]) (g := gName 2) (by rfl) nd rfl rfl (sw_true rfl rfl rfl (by decide +kernel)) (pi_list (pv 0)) (blkOk_by (own := [("cell", 2)]) (N := ["script", "many", "cell", "rests", "draws", "k", "at", "mixed"]) (sc := defScope sDraws) (by decide +kernel)) (fun _ _ _ _ _ => pg_name (i := 2) nd rfl (Or.inl rfl)) (fun _ _ _ _ _ => pts_nil) (fun _ _ _ _ _ => (pe_callB call_abs (by rfl) B.abs (by decide +kernel) (pa_cons (pe_callTy call_int1 (by rfl) B.int (by decide +kernel) (pa_cons (pv 2) pa_nil)) pa_nil))))
      (pss_cons (ps_set (i := 4) nd rfl (Or.inl rfl) (pe_lst pa_nil))
      (pss_cons (ps_for (passes_of rfl) rfl (pi_range1 rfl B.range (pa_cons (pv 1) pa_nil)) (pg_name (i := 5) nd rfl (Or.inl rfl)) (pss_cons (ps_set (i := 2) nd rfl (Or.inl rfl) (pv 5))
      (pss_cons (ps_if (pt_cmpR op_gt (pe_callB call_len_seq (by rfl) B.len (by decide +kernel) (pa_cons (pv 0) pa_nil)) pe_int (nomark _)) (pss_cons (ps_set (i := 6) nd rfl (Or.inl rfl) (pe_op op_modN (pv 5) (pe_callB call_len_seq (by rfl) B.len (by decide +kernel) (pa_cons (pv 0) pa_nil))))
      (pss_cons (ps_set (i := 2) nd rfl (Or.inl rfl) (pe_callTy call_int1 (by rfl) B.int (by decide +kernel) (pa_cons (pe_ix ix_list (pv 0) (pv 6) (fun _ _ => rfl)) pa_nil)))
      (pss_one (ps_if (PW.pt (pw_and (pt_cmpR op_ge (pv 2) (pe_op op_pow pe_int pe_int) (nomark _)) (pw_and1 (pt_cmpR op_gt (pe_ix ix_list (pv 3) (pv 6) (fun _ _ => rfl)) pe_int (nomark _))))) (pss_cons (ps_expr (pe_bm PySem.F.plainAttrs_list PySem.F.slot_list_append PySem.F.type_list_append mt_append (pv 4) (pa_cons (pe_op op_modN (pe_callTy call_int1 (by rfl) B.int (by decide +kernel) (pa_cons (pe_ix ix_list (pv 3) (pv 6) (fun _ _ => rfl)) pa_nil)) pe_int) pa_nil)))
      (pss_cons (ps_asg (pe_op op_fdivN (pe_callTy call_int1 (by rfl) B.int (by decide +kernel) (pa_cons (pe_ix ix_list (pv 3) (pv 6) (fun _ _ => rfl)) pa_nil)) pe_int) (pg_sub (pv 3) (pv 6) set_list))
      (pss_one ps_continue))) pss_nil)))) pss_nil)
      (pss_cons (ps_set (i := 7) nd rfl (Or.inl rfl) (pe_op op_modN (pe_callTy call_int1 (by rfl) B.int (by decide +kernel) (pa_cons (pe_op op_add (pe_op op_add (pe_op op_mul (pv 2) pe_int) (pe_op op_mul (pv 5) pe_int)) pe_int) pa_nil)) pe_int))
      (pss_cons (ps_set (i := 7) nd rfl (Or.inl rfl) (pe_op op_modN (pe_callTy call_int1 (by rfl) B.int (by decide +kernel) (pa_cons (pe_op op_add (pe_op op_fdivN (pe_op op_mul (pv 7) (pv 7)) pe_int) (pv 7)) pa_nil)) pe_int))
      (pss_one (ps_expr (pe_bm PySem.F.plainAttrs_list PySem.F.slot_list_append PySem.F.type_list_append mt_append (pv 4) (pa_cons (pe_op op_modN (pe_callTy call_int1 (by rfl) B.int (by decide +kernel) (pa_cons (pe_op op_add (pe_op op_fdivN (pe_op op_mul (pv 7) (pv 7)) pe_int) (pe_op op_mul (pv 5) pe_int)) pa_nil)) pe_int) pa_nil)))))))))
      (pss_one (ps_ret (pv 4)))))), ?_⟩
    refine ⟨_, rfl, a, rfl, ⟨_, hS⟩, fun D hD => lc_list (K := K) (a := a) (xs := ns.map V.int) (fun i H' => Same H H' ∧ ∃ rs : List Int, H' D = some (.lst (rs.map V.int)) ∧ rs.length = i ∧ Nn rs)
      ⟨fun c o hc => by rw [upd_ne (ne_of_none hc hD)]; exact hc, [], upd_same, rfl, fun n hn => by cases hn⟩ (fun i H' _ z => z.1.seq hS) ?_ ?_⟩
    · rintro i x H' hi ⟨s1, rs, e, l, n⟩
      obtain ⟨z, hz, rfl⟩ : ∃ z, ns[i]? = some z ∧ x = V.int z := by
        rw [List.getElem?_map] at hi
        cases q : ns[i]? with
        | none => rw [q] at hi; cases hi
        | some z => rw [q] at hi; exact ⟨z, rfl, (Option.some.inj hi).symm⟩
      have hi2 : i < ns.length := (List.getElem?_eq_some_iff.mp hz).1
      refine ⟨rfl, _, rfl, .inl ⟨z, rfl, z, rfl, _, e, ?_, fun c o hc => ?_, rs ++ [if z < 0 then -z else z], ?_, ?_, ?_⟩⟩
      · rw [List.length_map]
        exact small4k (by omega)
      · rw [upd_ne (ne_of_none hc hD)]
        exact s1 c o hc
      · rw [upd_same, List.map_append]
        rfl
      · rw [List.length_append, l]
        rfl
      · intro m hm
        rcases List.mem_append.mp hm with hm | hm
        · exact n m hm
        · rw [List.mem_singleton.mp hm]
          split <;> omega
    · rintro H1 ⟨s1, rs, e, l, n⟩
      rw [List.length_map] at l
      refine ⟨(by show 0 ≤ sizeLine; omega), fun L hL => ?_⟩
      have hDL : D ≠ L := ne_of_none e hL
      have hL0 : H L = none := s1.free hL
      refine ⟨_, rfl, many, rfl, (by omega), (by omega), for_range (lo := 0) (n := many.toNat) (fun i σ H' => ∃ (v2 v5 v6 v7 : Option V) (rs ds : List Int), σ = [some (.ref a), some (.int many), v2, some (.ref D), some (.ref L), v5, v6, v7] ∧ Same H H' ∧
        H' D = some (.lst (rs.map V.int)) ∧ rs.length = ns.length ∧ Nn rs ∧ H' L = some (.lst (ds.map V.int)) ∧ Nn ds ∧ ds.length ≤ i)
        ⟨none, none, none, none, rs, [], rfl, fun c o hc => by rw [upd_ne (ne_of_none hc hL0)]; exact s1 c o hc, by rw [upd_ne hDL]; exact e, l, n, upd_same, (fun m hm => nomatch hm), Nat.le_refl _⟩ ?_ ?_⟩
      · rintro i σ H2 hi ⟨v2, v5, v6, v7, rs, ds, rfl, s2, eD, lD, nD, eL, nL, lL⟩
        have s2S := s2.seq hS
        have put : ∀ (x : Int) (v2 v5 v6 v7 : Option V), 0 ≤ x → ∃ (v2' v5' v6' v7' : Option V) (rs' ds' : List Int), [some (V.ref a), some (V.int many), v2, some (V.ref D), some (V.ref L), v5, v6, v7] = [some (V.ref a), some (V.int many), v2', some (V.ref D), some (V.ref L), v5', v6', v7'] ∧
            Same H (upd H2 L (.lst ((ds ++ [x]).map V.int))) ∧ upd H2 L (.lst ((ds ++ [x]).map V.int)) D = some (.lst (rs'.map V.int)) ∧ rs'.length = ns.length ∧ Nn rs' ∧ upd H2 L (.lst ((ds ++ [x]).map V.int)) L = some (.lst (ds'.map V.int)) ∧ Nn ds' ∧ ds'.length ≤ i + 1 := by
          intro x v2 v5 v6 v7 hx
          refine ⟨v2, v5, v6, v7, rs, ds ++ [x], rfl, fun c o hc => by rw [upd_ne (ne_of_none hc hL0)]; exact s2 c o hc, by rw [upd_ne hDL]; exact eD, lD, nD, upd_same, ?_, by rw [List.length_append]; show ds.length + 1 ≤ i + 1; omega⟩
          intro m hm
          rcases List.mem_append.mp hm with hm | hm
          · exact nL m hm
          · rw [List.mem_singleton.mp hm]
            exact hx
        refine ⟨_, rfl, _, rfl, _, _, rfl, .inl s2S, _, _, rfl, rfl, _, rfl, ?_⟩
        rw [List.length_map]
        by_cases h0 : ns.length = 0
        · rw [decide_eq_false (by omega)]
          refine iteF ?_
          show tTail K _ [some (.ref a), some (.int many), some (.int _), some (.ref D), some (.ref L), some (.int _), _, _] H2
          exact tail_ok eL (by omega) fun x y hx => put x _ _ _ y hx
        · rw [decide_eq_true (by omega)]
          refine iteT ?_
          refine ⟨_, rfl, _, rfl, _, _, rfl, .inl s2S, _, _, rfl, rfl, (by rw [List.length_map]; omega), ?_⟩
          have bq := fmod_bd (0 + (i : Int)) (m := ((ns.map V.int).length : Int)) (by rw [List.length_map]; omega)
          obtain ⟨q, hq⟩ : ∃ q : Nat, (0 + (i : Int)).fmod ((ns.map V.int).length : Int) = (q : Int) := ⟨((0 + (i : Int)).fmod ((ns.map V.int).length : Int)).toNat, by omega⟩
          rw [hq] at bq
          have hql : q < ns.length := by
            have := bq.2
            rw [List.length_map] at this
            omega
          have e1 : (ns.map V.int)[q]? = some (V.int ns[q]) := by rw [List.getElem?_map, List.getElem?_eq_getElem hql] <;> rfl
          have e2 : (rs.map V.int)[q]? = some (V.int (rs[q]'(by omega))) := by rw [List.getElem?_map, List.getElem?_eq_getElem (by omega)] <;> rfl
          refine ⟨_, rfl, _, rfl, a, _, _, _, rfl, rfl, s2S, (by rw [hq]; exact atI_nat e1), .inl ⟨_, rfl, ?_⟩⟩
          have ea2 : atI (rs.map V.int) ((0 + (i : Int)).fmod ((ns.map V.int).length : Int)) = some (.int (rs[q]'(by omega))) := by rw [hq]; exact atI_nat e2
          have nq : 0 ≤ rs[q]'(by omega) := nD _ (List.getElem_mem _)
          refine ⟨_, rfl, _, _, rfl, rfl, ⟨by decide, by decide, by decide⟩, _, _, rfl, rfl, _, rfl, ?_⟩
          refine iteD (fun hc => ?_) (fun hc => ?_)
          · refine ⟨_, rfl, _, rfl, D, _, _, _, rfl, rfl, SqL.of eD, ea2, _, _, rfl, rfl, _, rfl, ?_⟩
            refine iteD (fun hd => ?_) (fun hd => ?_)
            · refine ⟨_, rfl, .inl ⟨rfl, _, SqL.of eL⟩, _, rfl, _, rfl, D, _, _, _, rfl, rfl, SqL.of eD, ea2, .inl ⟨_, rfl, _, _, rfl, rfl, (show (1000003 : Int) ≠ 0 by decide), L, _, _, rfl, rfl, eL, (by rw [List.length_map]; exact small4k (by omega)), ?_⟩⟩
              have eD2 : ∀ o, upd H2 L o D = some (.lst (rs.map V.int)) := fun o => by rw [upd_ne hDL]; exact eD
              refine ⟨_, rfl, _, rfl, D, _, _, _, rfl, rfl, SqL.of (eD2 _), ea2, .inl ⟨_, rfl, _, _, rfl, rfl, ⟨by decide, by decide⟩, _, rfl, _, rfl, D, _, _, q, rfl, rfl, eD2 _, (by rw [hq, List.length_map]; exact ixN_at (by omega)), ?_⟩⟩
              have b4 := fmod_bd (rs[q]'(by omega)) (m := 1000003) (by decide)
              have b5 : 0 ≤ (rs[q]'(by omega)).fdiv 1000003 := Int.fdiv_nonneg nq (by decide)
              have hDc : ∀ {c : Addr} {o : HO}, H c = some o → c ≠ D := fun hc => ne_of_none hc hD
              refine ⟨_, _, _, _, rs.set q ((rs[q]'(by omega)).fdiv 1000003), ds ++ [(rs[q]'(by omega)).fmod 1000003], rfl, fun c o hc => ?_, ?_, ?_, ?_, ?_, ?_, ?_⟩
              · rw [upd_ne (hDc hc), upd_ne (ne_of_none hc hL0)]
                exact s2 c o hc
              · rw [upd_same, List.map_set]
              · rw [List.length_set]
                exact lD
              · intro m hm
                rcases List.mem_or_eq_of_mem_set hm with h | h
                · exact nD m h
                · rw [h]; exact b5
              · rw [upd_ne hDL.symm, upd_same, List.map_append]
                rfl
              · intro m hm
                rcases List.mem_append.mp hm with hm | hm
                · exact nL m hm
                · rw [List.mem_singleton.mp hm]
                  exact b4.1
              · rw [List.length_append]
                show ds.length + 1 ≤ i + 1
                omega
            · show tTail K _ [some (.ref a), some (.int many), some (.int _), some (.ref D), some (.ref L), some (.int _), _, _] H2
              exact tail_ok eL (by omega) fun x y hx => put x _ _ _ y hx
          · show tTail K _ [some (.ref a), some (.int many), some (.int _), some (.ref D), some (.ref L), some (.int _), _, _] H2
            exact tail_ok eL (by omega) fun x y hx => put x _ _ _ y hx
      · rintro σ H2 ⟨v2, v5, v6, v7, rs, ds, rfl, s2, eD, lD, nD, eL, nL, lL⟩
        exact ⟨_, rfl, k L ds H2 s2 hL0 eL nL lL⟩
/-- the hand: the draws and the place in them -/
def HandAt (H : Hp) (a d : Addr) : Prop := ∃ (ds : List Int) (i : Int), H a = some (.lst [.ref d, .int i]) ∧ H d = some (.lst (ds.map V.int)) ∧ Nn ds ∧ 0 ≤ i
theorem hand_ne {H : Hp} {a d : Addr} {ds : List Int} {i : Int} (h1 : H a = some (.lst [.ref d, .int i])) (h2 : H d = some (.lst (ds.map V.int))) : a ≠ d := by
  refine ne_of h1 h2 fun z => ?_
  have z' : [V.ref d, V.int i] = ds.map V.int := HO.lst.inj z
  cases ds with
  | nil => cases z'
  | cons x r =>
    have z2 : V.ref d = V.int x := (List.cons.inj z').1
    cases z2
/-- all but what stands at a is as it was -/
def Keep (a : Addr) (H H' : Hp) : Prop := ∀ b o, b ≠ a → H b = some o → H' b = some o
theorem Keep.refl {a : Addr} {H : Hp} : Keep a H H := fun _ _ _ h => h
theorem Keep.trans {a : Addr} {H H1 H2 : Hp} (x : Keep a H H1) (y : Keep a H1 H2) : Keep a H H2 := fun b o n h => y b o n (x b o n h)
theorem Keep.of {a : Addr} {H H' : Hp} (h : Same H H') : Keep a H H' := fun b o _ e => h b o e
theorem Keep.new {a p : Addr} {o : HO} {H : Hp} (h : H p = none) : Keep a H (upd H p o) := fun b u _ e => by rw [upd_ne (ne_of_none e h)]; exact e
theorem same_new {p : Addr} {o : HO} {H : Hp} (h : H p = none) : Same H (upd H p o) := fun b u e => by rw [upd_ne (ne_of_none e h)]; exact e
theorem HandAt.same {H H' : Hp} {a d : Addr} (h : HandAt H a d) (s : Same H H') : HandAt H' a d := by
  obtain ⟨ds, i, h1, h2, h3, h4⟩ := h
  exact ⟨ds, i, s _ _ h1, s _ _ h2, h3, h4⟩
theorem HandAt.one {H : Hp} {a d : Addr} (h : HandAt H a d) : ∃ o, H a = some o := by
  obtain ⟨ds, i, h1, _⟩ := h
  exact ⟨_, h1⟩
theorem HandAt.two {H : Hp} {a d : Addr} (h : HandAt H a d) : ∃ o, H d = some o := by
  obtain ⟨ds, i, _, h2, _⟩ := h
  exact ⟨_, h2⟩
theorem HandAt.ne {H : Hp} {a d p : Addr} (h : HandAt H a d) (n : H p = none) : a ≠ p ∧ d ≠ p := by
  obtain ⟨o, e⟩ := h.one
  obtain ⟨u, e2⟩ := h.two
  exact ⟨ne_of_none e n, ne_of_none e2 n⟩
theorem HandAt.put {H : Hp} {a d p : Addr} {o : HO} (h : HandAt H a d) (n1 : a ≠ p) (n2 : d ≠ p) : HandAt (upd H p o) a d := by
  obtain ⟨ds, i, h1, h2, h3, h4⟩ := h
  exact ⟨ds, i, by rw [upd_ne n1]; exact h1, by rw [upd_ne n2]; exact h2, h3, h4⟩
theorem HandAt.new {H : Hp} {a d p : Addr} {o : HO} (h : HandAt H a d) (n : H p = none) : HandAt (upd H p o) a d := h.put (h.ne n).1 (h.ne n).2
def spTake : Sp := fun vs H Q _ => ∃ (a d : Addr) (many : Int), vs = [.ref a, .int many] ∧ 0 < many ∧ HandAt H a d ∧ ∀ r H', 0 ≤ r → r < many → HandAt H' a d → Keep a H H' → Q (.int r) H'
theorem scTake : FnScope ["hand", "many", "at", "draws"] ["hand", "many"] (defScope sTake) := ⟨rfl, rfl, rfl, by decide +kernel, rfl, by decide +kernel, by decide +kernel⟩
theorem ok_take {f : Addr} {fd : FuncData} (F : FnS K "_law_take" sTake f fd) (B : Blt2 mg) : FnOk P w K mg base (L2.CX P w) 1 f fd ["hand", "many"] spTake := by
  refine F.ok scTake (fun vs H Q E h => ?_) (fun cdv A outer s H vs Q E hr h => ?_)
  · obtain ⟨a, d, m, rfl, _⟩ := h
    rfl
  · obtain ⟨a, d, m, rfl, hm, ⟨ds, i, h1, h2, h3, h4⟩, k⟩ := h
    have nd := scTake.nd
    have nad := hand_ne h1 h2
    refine ⟨_, (pss_cons (ps_set (i := 2) nd rfl (Or.inl rfl) (pe_ix ix_list (pv 0) pe_int (fun _ _ => rfl)))
      (pss_cons (ps_asg (pe_op op_add (pv 2) pe_int) (pg_sub (pv 0) pe_int set_list))
      (pss_cons (ps_set (i := 3) nd rfl (Or.inl rfl) (pe_ix ix_list (pv 0) pe_int (fun _ _ => rfl)))
      (pss_cons (ps_if (pt_cmpR op_ge (pv 2) (pe_callB call_len_seq (by rfl) B.len (by decide +kernel) (pa_cons (pv 3) pa_nil)) (nomark _)) (pss_one (ps_ret pe_int)) pss_nil)
      (pss_one (ps_ret (pe_op op_modN (pe_op op_fdivN (pe_callTy call_int1 (by rfl) B.int (by decide +kernel) (pa_cons (pe_ix ix_list (pv 3) (pv 2) (fun _ _ => rfl)) pa_nil)) pe_int) (pv 1)))))))), ?_⟩
    refine ⟨_, rfl, a, _, _, _, rfl, rfl, SqL.of h1, atI_nat (j := 1) rfl, ?_⟩
    refine ⟨_, rfl, _, _, rfl, rfl, _, rfl, a, _, _, 1, rfl, rfl, h1, rfl, ?_⟩
    have h2' : ∀ o, upd H a o d = some (.lst (ds.map V.int)) := fun o => by rw [upd_ne nad.symm]; exact h2
    have done : ∀ r, 0 ≤ r → r < m → Q (.int r) (upd H a (.lst [.ref d, .int (i + 1)])) := fun r r0 r1 =>
      k r _ r0 r1 ⟨ds, i + 1, upd_same, h2' _, h3, by omega⟩ fun b o hb e => by rw [upd_ne hb]; exact e
    refine ⟨_, rfl, a, _, _, _, rfl, rfl, SqL.of upd_same, atI_nat (j := 0) rfl, ?_⟩
    refine ⟨_, rfl, _, rfl, d, _, rfl, .inl (SqL.of (h2' _)), _, _, rfl, rfl, _, rfl, ?_⟩
    rw [List.length_map]
    refine iteD (fun hc => ?_) (fun hc => ?_)
    · exact done 0 (by omega) (by omega)
    · obtain ⟨q, hq⟩ : ∃ q : Nat, i = (q : Int) := ⟨i.toNat, by omega⟩
      subst hq
      have hql : q < ds.length := by omega
      have e1 : (ds.map V.int)[q]? = some (V.int ds[q]) := by rw [List.getElem?_map, List.getElem?_eq_getElem hql] <;> rfl
      have b := fmod_bd (ds[q].fdiv 7) hm
      refine ⟨_, rfl, _, rfl, d, _, _, _, rfl, rfl, SqL.of (h2' _), atI_nat e1, .inl ⟨_, rfl, _, _, rfl, rfl, ⟨by decide, by decide⟩, _, rfl, _, _, rfl, rfl, (by omega), done _ b.1 b.2⟩⟩
theorem fld_all {p : Int} (h2 : 2 ≤ p) (h31 : p ≤ 31) : (isFld (.int p) = true → ∀ j : Nat, (j : Int) < p - 2 → ¬ p.fmod (2 + (j : Int)) = 0) ∧ (isFld (.int p) = false → ∃ j : Nat, (j : Int) < p - 2 ∧ p.fmod (2 + (j : Int)) = 0) := by
  have t1 : ∀ n ∈ List.range 32, isFld (.int (n : Int)) = true → ∀ j ∈ List.range 32, (j : Int) < (n : Int) - 2 → ¬ (n : Int).fmod (2 + (j : Int)) = 0 := by decide +kernel
  have t2 : ∀ n ∈ List.range 32, 2 ≤ n → isFld (.int (n : Int)) = false → ∃ j ∈ List.range 32, (j : Int) < (n : Int) - 2 ∧ (n : Int).fmod (2 + (j : Int)) = 0 := by decide +kernel
  obtain ⟨n, rfl⟩ : ∃ n : Nat, p = (n : Int) := ⟨p.toNat, by omega⟩
  have hn : n ∈ List.range 32 := List.mem_range.mpr (by omega)
  refine ⟨fun h j hj => t1 n hn h j (List.mem_range.mpr (by omega)) hj, fun h => ?_⟩
  obtain ⟨j, _, h1, h2⟩ := t2 n hn (by omega) h
  exact ⟨j, h1, h2⟩
theorem fld_out {p : Int} (h : p < 2 ∨ 31 < p) : isFld (.int p) = false := by
  cases e : isFld (.int p) with
  | false => rfl
  | true =>
    have := fld_le (fld_mem e)
    omega
def ups (n : Nat) : List Int := ((List.range n).filter fun (j : Nat) => isFld (.int (2 + (j : Int)))).map fun (j : Nat) => 2 + (j : Int)
theorem ups_succ (n : Nat) : ups (n + 1) = if isFld (.int (2 + (n : Int))) = true then ups n ++ [2 + (n : Int)] else ups n := by
  unfold ups
  rw [List.range_succ, List.filter_append, List.map_append]
  cases h : isFld (.int (2 + (n : Int))) <;> simp [h]
theorem ups_len (n : Nat) : (ups n).length ≤ n := by
  unfold ups
  rw [List.length_map]
  exact Nat.le_trans (List.length_filter_le _ _) (by simp)
theorem ups_all : ups 30 = primes := by decide +kernel
def spLFd : Sp := fun vs H Q _ => ∃ (a d : Addr), vs = [.ref a] ∧ HandAt H a d ∧ ∀ p H', p ∈ primes → HandAt H' a d → Keep a H H' → Q (.int p) H'
end
end WU

set_option maxRecDepth 100000
set_option maxHeartbeats 8000000
set_option synthInstance.maxHeartbeats 4000000
set_option synthInstance.maxSize 4000
namespace PU
open PySem PySem.Spec PyProof.Rows L2 GS WU

abbrev sqE (b : Bool) (xs : List D) : D := match b with
  | true => .lst xs
  | false => .tup xs
@[simp] theorem seqW_sq {M : Mem} {b : Bool} {xs : List D} : seqW M (.d (sqE b xs)) = some (b, xs) := by cases b <;> rfl
@[simp] theorem fLen_sq {M : Mem} {b : Bool} {xs : List D} : fLen [.d (sqE b xs)] M = some (.d (.int xs.length), True) := by cases b <;> rfl
@[simp] theorem fIx_sq {M : Mem} {b : Bool} {xs : List D} {i : Int} : fIx (.d (sqE b xs)) (.d (.int i)) M = (atI xs i).map fun d => (.d d, True) := by cases b <;> rfl
@[simp] theorem fList_sq {M : Mem} {b : Bool} {xs : List D} : fList [.d (sqE b xs)] M = some (.d (.lst xs), True) := by cases b <;> rfl
@[simp] theorem fTuple_sq {M : Mem} {b : Bool} {xs : List D} : fTuple [.d (sqE b xs)] M = some (.d (.tup xs), True) := by cases b <;> rfl
def Ltr (p : Int) (k : Nat) (r : List Int) : Prop := r.length = k ∧ ∀ x ∈ r, 0 ≤ x ∧ x < p
def MxOk (p : Int) (k : Nat) (m : Mx) : Prop := m.length ≤ 1000 ∧ ∀ r ∈ m, Ltr p k r
theorem line_ge {n : Nat} (h : n ≤ 100000) : n ≤ sizeLine := by rw [sizeLine_eq]; omega
theorem line_gt {n : Nat} (h : n ≤ 100000) : n < sizeLine := by rw [sizeLine_eq]; omega
def wid : Mx → Nat
  | [] => 0
  | r :: _ => r.length
theorem wid_of {p : Int} {k : Nat} {m : Mx} (h : MxOk p k m) (hn : m ≠ []) : wid m = k := by
  cases m with
  | nil => exact absurd rfl hn
  | cons r t => exact (h.2 r (List.mem_cons_self ..)).1
theorem MxOk.wid {p : Int} {k : Nat} {m : Mx} (h : MxOk p k m) : MxOk p (wid m) m := by
  cases m with
  | nil => exact ⟨h.1, fun r hr => nomatch hr⟩
  | cons r t =>
    have : PU.wid (r :: t) = k := (h.2 r (List.mem_cons_self ..)).1
    rw [this]
    exact h
def prodM (p : Int) (m : Mx) (ls : List Int) : List Int := m.map fun r => ((r.zip ls).map fun z => z.1 * z.2).sum % p
/-- a weight and its asks, of either kind -/
abbrev wD (b : Bool) (w : Int) (as : List (List D)) : D := .tup [.int w, sqE b (as.map (sqE b))]
abbrev wE (b : Bool) (d : Int × List (List Mx)) : D := wD b d.1 (d.2.map fun r => r.map tM)
abbrev nE (b : Bool) (d : Int × List (List Int)) : D := wD b d.1 (d.2.map fun r => r.map D.int)
abbrev qsE (b : Bool) (qs : List (List Mx)) : D := sqE b (qs.map fun q => sqE b (q.map tM))
def plF (p l c : Int) (qs : List (List Mx)) (ds : DrN) : List (Str × D) :=
  [("p", .int p), ("book_length", .int l), ("book_count", .int c), ("house_count", .int qs.length), ("questions", qsE false qs), ("draws", .tup (ds.map (nE false))), ("weight", .int (ds.map fun d => d.1).sum)]
def plE (C : Addr) (p l c : Int) (qs : List (List Mx)) (ds : DrN) : D := .ins C (plF p l c qs ds)
/-- numbered draws that are right -/
def NOk (c : Nat) (qs : List (List Mx)) (ds : DrN) : Prop := ds ≠ [] ∧ ds.length ≤ 1000 ∧ c ≤ 100 ∧ qs.length ≤ 100 ∧ (∀ q ∈ qs, q.length ≤ 1000) ∧
  ∀ d ∈ ds, 0 < d.1 ∧ d.2.length = c ∧ ∀ r ∈ d.2, r.length = qs.length ∧ ∀ (i : Nat) (x : Int) (q : List Mx), r[i]? = some x → qs[i]? = some q → 0 ≤ x ∧ x < q.length
def QOk (p : Int) (k : Nat) (q : List Mx) : Prop := (∀ m ∈ q, MxOk p k m) ∧ RisG d2 q ∧ q.length ≤ 1000 ∧ k ≤ 1000
/-- draws of questions that are right -/
def DOk (p : Int) (l c h : Nat) (ds : DrQ) : Prop := p ∈ primes ∧ 0 < l ∧ 0 < c ∧ 0 < h ∧ l ≤ 100 ∧ c ≤ 10 ∧ h ≤ 100 ∧ ds ≠ [] ∧ ds.length ≤ 100 ∧ (∀ n < h, Few64 (askd n ds)) ∧
  ∀ d ∈ ds, 0 < d.1 ∧ d.2.length = c ∧ ∀ r ∈ d.2, r.length = h ∧ ∀ m ∈ r, MxOk p (l * c) m
def cutB (l : Nat) (r : List Int) : List (List Int) := (List.range (r.length / l)).map fun i => (r.drop (i * l)).take l
def widR (l a b : Nat) (r : List Int) : List Int := ((cutB l r).map fun k => List.replicate a 0 ++ k ++ List.replicate b 0).flatten
def widM (l a b : Nat) (m : Mx) : Mx := m.map (widR l a b)
def joinA (one other : List (List Mx)) : List (List Mx) := List.zipWith (List.zipWith (· ++ ·)) one other
def joinD (one other : DrQ) : DrQ := one.flatMap fun d => other.map fun e => (d.1 * e.1, joinA d.2 e.2)
def widD (l a b : Nat) (ds : DrQ) : DrQ := ds.map fun d => (d.1, d.2.map fun r => r.map (widM l a b))
def cInt : Con := cF (α := Int) (fun z => [.d (.int z)]) (fun z => True) (fun z => .bl true)
instance : UC cInt := by unfold cInt; infer_instance
def cNum : Con := cF (α := Int) (fun z => [.d (.int z)]) (fun z => True) (fun z => .bl (decide (0 ≤ z)))
instance : UC cNum := by unfold cNum; infer_instance
def cBel : Con := cF (α := Int × Int) (fun z => [.d (.int z.1), .d (.int z.2)]) (fun z => True) (fun z => .bl (decide (0 ≤ z.1) && decide (z.1 < z.2)))
instance : UC cBel := by unfold cBel; infer_instance
def cPos : Con := cF (α := Int) (fun z => [.d (.int z)]) (fun z => True) (fun z => .bl (decide (0 < z)))
instance : UC cPos := by unfold cPos; infer_instance
def cSeq : Con := cF (α := Bool × List D) (fun z => [.d (sqE z.1 z.2)]) (fun z => True) (fun z => .bl true)
instance : UC cSeq := by unfold cSeq; infer_instance
def cLets : Con := cF (α := Int × Nat × Bool × List Int) (fun z => [.d (.int z.1), .d (.int z.2.1), .d (sqE z.2.2.1 (z.2.2.2.map .int))]) (fun z => Ltr z.1 z.2.1 z.2.2.2 ∧ z.2.1 ≤ 1000) (fun z => .bl true)
instance : UC cLets := by unfold cLets; infer_instance
def cFld : Con := cF (α := Int) (fun z => [.d (.int z)]) (fun z => z ∈ primes) (fun z => .bl true)
instance : UC cFld := by unfold cFld; infer_instance
def cChk : Con := cF (α := Int) (fun z => [.d (.int z)]) (fun z => z ∈ primes) (fun z => .non)
instance : UC cChk := by unfold cChk; infer_instance
def cRow : Con := cF (α := Int × Nat × List Int) (fun z => [.d (tI z.2.2), .d (.int z.1), .d (.int z.2.1)]) (fun z => Ltr z.1 z.2.1 z.2.2 ∧ z.2.1 ≤ 1000) (fun z => .bl true)
instance : UC cRow := by unfold cRow; infer_instance
def cMat : Con := cF (α := Int × Nat × Mx) (fun z => [.d (tM z.2.2), .d (.int z.1), .d (.int z.2.1)]) (fun z => MxOk z.1 z.2.1 z.2.2 ∧ z.2.1 ≤ 1000) (fun z => .bl true)
instance : UC cMat := by unfold cMat; infer_instance
def cRis : Con := cF (α := List Mx) (fun z => [.d (.lst (z.map tM))]) (fun z => RisG d2 z ∧ z.length ≤ 1000) (fun z => .bl true)
instance : UC cRis := by unfold cRis; infer_instance
def cWid : Con := cF (α := Mx) (fun z => [.d (tM z)]) (fun z => True) (fun z => .int (wid z))
instance : UC cWid := by unfold cWid; infer_instance
def cChkM : Con := cF (α := Int × Mx) (fun z => [.d (.int z.1), .d (tM z.2)]) (fun z => z.1 ∈ primes ∧ MxOk z.1 (wid z.2) z.2 ∧ wid z.2 ≤ 1000) (fun z => .non)
instance : UC cChkM := by unfold cChkM; infer_instance
def cProd : Con := cF (α := Int × Nat × Mx × List Int) (fun z => [.d (.int z.1), .d (tM z.2.2.1), .d (tI z.2.2.2)]) (fun z => z.1 ∈ primes ∧ MxOk z.1 z.2.1 z.2.2.1 ∧ Ltr z.1 z.2.1 z.2.2.2 ∧ z.2.1 ≤ 1000) (fun z => tI (prodM z.1 z.2.2.1 z.2.2.2))
instance : UC cProd := by unfold cProd; infer_instance
def cMem : Con := cF (α := Bool × List D) (fun z => [.d (sqE z.1 z.2)]) (fun z => z.2 ≠ []) (fun z => .lst z.2)
instance : UC cMem := by unfold cMem; infer_instance
def cPlc : Con := cF (α := Str × List D) (fun z => [.d (.str z.1), .d (.lst z.2)]) (fun z => z.2.length ≤ 1000 ∧ ∀ d ∈ z.2, d = .bl true) (fun z => .non)
instance : UC cPlc := by unfold cPlc; infer_instance
def cFrm : Con := cF (α := Bool × Int × List (List D) × Nat) (fun z => [.d (wD z.1 z.2.1 z.2.2.1), .d (.int z.2.2.1.length), .d (.int z.2.2.2)]) (fun z => 0 < z.2.1 ∧ z.2.2.1.length ≤ 1000 ∧ ∀ r ∈ z.2.2.1, r.length = z.2.2.2) (fun z => .bl true)
instance : UC cFrm := by unfold cFrm; infer_instance
def cDraw : Con := cF (α := Bool × (Int × List (List Int)) × Nat × List Int) (fun z => [.d (nE z.1 z.2.1), .d (.int z.2.2.1), .d (.lst (z.2.2.2.map .int))]) (fun z => 0 < z.2.1.1 ∧ z.2.1.2.length = z.2.2.1 ∧ z.2.2.1 ≤ 100 ∧ z.2.2.2.length ≤ 100 ∧ ∀ r ∈ z.2.1.2, r.length = z.2.2.2.length ∧ ∀ (i : Nat) (x q : Int), r[i]? = some x → z.2.2.2[i]? = some q → 0 ≤ x ∧ x < q) (fun z => .bl true)
instance : UC cDraw := by unfold cDraw; infer_instance
def cChkD : Con := cF (α := Nat × List (List Mx) × DrN) (fun z => [.d (.int z.1), .d (qsE true z.2.1), .d (.lst (z.2.2.map (nE true)))]) (fun z => NOk z.1 z.2.1 z.2.2) (fun z => .non)
instance : UC cChkD := by unfold cChkD; infer_instance
def cKq : Con := cF (α := List (List Mx)) (fun z => [.d (qsE true z)]) (fun z => z.length ≤ 1000) (fun z => qsE false z)
instance : UC cKq := by unfold cKq; infer_instance
def cKd : Con := cF (α := DrN) (fun z => [.d (.lst (z.map (nE true)))]) (fun z => z.length ≤ 1000 ∧ ∀ d ∈ z, d.2.length ≤ 1000) (fun z => .tup (z.map (nE false)))
instance : UC cKd := by unfold cKd; infer_instance
def cWt : Con := cF (α := DrN) (fun z => [.d (.lst (z.map (nE true)))]) (fun z => z.length ≤ 1000) (fun z => .int (z.map fun d => d.1).sum)
instance : UC cWt := by unfold cWt; infer_instance
def cAreQ : Con := cF (α := Int × Nat × List Mx) (fun z => [.d (.int z.1), .d (.int z.2.1), .d (.lst (z.2.2.map tM))]) (fun z => QOk z.1 z.2.1 z.2.2) (fun z => .bl true)
instance : UC cAreQ := by unfold cAreQ; infer_instance
def cSiz : Con := cF (α := Int × Int × Int) (fun z => [.d (.int z.1), .d (.int z.2.1), .d (.int z.2.2)]) (fun z => z.1 ∈ primes ∧ 0 < z.2.1 ∧ 0 < z.2.2) (fun z => .non)
instance : UC cSiz := by unfold cSiz; infer_instance

/-- a plan's __init__ on a place -/
def cIni (C : Addr) : Con := fun ws M k _ => ∃ (M1 : Mem) (p : Int) (l c : Nat) (qs : List (List Mx)) (ds : DrN), ws = [.p M1.length, .d (.int p), .d (.int l), .d (.int c), .d (qsE true qs), .d (.lst (ds.map (nE true)))] ∧ M = M1 ++ [.ins C []] ∧
  (p ∈ primes ∧ 0 < l ∧ 0 < c ∧ qs ≠ [] ∧ l ≤ 1000 ∧ (∀ q ∈ qs, QOk p (l * c) q) ∧ NOk c qs ds) ∧ k (.d .non) (M1 ++ [.ins C ((plF p l c qs ds).map fun f => (f.1, .d f.2))])
instance {C : Addr} : UC (cIni C) := ⟨fun hk _ ⟨M1, p, l, c, qs, ds, h1, h2, h3, q⟩ => ⟨M1, p, l, c, qs, ds, h1, h2, h3, hk _ _ q⟩⟩
def cFm : Con := cF (α := Bool × (Int × List (List Mx)) × Nat × Int × Nat) (fun z => [.d (wE z.1 z.2.1), .d (.int z.2.1.2.length), .d (.int z.2.2.1), .d (.int z.2.2.2.1), .d (.int z.2.2.2.2)]) (fun z => 0 < z.2.1.1 ∧ z.2.1.2.length ≤ 100 ∧ z.2.2.1 ≤ 100 ∧ z.2.2.2.2 ≤ 1000 ∧ ∀ r ∈ z.2.1.2, r.length = z.2.2.1 ∧ ∀ m ∈ r, MxOk z.2.2.2.1 z.2.2.2.2 m) (fun z => .bl true)
instance : UC cFm := by unfold cFm; infer_instance
def cQa : Con := cF (α := Bool × Nat × DrQ) (fun z => [.d (.int z.2.1), .d (.lst (z.2.2.map (wE z.1)))]) (fun z => Few64 (askd z.2.1 z.2.2) ∧ z.2.2.length ≤ 100 ∧ ∀ d ∈ z.2.2, d.2.length ≤ 10 ∧ ∀ r ∈ d.2, z.2.1 < r.length) (fun z => .lst ((sq (askd z.2.1 z.2.2)).map tM))
instance : UC cQa := by unfold cQa; infer_instance

abbrev kvD (q : List Mx) : List (Mx × D) := q.zipIdx.map fun z => (z.1, .int z.2)
def cNa (P : Program) (w : World) : Con := cF (α := Bool × List (List Mx) × List (List Mx)) (fun z => [.d (.lst (z.2.1.map fun q => dicQ P w (kvD q))), .d (sqE z.1 (z.2.2.map fun r => sqE z.1 (r.map tM)))]) (fun z => z.2.1.length ≤ 100 ∧ z.2.2.length ≤ 100 ∧ ∀ r ∈ z.2.2, ∀ (i : Nat) (q : Mx) (l : List Mx), r[i]? = some q → z.2.1[i]? = some l → q ∈ l) (fun z => sqE true (z.2.2.map fun r => sqE true ((nrow z.2.1 r).map .int)))
instance {P : Program} {w : World} : UC (cNa P w) := by unfold cNa; infer_instance
def cMade (C : Addr) : Con := cF (α := Bool × Int × Nat × Nat × Nat × DrQ) (fun z => [.d (.at (.ref C)), .d (.int z.2.1), .d (.int z.2.2.1), .d (.int z.2.2.2.1), .d (.int z.2.2.2.2.1), .d (.lst (z.2.2.2.2.2.map (wE z.1)))]) (fun z => DOk z.2.1 z.2.2.1 z.2.2.2.1 z.2.2.2.2.1 z.2.2.2.2.2) (fun z => plE C z.2.1 z.2.2.1 z.2.2.2.1 (qsOf z.2.2.2.2.1 z.2.2.2.2.2) (numD (qsOf z.2.2.2.2.1 z.2.2.2.2.2) z.2.2.2.2.2))
instance {C : Addr} : UC (cMade C) := by unfold cMade; infer_instance

theorem sqE_map {α : Type} (f : D → D) (g : α → D) (l : List α) : (l.map g).map f = l.map (f ∘ g) := List.map_map
theorem nE_eq (b : Bool) (d : Int × List (List Int)) : nE b d = .tup [.int d.1, sqE b (d.2.map fun r => sqE b (r.map D.int))] := by
  show D.tup [.int d.1, sqE b ((d.2.map fun r => r.map D.int).map (sqE b))] = _
  rw [List.map_map]
  rfl
theorem wE_eq (b : Bool) (d : Int × List (List Mx)) : wE b d = .tup [.int d.1, sqE b (d.2.map fun r => sqE b (r.map tM))] := by
  show D.tup [.int d.1, sqE b ((d.2.map fun r => r.map tM).map (sqE b))] = _
  rw [List.map_map]
  rfl
theorem cut_1 (xs : List D) : cutD xs (some 1) none = xs.drop 1 := by
  cases xs with
  | nil => rfl
  | cons x t =>
    have e1 : HT.sIx (x :: t).length 0 (some 1) = 1 := by
      show min (1 : Int).toNat (t.length + 1) = 1
      show min 1 (t.length + 1) = 1
      omega
    unfold cutD
    rw [e1, HT.sIx_none]
    show t.take (t.length + 1 - 1) = t
    rw [Nat.add_sub_cancel, List.take_length]
theorem ris_pair {qs : List Mx} (h : RisG d2 qs) : ∀ z ∈ qs.zip qs.tail, ltG d2 z.1 z.2 = true := by
  intro z hz
  rw [← List.drop_one] at hz
  obtain ⟨i, hi⟩ := List.getElem?_of_mem hz
  obtain ⟨h1, h2⟩ := List.getElem?_zip_eq_some.mp hi
  rw [List.getElem?_drop] at h2
  exact h i z.1 z.2 h1 (by rw [Nat.add_comm]; exact h2)
theorem zipD_map {α β : Type} (f : α → D) (g : β → D) (xs : List α) (ys : List β) : zipD (xs.map f) (ys.map g) = (xs.zip ys).map fun z => .tup [f z.1, g z.2] := by
  unfold zipD
  rw [List.zip_map, List.map_map]
  rfl
theorem pyAllI : ∀ r : List Int, pyAll (r.map D.int) = some (r.map PyData.int)
  | [] => rfl
  | x :: r => by
    rw [List.map_cons, pyAll, pyAllI r]
    rfl
theorem pyAllR : ∀ m : Mx, pyAll (m.map tI) = some (m.map d1)
  | [] => rfl
  | x :: r => by
    rw [List.map_cons, pyAll, pyAllR r]
    show (match (pyAll (x.map D.int)).map PyData.tuple, some (r.map d1) with | some p, some q => some (p :: q) | _, _ => none) = _
    rw [pyAllI x]
    rfl
theorem pyM (m : Mx) : pyD (tM m) = some (d2 m) := by
  show (pyAll (m.map tI)).map PyData.tuple = _
  rw [pyAllR m]
  rfl
theorem fLt_M {M : Mem} {a b : Mx} : fLt (.d (tM a)) (.d (tM b)) M = some (.d (.bl (ltG d2 a b)), True) := by
  show (match pyD (tM a), pyD (tM b) with | some p, some q => some (W.d (.bl (PySem.W.dataLt p q)), PySem.W.alike p q = true ∧ p ≠ PyData.none ∧ p.depth ≤ 60) | _, _ => none) = _
  rw [pyM, pyM]
  have : (PySem.W.alike (d2 a) (d2 b) = true ∧ d2 a ≠ PyData.none ∧ (d2 a).depth ≤ 60) = True := eq_true ⟨alike2 a b, (fun z => by cases z), depth2 a⟩
  simp only [this]
  rfl
end PU

set_option maxRecDepth 100000
set_option maxHeartbeats 8000000
set_option synthInstance.maxHeartbeats 4000000
set_option synthInstance.maxSize 4000
namespace PU
open PySem PySem.Spec PyProof.Rows L2 GS WU

abbrev tMs (q : List Mx) : D := .lst (q.map tM)

structure PlK (K : PySem.W.Frag) (C : Addr) : Prop where
  cl : Cls K C
  p : NoAttr K C "p"
  bl : NoAttr K C "book_length"
  bc : NoAttr K C "book_count"
  hc : NoAttr K C "house_count"
  qs : NoAttr K C "questions"
  dr : NoAttr K C "draws"
  wt : NoAttr K C "weight"
section
variable {M : Mem} {C : Addr} {p l c : Int} {qs : List (List Mx)} {ns : DrN}
@[simp] theorem cls_pl : clsW M (.d (plE C p l c qs ns)) = some C := rfl
@[simp] theorem fld_p : fldW "p" M (.d (plE C p l c qs ns)) = some (.d (.int p)) := rfl
@[simp] theorem fld_bl : fldW "book_length" M (.d (plE C p l c qs ns)) = some (.d (.int l)) := rfl
@[simp] theorem fld_bc : fldW "book_count" M (.d (plE C p l c qs ns)) = some (.d (.int c)) := rfl
@[simp] theorem fld_hc : fldW "house_count" M (.d (plE C p l c qs ns)) = some (.d (.int qs.length)) := rfl
@[simp] theorem fld_qs : fldW "questions" M (.d (plE C p l c qs ns)) = some (.d (qsE false qs)) := rfl
@[simp] theorem fld_dr : fldW "draws" M (.d (plE C p l c qs ns)) = some (.d (.tup (ns.map (nE false)))) := rfl
@[simp] theorem fld_wt : fldW "weight" M (.d (plE C p l c qs ns)) = some (.d (.int (ns.map fun d => d.1).sum)) := rfl
end
def cAsk (C : Addr) : Con := fun ws M k e => ∃ (p l c : Int) (qs : List (List Mx)) (ns : DrN) (qs' : List (List Mx)), ws = [.d (plE C p l c qs ns), .d (.lst (qs'.map tMs))] ∧ (qs'.length ≤ 1000 ∧ ns.length ≤ 1000 ∧ ∀ d ∈ ns, d.2.length ≤ 1000 ∧ ∀ r ∈ d.2, ∀ (i : Nat) (x : Int) (q : List Mx), r[i]? = some x → qs'[i]? = some q → 0 ≤ x ∧ x < q.length) ∧ k (.d ((.lst ((unD qs' ns).map (wE true))))) M
instance {C : Addr} : UC (cAsk C) := ⟨fun hk _ h => by
  obtain ⟨p, l, c, qs, ns, qs', e1, e2, qQ⟩ := h
  exact ⟨p, l, c, qs, ns, qs', e1, e2, hk _ _ qQ⟩⟩
def cCut  : Con := fun ws M k e => ∃ (l m : Nat) (r : List Int), ws = [.d (.int l), .d (tI r)] ∧ (1 ≤ l ∧ l ≤ 12 ∧ m ≤ 16 ∧ r.length = l * m) ∧ k (.d (tM (cutB l r))) M
instance  : UC (cCut ) := ⟨fun hk _ h => by
  obtain ⟨l, m, r, e1, e2, qQ⟩ := h
  exact ⟨l, m, r, e1, e2, hk _ _ qQ⟩⟩
def cLof  : Con := fun ws M k e => ∃ (b : Bool) (m : Mx), ws = [.d (sqE b (m.map tI))] ∧ (m.length ≤ 100 ∧ ∀ r ∈ m, r.length ≤ 1000) ∧ k (.d (tI m.flatten)) M
instance  : UC (cLof ) := ⟨fun hk _ h => by
  obtain ⟨b, m, e1, e2, qQ⟩ := h
  exact ⟨b, m, e1, e2, hk _ _ qQ⟩⟩
def cWr (C : Addr) : Con := fun ws M k e => ∃ (p c : Int) (l m : Nat) (qs : List (List Mx)) (ns : DrN) (r : List Int) (a b : Nat), ws = [.d (plE C p l c qs ns), .d (tI r), .d (.int a), .d (.int b)] ∧ (1 ≤ l ∧ l ≤ 12 ∧ m ≤ 16 ∧ r.length = l * m ∧ a ≤ 100 ∧ b ≤ 100) ∧ k (.d (tI (widR l a b r))) M
instance {C : Addr} : UC (cWr C) := ⟨fun hk _ h => by
  obtain ⟨p, c, l, m, qs, ns, r, a, b, e1, e2, qQ⟩ := h
  exact ⟨p, c, l, m, qs, ns, r, a, b, e1, e2, hk _ _ qQ⟩⟩
def cWn (C : Addr) : Con := fun ws M k e => ∃ (p c : Int) (l m : Nat) (qs : List (List Mx)) (ns : DrN) (a b : Nat), ws = [.d (plE C p l c qs ns), .d (.int a), .d (.int b)] ∧ (1 ≤ l ∧ l ≤ 12 ∧ m ≤ 16 ∧ a ≤ 100 ∧ b ≤ 100 ∧ qs.length ≤ 1000 ∧ ∀ q ∈ qs, q.length ≤ 1000 ∧ ∀ m' ∈ q, m'.length ≤ 1000 ∧ ∀ r ∈ m', r.length = l * m) ∧ k (.d (.lst ((qs.map fun q => q.map (widM l a b)).map tMs))) M
instance {C : Addr} : UC (cWn C) := ⟨fun hk _ h => by
  obtain ⟨p, c, l, m, qs, ns, a, b, e1, e2, qQ⟩ := h
  exact ⟨p, c, l, m, qs, ns, a, b, e1, e2, hk _ _ qQ⟩⟩
def cJoin  : Con := fun ws M k e => ∃ (one other : List (List Mx)), ws = [.d (sqE true (one.map tMs)), .d (sqE true (other.map tMs))] ∧ (one.length ≤ 1000 ∧ (∀ r ∈ one, r.length ≤ 1000 ∧ ∀ m ∈ r, m.length ≤ 1000) ∧ ∀ r ∈ other, ∀ m ∈ r, m.length ≤ 1000) ∧ k (.d (.lst ((joinA one other).map tMs))) M
instance  : UC (cJoin ) := ⟨fun hk _ h => by
  obtain ⟨one, other, e1, e2, qQ⟩ := h
  exact ⟨one, other, e1, e2, hk _ _ qQ⟩⟩

/-- the two plans of draws D1, D2 put beside each other, or refused -/
def cBes (C XP : Addr) : Con := fun ws M k e => ∃ (p1 p2 : Int) (l1 l2 c1 c2 h1 h2 : Nat) (D1 D2 : DrQ), ws = [.d (plE C p1 l1 c1 (qsOf h1 D1) (numD (qsOf h1 D1) D1)), .d (plE C p2 l2 c2 (qsOf h2 D2) (numD (qsOf h2 D2) D2))] ∧
  (DOk p1 l1 c1 h1 D1 ∧ DOk p2 l2 c2 h2 D2 ∧ l1 ≤ 12 ∧ l2 ≤ 12 ∧ D1.length * D2.length * c1 < 64 ∧ (∀ d ∈ D1, d.1 < 2 ^ 60) ∧ (∀ d ∈ D1, ∀ r ∈ d.2, ∀ m ∈ r, m.length ≤ 100) ∧ ∀ d ∈ D2, ∀ r ∈ d.2, ∀ m ∈ r, m.length ≤ 100) ∧
  ((p1 = p2 ∧ h1 = h2 ∧ c1 = c2) → k (.d (plE C p1 (l1 + l2 : Nat) c1 (qsOf h1 (joinD (widD l1 0 l2 D1) (widD l2 l1 0 D2))) (numD (qsOf h1 (joinD (widD l1 0 l2 D1) (widD l2 l1 0 D2))) (joinD (widD l1 0 l2 D1) (widD l2 l1 0 D2))))) M) ∧
  (¬ (p1 = p2 ∧ h1 = h2 ∧ c1 = c2) → e XP [("place", .int 0), ("part", .str "beside")] M)
instance {C XP : Addr} : UC (cBes C XP) := ⟨fun hk he h => by
  obtain ⟨p1, p2, l1, l2, c1, c2, h1, h2, D1, D2, e1, e2, q1, q2⟩ := h
  exact ⟨p1, p2, l1, l2, c1, c2, h1, h2, D1, D2, e1, e2, fun z => hk _ _ (q1 z), fun z => he _ _ _ (q2 z)⟩⟩
structure PMM (P : Program) (w : World) (K : PySem.W.Frag) (mg : Str → Option Value) (base : Heap) (C p g : Addr) : Prop where
  gP : mg "Plan" = some (.ref C)
  r : ClX.CRead K C (.type "type")
  c : ClX.CMet K C (.type "type") "made" p g
  F : FnR P w K mg base (L2.CX P w) 10 g (spP K (cMade C))
@[simp] theorem cutD_nat (xs : List D) (a b : Nat) : cutD xs (some (a : Int)) (some (b : Int)) = (xs.drop a).take (b - a) := by
  have e : ∀ (n d i : Nat), HT.sIx n d (some (i : Int)) = min i n := fun n d i => by
    show (if (i : Int) < 0 then ((i : Int) + (n : Int)).toNat else min (i : Int).toNat n) = _
    rw [if_neg (by omega)]
    rfl
  unfold cutD
  rw [e, e]
  by_cases h : a ≤ xs.length
  · rw [Nat.min_eq_left h]
    by_cases h2 : b ≤ xs.length
    · rw [Nat.min_eq_left h2]
    · rw [Nat.min_eq_right (by omega), List.take_of_length_le (by rw [List.length_drop]; omega), List.take_of_length_le (by rw [List.length_drop]; omega)]
  · rw [show min a xs.length = xs.length by omega, List.drop_of_length_le (Nat.le_refl _), List.drop_of_length_le (by omega)]
    simp

theorem getD_f (f : Mx → Mx) (h : f [] = []) (l : List Mx) (i : Nat) : ((l.map f)[i]?).getD [] = f ((l[i]?).getD []) := by
  rw [List.getElem?_map]
  cases l[i]? with
  | none => exact h.symm
  | some x => rfl
theorem qrow_map (f : Mx → Mx) (h : f [] = []) : ∀ (qs : List (List Mx)) (r : List Int), qrow (qs.map (List.map f)) r = (qrow qs r).map f
  | [], r => by simp [qrow]
  | l :: qs, [] => by simp [qrow]
  | l :: qs, x :: r => by
    have := qrow_map f h qs r
    unfold qrow at this ⊢
    rw [List.map_cons, List.zipWith_cons_cons, List.zipWith_cons_cons, this, getD_f f h]
    rfl
theorem unD_map (f : Mx → Mx) (h : f [] = []) (qs : List (List Mx)) (ns : DrN) : unD (qs.map (List.map f)) ns = (unD qs ns).map fun d => (d.1, d.2.map (List.map f)) := by
  unfold unD
  rw [List.map_map]
  refine List.map_congr_left fun d _ => ?_
  show (d.1, d.2.map (qrow (qs.map (List.map f)))) = (d.1, (d.2.map (qrow qs)).map (List.map f))
  rw [List.map_map]
  exact congrArg (Prod.mk d.1) (List.map_congr_left fun r _ => qrow_map f h qs r)
theorem un_wid {h : Nat} {l a b : Nat} {D1 : DrQ} (w : Wide h D1) : unD ((qsOf h D1).map fun q => q.map (widM l a b)) (numD (qsOf h D1) D1) = widD l a b D1 := by
  have := unD_map (widM l a b) rfl (qsOf h D1) (numD (qsOf h D1) D1)
  rw [un_num w] at this
  exact this
theorem cut_len {l m : Nat} {r : List Int} (h0 : 0 < l) (h : r.length = l * m) : (cutB l r).length = m := by
  rw [cutB, List.length_map, List.length_range, h, Nat.mul_div_cancel_left _ h0]
theorem cut_each {l m : Nat} {r k : List Int} (h0 : 0 < l) (h : r.length = l * m) (hk : k ∈ cutB l r) : k.length = l ∧ ∀ x ∈ k, x ∈ r := by
  obtain ⟨i, hi, rfl⟩ := List.mem_map.mp hk
  rw [List.mem_range, h, Nat.mul_div_cancel_left _ h0] at hi
  refine ⟨?_, fun x hx => List.mem_of_mem_drop (List.mem_of_mem_take hx)⟩
  rw [List.length_take, List.length_drop, h]
  have : i * l + l ≤ l * m := by
    rw [← Nat.succ_mul, Nat.mul_comm l m]
    exact Nat.mul_le_mul_right _ hi
  omega
theorem sum_flat {n : Nat} : ∀ m : Mx, (∀ r ∈ m, r.length = n) → m.flatten.length = m.length * n
  | [], _ => by simp
  | r :: m, h => by
    rw [List.flatten_cons, List.length_append, sum_flat m fun r hr => h r (List.mem_cons_of_mem _ hr), h r (List.mem_cons_self ..), List.length_cons, Nat.succ_mul, Nat.add_comm]
theorem widR_ok {p : Int} {l m a b : Nat} {r : List Int} (h0 : 0 < l) (hp : 0 < p) (h : Ltr p (l * m) r) : Ltr p ((a + l + b) * m) (widR l a b r) := by
  constructor
  · rw [widR, sum_flat (n := a + l + b), List.length_map, cut_len h0 h.1, Nat.mul_comm]
    intro k hk
    obtain ⟨k', hk', rfl⟩ := List.mem_map.mp hk
    rw [List.length_append, List.length_append, List.length_replicate, List.length_replicate, (cut_each h0 h.1 hk').1]
  · intro x hx
    obtain ⟨k, hk, hx⟩ := List.mem_flatten.mp hx
    obtain ⟨k', hk', rfl⟩ := List.mem_map.mp hk
    rcases List.mem_append.mp hx with hx | hx
    · rcases List.mem_append.mp hx with hx | hx
      · rw [(List.mem_replicate.mp hx).2]
        omega
      · exact h.2 x ((cut_each h0 h.1 hk').2 x hx)
    · rw [(List.mem_replicate.mp hx).2]
      omega
theorem widM_ok {p : Int} {l m a b : Nat} {q : Mx} (h0 : 0 < l) (hp : 0 < p) (h : MxOk p (l * m) q) : MxOk p ((a + l + b) * m) (widM l a b q) := by
  refine ⟨by rw [widM, List.length_map]; exact h.1, fun r hr => ?_⟩
  obtain ⟨r', hr', rfl⟩ := List.mem_map.mp hr
  exact widR_ok h0 hp (h.2 r' hr')
theorem nd_len : ∀ (us qs : List Mx), us.Nodup → (∀ u ∈ us, u ∈ qs) → us.length ≤ qs.length
  | [], _, _, _ => Nat.zero_le _
  | u :: us, qs, nd, sub => by
    obtain ⟨n1, n2⟩ := List.nodup_cons.mp nd
    have hu := sub u (List.mem_cons_self ..)
    have := nd_len us (qs.erase u) n2 fun x hx => (List.mem_erase_of_ne fun (e : x = u) => n1 (e ▸ hx)).mpr (sub x (List.mem_cons_of_mem _ hx))
    rw [List.length_erase_of_mem hu] at this
    have := List.length_pos_of_mem hu
    rw [List.length_cons]
    omega
theorem few_len {qs : List Mx} (h : qs.length < 64) : Few64 qs := fun us nd sub => by
  have := nd_len us qs nd sub
  omega
theorem askd_len {n k : Nat} : ∀ {ds : DrQ}, (∀ d ∈ ds, d.2.length ≤ k) → (askd n ds).length ≤ ds.length * k
  | [], _ => by simp [askd]
  | d :: ds, h => by
    have := askd_len (n := n) (k := k) (ds := ds) fun d hd => h d (List.mem_cons_of_mem _ hd)
    have h1 := h d (List.mem_cons_self ..)
    unfold askd at this ⊢
    rw [List.flatMap_cons, List.length_append, List.length_map, List.length_cons, Nat.succ_mul]
    omega
theorem zipW_mem {α β γ : Type} {f : α → β → γ} {xs : List α} {ys : List β} {z : γ} (h : z ∈ List.zipWith f xs ys) : ∃ x ∈ xs, ∃ y ∈ ys, z = f x y := by
  rw [← List.map_uncurry_zip_eq_zipWith] at h
  obtain ⟨⟨x, y⟩, hp, rfl⟩ := List.mem_map.mp h
  obtain ⟨h1, h2⟩ := List.of_mem_zip hp
  exact ⟨x, h1, y, h2, rfl⟩
theorem joinD_mem {A B : DrQ} {d : Int × List (List Mx)} (h : d ∈ joinD A B) : ∃ a ∈ A, ∃ b ∈ B, d = (a.1 * b.1, joinA a.2 b.2) := by
  obtain ⟨a, ha, h⟩ := List.mem_flatMap.mp h
  obtain ⟨b, hb, rfl⟩ := List.mem_map.mp h
  exact ⟨a, ha, b, hb, rfl⟩
theorem joinD_len (A B : DrQ) : (joinD A B).length = A.length * B.length := by
  unfold joinD
  induction A with
  | nil => simp
  | cons a A ih => rw [List.flatMap_cons, List.length_append, List.length_map, ih, List.length_cons, Nat.succ_mul, Nat.add_comm]
theorem join_ok {p : Int} {l1 l2 c h : Nat} {D1 D2 : DrQ} (h1 : DOk p l1 c h D1) (h2 : DOk p l2 c h D2) (hl1 : l1 ≤ 12) (hl2 : l2 ≤ 12) (hn : D1.length * D2.length * c < 64) (b1 : ∀ d ∈ D1, ∀ r ∈ d.2, ∀ m ∈ r, m.length ≤ 100) (b2 : ∀ d ∈ D2, ∀ r ∈ d.2, ∀ m ∈ r, m.length ≤ 100) :
    DOk p (l1 + l2) c h (joinD (widD l1 0 l2 D1) (widD l2 l1 0 D2)) := by
  obtain ⟨hp, a1, a2, a3, a4, a5, a6, a7, a8, a9, a10⟩ := h1
  obtain ⟨_, e1, e2, e3, e4, e5, e6, e7, e8, e9, e10⟩ := h2
  have p0 : 0 < p := by
    have := (by decide : ∀ q ∈ primes, (2 : Int) ≤ q) p hp
    omega
  have hlen : (joinD (widD l1 0 l2 D1) (widD l2 l1 0 D2)).length = D1.length * D2.length := by rw [joinD_len, widD, widD, List.length_map, List.length_map]
  have hle : D1.length * D2.length ≤ D1.length * D2.length * c := Nat.le_mul_of_pos_right _ a2
  have key : ∀ d ∈ joinD (widD l1 0 l2 D1) (widD l2 l1 0 D2), 0 < d.1 ∧ d.2.length = c ∧ ∀ r ∈ d.2, r.length = h ∧ ∀ m ∈ r, MxOk p ((l1 + l2) * c) m := by
    intro d hd
    obtain ⟨x, hx, y, hy, rfl⟩ := joinD_mem hd
    obtain ⟨x0, hx0, rfl⟩ := List.mem_map.mp hx
    obtain ⟨y0, hy0, rfl⟩ := List.mem_map.mp hy
    obtain ⟨f1, f2, f3⟩ := a10 x0 hx0
    obtain ⟨g1, g2, g3⟩ := e10 y0 hy0
    refine ⟨Int.mul_pos f1 g1, by simp [joinA, f2, g2], fun r hr => ?_⟩
    obtain ⟨r1, hr1, r2, hr2, rfl⟩ := zipW_mem hr
    obtain ⟨s1, hs1, rfl⟩ := List.mem_map.mp hr1
    obtain ⟨s2, hs2, rfl⟩ := List.mem_map.mp hr2
    refine ⟨by simp [(f3 s1 hs1).1, (g3 s2 hs2).1], fun m hm => ?_⟩
    obtain ⟨m1, hm1, m2, hm2, rfl⟩ := zipW_mem hm
    obtain ⟨n1, hn1, rfl⟩ := List.mem_map.mp hm1
    obtain ⟨n2, hn2, rfl⟩ := List.mem_map.mp hm2
    have k1 := widM_ok (a := 0) (b := l2) a1 p0 ((f3 s1 hs1).2 n1 hn1)
    have k2 := widM_ok (a := l1) (b := 0) e1 p0 ((g3 s2 hs2).2 n2 hn2)
    rw [Nat.zero_add] at k1
    rw [Nat.add_zero] at k2
    have t1 := b1 x0 hx0 s1 hs1 n1 hn1
    have t2 := b2 y0 hy0 s2 hs2 n2 hn2
    refine ⟨by rw [List.length_append, widM, widM, List.length_map, List.length_map]; omega, fun r hr => ?_⟩
    rcases List.mem_append.mp hr with hr | hr
    · exact k1.2 r hr
    · exact k2.2 r hr
  refine ⟨hp, by omega, a2, a3, by omega, a5, a6, ?_, by omega, fun n hn' => ?_, key⟩
  · intro z
    rw [z, List.length_nil] at hlen
    have : 0 < D1.length * D2.length := Nat.mul_pos (List.length_pos_iff.mpr a7) (List.length_pos_iff.mpr e7)
    omega
  · refine few_len (Nat.lt_of_le_of_lt (askd_len (k := c) fun d hd => Nat.le_of_eq (key d hd).2.1) ?_)
    rw [hlen]
    exact hn
theorem plan_ok {p : Int} {l c h : Nat} {ds : DrQ} (D : DOk p l c h ds) : NOk c (qsOf h ds) (numD (qsOf h ds) ds) ∧ (∀ q ∈ qsOf h ds, QOk p (l * c) q) ∧ (qsOf h ds).length = h ∧ Wide h ds ∧ ∀ q ∈ qsOf h ds, q.length < 64 := by
  obtain ⟨hp, hl, hc, hh, hl2, hc2, hh2, h0, hd, hf, hr⟩ := D
  have hw : Wide h ds := fun d q r hr' => ((hr d q).2.2 r hr').1
  have hlen : (qsOf h ds).length = h := by rw [qsOf, List.length_map, List.length_range]
  have hqn : ∀ q ∈ qsOf h ds, ∃ n < h, q = sq (askd n ds) := fun q hq => by
    obtain ⟨n, hn, rfl⟩ := List.mem_map.mp hq
    exact ⟨n, List.mem_range.mp hn, rfl⟩
  have hq64 : ∀ q ∈ qsOf h ds, q.length < 64 := fun q hq => by
    obtain ⟨n, hn, rfl⟩ := hqn q hq
    exact hf n hn _ (sq_nd _) fun u hu => sq_mem.mp hu
  refine ⟨⟨by simpa [numD] using h0, by rw [numD, List.length_map]; omega, by omega, by omega, fun q hq => by have := hq64 q hq; omega, fun d hd1 => ?_⟩, ?_, hlen, hw, hq64⟩
  · obtain ⟨d', hd2, rfl⟩ := List.mem_map.mp hd1
    obtain ⟨a1, a2, a3⟩ := hr d' hd2
    refine ⟨a1, by rw [List.length_map]; exact a2, fun r hr1 => ?_⟩
    obtain ⟨r', hr2, rfl⟩ := List.mem_map.mp hr1
    refine ⟨by rw [nrow, List.length_zipWith, hlen, (a3 r' hr2).1, Nat.min_self], fun i x q e1 e2 => ?_⟩
    rw [nrow, List.getElem?_zipWith_eq_some] at e1
    obtain ⟨q', m, e3, e4, rfl⟩ := e1
    rw [e2] at e3
    cases e3
    obtain ⟨lt, rfl⟩ := List.getElem?_eq_some_iff.mp e2
    have : (qsOf h ds)[i]'lt = sq (askd i ds) := by simp [qsOf]
    have hm : m ∈ (qsOf h ds)[i]'lt := by
      rw [this]
      exact sq_mem.mpr (askd_mem (c := h) hd2 hr2 e4)
    have := List.idxOf_lt_length_iff.mpr hm
    omega
  · intro q hq
    obtain ⟨n, hn, rfl⟩ := hqn q hq
    refine ⟨fun m hm => ?_, sq_ris _, by have := hq64 _ hq; omega, Nat.mul_le_mul hl2 hc2⟩
    obtain ⟨d, hd1, hm⟩ := List.mem_flatMap.mp (sq_mem.mp hm)
    obtain ⟨r, hr1, rfl⟩ := List.mem_map.mp hm
    have lt : n < r.length := by rw [hw d hd1 r hr1]; exact hn
    rw [List.getElem?_eq_getElem lt]
    exact ((hr d hd1).2.2 r hr1).2 _ (List.getElem_mem lt)
/-- what draws_asking asks of a plan's numbers -/
theorem ask_ok {p : Int} {l c h a b : Nat} {ds : DrQ} (D : DOk p l c h ds) : ((qsOf h ds).map fun q => q.map (widM l a b)).length ≤ 1000 ∧ (numD (qsOf h ds) ds).length ≤ 1000 ∧ ∀ d ∈ numD (qsOf h ds) ds, d.2.length ≤ 1000 ∧ ∀ r ∈ d.2, ∀ (i : Nat) (x : Int) (q : List Mx), r[i]? = some x → ((qsOf h ds).map fun q => q.map (widM l a b))[i]? = some q → 0 ≤ x ∧ x < q.length := by
  obtain ⟨N, Q, hlen, hw, h64⟩ := plan_ok D
  obtain ⟨n1, n2, n3, n4, n5, n6⟩ := N
  refine ⟨by rw [List.length_map]; omega, n2, fun d hd => ⟨by have := (n6 d hd).2.1; omega, fun r hr i x q e1 e2 => ?_⟩⟩
  rw [List.getElem?_map] at e2
  cases e3 : (qsOf h ds)[i]? with
  | none =>
    rw [e3] at e2
    cases e2
  | some q' =>
    rw [e3] at e2
    cases e2
    rw [List.length_map]
    exact ((n6 d hd).2.2 r hr).2 i x q' e1 e3
theorem fNe_3 {M : Mem} {a b c a' b' c' : Int} : fNe (.d (.tup [.int a, .int b, .int c])) (.d (.tup [.int a', .int b', .int c'])) M = some (.d (.bl (!decide (a = a' ∧ b = b' ∧ c = c'))), True) := by
  have e : PyData.eqv (.tuple [.int a, .int b, .int c]) (.tuple [.int a', .int b', .int c']) = decide (a = a' ∧ b = b' ∧ c = c') := by
    rw [Bool.eq_iff_iff]
    simp [PyData.eqv, PyData.eqvAll]
  show some (W.d (.bl (!PyData.eqv (.tuple [.int a, .int b, .int c]) (.tuple [.int a', .int b', .int c']))), SeqAt.shaped (.tuple [.int a, .int b, .int c]) = true ∧ SeqAt.shaped (.tuple [.int a', .int b', .int c']) = true) = _
  rw [e]
  have : (SeqAt.shaped (.tuple [.int a, .int b, .int c]) = true ∧ SeqAt.shaped (.tuple [.int a', .int b', .int c']) = true) = True := eq_true ⟨rfl, rfl⟩
  rw [this]
end PU

set_option maxRecDepth 100000
set_option maxHeartbeats 8000000
set_option synthInstance.maxHeartbeats 4000000
set_option synthInstance.maxSize 4000
namespace PU
open PySem PySem.Spec PyProof.Rows L2 GS WU

def libF (p : Int) (bks : Mx) : List (Str × D) := [("p", .int p), ("books", tM bks), ("book_count", .int bks.length), ("book_length", .int (wid bks)), ("letters", tI bks.flatten)]
def libE (C : Addr) (p : Int) (bks : Mx) : D := .ins C (libF p bks)
structure LbK (K : PySem.W.Frag) (C : Addr) : Prop where
  cl : Cls K C
  p : NoAttr K C "p"
  bks : NoAttr K C "books"
  bc : NoAttr K C "book_count"
  bl : NoAttr K C "book_length"
  lt : NoAttr K C "letters"
section
variable {M : Mem} {C : Addr} {p : Int} {bks : Mx}
@[simp] theorem cls_lb : clsW M (.d (libE C p bks)) = some C := rfl
@[simp] theorem flb_p : fldW "p" M (.d (libE C p bks)) = some (.d (.int p)) := rfl
@[simp] theorem flb_bks : fldW "books" M (.d (libE C p bks)) = some (.d (tM bks)) := rfl
@[simp] theorem flb_bc : fldW "book_count" M (.d (libE C p bks)) = some (.d (.int bks.length)) := rfl
@[simp] theorem flb_bl : fldW "book_length" M (.d (libE C p bks)) = some (.d (.int (wid bks))) := rfl
@[simp] theorem flb_lt : fldW "letters" M (.d (libE C p bks)) = some (.d (tI bks.flatten)) := rfl
end
section
variable {M : Mem} {C : Addr} {p l c : Int} {qs : List (List Mx)} {ns : DrN}
@[simp] theorem fld_asked : fldW "asked" M (.d (plE C p l c qs ns)) = none := rfl
@[simp] theorem fld_answer : fldW "answer" M (.d (plE C p l c qs ns)) = none := rfl
@[simp] theorem fld_answers : fldW "answers" M (.d (plE C p l c qs ns)) = none := rfl
end
/-- books of n letters -/
def BOk (p : Int) (n c : Nat) (bks : Mx) : Prop := p ∈ primes ∧ 0 < n ∧ 0 < c ∧ n ≤ 100 ∧ c ≤ 10 ∧ bks.length = c ∧ ∀ b ∈ bks, Ltr p n b
theorem BOk.wid {p : Int} {n c : Nat} {bks : Mx} (h : BOk p n c bks) : wid bks = n := by
  obtain ⟨h1, h2, h3, h4, h5, h6, h7⟩ := h
  cases bks with
  | nil => simp at h6; omega
  | cons b t => exact (h7 b (List.mem_cons_self ..)).1
def cBks  : Con := fun ws M k e => ∃ (p : Int) (n c : Nat) (bks : Mx), ws = [.d (.int p), .d (.lst (bks.map tI))] ∧ (BOk p n c bks) ∧ k (.d (.bl true)) M
instance  : UC (cBks ) := ⟨fun hk _ h => by
  obtain ⟨p, n, c, bks, e1, e2, qQ⟩ := h
  exact ⟨p, n, c, bks, e1, e2, hk _ _ qQ⟩⟩

def cLib (CL : Addr) : Con := fun ws M k _ => ∃ (M1 : Mem) (p : Int) (n c : Nat) (bks : Mx), ws = [.p M1.length, .d (.int p), .d (.lst (bks.map tI))] ∧ M = M1 ++ [.ins CL []] ∧ BOk p n c bks ∧ k (.d .non) (M1 ++ [.ins CL ((libF p bks).map fun f => (f.1, .d f.2))])
instance {CL : Addr} : UC (cLib CL) := ⟨fun hk _ h => by
  obtain ⟨M1, p, n, c, bks, h1, h2, h3, q⟩ := h
  exact ⟨M1, p, n, c, bks, h1, h2, h3, hk _ _ q⟩⟩
def cCw (C : Addr) : Con := fun ws M k e => ∃ (p l c : Int) (qs : List (List Mx)) (ns : DrN) (i : Int), ws = [.d (plE C p l c qs ns), .d (.int i)] ∧ (0 ≤ i ∧ i < c) ∧ k (.d (.non)) M
instance {C : Addr} : UC (cCw C) := ⟨fun hk _ h => by
  obtain ⟨p, l, c, qs, ns, i, e1, e2, qQ⟩ := h
  exact ⟨p, l, c, qs, ns, i, e1, e2, hk _ _ qQ⟩⟩
def cCa (C : Addr) : Con := fun ws M k e => ∃ (p l c : Int) (qs : List (List Mx)) (ns : DrN) (i j : Int), ws = [.d (plE C p l c qs ns), .d (.int i), .d (.int j)] ∧ (0 ≤ i ∧ i < c ∧ 0 ≤ j ∧ j < ns.length) ∧ k (.d (.non)) M
instance {C : Addr} : UC (cCa C) := ⟨fun hk _ h => by
  obtain ⟨p, l, c, qs, ns, i, j, e1, e2, qQ⟩ := h
  exact ⟨p, l, c, qs, ns, i, j, e1, e2, hk _ _ qQ⟩⟩
def cCq (C : Addr) : Con := fun ws M k e => ∃ (p l c : Int) (qs : List (List Mx)) (ns : DrN) (i j : Nat) (q : List Mx), ws = [.d (plE C p l c qs ns), .d (.int i), .d (.int j)] ∧ (qs[i]? = some q ∧ j < q.length) ∧ k (.d (.non)) M
instance {C : Addr} : UC (cCq C) := ⟨fun hk _ h => by
  obtain ⟨p, l, c, qs, ns, i, j, q, e1, e2, qQ⟩ := h
  exact ⟨p, l, c, qs, ns, i, j, q, e1, e2, hk _ _ qQ⟩⟩
def cCl (C CL : Addr) : Con := fun ws M k e => ∃ (p : Int) (l c : Nat) (qs : List (List Mx)) (ns : DrN) (bks : Mx), ws = [.d (plE C p l c qs ns), .d (libE CL p bks)] ∧ (wid bks = l ∧ bks.length = c) ∧ k (.d (.non)) M
instance {C CL : Addr} : UC (cCl C CL) := ⟨fun hk _ h => by
  obtain ⟨p, l, c, qs, ns, bks, e1, e2, qQ⟩ := h
  exact ⟨p, l, c, qs, ns, bks, e1, e2, hk _ _ qQ⟩⟩
def cAskd (C : Addr) : Con := fun ws M k e => ∃ (p l c : Int) (qs : List (List Mx)) (ns : DrN) (i j : Nat) (d : Int × List (List Int)) (r : List Int), ws = [.d (plE C p l c qs ns), .d (.int i), .d (.int j)] ∧ (ns[j]? = some d ∧ d.2[i]? = some r ∧ (d.2.length : Int) = c) ∧ k (.d (tI r)) M
instance {C : Addr} : UC (cAskd C) := ⟨fun hk _ h => by
  obtain ⟨p, l, c, qs, ns, i, j, d, r, e1, e2, qQ⟩ := h
  exact ⟨p, l, c, qs, ns, i, j, d, r, e1, e2, hk _ _ qQ⟩⟩
def cAns (C CL : Addr) : Con := fun ws M k e => ∃ (p : Int) (l c : Nat) (qs : List (List Mx)) (ns : DrN) (i j : Nat) (q : List Mx) (m : Mx) (bks : Mx), ws = [.d (plE C p l c qs ns), .d (.int i), .d (.int j), .d (libE CL p bks)] ∧ (qs[i]? = some q ∧ q[j]? = some m ∧ BOk p l c bks ∧ MxOk p (l * c) m) ∧ k (.d (tI (prodM p m bks.flatten))) M
instance {C CL : Addr} : UC (cAns C CL) := ⟨fun hk _ h => by
  obtain ⟨p, l, c, qs, ns, i, j, q, m, bks, e1, e2, qQ⟩ := h
  exact ⟨p, l, c, qs, ns, i, j, q, m, bks, e1, e2, hk _ _ qQ⟩⟩

/-- the answers to one draw's asks for one wish -/
def answ (p : Int) (qs : List (List Mx)) (r : List Int) (ls : List Int) : List (List Int) := (qrow qs r).map fun m => prodM p m ls
def cAnss (C CL : Addr) : Con := fun ws M k e => ∃ (p : Int) (l c : Nat) (qs : List (List Mx)) (ns : DrN) (i j : Nat) (d : Int × List (List Int)) (r : List Int) (bks : Mx), ws = [.d (plE C p l c qs ns), .d (.int i), .d (.int j), .d (libE CL p bks)] ∧ (ns[j]? = some d ∧ d.2[i]? = some r ∧ d.2.length = c ∧ BOk p l c bks ∧ NOk c qs ns ∧ ∀ q ∈ qs, QOk p (l * c) q) ∧ k (.d (tM (answ p qs r bks.flatten))) M
instance {C CL : Addr} : UC (cAnss C CL) := ⟨fun hk _ h => by
  obtain ⟨p, l, c, qs, ns, i, j, d, r, bks, e1, e2, qQ⟩ := h
  exact ⟨p, l, c, qs, ns, i, j, d, r, bks, e1, e2, hk _ _ qQ⟩⟩
end PU

set_option maxRecDepth 100000
set_option maxHeartbeats 8000000
set_option synthInstance.maxHeartbeats 4000000
set_option synthInstance.maxSize 4000
namespace PU
open PySem PySem.Spec PyProof.Rows L2 GS WU

def cTake : Con := fun ws M k _ => ∃ (m : Int) (R : Mem), ws = [.p 0, .d (.int m)] ∧ (HM M R ∧ 0 < m ∧ m < 2 ^ 30) ∧ ∀ (M' : Mem) (n : Int), HM M' R → 0 ≤ n → n < m → k (.d (.int n)) M'
instance : UC cTake := ⟨fun hk _ h => by
  obtain ⟨m, R, e1, e2, q⟩ := h
  exact ⟨m, R, e1, e2, fun M' n a b c => hk _ _ (q M' n a b c)⟩⟩
theorem HM.len {M R : Mem} (h : HM M R) : M.length = R.length + 1 := by
  obtain ⟨ds, i, _, _, rfl⟩ := h
  rfl
theorem HM.cl {M M1 R : Mem} (h : HM M R) (h1 : HM M1 R) (c : closedM M) : closedM M1 := by
  obtain ⟨ds, i, _, _, rfl⟩ := h
  obtain ⟨ds', i', _, _, rfl⟩ := h1
  intro x hx
  rcases List.mem_cons.mp hx with rfl | hx
  · trivial
  · exact c x (List.mem_cons_of_mem _ hx)
theorem HM.app {M R : Mem} (h : HM M R) (X : Mem) : HM (M ++ X) (R ++ X) := by
  obtain ⟨ds, i, h1, h2, rfl⟩ := h
  exact ⟨ds, i, h1, h2, rfl⟩
theorem HM.un {M R X : Mem} (h : HM M (R ++ X)) : ∃ M1, M = M1 ++ X ∧ HM M1 R := by
  obtain ⟨ds, i, h1, h2, rfl⟩ := h
  exact ⟨.lst [.lst (ds.map D.int), .int i] :: R, rfl, ds, i, h1, h2, rfl⟩
theorem finH {M M1 R X : Mem} {k : KW} {x : D} (h : HM M R) (h1 : HM M1 R) (q : k (.d x) M1) : FinK M k (.d x) (M1 ++ X) :=
  .inr ⟨M1, X, _, rfl, by rw [h.len, h1.len]; exact Nat.le_refl _, h.cl h1, .d x, q⟩
theorem finHn {M M1 : Mem} {k : KW} {a : W} (q : k a M1) : FinK M k a M1 := .inl q
def HC (c : Cell) : Prop := ∃ (ds : List Int) (i : Int), 0 ≤ i ∧ (∀ n ∈ ds, 0 ≤ n) ∧ c = .lst [.lst (ds.map D.int), .int i]
theorem HM.cons {M R : Mem} (h : HM M R) : ∃ c, HC c ∧ M = c :: R := by
  obtain ⟨ds, i, h1, h2, rfl⟩ := h
  exact ⟨_, ⟨ds, i, h1, h2, rfl⟩, rfl⟩
theorem HC.hm {c : Cell} {R : Mem} (h : HC c) : HM (c :: R) R := by
  obtain ⟨ds, i, h1, h2, rfl⟩ := h
  exact ⟨ds, i, h1, h2, rfl⟩
theorem finHC {c c1 : Cell} {R X : Mem} {k : KW} {x : D} (h : HC c) (h1 : HC c1) (q : k (.d x) (c1 :: R)) : FinK (c :: R) k (.d x) (c1 :: (R ++ X)) := finH h.hm h1.hm q
theorem finHL {c c1 a : Cell} {R X : Mem} {k : KW} {ds : List D} (h : HC c) (h1 : HC c1) (q : k (.d (.lst ds)) (c1 :: R)) : FinK (c :: R) k (.p (R.length + 2)) (c1 :: (R ++ a :: .lst ds :: X)) :=
  .inr ⟨c1 :: R, a :: .lst ds :: X, _, rfl, Nat.le_refl _, h.hm.cl h1.hm, .lst (j := 1) rfl, q⟩
theorem eqv_dec (a b : Mx) : PyData.eqv (d2 a) (d2 b) = decide (a = b) := by
  by_cases h : a = b
  · subst h
    rw [eqv2r]
    simp
  · rw [decide_eq_false h]
    cases e : PyData.eqv (d2 a) (d2 b) with
    | false => rfl
    | true => exact absurd (eqv_d2 e) h
@[simp] theorem fEq_M {M : Mem} {a b : Mx} : fEq (.d (tM a)) (.d (tM b)) M = some (.d (.bl (decide (a = b))), True) := by
  show (match pyD (tM a), pyD (tM b) with | some p, some q => some (W.d (.bl (PyData.eqv p q)), SeqAt.shaped p = true ∧ SeqAt.shaped q = true) | _, _ => none) = _
  rw [pyM, pyM]
  have : (SeqAt.shaped (d2 a) = true ∧ SeqAt.shaped (d2 b) = true) = True := eq_true ⟨shaped2 a, shaped2 b⟩
  simp only [this, eqv_dec]
@[simp] theorem cutD_no (xs : List D) (b : Nat) : cutD xs none (some (b : Int)) = xs.take b := by
  have := cutD_nat xs 0 b
  have e : ∀ (n : Nat), HT.sIx n 0 (some ((0 : Nat) : Int)) = HT.sIx n 0 none := fun n => by
    show min (0 : Int).toNat n = 0
    simp
  unfold cutD at this ⊢
  rw [e] at this
  rw [this]
  simp
@[simp] theorem cutD_from (xs : List D) (a : Nat) : cutD xs (some (a : Int)) none = xs.drop a := by
  have := cutD_nat xs a xs.length
  have e : HT.sIx xs.length xs.length (some (xs.length : Int)) = HT.sIx xs.length xs.length none := by
    show (if (xs.length : Int) < 0 then ((xs.length : Int) + (xs.length : Int)).toNat else min (xs.length : Int).toNat xs.length) = xs.length
    rw [if_neg (by omega)]
    simp
  unfold cutD at this ⊢
  rw [e] at this
  rw [this, List.take_of_length_le]
  rw [List.length_drop]
  omega

theorem rng_at {n i : Nat} {d : D} (h : (rngD 0 n)[i]? = some d) : i < n ∧ d = .int (i : Nat) := by
  unfold rngD at h
  rw [List.getElem?_map] at h
  cases e : (List.range n)[i]? with
  | none =>
    rw [e] at h
    cases h
  | some j =>
    rw [e] at h
    cases h
    obtain ⟨lt, ej⟩ := List.getElem?_eq_some_iff.mp e
    rw [List.getElem_range] at ej
    subst ej
    rw [List.length_range] at lt
    exact ⟨lt, by show D.int (0 + (i : Int)) = _; rw [Int.zero_add]⟩
@[simp] theorem rngD_len {lo : Int} {n : Nat} : (rngD lo n).length = n := by simp [rngD]
def cPut  : Con := fun ws M k e => ∃ (rows : List Mx) (one : Mx), ws = [.d (tMs rows), .d (tM one)] ∧ (rows.length ≤ 1000) ∧ k (.d (tMs (putQ one rows))) M
instance  : UC (cPut ) := ⟨fun hk _ h => by
  obtain ⟨rows, one, e1, e2, qQ⟩ := h
  exact ⟨rows, one, e1, e2, hk _ _ qQ⟩⟩
def cNumd  : Con := fun ws M k e => ∃ (h : Nat) (ds : DrQ), ws = [.d (.int h), .d (.lst (ds.map (wE false)))] ∧ (Wide h ds ∧ h ≤ 100 ∧ ds.length ≤ 30 ∧ ∀ d ∈ ds, d.2.length ≤ 30) ∧ k (.d (.tup [qsE false (qsOf h ds), .tup ((numD (qsOf h ds) ds).map (nE false))])) M
instance  : UC (cNumd ) := ⟨fun hk _ h => by
  obtain ⟨h, ds, e1, e2, qQ⟩ := h
  exact ⟨h, ds, e1, e2, hk _ _ qQ⟩⟩

/-- draws as the law draws them -/
def Drn (p : Int) (l c h : Nat) (ds : DrQ) : Prop := ds ≠ [] ∧ ds.length ≤ 3 ∧ ∀ d ∈ ds, 0 < d.1 ∧ d.1 ≤ 1000000 ∧ d.2.length = c ∧ ∀ r ∈ d.2, r.length = h ∧ ∀ m ∈ r, MxOk p (l * c) m ∧ m.length ≤ 2
def cQue : Con := fun ws M k _ => ∃ (p : Int) (n : Nat) (R : Mem), ws = [.p 0, .d (.int p), .d (.int n)] ∧ (HM M R ∧ 0 < p ∧ p ≤ 31 ∧ n ≤ 100) ∧ ∀ (M' : Mem) (m : Mx), HM M' R → MxOk p n m → m.length ≤ 2 → k (.d (tM m)) M'
instance : UC cQue := ⟨fun hk _ h => by
  obtain ⟨p, n, R, e1, e2, q⟩ := h
  exact ⟨p, n, R, e1, e2, fun M' m a b c => hk _ _ (q M' m a b c)⟩⟩
def cDrw : Con := fun ws M k _ => ∃ (p : Int) (l c h : Nat) (R : Mem), ws = [.p 0, .d (.int p), .d (.int l), .d (.int c), .d (.int h)] ∧ (HM M R ∧ 0 < p ∧ p ≤ 31 ∧ l ≤ 10 ∧ c ≤ 10 ∧ h ≤ 10) ∧ ∀ (M' : Mem) (ds : DrQ), HM M' R → Drn p l c h ds → k (.d (.lst (ds.map (wE false)))) M'
instance : UC cDrw := ⟨fun hk _ h => by
  obtain ⟨p, l, c, h, R, e1, e2, q⟩ := h
  exact ⟨p, l, c, h, R, e1, e2, fun M' m a b => hk _ _ (q M' m a b)⟩⟩
def cShp : Con := fun ws M k _ => ∃ (R : Mem), ws = [.p 0] ∧ HM M R ∧ ∀ (M' : Mem) (p : Int) (x y u : Nat), HM M' R → p ∈ ([2, 3, 5, 7, 13, 31] : List Int) → (1 ≤ x ∧ x ≤ 3 ∧ 1 ≤ y ∧ y ≤ 3 ∧ 1 ≤ u ∧ u ≤ 4) → k (.d (.lst [.int p, .int x, .int y, .int u])) M'
instance : UC cShp := ⟨fun hk _ h => by
  obtain ⟨R, e1, e2, q⟩ := h
  exact ⟨R, e1, e2, fun M' p x y u a b c => hk _ _ (q M' p x y u a b c)⟩⟩
def cWdn  : Con := fun ws M k e => ∃ (q : Mx) (a l b c : Nat), ws = [.d (tM q), .d (.int a), .d (.int l), .d (.int b), .d (.int c)] ∧ (0 < l ∧ q.length ≤ 100 ∧ (∀ r ∈ q, r.length = l * c) ∧ a ≤ 10 ∧ l ≤ 10 ∧ b ≤ 10 ∧ c ≤ 10) ∧ k (.d (tM (widM l a b q))) M
instance  : UC (cWdn ) := ⟨fun hk _ h => by
  obtain ⟨q, a, l, b, c, e1, e2, qQ⟩ := h
  exact ⟨q, a, l, b, c, e1, e2, hk _ _ qQ⟩⟩
def cBsd  : Con := fun ws M k e => ∃ (p : Int) (l m c h : Nat) (D1 D2 : DrQ), ws = [.d (.lst (D1.map (wE false))), .d (.int l), .d (.lst (D2.map (wE false))), .d (.int m), .d (.int c)] ∧ (0 < l ∧ 0 < m ∧ l ≤ 10 ∧ m ≤ 10 ∧ c ≤ 10 ∧ h ≤ 10 ∧ Drn p l c h D1 ∧ Drn p m c h D2) ∧ k (.d (.lst ((joinD (widD l 0 m D1) (widD m l 0 D2)).map (wE false)))) M
instance  : UC (cBsd ) := ⟨fun hk _ h => by
  obtain ⟨p, l, m, c, h, D1, D2, e1, e2, qQ⟩ := h
  exact ⟨p, l, m, c, h, D1, D2, e1, e2, hk _ _ qQ⟩⟩
end PU

set_option maxRecDepth 100000
set_option maxHeartbeats 8000000
/-! how long the text of nested tuples of numbers is -/
namespace PU
open PySem PySem.Spec PyProof.Rows L2 WU
theorem nat_len {n k : Nat} (hk : 0 < k) (h : n < 10 ^ k) : (toString n).length ≤ k := by
  show (Nat.repr n).length ≤ k
  unfold Nat.repr
  rw [String.length_ofList]
  exact (Nat.length_toDigits_le_iff (by decide) hk).mpr h
theorem int_len {i : Int} (h : i.natAbs < 10 ^ 18) : (PyData.int i).shown.length ≤ 20 := by
  rw [PyData.shown.eq_3, PySem.ofString_length]
  cases i with
  | ofNat n =>
    have := nat_len (n := n) (k := 18) (by decide) (by simpa using h)
    show (toString n).length ≤ 20
    omega
  | negSucc n =>
    have := nat_len (n := n + 1) (k := 18) (by decide) (by simpa using h)
    show ("-" ++ toString (n + 1)).length ≤ 20
    rw [String.length_append]
    have : "-".length = 1 := rfl
    omega
structure Sm (n b : Nat) (p : PyData) : Prop where
  ls : PyData.leavesShort 20 p = true
  sh : p.showable = true
  nd : p.hasDict = false
  dp : p.depth ≤ n
  bk : p.bulk ≤ b
theorem Sm.mono {n b n' b' : Nat} {p : PyData} (h : Sm n b p) (h1 : n ≤ n') (h2 : b ≤ b') : Sm n' b' p := ⟨h.ls, h.sh, h.nd, Nat.le_trans h.dp h1, Nat.le_trans h.bk h2⟩
theorem log_small {n : Nat} (h : n < 10 ^ 18) : n.log2 < 1920 := by
  by_cases h0 : n = 0
  · subst h0
    decide
  · rw [Nat.log2_lt h0]
    exact Nat.lt_of_lt_of_le h (by decide +kernel)
theorem sm_int {i : Int} (h : i.natAbs < 10 ^ 18) : Sm 0 0 (.int i) where
  ls := by rw [PyData.leavesShort.eq_3]; exact decide_eq_true (int_len h)
  sh := by rw [PyData.showable.eq_4]; exact decide_eq_true (log_small h)
  nd := rfl
  dp := Nat.le_refl _
  bk := Nat.le_refl _
theorem sm_all {n b : Nat} : ∀ {xs : List PyData}, (∀ x ∈ xs, Sm n b x) → PyData.leavesShortAll 20 xs = true ∧ PyData.showableAll xs = true ∧ PyData.hasDictAll xs = false ∧ PyData.depthAll xs ≤ n ∧ PyData.bulkAll xs ≤ xs.length * (b + 1)
  | [], _ => ⟨rfl, rfl, rfl, Nat.zero_le _, Nat.zero_le _⟩
  | x :: xs, h => by
    have hx := h x (List.mem_cons_self ..)
    obtain ⟨h1, h2, h3, h4, h5⟩ := sm_all fun y hy => h y (List.mem_cons_of_mem _ hy)
    refine ⟨?_, ?_, ?_, ?_, ?_⟩
    · rw [PyData.leavesShortAll.eq_2, hx.ls, h1]
      rfl
    · rw [PyData.showableAll.eq_2, hx.sh, h2]
      rfl
    · rw [PyData.hasDictAll.eq_2, hx.nd, h3]
      rfl
    · rw [PyData.depthAll.eq_2]
      have := hx.dp
      omega
    · rw [PyData.bulkAll.eq_2, List.length_cons, Nat.succ_mul]
      have := hx.bk
      omega
theorem sm_tup {n b m : Nat} {xs : List PyData} (h : ∀ x ∈ xs, Sm n b x) (hl : xs.length ≤ m) : Sm (n + 1) (m * (b + 1)) (.tuple xs) := by
  obtain ⟨h1, h2, h3, h4, h5⟩ := sm_all h
  refine ⟨?_, ?_, ?_, ?_, ?_⟩
  · rw [PyData.leavesShort.eq_6]
    exact h1
  · rw [PyData.showable.eq_6]
    exact h2
  · rw [PyData.hasDict.eq_6]
    exact h3
  · show PyData.depthAll xs + 1 ≤ n + 1
    omega
  · rw [PyData.bulk.eq_3]
    exact Nat.le_trans h5 (Nat.mul_le_mul_right _ hl)
theorem Sm.text {n b : Nat} {p : PyData} (h : Sm n b p) (hn : n ≤ 60) (hb : b ≤ 700000) : p.showable = true ∧ p.hasDict = false ∧ p.depth ≤ 60 ∧ p.shown.length ≤ sizeLine := by
  refine ⟨h.sh, h.nd, Nat.le_trans h.dp hn, ?_⟩
  have := PyData.shown_le_bulk 20 (by decide) p h.ls
  have := h.bk
  rw [sizeLine_eq]
  omega
end PU

set_option maxRecDepth 100000
set_option maxHeartbeats 8000000
set_option synthInstance.maxHeartbeats 4000000
set_option synthInstance.maxSize 4000
namespace PU
open PySem PySem.Spec PyProof.Rows L2 GS WU

def dQ (qs : List (List Mx)) : PyData := .tuple (qs.map fun q => .tuple (q.map d2))
def dN (ns : DrN) : PyData := .tuple (ns.map fun d => .tuple [.int d.1, .tuple (d.2.map d1)])
def tdP (p l c h : Int) (qs : List (List Mx)) (ns : DrN) : PyData := .tuple [.int p, .int l, .int c, .int h, .int (ns.map fun d => d.1).sum, dQ qs, dN ns]
def tdS (p l c h : Int) (qs : List (List Mx)) (ns : DrN) : Str := (tdP p l c h qs ns).shown
theorem pyAll_map {α : Type} {f : α → D} {g : α → PyData} (h : ∀ x, pyD (f x) = some (g x)) : ∀ l : List α, pyAll (l.map f) = some (l.map g)
  | [] => rfl
  | x :: l => by
    rw [List.map_cons, pyAll, pyAll_map h l, h x]
    rfl
theorem pyT {α : Type} {f : α → D} {g : α → PyData} (h : ∀ x, pyD (f x) = some (g x)) (l : List α) : pyD (.tup (l.map f)) = some (.tuple (l.map g)) := by
  show (pyAll (l.map f)).map PyData.tuple = _
  rw [pyAll_map h l]
  rfl
theorem pyI (r : List Int) : pyD (tI r) = some (d1 r) := pyT (f := D.int) (g := PyData.int) (fun _ => rfl) r
theorem pyQs (qs : List (List Mx)) : pyD (qsE false qs) = some (dQ qs) := pyT (f := fun q : List Mx => sqE false (q.map tM)) (fun q => pyT pyM q) qs
theorem pyNs (ns : DrN) : pyD (.tup (ns.map (nE false))) = some (dN ns) := pyT (f := nE false) (g := fun d : Int × List (List Int) => .tuple [.int d.1, .tuple (d.2.map d1)]) (fun d => by
  rw [nE_eq]
  have := pyT (f := fun r : List Int => sqE false (r.map D.int)) (g := d1) (fun r => pyI r) d.2
  show (match pyD (.int d.1), (match pyD (.tup (d.2.map fun r : List Int => sqE false (r.map D.int))), pyAll [] with | some p, some ps => some (p :: ps) | _, _ => none) with | some p, some ps => some (p :: ps) | _, _ => none).map PyData.tuple = _
  rw [this]
  rfl) ns
theorem pyTd (p l c h : Int) (qs : List (List Mx)) (ns : DrN) : pyD (.tup [.int p, .int l, .int c, .int h, .int (ns.map fun d => d.1).sum, qsE false qs, .tup (ns.map (nE false))]) = some (tdP p l c h qs ns) := by
  have e1 : pyAll [.tup (ns.map (nE false))] = some [dN ns] := by
    show (match pyD (.tup (ns.map (nE false))), pyAll [] with | some p, some ps => some (p :: ps) | _, _ => none) = _
    rw [pyNs]
    rfl
  have e2 : pyAll [qsE false qs, .tup (ns.map (nE false))] = some [dQ qs, dN ns] := by
    show (match pyD (qsE false qs), pyAll [.tup (ns.map (nE false))] with | some p, some ps => some (p :: ps) | _, _ => none) = _
    rw [pyQs, e1]
  have e3 : ∀ (i : Int) (xs : List D) (ps : List PyData), pyAll xs = some ps → pyAll (.int i :: xs) = some (.int i :: ps) := fun i xs ps h => by
    show (match pyD (.int i), pyAll xs with | some p, some ps => some (p :: ps) | _, _ => none) = _
    rw [h]
    rfl
  show (pyAll _).map PyData.tuple = _
  rw [e3 _ _ _ (e3 _ _ _ (e3 _ _ _ (e3 _ _ _ (e3 _ _ _ e2))))]
  rfl
/-- plans whose text is short -/
structure TdOk (p l c h : Int) (qs : List (List Mx)) (ns : DrN) : Prop where
  p : p.natAbs < 10 ^ 18
  l : l.natAbs < 10 ^ 18
  c : c.natAbs < 10 ^ 18
  h : h.natAbs < 10 ^ 18
  s : (ns.map fun d : Int × List (List Int) => d.1).sum.natAbs < 10 ^ 18
  q : qs.length ≤ 6 ∧ ∀ q ∈ qs, q.length ≤ 64 ∧ ∀ m ∈ q, m.length ≤ 6 ∧ ∀ r ∈ m, r.length ≤ 30 ∧ ∀ x ∈ r, x.natAbs < 10 ^ 18
  n : ns.length ≤ 30 ∧ ∀ d ∈ ns, d.1.natAbs < 10 ^ 18 ∧ d.2.length ≤ 10 ∧ ∀ r ∈ d.2, r.length ≤ 10 ∧ ∀ x ∈ r, x.natAbs < 10 ^ 18
theorem sm_d1 {m : Nat} {r : List Int} (h : r.length ≤ m) (k : ∀ x ∈ r, x.natAbs < 10 ^ 18) : Sm 1 (m * (0 + 1)) (d1 r) := sm_tup (fun x hx => by
  obtain ⟨i, hi, rfl⟩ := List.mem_map.mp hx
  exact sm_int (k i hi)) (by rw [List.length_map]; exact h)
theorem TdOk.sm {p l c h : Int} {qs : List (List Mx)} {ns : DrN} (T : TdOk p l c h qs ns) : Sm 5 600000 (tdP p l c h qs ns) := by
  have hq : Sm 4 (6 * (64 * (6 * (30 * (0 + 1) + 1) + 1) + 1)) (dQ qs) := sm_tup (fun x hx => by
    obtain ⟨q, hq, rfl⟩ := List.mem_map.mp hx
    obtain ⟨a, b⟩ := T.q.2 q hq
    refine sm_tup (fun x hx => ?_) (by rw [List.length_map]; exact a)
    obtain ⟨m, hm, rfl⟩ := List.mem_map.mp hx
    obtain ⟨a, b⟩ := b m hm
    refine sm_tup (fun x hx => ?_) (by rw [List.length_map]; exact a)
    obtain ⟨r, hr, rfl⟩ := List.mem_map.mp hx
    obtain ⟨a, b⟩ := b r hr
    exact sm_d1 a b) (by rw [List.length_map]; exact T.q.1)
  have hn : Sm 4 (30 * (2 * (10 * (10 * (0 + 1) + 1) + 1) + 1)) (dN ns) := sm_tup (fun x hx => by
    obtain ⟨d, hd, rfl⟩ := List.mem_map.mp hx
    obtain ⟨a, b, e⟩ := T.n.2 d hd
    refine sm_tup (n := 2) (fun x hx => ?_) (Nat.le_refl 2)
    rcases List.mem_cons.mp hx with rfl | hx
    · exact (sm_int a).mono (by decide) (by decide)
    · rw [List.mem_singleton.mp hx]
      refine sm_tup (fun x hx => ?_) (by rw [List.length_map]; exact b)
      obtain ⟨r, hr, rfl⟩ := List.mem_map.mp hx
      exact sm_d1 (e r hr).1 (e r hr).2) (by rw [List.length_map]; exact T.n.1)
  have key : Sm (4 + 1) (7 * (81000 + 1)) (tdP p l c h qs ns) := sm_tup (xs := [.int p, .int l, .int c, .int h, .int (ns.map fun d => d.1).sum, dQ qs, dN ns]) (fun x hx => by
    simp only [List.mem_cons, List.not_mem_nil, or_false] at hx
    rcases hx with rfl | rfl | rfl | rfl | rfl | rfl | rfl
    · exact (sm_int T.p).mono (by decide) (by decide)
    · exact (sm_int T.l).mono (by decide) (by decide)
    · exact (sm_int T.c).mono (by decide) (by decide)
    · exact (sm_int T.h).mono (by decide) (by decide)
    · exact (sm_int T.s).mono (by decide) (by decide)
    · exact hq.mono (by decide) (by decide)
    · exact hn.mono (by decide) (by decide)) (Nat.le_refl 7)
  exact key.mono (by decide) (by decide)

theorem num_fst (qs : List (List Mx)) (ds : DrQ) : (numD qs ds).map (fun d => d.1) = ds.map fun d => d.1 := by
  rw [numD, List.map_map]
  rfl
def cTold  : Con := fun ws M k e => ∃ (p l c : Int) (h : Nat) (ds : DrQ), ws = [.d (.int p), .d (.int l), .d (.int c), .d (.int h), .d (.lst (ds.map (wE false)))] ∧ (Wide h ds ∧ h ≤ 100 ∧ ds.length ≤ 30 ∧ (∀ d ∈ ds, d.2.length ≤ 30) ∧ TdOk p l c h (qsOf h ds) (numD (qsOf h ds) ds)) ∧ k (.d (.str (tdS p l c h (qsOf h ds) (numD (qsOf h ds) ds)))) M
instance  : UC (cTold ) := ⟨fun hk _ h => by
  obtain ⟨p, l, c, h, ds, e1, e2, qQ⟩ := h
  exact ⟨p, l, c, h, ds, e1, e2, hk _ _ qQ⟩⟩
def cIsP (C : Addr) : Con := fun ws M k e => ∃ (p l c : Int) (qs : List (List Mx)) (ns : DrN) (s : Str), ws = [.d (plE C p l c qs ns), .d (.str s)] ∧ (TdOk p l c qs.length qs ns) ∧ k (.d (.bl (decide (tdS p l c qs.length qs ns = s)))) M
instance {C : Addr} : UC (cIsP C) := ⟨fun hk _ h => by
  obtain ⟨p, l, c, qs, ns, s, e1, e2, qQ⟩ := h
  exact ⟨p, l, c, qs, ns, s, e1, e2, hk _ _ qQ⟩⟩
end PU

set_option maxRecDepth 100000
set_option maxHeartbeats 8000000
set_option synthInstance.maxHeartbeats 4000000
set_option synthInstance.maxSize 4000
namespace PU
open PySem PySem.Spec PyProof.Rows L2 GS WU

def dot (xs ys : List Int) : Int := ((xs.zip ys).map fun z => z.1 * z.2).sum
theorem dot_app : ∀ {x y : List Int} (x' y' : List Int), x.length = y.length → dot (x ++ x') (y ++ y') = dot x y + dot x' y'
  | [], [], x', y', _ => by simp [dot]
  | a :: x, b :: y, x', y', h => by
    have := dot_app (x := x) (y := y) x' y' (by simpa using h)
    unfold dot at this ⊢
    simp only [List.cons_append, List.zip_cons_cons, List.map_cons, List.sum_cons]
    omega
theorem dot_zero : ∀ (n : Nat) (y : List Int), dot (List.replicate n 0) y = 0
  | 0, y => by simp [dot]
  | n + 1, [] => by simp [dot]
  | n + 1, b :: y => by
    have := dot_zero n y
    unfold dot at this ⊢
    rw [List.replicate_succ, List.zip_cons_cons, List.map_cons, List.sum_cons, this]
    simp
theorem dot_pad {a l b : Nat} {k y : List Int} (hk : k.length = l) (hy : y.length = a + l + b) : dot (List.replicate a 0 ++ k ++ List.replicate b 0) y = dot k ((y.drop a).take l) := by
  have e : y = y.take a ++ ((y.drop a).take l ++ (y.drop a).drop l) := by rw [List.take_append_drop, List.take_append_drop]
  conv => lhs; rw [e]
  rw [List.append_assoc, dot_app _ _ (by rw [List.length_replicate, List.length_take]; omega), dot_app _ _ (by rw [List.length_take, List.length_drop]; omega), dot_zero, dot_zero]
  omega
theorem dot_chunks {a l b : Nat} : ∀ (ks bs : List (List Int)), ks.length = bs.length → (∀ k ∈ ks, k.length = l) → (∀ y ∈ bs, y.length = a + l + b) →
    dot (ks.map fun k => List.replicate a 0 ++ k ++ List.replicate b 0).flatten bs.flatten = dot ks.flatten (bs.map fun y => (y.drop a).take l).flatten
  | [], [], _, _, _ => rfl
  | k :: ks, y :: bs, h, h1, h2 => by
    have := dot_chunks ks bs (by simpa using h) (fun k hk => h1 k (List.mem_cons_of_mem _ hk)) fun y hy => h2 y (List.mem_cons_of_mem _ hy)
    have k1 := h1 k (List.mem_cons_self ..)
    have y1 := h2 y (List.mem_cons_self ..)
    rw [List.map_cons, List.flatten_cons, List.flatten_cons, List.flatten_cons, List.map_cons, List.flatten_cons, dot_app _ _ (by simp; omega), dot_app _ _ (by rw [List.length_take, List.length_drop]; omega), this, dot_pad k1 y1]
theorem cut_flat {l c : Nat} {r : List Int} (h0 : 0 < l) (h : r.length = l * c) : (cutB l r).flatten = r := by
  have key : ∀ m, ((List.range m).map fun i => (r.drop (i * l)).take l).flatten = r.take (m * l) := by
    intro m
    induction m with
    | zero => simp
    | succ m ih => rw [List.range_succ, List.map_append, List.flatten_append, ih, Nat.succ_mul, List.take_add]; simp
  rw [cutB, h, Nat.mul_div_cancel_left _ h0, key, List.take_of_length_le]
  rw [h, Nat.mul_comm]
  exact Nat.le_refl _
theorem prodM_dot (p : Int) (m : Mx) (ls : List Int) : prodM p m ls = m.map fun r => dot r ls % p := rfl
theorem prod_wid {p : Int} {l c a b : Nat} {m bs : Mx} (h0 : 0 < l) (hm : ∀ r ∈ m, r.length = l * c) (hb : bs.length = c) (hy : ∀ y ∈ bs, y.length = a + l + b) :
    prodM p (widM l a b m) bs.flatten = prodM p m (bs.map fun y => (y.drop a).take l).flatten := by
  rw [prodM_dot, prodM_dot, widM, List.map_map]
  refine List.map_congr_left fun r hr => ?_
  show dot (widR l a b r) bs.flatten % p = _
  have := dot_chunks (a := a) (l := l) (b := b) (cutB l r) bs (by rw [cut_len h0 (hm r hr), hb]) (fun k hk => (cut_each h0 (hm r hr) hk).1) hy
  rw [cut_flat h0 (hm r hr)] at this
  rw [widR, this]
theorem prod_app (p : Int) (m n : Mx) (ls : List Int) : prodM p (m ++ n) ls = prodM p m ls ++ prodM p n ls := List.map_append
/-- the answers of the joined row are those of both, one behind the other -/
theorem ans_join {p : Int} {l1 l2 c : Nat} {x y : List Mx} {bs : Mx} (h1 : 0 < l1) (h2 : 0 < l2) (hx : ∀ m ∈ x, ∀ r ∈ m, r.length = l1 * c) (hy : ∀ m ∈ y, ∀ r ∈ m, r.length = l2 * c) (hb : bs.length = c) (hbs : ∀ b ∈ bs, b.length = l1 + l2) :
    (List.zipWith (· ++ ·) (x.map (widM l1 0 l2)) (y.map (widM l2 l1 0))).map (fun m => prodM p m bs.flatten) = List.zipWith (· ++ ·) (x.map fun m => prodM p m (bs.map fun b => b.take l1).flatten) (y.map fun m => prodM p m (bs.map fun b => b.drop l1).flatten) := by
  have eb : (bs.map fun b => (b.drop l1).take l2) = bs.map fun b => b.drop l1 := List.map_congr_left fun b hb => List.take_of_length_le (by rw [List.length_drop, hbs b hb]; omega)
  rw [← List.map_uncurry_zip_eq_zipWith, ← List.map_uncurry_zip_eq_zipWith, List.map_map, List.zip_map, List.zip_map, List.map_map, List.map_map]
  refine List.map_congr_left fun z hz => ?_
  obtain ⟨z1, z2⟩ := List.of_mem_zip (show (z.1, z.2) ∈ x.zip y from hz)
  show prodM p (widM l1 0 l2 z.1 ++ widM l2 l1 0 z.2) bs.flatten = prodM p z.1 _ ++ prodM p z.2 _
  rw [prod_app, prod_wid h1 (hx _ z1) hb (fun b hb => by rw [hbs b hb]; omega), prod_wid h2 (hy _ z2) hb (fun b hb => by rw [hbs b hb, Nat.add_zero]), eb]
  rfl
theorem flat_at {α β γ : Type} (g : α → β → γ) (ys : List β) : ∀ (xs : List α) (i j : Nat) (x : α) (y : β), xs[i]? = some x → ys[j]? = some y → (xs.flatMap fun d => ys.map (g d))[i * ys.length + j]? = some (g x y)
  | [], i, j, x, y, h, _ => by simp at h
  | a :: xs, 0, j, x, y, h, h2 => by
    have lt := (List.getElem?_eq_some_iff.mp h2).1
    cases h
    rw [Nat.zero_mul, Nat.zero_add, List.flatMap_cons, List.getElem?_append_left (by rw [List.length_map]; exact lt), List.getElem?_map, h2]
    rfl
  | a :: xs, i + 1, j, x, y, h, h2 => by
    have := flat_at g ys xs i j x y (by simpa using h) h2
    rw [List.flatMap_cons, List.getElem?_append_right (by rw [List.length_map, Nat.succ_mul]; omega), List.length_map, show (i + 1) * ys.length + j - ys.length = i * ys.length + j by rw [Nat.succ_mul]; omega]
    exact this
theorem joinD_at {A B : DrQ} {i j : Nat} {a b : Int × List (List Mx)} (h1 : A[i]? = some a) (h2 : B[j]? = some b) : (joinD A B)[i * B.length + j]? = some (a.1 * b.1, joinA a.2 b.2) := flat_at (fun (d e : Int × List (List Mx)) => (d.1 * e.1, joinA d.2 e.2)) B A i j a b h1 h2
/-- the numbers of a draw's wish stand for its questions -/
theorem row_of {h : Nat} {ds : DrQ} (w : Wide h ds) {j i : Nat} {d : Int × List (List Mx)} {r : List Mx} (h1 : ds[j]? = some d) (h2 : d.2[i]? = some r) :
    (numD (qsOf h ds) ds)[j]? = some (d.1, d.2.map (nrow (qsOf h ds))) ∧ (d.2.map (nrow (qsOf h ds)))[i]? = some (nrow (qsOf h ds) r) ∧ qrow (qsOf h ds) (nrow (qsOf h ds) r) = r := by
  refine ⟨by rw [numD, List.getElem?_map, h1]; rfl, by rw [List.getElem?_map, h2]; rfl, ?_⟩
  have hd := List.mem_of_getElem? h1
  have hr := List.mem_of_getElem? h2
  refine row_back _ _ (by rw [w d hd r hr, qsOf, List.length_map, List.length_range]) fun i q l e1 e2 => ?_
  unfold qsOf at e2
  rw [List.getElem?_map] at e2
  cases e : (List.range h)[i]? with
  | none =>
    rw [e] at e2
    cases e2
  | some n =>
    rw [e] at e2
    cases e2
    obtain ⟨lt, ej⟩ := List.getElem?_eq_some_iff.mp e
    rw [List.getElem_range] at ej
    subst ej
    exact sq_mem.mpr (askd_mem (c := h) hd hr e1)

abbrev plD (C : Addr) (p : Int) (l c h : Nat) (ds : DrQ) : D := plE C p l c (qsOf h ds) (numD (qsOf h ds) ds)
def cAre (C : Addr) : Con := fun ws M k _ => ∃ (p : Int) (l1 l2 c h : Nat) (D1 D2 : DrQ) (R : Mem), ws = [.p 0, .d (plD C p (l1 + l2) c h (joinD (widD l1 0 l2 D1) (widD l2 l1 0 D2))), .d (plD C p l1 c h D1), .d (plD C p l2 c h D2), .d (.int p), .d (.int c)] ∧
  (HM M R ∧ DOk p l1 c h D1 ∧ DOk p l2 c h D2 ∧ DOk p (l1 + l2) c h (joinD (widD l1 0 l2 D1) (widD l2 l1 0 D2))) ∧ ∀ M' : Mem, HM M' R → k (.d (.bl true)) M'
instance {C : Addr} : UC (cAre C) := ⟨fun hk _ h => by
  obtain ⟨p, l1, l2, c, h, D1, D2, R, e1, e2, q⟩ := h
  exact ⟨p, l1, l2, c, h, D1, D2, R, e1, e2, fun M' a => hk _ _ (q M' a)⟩⟩
end PU

set_option maxRecDepth 100000
set_option maxHeartbeats 8000000
set_option synthInstance.maxHeartbeats 4000000
set_option synthInstance.maxSize 4000
namespace PU
open PySem PySem.Spec PyProof.Rows L2 GS WU
def cRfs (C : Addr) : Con := fun ws M k e => ∃ (p1 p2 : Int) (l1 l2 c1 c2 h1 h2 : Nat) (D1 D2 : DrQ), ws = [.d (plD C p1 l1 c1 h1 D1), .d (plD C p2 l2 c2 h2 D2)] ∧ ((DOk p1 l1 c1 h1 D1 ∧ DOk p2 l2 c2 h2 D2 ∧ l1 ≤ 12 ∧ l2 ≤ 12 ∧ D1.length * D2.length * c1 < 64 ∧ (∀ d ∈ D1, d.1 < 2 ^ 60) ∧ (∀ d ∈ D1, ∀ r ∈ d.2, ∀ m ∈ r, m.length ≤ 100) ∧ ∀ d ∈ D2, ∀ r ∈ d.2, ∀ m ∈ r, m.length ≤ 100) ∧ ¬ (p1 = p2 ∧ h1 = h2 ∧ c1 = c2)) ∧ k (.d (.str "plan ('beside', 0)")) M
instance {C : Addr} : UC (cRfs C) := ⟨fun hk _ h => by
  obtain ⟨p1, p2, l1, l2, c1, c2, h1, h2, D1, D2, e1, e2, qQ⟩ := h
  exact ⟨p1, p2, l1, l2, c1, c2, h1, h2, D1, D2, e1, e2, hk _ _ qQ⟩⟩
def cDrs  : Con := fun ws M k e => ∃ (ns : List Int), ws = [.d (.fl (ns.map .int)), .d (.int 420)] ∧ (ns.length ≤ 63) ∧ ∀ ds : List Int, (∀ n ∈ ds, 0 ≤ n) → k (.d (.lst (ds.map .int))) M
instance : UC cDrs := ⟨fun hk _ h => by
  obtain ⟨ns, e1, e2, q⟩ := h
  exact ⟨ns, e1, e2, fun ds a => hk _ _ (q ds a)⟩⟩
def cLaw : Con := fun ws M k _ => ∃ ns : List Int, ws = [.d (.fl (ns.map .int))] ∧ (ns.length ≤ 63 ∧ M = []) ∧ ∀ M' : Mem, k (.d (.bl true)) M'
instance : UC cLaw := ⟨fun hk _ h => by
  obtain ⟨ns, e1, e2, q⟩ := h
  exact ⟨ns, e1, e2, fun M' => hk _ _ (q M')⟩⟩
/-- drawn plans are right, their texts short -/
theorem Drn.ok {p q : Int} {l c h : Nat} {ds : DrQ} (D : Drn p l c h ds) (hq : q ∈ primes) (pq : p ≤ q) (l0 : 0 < l) (c0 : 0 < c) (h0 : 0 < h) (hl : l ≤ 10) (hc : c ≤ 4) (hh : h ≤ 10) : DOk q l c h ds := by
  obtain ⟨a1, a2, a3⟩ := D
  refine ⟨hq, l0, c0, h0, by omega, by omega, by omega, a1, by omega, fun n _ => few_len ?_, fun d hd => ?_⟩
  · have := askd_len (n := n) (k := 4) (ds := ds) fun d hd => by have := (a3 d hd).2.2.1; omega
    omega
  · obtain ⟨b1, b2, b3, b4⟩ := a3 d hd
    exact ⟨b1, b3, fun r hr => ⟨(b4 r hr).1, fun m hm => ⟨((b4 r hr).2 m hm).1.1, fun x hx => ⟨(((b4 r hr).2 m hm).1.2 x hx).1, fun y hy => ⟨((((b4 r hr).2 m hm).1.2 x hx).2 y hy).1, by have := ((((b4 r hr).2 m hm).1.2 x hx).2 y hy).2; omega⟩⟩⟩⟩⟩

def Drm (p : Int) (l c h : Nat) (ds : DrQ) : Prop := ds ≠ [] ∧ ds.length ≤ 9 ∧ ∀ d ∈ ds, 0 < d.1 ∧ d.1 ≤ 1000000000000 ∧ d.2.length = c ∧ ∀ r ∈ d.2, r.length = h ∧ ∀ m ∈ r, MxOk p (l * c) m ∧ m.length ≤ 4
theorem Drn.m {p : Int} {l c h : Nat} {ds : DrQ} (D : Drn p l c h ds) : Drm p l c h ds := by
  obtain ⟨a1, a2, a3⟩ := D
  refine ⟨a1, by omega, fun d hd => ?_⟩
  obtain ⟨b1, b2, b3, b4⟩ := a3 d hd
  exact ⟨b1, by omega, b3, fun r hr => ⟨(b4 r hr).1, fun m hm => ⟨((b4 r hr).2 m hm).1, by have := ((b4 r hr).2 m hm).2; omega⟩⟩⟩
theorem Drn.join {p : Int} {l m c h : Nat} {D1 D2 : DrQ} (l0 : 0 < l) (m0 : 0 < m) (p0 : 0 < p) (h1 : Drn p l c h D1) (h2 : Drn p m c h D2) : Drm p (l + m) c h (joinD (widD l 0 m D1) (widD m l 0 D2)) := by
  obtain ⟨a1, a2, a3⟩ := h1
  obtain ⟨e1, e2, e3⟩ := h2
  have hlen : (joinD (widD l 0 m D1) (widD m l 0 D2)).length = D1.length * D2.length := by rw [joinD_len, widD, widD, List.length_map, List.length_map]
  have hb := Nat.mul_le_mul a2 e2
  refine ⟨fun z => ?_, by omega, fun d hd => ?_⟩
  · rw [z, List.length_nil] at hlen
    have : 0 < D1.length * D2.length := Nat.mul_pos (List.length_pos_iff.mpr a1) (List.length_pos_iff.mpr e1)
    omega
  · obtain ⟨x, hx, y, hy, rfl⟩ := joinD_mem hd
    obtain ⟨x0, hx0, rfl⟩ := List.mem_map.mp hx
    obtain ⟨y0, hy0, rfl⟩ := List.mem_map.mp hy
    obtain ⟨f1, f2, f3, f4⟩ := a3 x0 hx0
    obtain ⟨g1, g2, g3, g4⟩ := e3 y0 hy0
    have w1 := Int.mul_le_mul f2 g2 (by omega) (by decide)
    refine ⟨Int.mul_pos f1 g1, by simpa using w1, by simp [joinA, f3, g3], fun r hr => ?_⟩
    obtain ⟨r1, hr1, r2, hr2, rfl⟩ := zipW_mem hr
    obtain ⟨s1, hs1, rfl⟩ := List.mem_map.mp hr1
    obtain ⟨s2, hs2, rfl⟩ := List.mem_map.mp hr2
    refine ⟨by simp [(f4 s1 hs1).1, (g4 s2 hs2).1], fun q hq => ?_⟩
    obtain ⟨m1, hm1, m2, hm2, rfl⟩ := zipW_mem hq
    obtain ⟨n1, hn1, rfl⟩ := List.mem_map.mp hm1
    obtain ⟨n2, hn2, rfl⟩ := List.mem_map.mp hm2
    have k1 := widM_ok (a := 0) (b := m) l0 p0 ((f4 s1 hs1).2 n1 hn1).1
    have k2 := widM_ok (a := l) (b := 0) m0 p0 ((g4 s2 hs2).2 n2 hn2).1
    rw [Nat.zero_add] at k1
    rw [Nat.add_zero] at k2
    have t1 := ((f4 s1 hs1).2 n1 hn1).2
    have t2 := ((g4 s2 hs2).2 n2 hn2).2
    have el : (widM l 0 m n1 ++ widM m l 0 n2).length ≤ 4 := by rw [List.length_append, widM, widM, List.length_map, List.length_map]; omega
    refine ⟨⟨by omega, fun r hr => ?_⟩, el⟩
    rcases List.mem_append.mp hr with hr | hr
    · exact k1.2 r hr
    · exact k2.2 r hr
theorem sum_le {b : Int} : ∀ l : List Int, (∀ x ∈ l, 0 ≤ x ∧ x ≤ b) → 0 ≤ l.sum ∧ l.sum ≤ l.length * b
  | [], _ => by simp
  | x :: l, h => by
    have := sum_le l fun y hy => h y (List.mem_cons_of_mem _ hy)
    have hx := h x (List.mem_cons_self ..)
    rw [List.sum_cons, List.length_cons]
    have e : ((l.length + 1 : Nat) : Int) * b = l.length * b + b := by
      rw [Int.natCast_add, Int.add_mul]
      simp
    rw [e]
    omega
theorem Drm.td {p : Int} {l c h : Nat} {ds : DrQ} (D : Drm p l c h ds) (O : DOk p l c h ds) (p1 : p ≤ 31) (lc : l * c ≤ 30) (hl : l ≤ 10) (hc : c ≤ 10) (hh : h ≤ 6) : TdOk p l c h (qsOf h ds) (numD (qsOf h ds) ds) := by
  obtain ⟨N, Q, ql, w, q64⟩ := plan_ok O
  have p0 : 2 ≤ p := by
    have := (by decide : ∀ q ∈ primes, (2 : Int) ≤ q)
    exact this p O.1
  obtain ⟨a1, a2, a3⟩ := D
  obtain ⟨n1, n2, n3, n4, n5, n6⟩ := N
  refine ⟨by omega, by omega, by omega, by omega, ?_, ⟨by omega, fun q hq => ⟨by have := q64 q hq; omega, fun m hm => ?_⟩⟩, ⟨by rw [numD, List.length_map]; omega, fun d hd => ?_⟩⟩
  · rw [num_fst]
    have := sum_le (b := 1000000000000) (ds.map fun d => d.1) fun x hx => by
      obtain ⟨d, hd, rfl⟩ := List.mem_map.mp hx
      have := a3 d hd
      omega
    rw [List.length_map] at this
    have e : (ds.length : Int) * 1000000000000 ≤ 9 * 1000000000000 := Int.mul_le_mul_of_nonneg_right (by omega) (by decide)
    omega
  · obtain ⟨n, hn, rfl⟩ := List.mem_map.mp hq
    rw [List.mem_range] at hn
    obtain ⟨d, hd1, hm⟩ := List.mem_flatMap.mp (sq_mem.mp hm)
    obtain ⟨r, hr1, rfl⟩ := List.mem_map.mp hm
    have lt : n < r.length := by rw [w d hd1 r hr1]; exact hn
    rw [List.getElem?_eq_getElem lt]
    have g := ((a3 d hd1).2.2.2 r hr1).2 _ (List.getElem_mem lt)
    refine ⟨Nat.le_trans g.2 (by decide), fun x hx => ⟨?_, fun y hy => ?_⟩⟩
    · rw [(g.1.2 x hx).1]
      exact lc
    · have := (g.1.2 x hx).2 y hy
      omega
  · obtain ⟨m1, m2, m3⟩ := n6 d hd
    obtain ⟨d', hd', rfl⟩ := List.mem_map.mp hd
    have := a3 d' hd'
    refine ⟨by show d'.1.natAbs < _; omega, by omega, fun r hr => ⟨by have := (m3 r hr).1; omega, fun x hx => ?_⟩⟩
    obtain ⟨i, hi⟩ := List.getElem?_of_mem hx
    have lt := (List.getElem?_eq_some_iff.mp hi).1
    have l2 : i < (qsOf h ds).length := by
      have := (m3 r hr).1
      omega
    have b := (m3 r hr).2 i x _ hi (List.getElem?_eq_getElem l2)
    have := q64 _ (List.getElem_mem l2)
    omega

theorem isP_ok {C : Addr} {p l' : Int} {l c h : Nat} {ds : DrQ} {M : Mem} {k : KW} {e : XW} (O : DOk p l c h ds) (T : TdOk p l c h (qsOf h ds) (numD (qsOf h ds) ds)) (el : l' = l) (hk : k (.d (.bl true)) M) : cIsP C [.d (plD C p l c h ds), .d (.str (tdS p l' c h (qsOf h ds) (numD (qsOf h ds) ds)))] M k e := by
  obtain ⟨_, _, ql, _, _⟩ := plan_ok O
  refine ⟨p, l, c, qsOf h ds, _, _, rfl, by rw [ql]; exact T, ?_⟩
  rw [ql, el]
  simpa using hk
theorem ifB {X Y : Prop} (h : X) : ob (blW (.d (.bl true))) fun b => if b = true then X else Y := ⟨true, rfl, by show (if true = true then X else Y); rw [if_pos rfl]; exact h⟩
theorem neF {s : Str} {M : Mem} {X Y : Prop} (h : X) : ob (fNe (.d (.str s)) (.d (.str s)) M) fun r => r.2 ∧ ob (blW r.1) fun b => if b = true then Y else X := by
  refine ⟨_, fNe_str, trivial, false, by simp, ?_⟩
  show (if false = true then Y else X)
  rw [if_neg Bool.false_ne_true]
  exact h
theorem ifT {M : Mem} {X Y : Prop} (h : X) : ob (truW M (.d (.bl true))) fun b => if b = true then X else Y := ⟨true, rfl, by show (if true = true then X else Y); rw [if_pos rfl]; exact h⟩
end PU

set_option maxRecDepth 100000
set_option maxHeartbeats 8000000
namespace PU
open PySem PySem.Spec PyProof.Rows L2 WU
section
variable {P : Program} {w : World} {A : Around} {E : Value → Shared → Prop} {s : Shared} {K : PySem.W.Frag} {x D : Addr} {ox od : Obj}
theorem cls_of_exc {R : Option Value → Shared → Prop} (C : ExcC K D) (X : K.In s.heap) (I : PySem.W.InstAt s.heap x ox D (some od)) (h : R (some (.ref D)) { s with toks := s.toks + 1 }) : wpAny (model P w) A (getAttr? (.ref x) "__class__") R E s := by
  have hf : PySem.W.findObj K D (some od) "__class__" = some (.bind (.builtin "getset_descriptor.__get__") (.builtin "object.__class__")) :=
    PySem.W.findObj_data (by obtain ⟨cd, hc, _⟩ := PySem.W.any_some C.hd; rw [hc]; rfl) C.ha C.hn C.ht
  obtain ⟨hp, g, d, t, os⟩ := s
  have T0 := I.type (M := model P w)
  have T1 := PySem.W.looks_findIn (M := model P w) X C.hg
  have T2 := PySem.W.looks_findIn (M := model P w) X C.hk
  have T3 := PySem.W.looks_find (M := model P w) X I hf
  have sub : PySem.W.Looks (model P w) hp (isInstance (.ref x) (.type "BaseException")) true := T0.andThen (PySem.W.looks_subIn X C.hs)
  have n2 : (Value.builtin "BaseException.__getattribute__" == Value.builtin "object.__getattribute__") = false := by decide +kernel
  have n1 : (onTheHeap (Value.ref D) && Value.builtin "BaseException.__getattribute__" == Value.builtin "object.__getattribute__") = false := by rw [n2]; rfl
  unfold getAttr? getAttrBy? getAttrBy
  refine wpAny_bind (wpAny_mkText (wpAny_bind (wpAny_attempt (wpAny_holding (wpAny_bind (T0.at (wpAny_bind (T1.at ?_))))))))
  show wpAny _ _ (if (onTheHeap (Value.ref D) && Value.builtin "BaseException.__getattribute__" == Value.builtin "object.__getattribute__") = true then _ else _) _ _ _
  rw [n1, if_neg Bool.false_ne_true]
  unfold getAttrByItsOwn hookBefore
  refine wpAny_bind ?_
  rw [if_pos (show onTheHeap (Value.ref D) = true from rfl)]
  refine T2.at ?_
  refine wpAny_bind (wpAny_attempt (wpAny_holding ?_))
  unfold callGetattribute
  rw [show (false && onTheHeap (Value.builtin "BaseException.__getattribute__")) = false from rfl, if_neg Bool.false_ne_true]
  unfold boundAndCalled
  rw [PySem.F.excAttr_ValueError.ga.bind (.ref x)]
  refine wpAny_bind (wpAny_pure ?_)
  show wpAny _ _ (call (.builtin "BaseException.__getattribute__") [.ref x, .str "__class__" t]) _ _ _
  refine wpAny_call (codeAny_call_builtin PySem.F.excAttr_ValueError.ga.plain PySem.F.entry_bexc_ga ?_)
  refine @PySem.W.check_slot (model P w) _ _ ⟨hp, g, d, t + 1, os⟩ "BaseException.__getattribute__" "BaseException" "__getattribute__" (.ref x) [.str "__class__" t] [] _ (by decide +kernel) (by decide +kernel) sub (PySem.F.args_bexc_ga (.ref x) (.str "__class__" t)) ?_
  unfold Builtin.«object.__getattribute__»
  refine wpAny_bind (wpAny_of_eq (a := ((Value.ref x : Value), [Value.str "__class__" t])) (by first | rfl | (simp only [slotArgs]; rfl)) ?_)
  refine wpAny_bind (wpAny_pure (wpAny_bind (T0.at (wpAny_bind (T3.at ?_)))))
  show wpAny _ _ (holding [Value.builtin "object.__class__"] (call (.builtin "getset_descriptor.__get__") [.builtin "object.__class__", .ref x, .ref D]) >>= ret) _ _ _
  refine wpAny_bind (wpAny_holding (wpAny_call (PySem.W.class_get (s := ⟨hp, g, d, t + 1, os⟩) (ox := ox) (od := some od) X I C.hm ?_)))
  refine wpAny_pure ?_
  show wpAny _ _ (handedOut (.ref D)) _ _ _
  rw [PySem.W.handedOut_of (v := .ref D) rfl]
  first
    | exact wpAny_pure (wpAny_pure h)
    | exact wpAny_pure h
    | exact wpAny_pure (wpAny_bind (wpAny_pure (wpAny_pure h)))
theorem kit_exc (C : ExcC K D) : PySem.W.KitX K (.ref x) (.ref D) (fun h => PySem.W.InstAt h x ox D (some od)) where
  ty := fun _ _ _ I => I.type
  it := fun _ _ X _ => by
    obtain ⟨cdD, hcD, _⟩ := PySem.W.any_some C.hd
    unfold PySem.W.clsIn at hcD
    split at hcD
    · rename_i c' d' cd' sl' ho
      intro A' Q' E' s' k q
      unfold isType loadHead
      exact wpAny_bind (wpAny_loadPart (k _ _ (X _ _ ho)) (wpAny_pure q))
    · cases hcD
  ne := fun h tp dd its n sl X htp => by
    obtain ⟨cdD, hcD, _⟩ := PySem.W.any_some C.hd
    refine Bool.eq_false_iff.mpr fun q => ?_
    have e : D = tp := Value.ref.inj (beq_iff_eq.mp q)
    subst e
    unfold PySem.W.clsIn at hcD
    split at hcD
    · rename_i c' d' cd' sl' ho
      have z := (X _ _ ho).symm.trans htp
      cases z
    · cases hcD
  ca := fun X I k => cls_of_exc C X I k
end
/-- isinstance(e, c), e the handled exception a -/
def rIsP (K : PySem.W.Frag) (a : Addr) (cls : Value) (d : Option Addr) : List V → Hp → VK → Prop := fun xs H Q => ∃ (D dd : Addr) (fs : List (Str × V)) (c : V) (cv : Value) (b : Bool), xs = [.ref a, c] ∧ cls = .ref D ∧ d = some dd ∧ H dd = some (.xd fs) ∧ ExcC K D ∧ ClsV c cv ∧ PySem.W.kitOne K (.ref D) cv = some b ∧ Q (.bl b) H
theorem call_isP {X : Cx} {p : Addr × Obj} {cls : Value} {d : Option Addr} (hp : p ∈ X.pn) (hz : Zc cls d p.2) (hf : ∃ vs, p.2.data = .fields vs) : CallR X (.builtin "isinstance") (rIsP X.K p.1 cls d) := by
  intro pins s σ H xs us Q I r h
  obtain ⟨D, dd, fs, c, cv, b, rfl, rfl, rfl, hd, C, hc, e, q⟩ := h
  cases r with
  | cons rx rr =>
    cases rr with
    | cons rt rr =>
      cases rr
      cases rx
      have ec := hc.eq rt
      subst ec
      obtain ⟨hget, _⟩ := I.pin p (List.mem_append_left _ hp)
      obtain ⟨vs, hv⟩ := hf
      have hx : ObjOk X.prog X.w H s.heap dd (.xd fs) := I.hok dd _ hd
      obtain ⟨mA, hns, _⟩ := hx
      obtain ⟨od, es, ep, hod, _⟩ := hns
      have J : PySem.W.InstAt s.heap p.1 p.2 D (some od) := ⟨hget, hz.1, by unfold PySem.W.notCls; rw [hv] <;> rfl, by rw [hz.2]; exact hod⟩
      exact PySem.W.kia_one (kit_exc C) I.kIn J e (fun z => nomatch z) fun tk => ⟨.bl b, H, I.kept (t' := tk) fun _ _ z => z, rfl, q⟩
end PU

set_option maxRecDepth 100000
set_option maxHeartbeats 8000000
/-! (a, b, ..) = a list of that length -/
namespace PU
open PySem PySem.Spec PyProof.Rows L2 WU
section
variable {pg : Program} {wo : World} {Ar : Around} {Ex : Value → Shared → Prop} {st : Shared}
theorem drawn_of_list {it l : Addr} {ys : Array Value} (ne : l ≠ it) : ∀ (n i : Nat) (st : Shared) (Q : List Value → Shared → Prop), st.heap.IsListIter it l i → st.heap.IsList l ys → i + n ≤ ys.size →
    (∀ g, g.IsListIter it l (i + n) → Heap.SameBut it st.heap g → Q ((ys.toList.drop i).take n) { st with heap := g }) → wpAny (model pg wo) Ar (draw (.ref it) n) Q Ex st
  | 0, i, st, Q, hi, _, _, k => wpAny_pure (by simpa using k st.heap hi (Heap.SameBut.refl ..))
  | n + 1, i, st, Q, hi, hl, le, k => by
    have lt : i < ys.size := by omega
    refine wpAny_bind (wpAny_pyNext_list_item hi hl (x := ys[i]) (by simp [lt]) fun g1 hi1 sb1 => wpAny_bind (wpAny_holding ?_))
    refine drawn_of_list ne n (i + 1) _ _ hi1 (hl.extBut sb1.extBut ne) (by omega) fun g2 hi2 sb2 => wpAny_pure ?_
    have z := k g2 (by rw [show i + (n + 1) = i + 1 + n by omega]; exact hi2) (sb1.trans sb2)
    rw [show ys.toList.drop i = ys[i] :: ys.toList.drop (i + 1) by simp [List.drop_eq_getElem_cons, lt], List.take_succ_cons] at z
    exact z
theorem unpackItems_of_list {l : Addr} {ys : Array Value} {Q : List Value → Shared → Prop} (nh : Ar.handled = none) (hl : st.heap.IsList l ys)
    (k : ∀ g, Heap.ExtBut st.heap.objs.size st.heap g → Q ys.toList { st with heap := g }) : wpAny (model pg wo) Ar (unpackItems (.ref l) ys.size none) Q Ex st := by
  have lt : l ≠ st.heap.objs.size := by
    obtain ⟨o, ho, _⟩ := hl
    exact Nat.ne_of_lt (Heap.lt_size ho)
  unfold unpackItems
  refine wpAny_bind ?_
  unfold notIterableAtAll
  refine wpAny_bind (wpAny_specialOf hl.typeIs slot_list_iter.lookup (wpAny_pure ?_))
  simp only [Bool.false_eq_true, if_false]
  refine wpAny_bind (wpAny_holding (wpAny_pyIter_list hl (wpAny_bind (wpAny_holding ?_))))
  refine drawn_of_list lt ys.size 0 _ _ ⟨_, Heap.get?_push_size _ rfl, rfl, rfl⟩ (hl.push _) (by omega) fun g1 hi1 sb1 => ?_
  rw [show List.take ys.size (List.drop 0 ys.toList) = ys.toList by rw [List.drop_zero]; exact List.take_of_length_le (by simp), if_neg (by simp)]
  refine wpAny_bind (wpAny_holding (wpAny_pyNext_list_end nh hi1 ((hl.push _).extBut sb1.extBut lt) (by simp) fun g2 eb2 => ?_))
  simp only [Option.isSome_none, Bool.false_eq_true, if_false]
  exact wpAny_pure (k g2 fun b o hb e => eb2 b o hb (sb1.extBut b o hb (Heap.get?_push_of_some _ e)))
theorem assign_of_list {en : Env} {es : List Expr} {x1} {pos : Pos} {l : Addr} {ys : Array Value} {Q : Unit → Shared → Prop} (nh : Ar.handled = none) (hl : st.heap.IsList l ys)
    (hn : (assignEach es en).length = ys.size) (hst : (assignEach es en).findIdx? (·.1) = none)
    (k : ∀ g, Heap.ExtBut st.heap.objs.size st.heap g → wpAny (model pg wo) Ar (assignInOrder ((assignEach es en).map (·.2)) ys.toList) Q Ex { st with heap := g }) :
    wpAny (model pg wo) Ar (assign (.Tuple es x1 pos) en (.ref l)) Q Ex st := by
  rw [PyProof.Rows.assign_Tuple]
  refine wpAny_bind (wpAny_standAt ?_)
  unfold unpack
  rw [hn, hst]
  exact wpAny_bind (wpAny_holding (unpackItems_of_list nh hl k))
end
section
variable {X : Cx} {K : PySem.W.Frag} {pos : Pos}
def gUnl (K : PySem.W.Frag) (n : Nat) (t : TGs) : TG := fun v σ H Q => ∃ a xs, v = .ref a ∧ SqL K H a xs ∧ xs.length = n ∧ t xs σ H Q
theorem pg_unl0 {es : List Expr} {j : Nat} {t : TGs} {n : Nat} (hc : X.calm = true) (h : PGs X es t)
    (hn : (assignEach es X.env).length = n := by rfl) (hst : (assignEach es X.env).findIdx? (·.1) = none := by rfl) : PG X (.Tuple es j pos) (gUnl X.K n t) := by
  refine ⟨fun pins s σ H v u Q I r hw => ?_⟩
  obtain ⟨a, xs, rfl, hq, hl, hw⟩ := hw
  cases r
  obtain ⟨its, rv, hpl, hz⟩ := I.list hq
  refine assign_of_list (I.ok.hd hc) hpl.isList (by simp [hn, ← hl, rv.length]) hst fun g hx => ?_
  have I1 : Inv X pins σ H { s with heap := g } := I.kept (t' := s.toks) fun b o e => hx b o (Nat.ne_of_lt (Heap.lt_size e)) e
  exact h.run pins _ σ H xs _ Q I1 (by simpa using rv) hw
theorem pg_unl {es : List Expr} {j : Nat} {t : TGs} {n : Nat} (hc : X.calm = true) (h : PGs X es t) (hK : X.K = K := by rfl)
    (hn : (assignEach es X.env).length = n := by rfl) (hst : (assignEach es X.env).findIdx? (·.1) = none := by rfl) : PG X (.Tuple es j pos) (gUnl K n t) := hK ▸ pg_unl0 hc h hn hst
end
/-- unpacking a list that is a tree -/
def lstW : W → Option (List D)
  | .d (.lst xs) => some xs
  | _ => none
theorem lstW_eq {a : W} {xs : List D} (h : lstW a = some xs) : a = .d (.lst xs) := by
  unfold lstW at h
  split at h
  · cases h
    rfl
  · cases h
@[simp] theorem lstW_lst {xs : List D} : lstW (.d (.lst xs)) = some xs := rfl
def gUnl' (n : Nat) (gs : WGs) : WGx := fun a ρ M k => ob (lstW a) fun xs => xs.length = n ∧ gs (xs.map .d) ρ M k
instance {K : PySem.W.Frag} {gs : TGs} {ws : WGs} {is : List Nat} {n : Nat} [B : SGs K gs ws is] : SG K (gUnl K n gs) (gUnl' n ws) is where
  mono := fun hk ⟨xs, e, l, h⟩ => ⟨xs, e, l, B.mono hk h⟩
  ok := fun S s r ⟨xs, e, l, h⟩ => by
    obtain rfl := lstW_eq e
    cases r with
    | lst h1 h2 => exact ⟨_, _, rfl, SqL.of (S.le _ _ h1), h2.len.trans l, B.ok S s (repWs_of h2) h⟩
@[simp] theorem gUnl'_u (n : Nat) (gs : WGs) : gUnl' n gs = (fun a ρ M k => ob (lstW a) fun xs => xs.length = n ∧ gs (xs.map .d) ρ M k) := rfl
end PU

set_option maxRecDepth 100000
set_option maxHeartbeats 8000000
/-! facts: classes, errors, class methods -/
namespace PU
open PySem PySem.Spec PyProof.Rows L2 WU
def isB0 (o : Option Bool) (b : Bool) : Bool := decide (o = some b)
theorem isB0_ok {o : Option Bool} {b : Bool} (h : isB0 o b = true) : o = some b := of_decide_eq_true h
section
variable {P : Program} {w : World} {K : PySem.W.Frag} {mg : Str → Option Value} {base : Heap}
theorem fn_raw0 {CX : CXT} {k : Nat} {f : Addr} {fd : FuncData} {ps : List Str} {sp : Sp} (F : FnOk P w K mg base CX k f fd ps sp) (hb : L2.Binds K fd ps []) : FnR P w K mg base CX k f sp :=
  FnR.imp (F.raw hb .nil) fun vs H Q E h => by
    rw [List.append_nil]
    exact h
end
def excB (K : PySem.W.Frag) (D : Addr) : Bool :=
  decide (PySem.W.findIn K (.ref D) "__getattribute__" = some (some (.builtin "BaseException.__getattribute__"))) && (decide (PySem.W.findIn K (.ref D) "__getattr__" = some none) && (isB0 (PySem.W.subIn K (.ref D) (.type "BaseException")) true && (PySem.W.hasDictIn K D &&
    (decide (PySem.W.findIn K (.ref D) "__class__" = some (some (.builtin "object.__class__"))) && (decide (PySem.W.specialIn K (.builtin "object.__class__") "__get__" = some (some (.builtin "getset_descriptor.__get__"))) && (isB0 (PySem.W.takesIn K (.builtin "object.__class__")) true && isB0 (PySem.W.mroIn K D (.type "object")) true))))))
theorem excB_ok {K : PySem.W.Frag} {D : Addr} (h : excB K D = true) : ExcC K D := by
  obtain ⟨h1, h⟩ := and2 h
  obtain ⟨h2, h⟩ := and2 h
  obtain ⟨h3, h⟩ := and2 h
  obtain ⟨h4, h⟩ := and2 h
  obtain ⟨h5, h⟩ := and2 h
  obtain ⟨h6, h⟩ := and2 h
  obtain ⟨h7, h8⟩ := and2 h
  exact ⟨of_decide_eq_true h1, of_decide_eq_true h2, of_decide_eq_true h3, h4, of_decide_eq_true h5, of_decide_eq_true h6, of_decide_eq_true h7, of_decide_eq_true h8⟩
theorem cread_new {K : PySem.W.Frag} {C : Addr} (h : PySem.W.readsIn K C (.type "type") = true) : ClX.CRead K C (.type "type") := by
  refine ⟨h, ?_⟩
  unfold PySem.W.readsIn at h
  obtain ⟨h, _⟩ := and2 h
  obtain ⟨h, _⟩ := and2 h
  obtain ⟨h, h3⟩ := and2 h
  obtain ⟨_, h2⟩ := and2 h
  unfold PySem.W.specialIn
  rw [beq_iff_eq.mp h2, Option.bind_some]
  exact beq_iff_eq.mp h3

/-- an own class whose instances have fields of their own only: isinstance asks it -/
def insB (K : PySem.W.Frag) (C : Addr) : Bool := decide (PySem.W.findIn K (.ref C) "__class__" = some (some (.builtin "object.__class__"))) && (decide (PySem.W.specialIn K (.builtin "object.__class__") "__get__" = some (some (.builtin "getset_descriptor.__get__"))) &&
  (isB0 (PySem.W.takesIn K (.builtin "object.__class__")) true && isB0 (PySem.W.mroIn K C (.type "object")) true))
theorem insB_ok {K : PySem.W.Frag} {C : Addr} (c : Cls K C) (h : insB K C = true) : InsK K C := by
  obtain ⟨h1, h⟩ := and2 h
  obtain ⟨h2, h⟩ := and2 h
  obtain ⟨h3, h4⟩ := and2 h
  exact ⟨c, of_decide_eq_true h1, of_decide_eq_true h2, of_decide_eq_true h3, of_decide_eq_true h4⟩
def cmB (K : PySem.W.Frag) (S : Addr) (m : Str) : Bool := PySem.W.readsIn K S (.type "type") && (He5.wrapB K S "classmethod" "classmethod.__get__" m && PySem.W.fnIn K (He5.wf K S "classmethod" m))
end PU

set_option maxRecDepth 100000
set_option maxHeartbeats 8000000
/-! errors that are handled, by trees; repr of any data; lists with stars; calls with defaults; gcd -/
namespace PU
open PySem PySem.Spec PyProof.Rows L2 WU
/-- a try with one clause that names the error -/
def tTryAs (K : PySem.W.Frag) (c : Value) (i : Nat) (ts : Addr → Value → Option Addr → TS) (Wout : WX) (tb : WX → TS) : TS := fun D σ H => tb (wAs K c i ts Wout D) D σ H
theorem ps_tryP {X : Cx} {K : PySem.W.Frag} {x n : Str} {c : Value} {i : Nat} {body suite : List Stmt} {b₀ : Stmt} {np pos pos' : Pos} {tb : WX → TS} {ts : Addr → Value → Option Addr → TS} {Wout : WX}
    (hs : X.stack = X.env :: X.outer) (hf : X.env.frame = some X.env.locals) (hN : X.N.Nodup) (hi : X.N[i]? = some n) (hln : X.env.kindOf n = some .local) (hc : Names X x c) (tk : Takes X Wout)
    (hb : ∀ (W : WX) (pn : List (Addr × Obj)) (xe : Value → Shared → Prop), Takes (X.tr pn xe) W → PassesOwn (model X.prog X.w) X.A X.env xe → PSs (X.tr pn xe) body (tb W))
    (hsu : ∀ (a : Addr) (oe : Obj) (cls : Value) (d : Option Addr) (pn : List (Addr × Obj)), Zc cls d oe → (∃ vs, oe.data = .fields vs) → PSs (X.suite a ((a, oe) :: pn)) (b₀ :: suite) (ts a cls d)) (hK : X.K = K := by rfl) :
    PS X (.Try body [.ExceptHandler (some (.Name x np)) (some n) (b₀ :: suite) pos'] [] [] pos) (tTryAs K c i ts Wout tb) := hK ▸ ps_try_as hs hf hN hi hln hc tk hb hsu
def wipeF (i : Nat) (k : FK) : FK
  | .nx ρ M => k (.nx (ρ.set i none) M)
  | .rt w M => k (.rt w M)
  | .bk ρ M => k (.bk (ρ.set i none) M)
  | .ct ρ M => k (.ct (ρ.set i none) M)
def sTryAs (K : PySem.W.Frag) (c : Value) (i : Nat) (wb : WSx) (ws : Addr → Addr → Addr → WSx) : WSx := fun ρ M k e => wb ρ M k fun ρ1 C fs M1 => ∃ b, PySem.W.exmOne K (.ref C) c = some b ∧
  (b = true → ∀ a dd, ws a C dd (ρ1.set i (some (.d (.exc a C dd fs)))) M1 (wipeF i k) fun _ _ _ _ => False) ∧ (b = false → e ρ1 C fs M1)
section
variable {K : PySem.W.Frag} {Wx : WX}
instance sTry_ok {c : Value} {i : Nat} {ts : Addr → Value → Option Addr → TS} {Wout : WX} {tb : WX → TS} {wb : WSx} {ws : Addr → Addr → Addr → WSx} [A : ∀ W, SS K W (tb W) wb] [B : ∀ a C dd, SS K WNo (ts a (.ref C) (some dd)) (ws a C dd)] : SS K Wout (tTryAs K c i ts Wout tb) (sTryAs K c i wb ws) where
  mono := fun hk he h => (A Wout).mono hk (fun r c f m ⟨b, e1, h1, h2⟩ => ⟨b, e1, fun z a dd => (B a _ dd).mono (fun f q => by
    cases f with
    | nx ρ M => exact hk _ q
    | rt w M => exact hk _ q
    | bk ρ M => exact hk _ q
    | ct ρ M => exact hk _ q) (fun _ _ _ _ z => z) (h1 z a dd), fun z => he _ _ _ _ (h2 z)⟩) h
  ok := fun {G L M ρ σ H D} S s h => (A (wAs K c i ts Wout D)).ok S s ((A (wAs K c i ts Wout D)).mono (fun _ q => q) (fun ρ1 C fs M1 ⟨b, e1, h1, h2⟩ G' L' H' σ' d vs x1 S1 s1 gd rf =>
    ⟨b, e1, fun z a na => (B a C d).ok S1 (s1.set (w := .d (.exc a C d fs)) (Rep.exc gd rf)) ((B a C d).mono (fun f q => by
      cases f with
      | nx ρ5 M5 => exact fun G5 L5 H5 σ5 e5 S5 s5 => q _ _ _ _ (x1.trans e5) S5 s5.clear
      | rt w M5 => exact Post.after (Q := D.rt) q x1
      | bk ρ5 M5 => exact fun G5 L5 H5 σ5 e5 S5 s5 => q _ _ _ _ (x1.trans e5) S5 s5.clear
      | ct ρ5 M5 => exact fun G5 L5 H5 σ5 e5 S5 s5 => q _ _ _ _ (x1.trans e5) S5 s5.clear) (fun _ _ _ _ z => z.elim) (h1 z a d)), fun z => h2 z _ _ _ _ _ _ x1 S1 s1 gd rf⟩) h)
/-- isinstance of the handled error -/
def pIsX (K : PySem.W.Frag) (a : Addr) (cls : Value) (d : Option Addr) : Pn := fun as M k => ∃ C dd fs c u b, as = [.d (.exc a C dd fs), c] ∧ cls = .ref C ∧ d = some dd ∧ ExcC K C ∧ clV c = some u ∧ PySem.W.kitOne K (.ref C) u = some b ∧ k (.d (.bl b)) M
instance {a : Addr} {cls : Value} {d : Option Addr} : Un (pIsX K a cls d) := ⟨fun _ _ _ _ hk ⟨C, dd, fs, c, u, b, h1, h2, h3, h4, h5, h6, q⟩ => ⟨C, dd, fs, c, u, b, h1, h2, h3, h4, h5, h6, hk _ _ q⟩⟩
theorem call_isX {X : Cx} {a : Addr} {oe : Obj} {pn : List (Addr × Obj)} {cls : Value} {d : Option Addr} (hz : Zc cls d oe) (hf : ∃ vs, oe.data = .fields vs) (hK : X.K = K := by rfl) : CallR (X.suite a ((a, oe) :: pn)) (.builtin "isinstance") (rPn K (pIsX K a cls d)) := by
  subst hK
  intro pins s σ H xs us Q I r hq
  obtain ⟨G, L, M, as, S, ra, C, dd, fs, c, u, b, rfl, rfl, rfl, EC, hc, hk, q⟩ := hq
  cases ra with
  | cons r0 ra =>
    cases ra with
    | cons r1 ra =>
      cases ra
      cases r0 with
      | exc gd rf => exact call_isP (X := X.suite a ((a, oe) :: pn)) (p := (a, oe)) (List.mem_cons_self ..) hz hf pins s σ H _ us Q I r ⟨C, dd, _, _, u, b, rfl, rfl, rfl, S.le _ _ gd, EC, cl_at r1 hc, hk, q _ _ _ _ Ext.refl S (.bl b)⟩
/-- a field of the handled error -/
def wXf (a : Addr) (cls : Value) (d : Option Addr) (C : Addr) (f : Str) (we : WEx) : WEx := fun ρ M k e => we ρ M (fun x M1 => ∃ dd fs v, x = .d (.exc a C dd fs) ∧ cls = .ref C ∧ d = some dd ∧ fs.lookup f = some v ∧ k (.d v) M1) e
instance {a : Addr} {cls : Value} {d : Option Addr} {C : Addr} {f : Str} {te : TE} {we : WEx} [A : SE K Wx te we] : SE K Wx (tXf a cls d C f te) (wXf a cls d C f we) where
  mono := fun hk he h => A.mono (fun _ _ ⟨dd, fs, v, h1, h2, h3, h4, q⟩ => ⟨dd, fs, v, h1, h2, h3, h4, hk _ _ q⟩) he h
  ok := fun S s h => A.ok S s (A.mono (fun x M1 ⟨dd, fs, v, h1, h2, h3, h4, q⟩ G1 L1 H1 y e1 S1 r1 => by
    subst h1
    cases r1 with
    | exc gd rf =>
      obtain ⟨u, hu, ru⟩ := rf.look h4
      exact ⟨rfl, h2, dd, _, u, h3, S1.le _ _ gd, hu, q _ _ _ _ e1 S1 ru⟩) (fun _ _ _ z => z) h)
/-- a method of a text -/
def wM1 (p : Pm) (wo we : WEx) : WEx := fun ρ M k e => wo ρ M (fun a M1 => (∃ s, a = .d (.str s)) ∧ we ρ M1 (fun y M2 => p a [y] M2 k) e) e
instance {p : Pm} [Um p] {to te : TE} {wo we : WEx} [A : SE K Wx to wo] [B : SE K Wx te we] : SE K Wx (L2.tM1 (rPm K p) to te) (wM1 p wo we) where
  mono := fun hk he h => A.mono (fun _ _ ⟨h1, q⟩ => ⟨h1, B.mono (fun _ _ q => Um.up _ _ _ _ _ hk q) he q⟩) he h
  ok := fun S s h => A.ok S s (A.mono (fun a M1 ⟨⟨x, h1⟩, q⟩ G1 L1 H1 y e1 S1 r1 => by
    subst h1
    cases r1
    exact ⟨⟨_, rfl⟩, B.ok S1 (s.ext e1) (B.mono (fun b M2 q G2 L2 H2 u e2 S2 r2 => ⟨G2, L2, M2, .d (.str x), [b], S2, .str x, .cons r2 .nil, Um.up _ _ _ _ _ (fun _ _ z => z.after (e1.trans e2)) q⟩) (fun _ _ _ z => z.after e1) q)⟩) (fun _ _ _ z => z) h)
def pJoin : Pm := fun a as M k => ∃ s x, a = .d (.str s) ∧ as = [x] ∧ ob (seqW M x) fun r => ob (strsD r.2) fun ys => (ys.map (fun z => z.length)).sum + ys.length * s.length ≤ 16777216 ∧ k (.d (.str (Txt.join s ys))) M
instance : Um pJoin := ⟨fun _ _ _ _ _ hk ⟨s, x, h1, h2, r, h3, ys, h4, h5, q⟩ => ⟨s, x, h1, h2, r, h3, ys, h4, h5, hk _ _ q⟩⟩
theorem mt_joinP {X : Cx} (hK : X.K = K := by rfl) : MtR X "str.join" (rPm K pJoin) := by
  subst hK
  intro pins s σ H x xs t us Q I rx r hq
  obtain ⟨G, L, M, a, as, S, ra, ras, z, y, rfl, rfl, sq, h3, ys, h4, h5, q⟩ := hq
  cases ra
  obtain ⟨v, rfl, rv⟩ := repWs1 ras
  obtain ⟨c, xs, rfl, rr, hq⟩ := seq_at S rv h3
  obtain rfl := strs_rep rr h4
  exact mt_join pins s σ H _ _ t us Q I rx r ⟨z, c, ys, rfl, rfl, sqB_len hq, h5, q _ _ _ _ Ext.refl S (.str _)⟩
theorem pe_joinP {X : Cx} {to te : TE} {o e : Expr} {apos pos : Pos} (ho : PE X o to) (he : PE X e te) (hs : starEach [e] X.env = [(false, eval e X.env)] := by rfl) (hbase : attributeBase o "join" X.env (eval o X.env) = eval o X.env := by rfl) (hline : (apos.endLine == pos.line) = true := by rfl) (hK : X.K = K := by rfl) :
    PE X (.Call (.Attribute o "join" apos) [e] [] pos) (L2.tM1 (rPm K pJoin) to te) := pe_m1 F.slot_str_join F.type_str_join (mt_joinP hK) ho he hs hbase hline
/-- repr of any data -/
def pReprA : Pn := fun as M k => ob (trA as) fun d => ob (pyD d) fun p => p.showable = true ∧ p.hasDict = false ∧ p.depth ≤ 60 ∧ p.shown.length ≤ sizeLine ∧ k (.d (.str p.shown)) M
instance : Un pReprA := ⟨fun _ _ _ _ hk ⟨d, h1, p, h2, h4, h5, h6, h7, q⟩ => ⟨d, h1, p, h2, h4, h5, h6, h7, hk _ _ q⟩⟩
theorem cr_reprA {X : Cx} (grd : X.A.guards = some []) (hu : X.A.units + 64 < cLine) (hK : X.K = K := by rfl) : CallR X (.builtin "repr") (rPn K pReprA) := by
  subst hK
  intro pn st sg H xs us Q I r hq
  obtain ⟨G, L, M, as, S, ra, d, h1, p, h2, h4, h5, h6, h7, q⟩ := hq
  obtain rfl := trA_eq h1
  obtain ⟨v, rfl, rv⟩ := repWs1 ra
  have dp := (Rep.mono S.le rv).dp h2
  obtain ⟨u, eu, ru⟩ := Vals.one r
  subst eu
  have fin : ∀ a, v = .ref a → wpAny (model X.prog X.w) X.A (call (.builtin "repr") [u]) (EP X pn sg Q) X.xe st := fun a ea => by
    subst ea
    obtain ⟨al, rd⟩ := Dp.reads I p _ u dp ru
    cases ru
    exact repr_of_reads' rd h4 (fun z => by rw [h5] at z; cases z) grd (by omega) (fun _ _ e => e) (fun h' tk' tk hk => ⟨.str p.shown, H, I.kept (t' := tk) hk, ⟨_, rfl⟩, post_str S q⟩) h7
  cases d with
  | non =>
    cases rv
    cases h2
    cases ru
    exact P.repr_of_none ⟨.str _, H, I.tok _, ⟨_, rfl⟩, post_str S q⟩
  | bl b =>
    cases rv
    cases h2
    cases ru
    refine P.repr_of_bool ⟨.str _, H, I.tok _, ⟨_, rfl⟩, post_str S ?_⟩
    cases b <;> exact q
  | int i =>
    cases rv
    cases h2
    obtain ⟨t, rfl⟩ := ru
    exact P.repr_of_int (of_decide_eq_true h4) ⟨.str _, H, I.tok _, ⟨_, rfl⟩, post_str S q⟩
  | str x =>
    cases rv
    cases h2
    obtain ⟨t, rfl⟩ := ru
    exact P.repr_of_str ⟨.str _, H, I.tok _, ⟨_, rfl⟩, post_str S q⟩ h7
  | lst ys =>
    cases rv with
    | lst _ _ => exact fin _ rfl
  | tup ys =>
    cases rv with
    | tup _ _ => exact fin _ rfl
  | fl ys =>
    cases rv with
    | fl _ _ => exact fin _ rfl
  | ft ys =>
    cases rv with
    | ft _ _ => exact fin _ rfl
  | nt ys =>
    cases rv with
    | nt _ _ _ => exact fin _ rfl
  | ins _ _ => cases h2
  | «at» _ => cases h2
  | dic _ _ => cases h2
  | exc _ _ _ _ => cases h2
/-! ### [*a, ..], (*a, ..) -/
def wStar (we : WEx) (wa : WAx) : WAx := fun ρ M k e => we ρ M (fun a M1 => ob (seqW M1 a) fun r => wa ρ M1 (fun ys M2 => k (r.2.map .d ++ ys) M2) e) e
instance {te : TE} {ta : TA} {we : WEx} {wa : WAx} [A : SE K Wx te we] [B : SA K Wx ta wa] : SA K Wx (StX.tStar K te ta) (wStar we wa) where
  mono := fun hk he h => A.mono (fun _ _ ⟨r, h1, q⟩ => ⟨r, h1, B.mono (fun _ _ q => hk _ _ q) he q⟩) he h
  ok := fun S s h => A.ok S s (A.mono (fun a M1 ⟨r, h1, q⟩ G1 L1 H1 x e1 S1 r1 => by
    obtain ⟨c, xs, rfl, rr, hq⟩ := seq_at S1 r1 h1
    refine ⟨c, xs, rfl, (sqB_len hq).symm, B.ok S1 (s.ext e1) (B.mono (fun ys M2 q G2 L2 H2 vs e2 S2 r2 => q _ _ _ _ (e1.trans e2) S2 (paired_app (repWs_of (rr.mono e2.g)) r2)) (fun _ _ _ z => z.after e1) q)⟩) (fun _ _ _ z => z) h)
theorem pa_starK {X : Cx} {e : Expr} {es : List Expr} {p : Pos} {te : TE} {t : TA} (he : PE X e te) (hr : PA X es t) (hs : starEach (.Starred e p :: es) X.env = (true, eval e X.env) :: starEach es X.env := by rfl) (hK : X.K = K := by rfl) : PA X (.Starred e p :: es) (StX.tStar K te t) := hK ▸ StX.pa_star he hr hs
/-! ### a op b op c -/
def wChain (p q : P2) (wa wb wc : WEx) : WEx := fun ρ M k e => wa ρ M (fun a M1 => wb ρ M1 (fun b M2 => p a b M2 fun z M3 => ∃ t, z = .d (.bl t) ∧ if t = true then wc ρ M3 (fun c M4 => q b c M4 k) e else k (.d (.bl false)) M3) e) e
instance {p q : P2} {ta tb tc : TE} {wa wb wc : WEx} [U2 p] [U2 q] [A : SE K Wx ta wa] [B : SE K Wx tb wb] [C : SE K Wx tc wc] : SE K Wx (tChain (rP2 K p) (rP2 K q) ta tb tc) (wChain p q wa wb wc) where
  mono := fun hk he h => A.mono (fun _ _ z => B.mono (fun _ _ z => U2.up _ _ _ _ _ (fun _ _ ⟨t, ez, z⟩ => ⟨t, ez, by
    cases t with
    | true => exact C.mono (fun _ _ z => U2.up _ _ _ _ _ hk z) he z
    | false => exact hk _ _ z⟩) z) he z) he h
  ok := fun S s h => A.ok S s (A.mono (fun a M1 z G1 L1 H1 x e1 S1 r1 => B.ok S1 (s.ext e1) (B.mono (fun b M2 z G2 L2 H2 y e2 S2 r2 => ⟨G2, L2, M2, a, b, S2, r1.ext e2, r2, U2.up _ _ _ _ _ (fun v M3 ⟨t, ez, z⟩ G3 L3 H3 u e3 S3 r3 => by
    subst ez
    cases r3
    refine ⟨t, rfl, ?_⟩
    have e13 := e1.trans (e2.trans e3)
    cases t with
    | true => exact C.ok S3 ((s.ext (e1.trans e2)).ext e3) (C.mono (fun c M4 z G4 L4 H4 w' e4 S4 r4 => ⟨G4, L4, M4, b, c, S4, (r2.ext e3).ext e4, r4, U2.up _ _ _ _ _ (fun _ _ z => z.after (e13.trans e4)) z⟩) (fun _ _ _ z => z.after e13) z)
    | false => exact z _ _ _ _ e13 S3 (.bl false)) z⟩) (fun _ _ _ z => z.after e1) z)) (fun _ _ _ z => z) h)
/-! ### a, b = x, y -/
def sPar (i j : Nat) (wa : WAx) : WSx := fun ρ M k e => wa ρ M (fun ws M1 => ∃ a b, ws = [a, b] ∧ k (.nx ((ρ.set i (some a)).set j (some b)) M1)) (e ρ)
instance {i j : Nat} {ta : TA} {wa : WAx} [A : SA K Wx ta wa] : SS K Wx (tPar i j ta) (sPar i j wa) where
  mono := fun hk he h => A.mono (fun _ _ ⟨a, b, h1, q⟩ => ⟨a, b, h1, hk _ q⟩) (he _) h
  ok := fun S s h => A.ok S s (A.mono (fun ws M1 ⟨a, b, h1, q⟩ G1 L1 H1 vs e1 S1 r1 => by
    subst h1
    obtain ⟨v, u, rfl, ra, rb⟩ := repWs2 r1
    exact ⟨v, u, rfl, q _ _ _ _ e1 S1 (((s.ext e1).set ra).set rb)⟩) (fun _ _ _ z => z.ex s) h)
/-! ### gcd -/
def fGcd (as : List W) (_ : Mem) : Option (W × Prop) := match as with
  | [.d (.int a), .d (.int b)] => some (.d (.int ((Nat.gcd a.natAbs b.natAbs : Nat) : Int)), True)
  | _ => none
@[simp] theorem fGcd_int {a b : Int} {M : Mem} : fGcd [.d (.int a), .d (.int b)] M = some (.d (.int ((Nat.gcd a.natAbs b.natAbs : Nat) : Int)), True) := rfl
theorem cr_gcdP {X : Cx} (hK : X.K = K := by rfl) : CallR X (.builtin "math.gcd") (rPn K (pfn fGcd)) := by
  subst hK
  exact cr_of fun G L M H xs as Q S ra hq => by
    obtain ⟨⟨d, c⟩, e, hc', q⟩ := hq
    unfold fGcd at e
    split at e
    · cases e
      obtain rfl := repWs_two ra
      exact ⟨_, cr_gcd, _, _, rfl, post_int S q⟩
    · cases e
/-! ### // by great divisors -/
def fDivW (a b : W) (_ : Mem) : Option (W × Prop) := match a, b with
  | .d (.int i), .d (.int j) => some (.d (.int (i / j)), CDivW i j)
  | _, _ => none
@[simp] theorem fDivW_int {i j : Int} {M : Mem} : fDivW (.d (.int i)) (.d (.int j)) M = some (.d (.int (i / j)), CDivW i j) := rfl
theorem op_divW {X : Cx} (hK : X.K = K := by rfl) : OpR X (binaryOp .FloorDiv) (rP2 K (pf2 fDivW)) := by
  subst hK
  exact op_of fun G L M H x y a b Q S ra rb ⟨⟨d, c⟩, e, hc, q⟩ => by
    unfold fDivW at e
    split at e
    · cases e
      cases rep_int ra
      cases rep_int rb
      exact ⟨_, op_fdivW, _, _, rfl, rfl, hc, post_int S q⟩
    · cases e
theorem pIsT_p {M : Mem} {k : KW} {n : Nat} {xs : List D} (h : M[n]? = some (.lst xs)) (q : k (.d (.bl true)) M) : pIsT K "list" "tuple" (.p n) M k := by
  refine ⟨true, .inl ⟨.type "list", by simp [tyW, h], ?_⟩, q⟩
  unfold PySem.W.kitAny
  rw [kit_ty (by decide +kernel : kitB "list" "list" = some true)]
/-! ### calls with defaults -/
class LitA (vs : List V) (ds : outParam (List D)) : Prop where
  rep : ∀ (K : PySem.W.Frag) (G : Hp), RepAll K G vs ds
instance : LitA [] [] := ⟨fun _ _ => .nil⟩
instance {i : Int} {vs : List V} {ds : List D} [A : LitA vs ds] : LitA (.int i :: vs) (.int i :: ds) := ⟨fun K G => .cons (.int i) (A.rep K G)⟩
instance {b : Bool} {vs : List V} {ds : List D} [A : LitA vs ds] : LitA (.bl b :: vs) (.bl b :: ds) := ⟨fun K G => .cons (.bl b) (A.rep K G)⟩
instance {vs : List V} {ds : List D} [A : LitA vs ds] : LitA (.non :: vs) (.non :: ds) := ⟨fun K G => .cons .non (A.rep K G)⟩
def wCallD (c : Con) (ds : List D) (wa : WAx) : WEx := fun ρ M k e => wa ρ M (fun ws M1 => c (ws ++ ds.map .d) M1 k e) e
instance {c : Con} [UC c] {dvs : List V} {ds : List D} [LA : LitA dvs ds] {ta : TA} {wa : WAx} [A : SA K Wx ta wa] : SE K Wx (tCallSD (spP K c) dvs (WE Wx) ta) (wCallD c ds wa) where
  mono := fun hk he h => A.mono (fun _ _ q => UC.up hk he q) he h
  ok := fun S s h => A.ok S s (A.mono (fun ws M1 q G1 L1 H1 vs e1 S1 r1 => ⟨G1, L1, M1, ws ++ ds.map .d, S1, paired_app r1 (repWs_of (LA.rep K G1)), UC.up (fun _ _ z => z.after e1) (fun _ _ _ z => z.after e1) q⟩) (fun _ _ _ z => z) h)
end
/-- the name x stands for a def whose last arguments are left out -/
structure CalD (P : Program) (w : World) (K : PySem.W.Frag) (mg : Str → Option Value) (base : Heap) (k : Nat) (x : Str) (f : Addr) (fd : FuncData) (ps : List Str) (dvs : List V) (sp : Sp) : Prop where
  glob : mg x = some (.ref f)
  kp : PySem.W.keepIn K (.ref f) = true
  binds : ∃ ds, Vals dvs ds ∧ L2.Binds K fd ps ds
  ok : FnOk P w K mg base (L2.CX P w) k f fd ps sp
theorem pe_calD {X : Cx} {k : Nat} {x : Str} {f : Addr} {fd : FuncData} {ps : List Str} {dvs : List V} {sp : Sp} {e : Expr} {es : List Expr} {t : TA} {p pos : Pos} {W : WX} (C : CalD X.prog X.w X.K X.mg X.base k x f fd ps dvs sp) (hr : Room k X.A) (ha : PA X (e :: es) t) (tk : Takes X W) (hg : Gl X x := by rfl) (hdb : (x == ("__debug__" : Str)) = false := by decide)
    (he : starEach (e :: es) X.env = (false, eval e X.env) :: starEach es X.env := by rfl) (hpl : (backTo pos (starEach es X.env)).any (·.1) = false := by rfl) :
    PE X (.Call (.Name x p) (e :: es) [] pos) (tCallSD sp dvs (WE W) t) := by
  obtain ⟨ds, hd, hb⟩ := C.binds
  exact pe_callSD C.ok hr hg C.glob C.kp hb hd (fun σ => passAt tk σ) ha hdb he hpl
/-- what the laws' refusals ask of the errors' classes -/
structure ErrG (K : PySem.W.Frag) (mg : Str → Option Value) : Prop where
  gW : mg "WishError" = some (.ref (He.ga K "WishError"))
  g : ∀ x ∈ (["InvalidNumber", "InvalidMatrix", "InvalidPlan", "Undefined"] : List Str), mg x = some (.ref (He.ga K x))
  vE : mg "ValueError" = none
structure ErrC (K : PySem.W.Frag) (x : Str) (fs : List Str) : Prop where
  xf : XfC K (He.ga K x)
  ex : ExcC K (He.ga K x)
  w : PySem.W.exmOne K (.ref (He.ga K x)) (.ref (He.ga K "WishError")) = some true
  v : PySem.W.kitOne K (.ref (He.ga K x)) (.type "ValueError") = some true
  k : ∀ y ∈ (["InvalidNumber", "InvalidMatrix", "InvalidPlan", "Undefined"] : List Str), PySem.W.kitOne K (.ref (He.ga K x)) (.ref (He.ga K y)) = some (x == y)
  no : ∀ f ∈ fs, PySem.W.findIn K (.ref (He.ga K x)) f = some none
section
variable {i : Nat} {k : FK} {ρ : En} {M : Mem} {w : W}
@[simp] theorem wipeF_nx : wipeF i k (.nx ρ M) = k (.nx (ρ.set i none) M) := rfl
@[simp] theorem wipeF_rt : wipeF i k (.rt w M) = k (.rt w M) := rfl
@[simp] theorem wipeF_bk : wipeF i k (.bk ρ M) = k (.bk (ρ.set i none) M) := rfl
@[simp] theorem wipeF_ct : wipeF i k (.ct ρ M) = k (.ct (ρ.set i none) M) := rfl
end
@[simp] theorem sTryAs_u (K : PySem.W.Frag) (c : Value) (i : Nat) (wb : WSx) (ws : Addr → Addr → Addr → WSx) : sTryAs K c i wb ws = (fun ρ M k e => wb ρ M k fun ρ1 C fs M1 => ∃ b, PySem.W.exmOne K (.ref C) c = some b ∧
  (b = true → ∀ a dd, ws a C dd (ρ1.set i (some (.d (.exc a C dd fs)))) M1 (wipeF i k) fun _ _ _ _ => False) ∧ (b = false → e ρ1 C fs M1)) := rfl
@[simp] theorem wXf_u (a : Addr) (cls : Value) (d : Option Addr) (C : Addr) (f : Str) (we : WEx) : wXf a cls d C f we = (fun ρ M k e => we ρ M (fun x M1 => ∃ dd fs v, x = .d (.exc a C dd fs) ∧ cls = .ref C ∧ d = some dd ∧ fs.lookup f = some v ∧ k (.d v) M1) e) := rfl
@[simp] theorem wM1_u (p : Pm) (wo we : WEx) : wM1 p wo we = (fun ρ M k e => wo ρ M (fun a M1 => (∃ s, a = .d (.str s)) ∧ we ρ M1 (fun y M2 => p a [y] M2 k) e) e) := rfl
@[simp] theorem wStar_u (we : WEx) (wa : WAx) : wStar we wa = (fun ρ M k e => we ρ M (fun a M1 => ob (seqW M1 a) fun r => wa ρ M1 (fun ys M2 => k (r.2.map .d ++ ys) M2) e) e) := rfl
@[simp] theorem wCallD_u (c : Con) (ds : List D) (wa : WAx) : wCallD c ds wa = (fun ρ M k e => wa ρ M (fun ws M1 => c (ws ++ ds.map .d) M1 k e) e) := rfl
@[simp] theorem pReprA_u : pReprA = (fun as M k => ob (trA as) fun d => ob (pyD d) fun p => p.showable = true ∧ p.hasDict = false ∧ p.depth ≤ 60 ∧ p.shown.length ≤ sizeLine ∧ k (.d (.str p.shown)) M) := rfl
@[simp] theorem sPar_u (i j : Nat) (wa : WAx) : sPar i j wa = (fun ρ M k e => wa ρ M (fun ws M1 => ∃ a b, ws = [a, b] ∧ k (.nx ((ρ.set i (some a)).set j (some b)) M1)) (e ρ)) := rfl
@[simp] theorem wChain_u (p q : P2) (wa wb wc : WEx) : wChain p q wa wb wc = (fun ρ M k e => wa ρ M (fun a M1 => wb ρ M1 (fun b M2 => p a b M2 fun z M3 => ∃ t, z = .d (.bl t) ∧ if t = true then wc ρ M3 (fun c M4 => q b c M4 k) e else k (.d (.bl false)) M3) e) e) := rfl
/-- isinstance of the handled error, as asked -/
@[simp] theorem pIsX_own {K : PySem.W.Frag} {a C dd : Addr} {fs : List (Str × D)} {v : V} {M : Mem} {k : KW} : pIsX K a (.ref C) (some dd) [.d (.exc a C dd fs), .d (.at v)] M k = ∃ u b, ExcC K C ∧ clV (.d (.at v)) = some u ∧ PySem.W.kitOne K (.ref C) u = some b ∧ k (.d (.bl b)) M := by
  apply propext
  constructor
  · rintro ⟨C', dd', fs', c, u, b, h1, h2, h3, h4, h5, h6, q⟩
    cases h1
    exact ⟨u, b, h4, h5, h6, q⟩
  · rintro ⟨u, b, h4, h5, h6, q⟩
    exact ⟨C, dd, fs, _, u, b, rfl, rfl, rfl, h4, h5, h6, q⟩
@[simp] theorem pJoin_d {s : Str} {xs : List D} {M : Mem} {k : KW} : pJoin (.d (.str s)) [.d (.lst xs)] M k = ob (strsD xs) fun ys => (ys.map (fun z => z.length)).sum + ys.length * s.length ≤ 16777216 ∧ k (.d (.str (Txt.join s ys))) M := by
  apply propext
  constructor
  · rintro ⟨s', x, h1, h2, r, h3, q⟩
    cases h1
    cases h2
    cases h3
    exact q
  · exact fun q => ⟨s, _, rfl, rfl, _, rfl, q⟩
@[simp] theorem pJoin_p {s : Str} {n : Nat} {M : Mem} {k : KW} : pJoin (.d (.str s)) [.p n] M k = ob (seqW M (.p n)) fun r => ob (strsD r.2) fun ys => (ys.map (fun z => z.length)).sum + ys.length * s.length ≤ 16777216 ∧ k (.d (.str (Txt.join s ys))) M := by
  apply propext
  constructor
  · rintro ⟨s', x, h1, h2, r, h3, q⟩
    cases h1
    cases h2
    exact ⟨r, h3, q⟩
  · exact fun ⟨r, h3, q⟩ => ⟨s, _, rfl, rfl, r, h3, q⟩

def errNs : List Str := ["InvalidNumber", "InvalidMatrix", "InvalidPlan", "Undefined"]
def errB (K : PySem.W.Frag) (x : Str) (fs : List Str) : Bool := xfB K (He.ga K x) && (excB K (He.ga K x) && (isB0 (PySem.W.exmOne K (.ref (He.ga K x)) (.ref (He.ga K "WishError"))) true && (isB0 (PySem.W.kitOne K (.ref (He.ga K x)) (.type "ValueError")) true &&
  (errNs.all (fun y => isB0 (PySem.W.kitOne K (.ref (He.ga K x)) (.ref (He.ga K y))) (x == y)) && fs.all (fun f => decide (PySem.W.findIn K (.ref (He.ga K x)) f = some none))))))
theorem errB_ok {K : PySem.W.Frag} {x : Str} {fs : List Str} (h : errB K x fs = true) : ErrC K x fs := by
  obtain ⟨h1, h⟩ := and2 h
  obtain ⟨h2, h⟩ := and2 h
  obtain ⟨h3, h⟩ := and2 h
  obtain ⟨h4, h⟩ := and2 h
  obtain ⟨h5, h6⟩ := and2 h
  exact ⟨xfB_ok h1, excB_ok h2, isB0_ok h3, isB0_ok h4, fun y hy => isB0_ok (List.all_eq_true.mp h5 y hy), fun f hf => of_decide_eq_true (List.all_eq_true.mp h6 f hf)⟩
/-- a name for an int -/
def intB (K : PySem.W.Frag) (x : Str) (n : Int) : Bool := match PySem.W.nsIn K mainGlobals x with
  | some (some (.int i _)) => decide (i = n)
  | _ => false
theorem intB_ok {K : PySem.W.Frag} {x : Str} {n : Int} (h : intB K x n = true) : ∃ t, PySem.W.nsIn K mainGlobals x = some (some (.int n t)) := by
  unfold intB at h
  split at h
  · rename_i i t e
    exact ⟨t, by rw [e, of_decide_eq_true h]⟩
  · cases h
end PU

set_option maxRecDepth 100000
set_option maxHeartbeats 8000000
set_option synthInstance.maxHeartbeats 4000000
set_option synthInstance.maxSize 4000
namespace PU
open PySem PySem.Spec PyProof.Rows L2 GS WU

mutual
/-- plain data -/
def okD : D → Bool
  | .non => true
  | .bl _ => true
  | .int _ => true
  | .str _ => true
  | .lst xs => okA xs
  | .tup xs => okA xs
  | .fl _ => false
  | .ft _ => false
  | .nt _ => false
  | .ins _ _ => false
  | .at _ => false
  | .dic _ _ => false
  | .exc _ _ _ _ => false
def okA : List D → Bool
  | [] => true
  | x :: xs => okD x && okA xs
end
def isI : D → Bool
  | .int _ => true
  | _ => false
def isN : D → Bool
  | .int i => decide (0 ≤ i)
  | _ => false
def isP : D → Bool
  | .int i => decide (0 < i)
  | _ => false
def isB (l : Int) : D → Bool
  | .int i => decide (0 ≤ i) && decide (i < l)
  | _ => false
def btw (a b : Int) : D → Bool
  | .int i => decide (a ≤ i) && decide (i ≤ b)
  | _ => false
def isS : D → Bool
  | .lst _ => true
  | .tup _ => true
  | _ => false
def seqOf : D → List D
  | .lst xs => xs
  | .tup xs => xs
  | _ => []
def isLt (p : Int) (n : Nat) (x : D) : Bool := isS x && (decide ((seqOf x).length = n) && (seqOf x).all (isB p))
def cIntG  : Con := fun ws M k e => ∃ (x : D), ws = [.d x] ∧ (okD x = true) ∧ k (.d (.bl (isI x))) M
instance  : UC (cIntG ) := ⟨fun hk _ h => by
  obtain ⟨x, e1, e2, qQ⟩ := h
  exact ⟨x, e1, e2, hk _ _ qQ⟩⟩
def cNumG  : Con := fun ws M k e => ∃ (x : D), ws = [.d x] ∧ (okD x = true) ∧ k (.d (.bl (isN x))) M
instance  : UC (cNumG ) := ⟨fun hk _ h => by
  obtain ⟨x, e1, e2, qQ⟩ := h
  exact ⟨x, e1, e2, hk _ _ qQ⟩⟩
def cBelG  : Con := fun ws M k e => ∃ (x : D) (l : Int), ws = [.d x, .d (.int l)] ∧ (okD x = true) ∧ k (.d (.bl (isB l x))) M
instance  : UC (cBelG ) := ⟨fun hk _ h => by
  obtain ⟨x, l, e1, e2, qQ⟩ := h
  exact ⟨x, l, e1, e2, hk _ _ qQ⟩⟩
def cPosG  : Con := fun ws M k e => ∃ (x : D), ws = [.d x] ∧ (okD x = true) ∧ k (.d (.bl (isP x))) M
instance  : UC (cPosG ) := ⟨fun hk _ h => by
  obtain ⟨x, e1, e2, qQ⟩ := h
  exact ⟨x, e1, e2, hk _ _ qQ⟩⟩
def cBtw  : Con := fun ws M k e => ∃ (x : D) (a b : Int), ws = [.d x, .d (.int a), .d (.int b)] ∧ (okD x = true) ∧ k (.d (.bl (btw a b x))) M
instance  : UC (cBtw ) := ⟨fun hk _ h => by
  obtain ⟨x, a, b, e1, e2, qQ⟩ := h
  exact ⟨x, a, b, e1, e2, hk _ _ qQ⟩⟩
def cSeqG  : Con := fun ws M k e => ∃ (x : D), ws = [.d x] ∧ (okD x = true) ∧ k (.d (.bl (isS x))) M
instance  : UC (cSeqG ) := ⟨fun hk _ h => by
  obtain ⟨x, e1, e2, qQ⟩ := h
  exact ⟨x, e1, e2, hk _ _ qQ⟩⟩
def cLetsG  : Con := fun ws M k e => ∃ (p : Int) (n : Nat) (x : D), ws = [.d (.int p), .d (.int n), .d x] ∧ (okD x = true ∧ n ≤ 1000) ∧ k (.d (.bl (isLt p n x))) M
instance  : UC (cLetsG ) := ⟨fun hk _ h => by
  obtain ⟨p, n, x, e1, e2, qQ⟩ := h
  exact ⟨p, n, x, e1, e2, hk _ _ qQ⟩⟩

theorem okA_iff : ∀ {xs : List D}, okA xs = true ↔ ∀ x ∈ xs, okD x = true
  | [] => ⟨fun _ x hx => (nomatch hx), fun _ => rfl⟩
  | y :: xs => by
    rw [okA, Bool.and_eq_true, okA_iff]
    constructor
    · rintro ⟨h1, h2⟩ x hx
      rcases List.mem_cons.mp hx with rfl | hx
      · exact h1
      · exact h2 x hx
    · exact fun h => ⟨h y (List.mem_cons_self ..), fun x hx => h x (List.mem_cons_of_mem _ hx)⟩
theorem pl_seq {x : D} (h : okD x = true) : ∀ y ∈ seqOf x, okD y = true := by
  cases x with
  | lst xs => exact okA_iff.mp (by rw [okD] at h; exact h)
  | tup xs => exact okA_iff.mp (by rw [okD] at h; exact h)
  | _ => intro y hy; cases hy
mutual
theorem okD_py : ∀ {x : D}, okD x = true → ∃ p, pyD x = some p
  | .non, _ => ⟨_, rfl⟩
  | .bl _, _ => ⟨_, rfl⟩
  | .int _, _ => ⟨_, rfl⟩
  | .str _, _ => ⟨_, rfl⟩
  | .lst xs, h => by
    obtain ⟨ps, e⟩ := okA_py (xs := xs) (by rw [okD] at h; exact h)
    exact ⟨_, by rw [pyD, e]; rfl⟩
  | .tup xs, h => by
    obtain ⟨ps, e⟩ := okA_py (xs := xs) (by rw [okD] at h; exact h)
    exact ⟨_, by rw [pyD, e]; rfl⟩
  | .fl _, h => nomatch h
  | .ft _, h => nomatch h
  | .nt _, h => nomatch h
  | .ins _ _, h => nomatch h
  | .at _, h => nomatch h
  | .dic _ _, h => nomatch h
  | .exc _ _ _ _, h => nomatch h
theorem okA_py : ∀ {xs : List D}, okA xs = true → ∃ ps, pyAll xs = some ps
  | [], _ => ⟨_, rfl⟩
  | x :: xs, h => by
    rw [okA, Bool.and_eq_true] at h
    obtain ⟨p, e1⟩ := okD_py h.1
    obtain ⟨ps, e2⟩ := okA_py h.2
    exact ⟨p :: ps, by rw [pyAll, e1, e2]⟩
end
theorem fLen_seq {M : Mem} {w : W} {b : Bool} {xs : List D} (h : seqW M w = some (b, xs)) : fLen [w] M = some (.d (.int xs.length), True) := by
  unfold fLen
  split
  · rename_i e
    cases e
    cases h
  · rename_i e
    cases e
    rw [h]
  · rename_i e2 e
    exact absurd rfl (e _)
theorem fList_seq {M : Mem} {w : W} {b : Bool} {xs : List D} (h : seqW M w = some (b, xs)) : fList [w] M = some (.d (.lst xs), True) := by
  unfold fList
  simp only
  rw [h]
theorem keep_seq {M : Mem} {w : W} {b : Bool} {xs : List D} (h : seqW M w = some (b, xs)) : keepW w b xs M := by
  cases w with
  | d x => trivial
  | p n =>
    unfold seqW at h
    show M[n]? = some (.lst xs)
    cases e : M[n]? with
    | none => simp [e] at h
    | some c =>
      cases c with
      | lst ys => simp [e] at h; rw [h.2]
      | ins _ _ => simp [e] at h
end PU

set_option maxRecDepth 100000
set_option maxHeartbeats 8000000
set_option synthInstance.maxHeartbeats 4000000
set_option synthInstance.maxSize 4000
namespace PU
open PySem PySem.Spec PyProof.Rows L2 GS WU

/-- not a frozen list -/
def nfW : W → Bool
  | .d (.fl _) => false
  | _ => true
def cSeqW  : Con := fun ws M k e => ∃ (w : W) (b : Bool) (xs : List D), ws = [w] ∧ (seqW M w = some (b, xs) ∧ nfW w = true) ∧ k (.d (.bl true)) M
instance  : UC (cSeqW ) := ⟨fun hk _ h => by
  obtain ⟨w, b, xs, e1, e2, qQ⟩ := h
  exact ⟨w, b, xs, e1, e2, hk _ _ qQ⟩⟩
def cMemW  : Con := fun ws M k e => ∃ (w : W) (b : Bool) (xs : List D), ws = [w] ∧ (seqW M w = some (b, xs) ∧ nfW w = true ∧ xs ≠ []) ∧ k (.d (.lst xs)) M
instance  : UC (cMemW ) := ⟨fun hk _ h => by
  obtain ⟨w, b, xs, e1, e2, qQ⟩ := h
  exact ⟨w, b, xs, e1, e2, hk _ _ qQ⟩⟩
def cQaW  : Con := fun ws M k e => ∃ (b b0 : Bool) (n : Nat) (ds : DrQ) (w : W), ws = [.d (.int n), w] ∧ (seqW M w = some (b0, ds.map (wE b)) ∧ Few64 (askd n ds) ∧ ds.length ≤ 100 ∧ ∀ d ∈ ds, d.2.length ≤ 10 ∧ ∀ r ∈ d.2, n < r.length) ∧ k (.d (.lst ((sq (askd n ds)).map tM))) M
instance  : UC (cQaW ) := ⟨fun hk _ h => by
  obtain ⟨b, b0, n, ds, w, e1, e2, qQ⟩ := h
  exact ⟨b, b0, n, ds, w, e1, e2, hk _ _ qQ⟩⟩
def cMadeW (C : Addr) : Con := fun ws M k e => ∃ (b b0 : Bool) (p : Int) (l c h : Nat) (ds : DrQ) (w : W), ws = [.d (.at (.ref C)), .d (.int p), .d (.int l), .d (.int c), .d (.int h), w] ∧ (seqW M w = some (b0, ds.map (wE b)) ∧ nfW w = true ∧ DOk p l c h ds) ∧ k (.d (plE C p l c (qsOf h ds) (numD (qsOf h ds) ds))) M
instance {C : Addr} : UC (cMadeW C) := ⟨fun hk _ h => by
  obtain ⟨b, b0, p, l, c, h, ds, w, e1, e2, qQ⟩ := h
  exact ⟨b, b0, p, l, c, h, ds, w, e1, e2, hk _ _ qQ⟩⟩

structure PMW (P : Program) (w : World) (K : PySem.W.Frag) (mg : Str → Option Value) (base : Heap) (C p g : Addr) : Prop where
  gP : mg "Plan" = some (.ref C)
  r : ClX.CRead K C (.type "type")
  c : ClX.CMet K C (.type "type") "made" p g
  F : FnR P w K mg base (L2.CX P w) 10 g (spP K (cMadeW C))
def cAskB (C : Addr) : Con := fun ws M k e => ∃ (p l c : Int) (qs : List (List Mx)) (ns : DrN) (b : Bool) (qs' : List (List Mx)), ws = [.d (plE C p l c qs ns), .d (qsE b qs')] ∧ (qs'.length ≤ 1000 ∧ ns.length ≤ 1000 ∧ ∀ d ∈ ns, d.2.length ≤ 1000 ∧ ∀ r ∈ d.2, ∀ (i : Nat) (x : Int) (q : List Mx), r[i]? = some x → qs'[i]? = some q → 0 ≤ x ∧ x < q.length) ∧ k (.d ((.lst ((unD qs' ns).map (wE true))))) M
instance {C : Addr} : UC (cAskB C) := ⟨fun hk _ h => by
  obtain ⟨p, l, c, qs, ns, b, qs', e1, e2, qQ⟩ := h
  exact ⟨p, l, c, qs, ns, b, qs', e1, e2, hk _ _ qQ⟩⟩
def cPlk (C : Addr) : Con := fun ws M k e => ∃ (p : Int) (l c h : Nat) (qs : List (List Mx)) (ns : DrN) (b b0 : Bool) (ds : DrQ) (w : W), ws = [.d (plE C p l c qs ns), w] ∧ (seqW M w = some (b0, ds.map (wE b)) ∧ nfW w = true ∧ DOk p l c h ds ∧ qs.length = h) ∧ k (.d (plE C p l c (qsOf h ds) (numD (qsOf h ds) ds))) M
instance {C : Addr} : UC (cPlk C) := ⟨fun hk _ h => by
  obtain ⟨p, l, c, h, qs, ns, b, b0, ds, w, e1, e2, qQ⟩ := h
  exact ⟨p, l, c, h, qs, ns, b, b0, ds, w, e1, e2, hk _ _ qQ⟩⟩

/-- what house order[n] was asked, house n is asked -/
def rehD (o : List Nat) (ds : DrQ) : DrQ := ds.map fun d => (d.1, d.2.map fun r => o.map fun n => (r[n]?).getD [])
def cReh  : Con := fun ws M k e => ∃ (b : Bool) (ds : DrQ) (o : List Nat), ws = [.d (.lst (ds.map (wE true))), .d (sqE b (o.map fun n : Nat => .int (n : Int)))] ∧ (ds.length ≤ 1000 ∧ o.length ≤ 100 ∧ ∀ d ∈ ds, d.2.length ≤ 100 ∧ ∀ r ∈ d.2, ∀ n ∈ o, n < r.length) ∧ k (.d (.lst ((rehD o ds).map (wE true)))) M
instance  : UC (cReh ) := ⟨fun hk _ h => by
  obtain ⟨b, ds, o, e1, e2, qQ⟩ := h
  exact ⟨b, ds, o, e1, e2, hk _ _ qQ⟩⟩
end PU

set_option maxRecDepth 100000
set_option maxHeartbeats 8000000
set_option synthInstance.maxHeartbeats 4000000
set_option synthInstance.maxSize 4000
namespace PU
open PySem PySem.Spec PyProof.Rows L2 GS WU
section
variable {P : Program} {w : World} {K : PySem.W.Frag} {mg : Str → Option Value} {base : Heap}

theorem ints_eq {G : Hp} : ∀ {xs : List V} {ns : List Int}, RepAll K G xs (ns.map D.int) → xs = ns.map V.int
  | _, [], .nil => rfl
  | _, n :: ns, .cons h r => by
    cases h
    rw [ints_eq r]
    rfl
theorem rep_ints2 {G : Hp} : ∀ ns : List Int, RepAll K G (ns.map V.int) (ns.map D.int)
  | [] => .nil
  | n :: ns => .cons (.int n) (rep_ints2 ns)
theorem ok_CF {f f1 fP : Addr} {fd fd1 : FuncData} (F : FnS K "is_field" sIsFld f fd) (CIh : Cal P w K mg base 1 "is_integer" f1 fd1 ["value"] (spIsInt K)) (gP : mg "PRIMES" = some (.ref fP)) (tP : ∀ H, SqT K H fP (primes.map V.int)) : FnOk P w K mg base (L2.CX P w) 2 f fd ["p"] (spP K cFld) := by
  refine fn_weak (ok_isFld F CIh gP tP) fun vs H Q E h => ?_
  obtain ⟨G, L, M, ws, S, rw, z, rfl, hz, hk⟩ := h
  cases rw with
  | cons r rw =>
    cases rw
    cases r
    refine ⟨.int z, rfl, ty3_int z, ?_⟩
    rw [mem_fld hz]
    exact hk _ _ _ _ Ext.refl S (.bl true)
theorem ok_CDs {f : Addr} {fd : FuncData} (F : FnS K "_law_draws" sDraws f fd) (B2 : Blt2 mg) : FnOk P w K mg base (L2.CX P w) 1 f fd ["script", "many"] (spP K cDrs) := by
  refine fn_weak (ok_draws F B2 (many := 420) (by decide) (by decide)) fun vs H Q E h => ?_
  obtain ⟨G, L, M, ws, S, rw, ns, rfl, hn, hk⟩ := h
  cases rw with
  | cons r rw =>
    cases rw with
    | cons r2 rw =>
      cases rw
      cases r2
      cases r with
      | fl h1 h2 =>
        obtain rfl := ints_eq h2
        exact ⟨_, ns, rfl, S.le.sqL h1, hn, fun p ds H' sm np hp hd _ => post_more S sm np hp (rep_ints2 ds) (hk ds hd)⟩
end
end PU

set_option maxRecDepth 100000
set_option maxHeartbeats 8000000
/-! any of a tuple of ints -/
namespace PU
open PySem PySem.Spec PyProof.Rows L2 WU
section
variable {X : Cx}
theorem dpAll_of_ints {K : PySem.W.Frag} {H : Hp} : ∀ zs : List Int, DpAll K H (zs.map V.int) (zs.map PyData.int)
  | [] => .nil
  | z :: zs => .cons (.int z) (dpAll_of_ints zs)
theorem plainInts : ∀ zs : List Int, PyData.plainAll (zs.map PyData.int) = true
  | [] => rfl
  | _ :: zs => plainInts zs
theorem truthyInts : ∀ zs : List Int, (zs.map PyData.int).any PyData.truthy = zs.any fun z => !decide (z = 0)
  | [] => rfl
  | z :: zs => by
    rw [List.map_cons, List.any_cons, List.any_cons, truthyInts zs]
    congr 1
def anyIR (K : PySem.W.Frag) : List V → Hp → VK → Prop := fun vs H Q => ∃ (a : Addr) (zs : List Int), vs = [V.ref a] ∧ SqT K H a (zs.map V.int) ∧ Q (.bl (zs.any fun z => !decide (z = 0))) H
theorem anyIR_ok (calm : X.calm = true) : CallR X (.builtin "any") (anyIR X.K) := by
  intro pins s σ H vs us Q I r hyp
  obtain ⟨a, zs, rfl, sq, q⟩ := hyp
  obtain ⟨items, rv, tup, _⟩ := I.tuple sq
  rw [Vals.ref1 r]
  obtain ⟨as, reads⟩ := Dp.readsAll I (zs.map PyData.int) _ items (dpAll_of_ints zs) rv
  refine PySem.W.any_tuple_data (I.ok.hd calm) (show s.heap.IsTuple a items.toArray from tup) reads (plainInts zs) (fun x hx => ?_) fun h' tk keep => ?_
  · obtain ⟨z, _, rfl⟩ := List.mem_map.mp hx
    trivial
  · rw [truthyInts]
    exact ⟨.bl _, H, I.kept fun b o e => keep b o e, rfl, q⟩
end
def fAnyI (as : List W) (M : Mem) : Option (W × Prop) := match as with
  | [.d (.tup ds)] => (intsD ds).map fun zs => (.d (.bl (zs.any fun z => !decide (z = 0))), True)
  | _ => none
@[simp] theorem fAnyI_t {zs : List Int} {M : Mem} : fAnyI [.d (tI zs)] M = some (.d (.bl (zs.any fun z => !decide (z = 0))), True) := by
  show (intsD (zs.map D.int)).map _ = _
  rw [intsD_map]
  rfl
theorem cr_anyI {K : PySem.W.Frag} {X : Cx} (calm : X.calm = true) (hK : X.K = K := by rfl) : CallR X (.builtin "any") (rPn K (pfn fAnyI)) := by
  subst hK
  exact cr_of fun G L M H xs as Q S ra hq => by
    obtain ⟨⟨d, c⟩, e, hc', q⟩ := hq
    unfold fAnyI at e
    split at e
    · rename_i ds
      cases e2 : intsD ds with
      | none =>
        rw [e2] at e
        cases e
      | some zs =>
        rw [e2] at e
        cases e
        obtain ⟨v, rfl, r⟩ := repWs1 ra
        cases r with
        | tup h1 h2 =>
          have ez := ints_rep h2 e2
          subst ez
          exact ⟨_, anyIR_ok calm, _, zs, rfl, .inl (Le.rd S.le h1), post_bl S q⟩
    · cases e
section
variable {X : Cx}
def sumIR (K : PySem.W.Frag) : List V → Hp → VK → Prop := fun vs H Q => ∃ (a : Addr) (zs : List Int), vs = [V.ref a] ∧ SqT K H a (zs.map V.int) ∧ Q (.int zs.sum) H
theorem sumIR_ok (calm : X.calm = true) : CallR X (.builtin "sum") (sumIR X.K) := by
  intro pins s σ H vs us Q I r hyp
  obtain ⟨a, zs, rfl, sq, q⟩ := hyp
  obtain ⟨items, rv, tup, _⟩ := I.tuple sq
  rw [Vals.ref1 r]
  have are : IntsAre items zs := rv.ints
  obtain ⟨xs, ex⟩ := are.allInts.items
  have en : numsOf items.toArray.toList = zs := by rw [show items.toArray.toList = items from rfl, are.numsOf]
  have tup2 : s.heap.IsTuple a items.toArray := tup
  rw [ex] at tup2 en
  rw [nums_intItems] at en
  refine PySem.W.ktm_sumG (I.ok.hd calm) tup2 fun h' tk t' keep => ?_
  rw [preSum_eq, List.take_of_length_le (by simp), en]
  exact ⟨.int _, H, I.kept keep, ⟨_, rfl⟩, q⟩
end
def fSumI (as : List W) (M : Mem) : Option (W × Prop) := match as with
  | [.d (.tup ds)] => (intsD ds).map fun zs => (.d (.int zs.sum), True)
  | _ => none
@[simp] theorem fSumI_t {zs : List Int} {M : Mem} : fSumI [.d (tI zs)] M = some (.d (.int zs.sum), True) := by
  show (intsD (zs.map D.int)).map _ = _
  rw [intsD_map]
  rfl
theorem cr_sumI {K : PySem.W.Frag} {X : Cx} (calm : X.calm = true) (hK : X.K = K := by rfl) : CallR X (.builtin "sum") (rPn K (pfn fSumI)) := by
  subst hK
  exact cr_of fun G L M H xs as Q S ra hq => by
    obtain ⟨⟨d, c⟩, e, hc', q⟩ := hq
    unfold fSumI at e
    split at e
    · rename_i ds
      cases e2 : intsD ds with
      | none =>
        rw [e2] at e
        cases e
      | some zs =>
        rw [e2] at e
        cases e
        obtain ⟨v, rfl, r⟩ := repWs1 ra
        cases r with
        | tup h1 h2 =>
          have ez := ints_rep h2 e2
          subst ez
          exact ⟨_, sumIR_ok calm, _, zs, rfl, .inl (Le.rd S.le h1), post_int S q⟩
    · cases e
end PU

set_option maxRecDepth 100000
set_option maxHeartbeats 8000000
namespace PU
open PySem PySem.Spec PyProof.Rows L2
/-! ### tuples that are made new, their index -/
def rTupN (K : PySem.W.Frag) : List V → Hp → VK → Prop := fun xs H Q => ∃ p ys, xs = [.ref p] ∧ SqL K H p ys ∧ ∀ l o, H l = none → o.dict = none → Q (.ref l) (upd H l (.frz o (.tup ys)))
theorem tup_new {X : Cx} : CallR X (.type "tuple") (rTupN X.K) := by
  intro pn st sg HH args avs QQ inv rel ⟨c, ys, ea, hseq, hQ⟩
  subst ea
  obtain ⟨_, rfl, ra⟩ := vals1 rel
  cases ra
  obtain ⟨us, ru, pl, small⟩ := inv.list hseq
  refine call_tuple_list pl.isList ?_ (by have := ru.length; simp only [List.size_toArray]; omega)
  intro h1 kept
  have J := inv.kept (t' := st.toks) kept
  have ob : ObjOk X.prog X.w (upd HH h1.objs.size (.frz { cls := .type "tuple", data := .seq us.toArray } (.tup ys))) (h1.push { cls := .type "tuple", data := .seq us.toArray }) h1.objs.size (.frz { cls := .type "tuple", data := .seq us.toArray } (.tup ys)) :=
    ⟨Heap.get?_push_size _ rfl, small, us, ru, IsTup.new _ _⟩
  exact ⟨.ref h1.objs.size, _, J.laid (t' := st.toks) (fun c o ec => Heap.get?_push_of_some _ ec) (Nat.le_refl _) ob, rfl, hQ _ _ (J.hok.fresh (Nat.le_refl _)) rfl⟩
def fTupleN (as : List W) (M : Mem) : Option (W × Prop) := match as with
  | [a] => match seqW M a with
    | some (true, ds) => some (.d (.nt ds), True)
    | _ => none
  | _ => none
@[simp] theorem fTupleN_lst {xs : List D} {M : Mem} : fTupleN [.d (.lst xs)] M = some (.d (.nt xs), True) := rfl
theorem fTupleN_p {M : Mem} {n : Nat} {xs : List D} (h : M[n]? = some (.lst xs)) : fTupleN [.p n] M = some (.d (.nt xs), True) := by
  show (match seqW M (.p n) with | some (true, ds) => some (W.d (.nt ds), True) | _ => none) = _
  rw [show seqW M (.p n) = some (true, xs) by rw [seqW, h]]
theorem cr_tupleN0 {X : Cx} : CallR X (.type "tuple") (rPn X.K (pfn fTupleN)) := cr_of fun G L M H xs as Q S ra hq => by
  obtain ⟨⟨d, c⟩, e, hc, q⟩ := hq
  unfold fTupleN at e
  split at e
  · split at e
    · rename_i a ds e1
      cases e
      obtain ⟨v, rfl, r⟩ := repWs1 ra
      obtain ⟨c', vs, rfl, rr, sq⟩ := seq_at S r e1
      refine ⟨_, tup_new, c', vs, rfl, sq, fun p o hp ho => ?_⟩
      obtain ⟨S2, e2⟩ := S.new (o := .frz o (.tup vs)) hp
      exact q _ _ _ _ e2 S2 (.nt upd_same ho (rr.mono e2.g))
    · cases e
  · cases e
theorem cr_tupleN {K : PySem.W.Frag} {X : Cx} (hK : X.K = K := by rfl) : CallR X (.type "tuple") (rPn K (pfn fTupleN)) := hK ▸ cr_tupleN0
/-- what is known of a new tuple's dict may be forgotten -/
def unN : D → D
  | .nt xs => .tup xs
  | d => d
@[simp] theorem unN_nt {xs : List D} : unN (.nt xs) = .tup xs := rfl
theorem Rep.unN {K : PySem.W.Frag} {G : Hp} {v : V} {d : D} (h : Rep K G v d) : Rep K G v (unN d) := by
  cases d with
  | nt xs =>
    cases h with
    | nt h1 _ h2 => exact .tup (.inr ⟨_, h1⟩) h2
  | _ => exact h
theorem RepAll.unN {K : PySem.W.Frag} {G : Hp} : ∀ {vs : List V} {ds : List D}, RepAll K G vs ds → RepAll K G vs (ds.map unN)
  | _, _, .nil => .nil
  | _, _, .cons h t => .cons h.unN t.unN
/-- tuple(xs), the members' dicts forgotten -/
def fTupleU (as : List W) (M : Mem) : Option (W × Prop) := match as with
  | [a] => match seqW M a with
    | some (true, ds) => some (.d (.tup (ds.map unN)), True)
    | _ => none
  | _ => none
@[simp] theorem fTupleU_lst {xs : List D} {M : Mem} : fTupleU [.d (.lst xs)] M = some (.d (.tup (xs.map unN)), True) := rfl
theorem fTupleU_p {M : Mem} {n : Nat} {xs : List D} (h : M[n]? = some (.lst xs)) : fTupleU [.p n] M = some (.d (.tup (xs.map unN)), True) := by
  show (match seqW M (.p n) with | some (true, ds) => some (W.d (.tup (ds.map unN)), True) | _ => none) = _
  rw [show seqW M (.p n) = some (true, xs) by rw [seqW, h]]
theorem cr_tupleU0 {X : Cx} : CallR X (.type "tuple") (rPn X.K (pfn fTupleU)) := cr_of fun G L M H xs as Q S ra hq => by
  obtain ⟨⟨d, c⟩, e, hc, q⟩ := hq
  unfold fTupleU at e
  split at e
  · split at e
    · rename_i a ds e1
      cases e
      obtain ⟨v, rfl, r⟩ := repWs1 ra
      obtain ⟨c', vs, rfl, rr, sq⟩ := seq_at S r e1
      exact ⟨_, call_tuple_of, c', vs, rfl, .inl ⟨sq, post_tup S rr.unN q⟩⟩
    · cases e
  · cases e
theorem cr_tupleU {K : PySem.W.Frag} {X : Cx} (hK : X.K = K := by rfl) : CallR X (.type "tuple") (rPn K (pfn fTupleU)) := hK ▸ cr_tupleU0
/-- o.m(..), o a tuple that was made new -/
def tBN (r : V → List V → Hp → VK → Prop) (to : TE) (t : TA) : TE := fun σ H Q => to σ H fun x H1 => (∃ c o xs, x = .ref c ∧ H1 c = some (.frz o (.tup xs)) ∧ o.dict = none) ∧ t σ H1 fun vs H2 => r x vs H2 Q
section
variable {X : Cx} {o e : Expr} {es : List Expr} {to : TE} {t : TA} {name : Str} {apos cpos : Pos} {id : String} {r : V → List V → Hp → VK → Prop}
theorem pe_bmN (pa : PlainAttrs "tuple") (slot : Slot "tuple" name id) (hty : typeOf (.builtin id) = pure (.type "method_descriptor")) (hm : MtR X id r) (ho : PE X o to) (ha : PA X (e :: es) t)
    (hbase : attributeBase o name X.env (eval o X.env) = eval o X.env := by rfl) (hfew : ((backTo cpos (starEach (e :: es) X.env)).all (fun x => !x.1) && (backToKw cpos (keywordEach [] X.env)).all (fun x => x.1.isSome) && decide ((e :: es).length + ([] : List Keyword).length + (if ([] : List Keyword).isEmpty then 0 else 1) < 30)) = true := by rfl)
    (hline : (apos.endLine == cpos.line) = true := by rfl)
    (hs : starEach (e :: es) X.env = (false, eval e X.env) :: starEach es X.env := by rfl)
    (hplain : (backTo cpos (starEach es X.env)).any (·.1) = false := by rfl) : PE X (.Call (.Attribute o name apos) (e :: es) [] cpos) (tBN r to t) := by
  constructor
  intro pn st sg HH QQ inv h
  refine wpAny_Call_method_late hbase hfew hline rfl (thn (ho.run pn st sg HH _ inv h) ?_)
  rintro v s1 ⟨x, H1, J, rv, ⟨c, ob, xs, rfl, eo, ed⟩, q⟩
  cases rv
  obtain ⟨here, _, us, _, o2, ho2, hc2, _⟩ := (show ObjOk X.prog X.w H1 s1.heap c (.frz ob (.tup xs)) from J.hok c _ eo)
  refine ⟨"tuple", id, pa, slot, hty, ⟨o2, ho2, hc2⟩, (fun a ea => ?_), ?_⟩
  · cases ea
    exact ⟨ob, here, ed⟩
  have run := ha.run cpos pn s1 sg H1 _ J q
  rw [hs] at run ⊢
  refine Calls.callWith_builtin ?_ (Calls.evalArgs_plain ?_)
  · exact (Bool.false_or _).trans hplain
  · exact thn run fun us2 s2 ⟨ws, H2, J2, rel, q2⟩ => hm pn s2 sg H2 (.ref c) ws _ us2 QQ J2 rfl rel q2
end
/-- xs.index(y) of a new tuple -/
def ntW : W → Option (List D)
  | .d (.nt xs) => some xs
  | _ => none
@[simp] theorem ntW_nt {xs : List D} : ntW (.d (.nt xs)) = some xs := rfl
def pIdxN : Pm := fun a as M k => ob (ntW a) fun ds => ob (trA as) fun x => ob (pyAll ds) fun ps => ob (pyD x) fun p => SeqAt.shaped (.list ps) = true ∧ SeqAt.shaped p = true ∧ ob (ps.findIdx? fun z => PyData.eqv z p) fun j => k (.d (.int (j : Nat))) M
instance : Um pIdxN := ⟨fun _ _ _ _ _ hk ⟨r, h1, x, h2, ps, h3, p, h4, h5, h6, j, h7, q⟩ => ⟨r, h1, x, h2, ps, h3, p, h4, h5, h6, j, h7, hk _ _ q⟩⟩
section
variable {X : Cx}
theorem nt_eq {a : W} {ds : List D} (h : ntW a = some ds) : a = .d (.nt ds) := by
  unfold ntW at h
  split at h
  · cases h; rfl
  · cases h
theorem mt_idxN0 (hu : X.A.units + 65 < cLine) : MtR X "tuple.index" (rPm X.K pIdxN) := by
  intro pins s σ H x xs v us Q I rx rxs hq
  obtain ⟨G, L, M, a, as, S, ra, rb, ds, h1, y, h2, ps, h3, p, h4, h5, h6, j, h7, q⟩ := hq
  obtain rfl := trA_eq h2
  obtain rfl := nt_eq h1
  obtain ⟨z, ez, rz⟩ := repWs1 rb
  subst ez
  obtain ⟨u, rfl, ru⟩ := vals1 rxs
  cases ra with
  | nt hG hd hR =>
    rename_i c oo vs
    cases rx
    have hobj0 : SqT X.K H c vs := .inl (.inr ⟨_, S.le _ _ hG⟩)
    obtain ⟨its, rel, ⟨⟨oc, od, ot, osl⟩, hobj, hcls, num, hdata⟩, _⟩ := I.tuple hobj0
    simp only at hcls hdata
    subst hcls hdata
    have sl := h5
    obtain ⟨bs, r1⟩ := Dp.reads I _ _ _ ((Rep.mono S.le rz).dp h4) ru
    obtain ⟨as', h4'⟩ := Dp.readsAll I _ _ its (RepAll.dp (RepAll.mono S.le hR) h3) rel
    have hxs : PyData.canLayAll0 ps = true := SeqAt.canLay_of_shaped sl
    have hroom : X.A.units + 1 + min (PyData.depthAll ps) p.depth < cLine := room_in_shaped h6 hu
    have hn : its.length = ps.length := SeqAt.ReadsAll.length ps its as' h4'
    have hmap : its.map (SeqAt.readOf s.heap) = ps := SeqAt.readsAll_map ps its as' hxs h4'
    obtain ⟨jl, j1, j2⟩ := List.findIdx?_eq_some_iff_getElem.mp h7
    have hjl : j < its.length := by omega
    have hj : j < its.toArray.size := by simpa using hjl
    have at_ : ∀ (m : Nat) (hm : m < its.toArray.size) (z' : PyData), ps[m]? = some z' → SeqAt.readOf s.heap its.toArray[m] = z' := by
      intro m hm z' hz'
      have hml : m < its.length := by simpa using hm
      rw [← hmap, List.getElem?_map, List.getElem?_eq_getElem hml] at hz'
      have e1 : SeqAt.readOf s.heap its[m] = z' := Option.some.inj (show some (SeqAt.readOf s.heap its[m]) = some z' from hz')
      simpa using e1
    refine call_meets PySem.F.slot_tuple_index ⟨_, hobj, rfl⟩ PySem.F.entry_tuple_index (PySem.F.args_tuple_index_2 _ _)
      (_root_.TI.tuple_indexAt c its.toArray num od osl _ (fun u => PyData.eqv (SeqAt.readOf s.heap u) p) j hj ?_ ?_) ⟨hobj, SeqAt.items_eqAt (vs := its.toArray) (show ReadsAll s.heap its.toArray.toList ps as' from h4') r1 hxs (SeqAt.canLay_of_shaped h6) hroom, ⟨.int (j : Nat), H, I.tok _, ⟨_, rfl⟩, post_int S q⟩⟩
    · show PyData.eqv (SeqAt.readOf s.heap its.toArray[j]) p = true
      rw [at_ j hj ps[j] (List.getElem?_eq_getElem jl)]
      exact j1
    · intro m hm hmj
      have hmd : m < ps.length := by omega
      show PyData.eqv (SeqAt.readOf s.heap its.toArray[m]) p = false
      rw [at_ m hm _ (List.getElem?_eq_getElem hmd)]
      simpa using j2 m hmj
theorem mt_idxN {K : PySem.W.Frag} (hu : X.A.units + 65 < cLine) (hK : X.K = K := by rfl) : MtR X "tuple.index" (rPm K pIdxN) := hK ▸ mt_idxN0 hu
end
/-- xs.index(y), xs a new tuple -/
def wIdxN (wo : WEx) (wa : WAx) : WEx := fun ρ M k e => wo ρ M (fun a M1 => (ntW a).isSome = true ∧ wa ρ M1 (fun as M2 => pIdxN a as M2 k) e) e
@[simp] theorem wIdxN_u (wo : WEx) (wa : WAx) : wIdxN wo wa = (fun ρ M k e => wo ρ M (fun a M1 => (ntW a).isSome = true ∧ wa ρ M1 (fun as M2 => pIdxN a as M2 k) e) e) := rfl
@[simp] theorem pIdxN_u : pIdxN = (fun a as M k => ob (ntW a) fun ds => ob (trA as) fun x => ob (pyAll ds) fun ps => ob (pyD x) fun p => SeqAt.shaped (.list ps) = true ∧ SeqAt.shaped p = true ∧ ob (ps.findIdx? fun z => PyData.eqv z p) fun j => k (.d (.int (j : Nat))) M) := rfl
section
variable {K : PySem.W.Frag} {Wx : WX}
instance {to : TE} {ta : TA} {wo : WEx} {wa : WAx} [A : SE K Wx to wo] [B : SA K Wx ta wa] : SE K Wx (tBN (rPm K pIdxN) to ta) (wIdxN wo wa) where
  mono := fun hk he h => A.mono (fun _ _ ⟨z, q⟩ => ⟨z, B.mono (fun _ _ q => Um.up _ _ _ _ _ hk q) he q⟩) he h
  ok := fun S s h => A.ok S s (A.mono (fun a M1 ⟨z, q⟩ G1 L1 H1 v e1 S1 r1 => ⟨by
    obtain ⟨ds, hds⟩ := Option.isSome_iff_exists.mp z
    obtain rfl := nt_eq hds
    cases r1 with
    | nt h1 h2 h3 => exact ⟨_, _, _, rfl, S1.le _ _ h1, h2⟩, B.ok S1 (s.ext e1) (B.mono (fun as M2 q G2 L2 H2 vs e2 S2 r2 => ⟨G2, L2, M2, a, as, S2, r1.ext e2, r2, Um.up _ _ _ _ _ (fun _ _ z => z.after (e1.trans e2)) q⟩) (fun _ _ _ z => z.after e1) q)⟩) (fun _ _ _ z => z) h)
end
end PU

set_option maxRecDepth 100000
set_option maxHeartbeats 8000000
namespace PU
open PySem PySem.Spec PyProof.Rows L2
/-! ### len(set(xs)) of ints, a list or a tuple -/
/-- c is how many different ones there are -/
def CardI (ns : List Int) (c : Nat) : Prop := ∃ ks : List Int, ks.Nodup ∧ (∀ x, x ∈ ks ↔ x ∈ ns) ∧ c = ks.length
theorem nodup_sub : ∀ (us qs : List Int), us.Nodup → (∀ u ∈ us, u ∈ qs) → us.length ≤ qs.length
  | [], _, _, _ => Nat.zero_le _
  | u :: us, qs, nd, sub => by
    obtain ⟨n1, n2⟩ := List.nodup_cons.mp nd
    have hu := sub u (List.mem_cons_self ..)
    have := nodup_sub us (qs.erase u) n2 fun x hx => (List.mem_erase_of_ne fun (e : x = u) => n1 (e ▸ hx)).mpr (sub x (List.mem_cons_of_mem _ hx))
    rw [List.length_erase_of_mem hu] at this
    have := List.length_pos_of_mem hu
    rw [List.length_cons]
    omega
theorem CardI.le {ns : List Int} {c : Nat} (h : CardI ns c) : c ≤ ns.length := by
  obtain ⟨ks, h1, h2, rfl⟩ := h
  exact nodup_sub ks ns h1 fun u hu => (h2 u).mp hu
theorem twice : ∀ {ns : List Int}, ¬ ns.Nodup → ∃ ms : List Int, ms.length + 1 = ns.length ∧ ∀ x, x ∈ ns → x ∈ ms
  | [], h => absurd List.nodup_nil h
  | y :: ns, h => by
    by_cases hy : y ∈ ns
    · exact ⟨ns, rfl, fun x hx => by
        rcases List.mem_cons.mp hx with rfl | hx
        · exact hy
        · exact hx⟩
    · have : ¬ ns.Nodup := fun z => h (List.nodup_cons.mpr ⟨hy, z⟩)
      obtain ⟨ms, e, hm⟩ := twice this
      exact ⟨y :: ms, by simp [e], fun x hx => by
        rcases List.mem_cons.mp hx with rfl | hx
        · exact List.mem_cons_self ..
        · exact List.mem_cons_of_mem _ (hm x hx)⟩
theorem CardI.eq_iff {ns : List Int} {c : Nat} (h : CardI ns c) : c = ns.length ↔ ns.Nodup := by
  obtain ⟨ks, h1, h2, rfl⟩ := h
  constructor
  · intro e
    refine Decidable.byContradiction fun z => ?_
    obtain ⟨ms, em, hm⟩ := twice z
    have := nodup_sub ks ms h1 fun u hu => hm u ((h2 u).mp hu)
    omega
  · intro nd
    have a := nodup_sub ks ns h1 fun u hu => (h2 u).mp hu
    have b := nodup_sub ns ks nd fun u hu => (h2 u).mpr hu
    omega
theorem first_card (ns : List Int) : ∀ i, i ≤ ns.length → (firstMet (fun i => ns.getD i 0) i).Nodup ∧ ∀ x, x ∈ firstMet (fun i => ns.getD i 0) i ↔ x ∈ ns.take i
  | 0, _ => ⟨List.nodup_nil, fun x => by simp [firstMet_zero]⟩
  | i + 1, hi => by
    obtain ⟨h1, h2⟩ := first_card ns i (by omega)
    have hlt : i < ns.length := hi
    have e1 : ns.getD i 0 = ns[i] := by rw [List.getD_eq_getElem?_getD, List.getElem?_eq_getElem hlt] <;> rfl
    have e2 : ns.take (i + 1) = ns.take i ++ [ns[i]] := by rw [List.take_add_one, List.getElem?_eq_getElem hlt] <;> rfl
    rw [firstMet_succ, e2]
    unfold step_dedup
    split
    · rename_i hb
      obtain ⟨y, hy, ey⟩ := List.any_eq_true.mp hb
      have ey2 : y = ns[i] := by rw [← e1]; exact eq_of_beq ey
      subst ey2
      refine ⟨h1, fun x => ?_⟩
      rw [List.mem_append, h2 x, List.mem_singleton]
      exact ⟨.inl, fun z => z.elim id fun z => by rw [z]; exact (h2 _).mp hy⟩
    · rename_i hb
      refine ⟨?_, fun x => by rw [List.mem_append, List.mem_append, h2 x, List.mem_singleton, List.mem_singleton]; simp only [e1]⟩
      refine List.nodup_append.mpr ⟨h1, by simp, fun a ha b hb' => ?_⟩
      rw [List.mem_singleton] at hb'
      subst hb'
      intro z
      exact hb (List.any_eq_true.mpr ⟨a, ha, by rw [z]; exact beq_self_eq_true _⟩)
theorem ints_are : ∀ {ns : List Int} {us : List Value}, Vals (ns.map V.int) us → IntsAre us ns
  | [], _, .nil => .nil
  | n :: ns, _, .cons r t => by
    obtain ⟨k, rfl⟩ := r
    exact .cons n k (ints_are t)
def tLenSetG (K : PySem.W.Frag) (ta : TE) : TE := fun σ H Q => ta σ H fun x H1 => ∃ (l : Addr) (ns : List Int), x = .ref l ∧ (SqL K H1 l (ns.map V.int) ∨ SqT K H1 l (ns.map V.int)) ∧ ns.length ≤ 4000 ∧ ∀ c : Nat, CardI ns c → Q (.int c) H1
theorem pe_lenSetG {K : PySem.W.Frag} {X : Cx} {a : Expr} {ta : TE} {p p2 q pos : Pos} (hg : Gl X "len") (hm : X.mg "len" = none) (hg2 : Gl X "set") (hm2 : X.mg "set" = none) (ha : PE X a ta) (hc : X.calm = true := by rfl)
    (na : starEach [a] X.env = (false, eval a X.env) :: starEach [] X.env := by rfl) (hK : X.K = K := by rfl) : PE X (.Call (.Name "len" p) [.Call (.Name "set" p2) [a] [] q] [] pos) (tLenSetG K ta) := by
  subst hK
  refine ⟨fun pins s σ H Q I h => ?_⟩
  refine Call_ (ld_blt I hg hm PySem.boot_len ?_)
  refine PyProof.Rows.callWith_builtin1 (PyProof.Rows.args_cons ?_ rfl) rfl rfl
  refine Call_ (ld_blt I hg2 hm2 PyProof.Rows.boot_set ?_)
  refine PyProof.Rows.callWith_type1 (PyProof.Rows.args_cons (thn (ha.run pins s σ H _ I h) fun v s1 ⟨x, H1, I1, r1, q1⟩ => PyProof.Rows.args_nil ?_) na) na rfl
  obtain ⟨l, ns, rfl, hq, hl, q1⟩ := q1
  cases r1
  rcases hq with hq | hq
  · obtain ⟨its, r, pl, hz⟩ := I1.list hq
    have hlen : its.toArray.size = ns.length := by rw [List.size_toArray, ← r.length, List.length_map]
    refine call_set_list (I1.ok.hd hc) pl.isList (by simpa using ints_are r) (by rw [hlen]; unfold scanBound; omega) fun h' tk hS hk => ?_
    refine PyProof.Rows.args_nil ?_
    obtain ⟨n1, n2⟩ := first_card ns ns.length (Nat.le_refl _)
    rw [hlen] at hS
    obtain ⟨o, es, ep, t, ho, hex, hd, _, _, _, hf, hn⟩ := hS
    have I2 : Inv X pins σ H1 { s1 with heap := h', toks := tk } := I1.kept fun b o e => hk b o (Heap.lt_size e) e
    have le := firstMet_length_le (fun i => ns.getD i 0) ns.length
    refine call_len_set ho hex hd hf (by rw [hn] <;> omega) ⟨.int (firstMet (fun i => ns.getD i 0) ns.length).length, H1, I2.tok _, ⟨_, by rw [hn]⟩, q1 _ ⟨_, n1, fun x => by rw [n2 x, List.take_length], rfl⟩⟩
  · obtain ⟨its, r, pl, hz⟩ := I1.tuple hq
    refine call_set_tupI ns (I1.ok.hd hc) pl (by simpa using ints_are r) (by unfold scanBound; omega) fun h' tk c hS hc' hk => ?_
    refine PyProof.Rows.args_nil ?_
    obtain ⟨o, es, ep, t, ho, hex, hd, _, nd, iff, _, hf, hn, _, _⟩ := hS
    have I2 : Inv X pins σ H1 { s1 with heap := h', toks := tk } := I1.kept fun b o e => hk b o e
    refine call_len_set ho hex hd hf (by omega) ⟨.int (c : Nat), H1, I2.tok _, ⟨_, by rw [hn]⟩, q1 c ⟨_, nd, fun x => by rw [← iff x]; simp, by simp [hn]⟩⟩
def wLenSet (wa : WEx) : WEx := fun ρ M k e => wa ρ M (fun a M1 => ob (seqW M1 a) fun r => ob (intsD r.2) fun ns => ns.length ≤ 4000 ∧ ∀ c : Nat, CardI ns c → k (.d (.int c)) M1) e
@[simp] theorem wLenSet_u (wa : WEx) : wLenSet wa = (fun ρ M k e => wa ρ M (fun a M1 => ob (seqW M1 a) fun r => ob (intsD r.2) fun ns => ns.length ≤ 4000 ∧ ∀ c : Nat, CardI ns c → k (.d (.int c)) M1) e) := rfl
section
variable {K : PySem.W.Frag} {Wx : WX}
instance {ta : TE} {wa : WEx} [A : SE K Wx ta wa] : SE K Wx (tLenSetG K ta) (wLenSet wa) where
  mono := fun hk he h => A.mono (fun _ _ ⟨r, h1, ns, h2, h3, q⟩ => ⟨r, h1, ns, h2, h3, fun c hc => hk _ _ (q c hc)⟩) he h
  ok := fun S s h => A.ok S s (A.mono (fun a M1 ⟨⟨b, ds⟩, h1, ns, h2, h3, q⟩ G1 L1 H1 v e1 S1 r1 => by
    obtain ⟨c', vs, rfl, rr, sq⟩ := seq_at S1 r1 h1
    rw [ints_rep rr h2] at sq
    exact ⟨c', ns, rfl, sqB_len sq, h3, fun c hc => (q c hc) _ _ _ _ e1 S1 (.int _)⟩) (fun _ _ _ z => z) h)
end
/-! ### xs + ys, a list that changes later -/
def pCatO : P2 := fun a b M k => ob (lv M a) fun xs => ob (lv M b) fun ys => xs.length + ys.length ≤ sizeLine ∧ k (.p M.length) (M ++ [.lst (xs ++ ys)])
instance : U2 pCatO := ⟨fun _ _ _ _ _ hk ⟨xs, e1, ys, e2, l, q⟩ => ⟨xs, e1, ys, e2, l, hk _ _ q⟩⟩
@[simp] theorem pCatO_u : pCatO = (fun a b M k => ob (lv M a) fun xs => ob (lv M b) fun ys => xs.length + ys.length ≤ sizeLine ∧ k (.p M.length) (M ++ [.lst (xs ++ ys)])) := rfl
theorem op_catO0 {X : Cx} : OpR X (binaryOp .Add) (rP2 X.K pCatO) := op_of fun G L M H x y a b Q S ra rb ⟨xs, e1, ys, e2, hl, q⟩ => by
  obtain ⟨ca, us, rfl, ha, pa⟩ := lv_at S ra e1
  obtain ⟨cb, ws, rfl, hb, pb⟩ := lv_at S rb e2
  have la := pa.len
  have lb := pb.len
  refine ⟨_, op_cat, ca, cb, us, ws, rfl, rfl, ha, hb, by omega, fun p hp => ?_⟩
  obtain ⟨S2, e⟩ := S.alloc (o := .lst (us ++ ws)) (c := .lst (xs ++ ys)) hp ⟨_, upd_same, pa.append pb⟩
  exact q _ _ _ _ e S2 ⟨p, by rw [← S.len, List.getElem?_append_right (Nat.le_refl _), Nat.sub_self]; rfl, rfl⟩
theorem op_catO {K : PySem.W.Frag} {X : Cx} (hK : X.K = K := by rfl) : OpR X (binaryOp .Add) (rP2 K pCatO) := hK ▸ op_catO0
end PU

set_option maxRecDepth 100000
set_option maxHeartbeats 8000000
set_option synthInstance.maxHeartbeats 4000000
set_option synthInstance.maxSize 4000
namespace PU
open PySem PySem.Spec PyProof.Rows L2 GS WU

/-- data whose repr is short -/
def ShD (x : D) : Prop := ∃ p, pyD x = some p ∧ p.showable = true ∧ p.hasDict = false ∧ p.depth ≤ 60 ∧ p.shown.length ≤ 1000
def repS (x : D) : Str := match pyD x with
  | some p => p.shown
  | none => ""
def shB (x : D) : Bool := match pyD x with
  | some p => p.showable && (!p.hasDict && (decide (p.depth ≤ 60) && decide (p.shown.length ≤ 1000)))
  | none => false
theorem shB_ok {x : D} (h : shB x = true) : ShD x := by
  unfold shB at h
  cases e : pyD x with
  | none => rw [e] at h; cases h
  | some p =>
    rw [e] at h
    simp at h
    exact ⟨p, e, h.1, h.2.1, h.2.2.1, h.2.2.2⟩
theorem sh_int {i : Int} (h : i.natAbs < 10 ^ 18) : ShD (.int i) := ⟨.int i, rfl, decide_eq_true (log_small h), rfl, Nat.le_trans (sm_int h).dp (by decide), by have := int_len h; omega⟩
theorem num_len {s : Str} (h : s.length ≤ 1000) : (Str.ofString "number ").length + s.length ≤ sizeLine := by
  have e : (Str.ofString "number ").length = 7 := by decide +kernel
  rw [e]
  exact line_ge (by omega)
theorem num_sum {s : Str} (h : s.length ≤ 1000) : (List.map (fun z : Str => z.length) [Str.ofString "number " ++ s]).sum + [Str.ofString "number " ++ s].length * (Str.ofString " ").length ≤ 16777216 := by
  have e : (Str.ofString "number ").length = 7 := by decide +kernel
  have e2 : (Str.ofString " ").length = 1 := by decide +kernel
  have e3 : (Str.ofString "number " ++ s).length = 7 + s.length := by
    rw [Str.length_append, e]
  simp [e2, e3]
  omega
theorem join_one (a s : Str) : Txt.join a [s] = s := rfl
theorem fIx_mem {L : List D} {n : Int} (h0 : 0 ≤ n) (h1 : n < L.length) (M : Mem) : ∃ v ∈ L, fIx (.d (.lst L)) (.d (.int n)) M = some (.d v, True) := by
  obtain ⟨i, rfl⟩ := Int.eq_ofNat_of_zero_le h0
  have lt : i < L.length := by omega
  refine ⟨L[i], List.getElem_mem lt, ?_⟩
  rw [fIx_lst, atI_nat, List.getElem?_eq_getElem lt]
  rfl
theorem fIx_intsG {L : List Int} {n : Int} (h0 : 0 ≤ n) (h1 : n < L.length) (M : Mem) : ∃ v ∈ L, fIx (.d (.lst (L.map D.int))) (.d (.int n)) M = some (.d (.int v), True) := by
  obtain ⟨i, rfl⟩ := Int.eq_ofNat_of_zero_le h0
  have lt : i < L.length := by omega
  refine ⟨L[i], List.getElem_mem lt, ?_⟩
  rw [fIx_lst, atI_nat, List.getElem?_map, List.getElem?_eq_getElem lt]
  rfl
theorem fIx_seqW {M : Mem} {v : W} {b : Bool} {xs : List D} (h : seqW M v = some (b, xs)) (n : Int) : fIx v (.d (.int n)) M = (atI xs n).map fun d => (.d d, True) := by
  cases v with
  | p m =>
    show (match seqW M (.p m) with
      | some (_, ds) => (atI ds n).map fun d => (W.d d, True)
      | none => none) = _
    rw [h]
  | d x =>
    cases x <;> first
      | (cases h; done)
      | (cases h; rfl)
def ShortM (k : Nat) (ds : DrQ) : Prop := ∀ d ∈ ds, ∀ r ∈ d.2, ∀ m ∈ r, m.length ≤ k
theorem td_of {p B : Int} {l c h : Nat} {ds : DrQ} (O : DOk p l c h ds) (p1 : p ≤ 31) (lc : l * c ≤ 30) (hl : l ≤ 10) (hc : c ≤ 10) (hh : h ≤ 6) (hn : ds.length ≤ 30) (hB : ∀ d ∈ ds, d.1 ≤ B) (h0 : 0 ≤ B) (hs : (ds.length : Int) * B < 10 ^ 18) (hB2 : B < 10 ^ 18) (hm_ : ShortM 6 ds) : TdOk p l c h (qsOf h ds) (numD (qsOf h ds) ds) := by
  obtain ⟨N, Q, ql, w, q64⟩ := plan_ok O
  have p0 : 2 ≤ p := by
    have := (by decide : ∀ q ∈ primes, (2 : Int) ≤ q)
    exact this p O.1
  have a3 := O.2.2.2.2.2.2.2.2.2.2
  obtain ⟨n1, n2, n3, n4, n5, n6⟩ := N
  refine ⟨by omega, by omega, by omega, by omega, ?_, ⟨by omega, fun q hq => ⟨by have := q64 q hq; omega, fun m hm => ?_⟩⟩, ⟨by rw [numD, List.length_map]; omega, fun d hd => ?_⟩⟩
  · rw [num_fst]
    have := sum_le (b := B) (ds.map fun d => d.1) fun x hx => by
      obtain ⟨d, hd, rfl⟩ := List.mem_map.mp hx
      have := a3 d hd
      have := hB d hd
      omega
    rw [List.length_map] at this
    omega
  · obtain ⟨n, hn, rfl⟩ := List.mem_map.mp hq
    rw [List.mem_range] at hn
    obtain ⟨d, hd1, hm⟩ := List.mem_flatMap.mp (sq_mem.mp hm)
    obtain ⟨r, hr1, rfl⟩ := List.mem_map.mp hm
    have lt : n < r.length := by rw [w d hd1 r hr1]; exact hn
    rw [List.getElem?_eq_getElem lt]
    have g := ((a3 d hd1).2.2 r hr1).2 _ (List.getElem_mem lt)
    refine ⟨hm_ d hd1 r hr1 _ (List.getElem_mem lt), fun x hx => ⟨?_, fun y hy => ?_⟩⟩
    · rw [(g.2 x hx).1]
      exact lc
    · have := (g.2 x hx).2 y hy
      omega
  · obtain ⟨m1, m2, m3⟩ := n6 d hd
    obtain ⟨d', hd', rfl⟩ := List.mem_map.mp hd
    have := a3 d' hd'
    have := hB d' hd'
    refine ⟨by show d'.1.natAbs < _; omega, by omega, fun r hr => ⟨by have := (m3 r hr).1; omega, fun x hx => ?_⟩⟩
    obtain ⟨i, hi⟩ := List.getElem?_of_mem hx
    have lt := (List.getElem?_eq_some_iff.mp hi).1
    have l2 : i < (qsOf h ds).length := by
      have := (m3 r hr).1
      omega
    have b := (m3 r hr).2 i x _ hi (List.getElem?_eq_getElem l2)
    have := q64 _ (List.getElem_mem l2)
    omega
theorem allD_mapD : ∀ xs : List D, allD (xs.map W.d) = some xs
  | [] => rfl
  | x :: xs => by
    rw [List.map_cons, allD, allD_mapD xs]
    rfl
theorem btw_int {a b : Int} {x : D} (h : btw a b x = true) : ∃ i, x = .int i ∧ a ≤ i ∧ i ≤ b := by
  cases x with
  | int i => exact ⟨i, rfl, by simpa [btw] using h⟩
  | _ => simp [btw] at h
theorem finLJ {M0 J : Mem} {k : KW} {ds : List D} (h : k (.d (.lst ds)) M0) : FinK M0 k (.p M0.length) (M0 ++ .lst ds :: J) := .inr ⟨M0, _, _, rfl, Nat.le_refl _, id, .lst (j := 0) rfl, h⟩

abbrev ordD (o : List Nat) : List D := o.map fun n : Nat => D.int (n : Int)
/-- all numbers below n, each once -/
def Orr (n : Nat) (o : List Nat) : Prop := o.length = n ∧ o.Nodup ∧ ∀ k ∈ o, k < n
def toI : D → Int
  | .int i => i
  | _ => 0
def isOr (n : Nat) (x : D) : Bool := isLt n n x && decide (((seqOf x).map toI).Nodup)
def colsB (l b : Nat) : List Nat := (List.range l).map fun t => b * l + t
def colsO (l : Nat) (o : List Nat) : List Nat := o.flatMap (colsB l)
def selR (cs : List Nat) (r : List Int) : List Int := cs.map fun i => (r[i]?).getD 0
def selM (cs : List Nat) (m : Mx) : Mx := m.map (selR cs)
/-- what book order[k] was asked, book k is asked -/
def reoA (l : Nat) (o : List Nat) (as : List (List Mx)) : List (List Mx) := o.map fun k => ((as[k]?).getD []).map (selM (colsO l o))
def reoD (l : Nat) (o : List Nat) (ds : DrQ) : DrQ := ds.map fun d => (d.1, reoA l o d.2)
/-- all orders of numbers below n -/
def ords : Nat → List (List Nat)
  | 0 => [[]]
  | n + 1 => (ords n).flatMap fun o => (List.range (n + 1)).map fun t => o.take t ++ n :: o.drop t
def bckO (o : List Nat) : List Nat := (List.range o.length).map fun k => o.idxOf k
/-- a plan of the draws D, with questions that nobody asks or not -/
structure PlG (p : Int) (l c h : Nat) (qs : List (List Mx)) (ns : DrN) (D : DrQ) : Prop where
  ok : DOk p l c h D
  n : NOk c qs ns
  q : ∀ q ∈ qs, ∀ m ∈ q, MxOk p (l * c) m
  len : qs.length = h
  un : unD qs ns = D
def cOrdG  : Con := fun ws M k e => ∃ (x : D) (n : Nat), ws = [.d x, .d (.int n)] ∧ (okD x = true ∧ n ≤ 100) ∧ k (.d (.bl (isOr n x))) M
instance  : UC (cOrdG ) := ⟨fun hk _ h => by
  obtain ⟨x, n, e1, e2, qQ⟩ := h
  exact ⟨x, n, e1, e2, hk _ _ qQ⟩⟩
def cCob (C : Addr) : Con := fun ws M k e => ∃ (p c : Int) (l b : Nat) (qs : List (List Mx)) (ns : DrN), ws = [.d (plE C p l c qs ns), .d (.int b)] ∧ (b ≤ 100 ∧ l ≤ 100) ∧ k (.d (.tup (ordD (colsB l b)))) M
instance {C : Addr} : UC (cCob C) := ⟨fun hk _ h => by
  obtain ⟨p, c, l, b, qs, ns, e1, e2, qQ⟩ := h
  exact ⟨p, c, l, b, qs, ns, e1, e2, hk _ _ qQ⟩⟩
def cCat  : Con := fun ws M k e => ∃ (m : Mx) (cs : List Nat) (wd : Nat), ws = [.d (tM m), .d (.lst (ordD cs))] ∧ (m.length ≤ 1000 ∧ cs.length ≤ 1000 ∧ (∀ r ∈ m, r.length = wd) ∧ ∀ i ∈ cs, i < wd) ∧ k (.d (tM (selM cs m))) M
instance  : UC (cCat ) := ⟨fun hk _ h => by
  obtain ⟨m, cs, wd, e1, e2, qQ⟩ := h
  exact ⟨m, cs, wd, e1, e2, hk _ _ qQ⟩⟩
def cPob (C : Addr) : Con := fun ws M k e => ∃ (p : Int) (l c h : Nat) (qs : List (List Mx)) (ns : DrN) (D1 : DrQ) (b : Bool) (o : List Nat), ws = [.d (plE C p l c qs ns), .d (sqE b (ordD o))] ∧ (PlG p l c h qs ns D1 ∧ o ≠ [] ∧ o.length ≤ 10 ∧ (∀ k ∈ o, k < c) ∧ D1.length * o.length < 64) ∧ k (.d (plD C p l o.length h (reoD l o D1))) M
instance {C : Addr} : UC (cPob C) := ⟨fun hk _ h => by
  obtain ⟨p, l, c, h, qs, ns, D1, b, o, e1, e2, qQ⟩ := h
  exact ⟨p, l, c, h, qs, ns, D1, b, o, e1, e2, hk _ _ qQ⟩⟩

def cReo (C XN : Addr) : Con := fun ws M k e => ∃ (p : Int) (l c h : Nat) (qs : List (List Mx)) (ns : DrN) (D1 : DrQ) (x : D), ws = [.d (plE C p l c qs ns), .d x] ∧
  (PlG p l c h qs ns D1 ∧ okD x = true ∧ D1.length * c < 64 ∧ c ≤ 10 ∧ h ≤ 10) ∧
  (isOr c x = false → e XN [("value", x)] M) ∧ ∀ (b : Bool) (o : List Nat), x = sqE b (ordD o) → Orr c o → k (.d (plD C p l c h (reoD l o D1))) M
instance {C XN : Addr} : UC (cReo C XN) := ⟨fun hk he h => by
  obtain ⟨p, l, c, h, qs, ns, D1, x, e1, e2, q1, q2⟩ := h
  exact ⟨p, l, c, h, qs, ns, D1, x, e1, e2, fun z => he _ _ _ (q1 z), fun b o z1 z2 => hk _ _ (q2 b o z1 z2)⟩⟩

def cRho (C XN : Addr) : Con := fun ws M k e => ∃ (p : Int) (l c h : Nat) (qs : List (List Mx)) (ns : DrN) (D1 : DrQ) (x : D), ws = [.d (plE C p l c qs ns), .d x] ∧
  (PlG p l c h qs ns D1 ∧ okD x = true ∧ D1.length * c < 64 ∧ c ≤ 10 ∧ h ≤ 10) ∧
  (isOr h x = false → e XN [("value", x)] M) ∧ ∀ (b : Bool) (o : List Nat), x = sqE b (ordD o) → Orr h o → k (.d (plD C p l c h (rehD o D1))) M
instance {C XN : Addr} : UC (cRho C XN) := ⟨fun hk he h => by
  obtain ⟨p, l, c, h, qs, ns, D1, x, e1, e2, q1, q2⟩ := h
  exact ⟨p, l, c, h, qs, ns, D1, x, e1, e2, fun z => he _ _ _ (q1 z), fun b o z1 z2 => hk _ _ (q2 b o z1 z2)⟩⟩

def cOrd : Con := fun ws M k _ => ∃ (n : Nat) (R : Mem), ws = [.p 0, .d (.int n)] ∧ (HM M R ∧ n ≤ 10) ∧ ∀ (M' : Mem) (o : List Nat), HM M' R → Orr n o → o ∈ ords n → k (.d (.lst (ordD o))) M'
instance : UC cOrd := ⟨fun hk _ ⟨n, R, e1, e2, q⟩ => ⟨n, R, e1, e2, fun M' o a b c => hk _ _ (q M' o a b c)⟩⟩
def cNoO : Con := fun ws M k _ => ∃ (n : Nat) (R : Mem), ws = [.p 0, .d (.int n)] ∧ (HM M R ∧ 1 ≤ n ∧ n ≤ 4) ∧ ∀ (M' : Mem) (x : D), HM M' R → okD x = true → isOr n x = false → ShD x → k (.d x) M'
instance : UC cNoO := ⟨fun hk _ ⟨n, R, e1, e2, q⟩ => ⟨n, R, e1, e2, fun M' o a b c d => hk _ _ (q M' o a b c d)⟩⟩
def cLRo  : Con := fun ws M k e => ∃ (D1 : DrQ) (l c : Nat) (o : List Nat), ws = [.d (.lst (D1.map (wE false))), .d (.int l), .d (.lst (ordD o))] ∧ (l ≤ 10 ∧ o.length ≤ 10 ∧ (∀ k ∈ o, k < c) ∧ c ≤ 10 ∧ D1.length ≤ 100 ∧ ∀ d ∈ D1, d.2.length = c ∧ ∀ r ∈ d.2, r.length ≤ 100 ∧ ∀ m ∈ r, m.length ≤ 100 ∧ ∀ z ∈ m, z.length = l * c) ∧ k (.d (.lst ((reoD l o D1).map (wE false)))) M
instance  : UC (cLRo ) := ⟨fun hk _ h => by
  obtain ⟨D1, l, c, o, e1, e2, qQ⟩ := h
  exact ⟨D1, l, c, o, e1, e2, hk _ _ qQ⟩⟩
def cLRh  : Con := fun ws M k e => ∃ (D1 : DrQ) (o : List Nat), ws = [.d (.lst (D1.map (wE false))), .d (.lst (ordD o))] ∧ (o.length ≤ 100 ∧ D1.length ≤ 100 ∧ ∀ d ∈ D1, d.2.length ≤ 100 ∧ ∀ r ∈ d.2, ∀ k ∈ o, k < r.length) ∧ k (.d (.lst ((rehD o D1).map (wE false)))) M
instance  : UC (cLRh ) := ⟨fun hk _ h => by
  obtain ⟨D1, o, e1, e2, qQ⟩ := h
  exact ⟨D1, o, e1, e2, hk _ _ qQ⟩⟩
def cBck  : Con := fun ws M k e => ∃ (n : Nat) (o : List Nat), ws = [.d (.lst (ordD o))] ∧ (Orr n o ∧ n ≤ 100) ∧ k (.d (.lst (ordD (bckO o)))) M
instance  : UC (cBck ) := ⟨fun hk _ h => by
  obtain ⟨n, o, e1, e2, qQ⟩ := h
  exact ⟨n, o, e1, e2, hk _ _ qQ⟩⟩

def cWmr (C : Addr) : Con := fun ws M k _ => ∃ (p : Int) (l c h : Nat) (D1 : DrQ) (R : Mem), ws = [.p 0, .d (.int p), .d (.int l), .d (.int c), .d (.int h), .d (.lst (D1.map (wE false)))] ∧ (HM M R ∧ DOk p l c h D1 ∧ Drn p l c h D1 ∧ p ≤ 31 ∧ 1 ≤ l ∧ l ≤ 3 ∧ 1 ≤ c ∧ c ≤ 3 ∧ 1 ≤ h ∧ h ≤ 4) ∧
  ∀ (M' : Mem) (qs : List (List Mx)) (ns : DrN), HM M' R → PlG p l c h qs ns D1 → TdOk p l c h qs ns → k (.d (.tup [plE C p l c qs ns, .str (tdS p l c h qs ns)])) M'
instance {C : Addr} : UC (cWmr C) := ⟨fun hk _ ⟨p, l, c, h, D1, R, e1, e2, q⟩ => ⟨p, l, c, h, D1, R, e1, e2, fun M' qs ns z1 z2 z3 => hk _ _ (q M' qs ns z1 z2 z3)⟩⟩
def cRfO (C : Addr) : Con := fun ws M k e => ∃ (p : Int) (l c h : Nat) (qs : List (List Mx)) (ns : DrN) (D1 : DrQ) (kd : Int) (x : D), ws = [.d (.int kd), .d (plE C p l c qs ns), .d x] ∧ ((PlG p l c h qs ns D1 ∧ okD x = true ∧ D1.length * c < 64 ∧ c ≤ 10 ∧ h ≤ 10) ∧ ShD x ∧ (kd = 0 → isOr c x = false) ∧ (kd ≠ 0 → isOr h x = false)) ∧ k (.d (.str (Str.ofString "number " ++ repS x))) M
instance {C : Addr} : UC (cRfO C) := ⟨fun hk _ h => by
  obtain ⟨p, l, c, h, qs, ns, D1, kd, x, e1, e2, qQ⟩ := h
  exact ⟨p, l, c, h, qs, ns, D1, kd, x, e1, e2, hk _ _ qQ⟩⟩
end PU

set_option maxRecDepth 100000
set_option maxHeartbeats 8000000
set_option synthInstance.maxHeartbeats 4000000
set_option synthInstance.maxSize 4000
namespace PU
open PySem PySem.Spec PyProof.Rows L2 GS WU

theorem colsB_len {l b : Nat} : (colsB l b).length = l := by simp [colsB]
theorem colsO_len {l : Nat} : ∀ {o : List Nat}, (colsO l o).length = o.length * l
  | [] => by simp [colsO]
  | b :: o => by
    have := colsO_len (l := l) (o := o)
    unfold colsO at this ⊢
    rw [List.flatMap_cons, List.length_append, this, colsB_len, List.length_cons, Nat.succ_mul, Nat.add_comm]
theorem colsO_at {l : Nat} {o : List Nat} {j k t : Nat} (h : o[j]? = some k) (ht : t < l) : (colsO l o)[j * l + t]? = some (k * l + t) := by
  have := flat_at (fun (b t : Nat) => b * l + t) (List.range l) o j t k t h (by rw [List.getElem?_range ht])
  rw [List.length_range] at this
  exact this
theorem colsO_lt {l c : Nat} {o : List Nat} (ho : ∀ k ∈ o, k < c) : ∀ i ∈ colsO l o, i < l * c := by
  intro i hi
  obtain ⟨b, hb, hi⟩ := List.mem_flatMap.mp hi
  obtain ⟨t, ht, rfl⟩ := List.mem_map.mp hi
  rw [List.mem_range] at ht
  have := ho b hb
  have h2 : (b + 1) * l ≤ c * l := Nat.mul_le_mul_right _ this
  rw [Nat.mul_comm l c]
  rw [Nat.succ_mul] at h2
  omega
theorem selR_len {cs : List Nat} {r : List Int} : (selR cs r).length = cs.length := by simp [selR]
theorem selR_at {cs : List Nat} {r : List Int} {i j : Nat} (h : cs[i]? = some j) (hj : j < r.length) : (selR cs r)[i]? = r[j]? := by
  rw [selR, List.getElem?_map, h]
  show some ((r[j]?).getD 0) = r[j]?
  rw [List.getElem?_eq_getElem hj]
  rfl
theorem selR_ltr {p : Int} {k : Nat} {cs : List Nat} {r : List Int} (hc : ∀ i ∈ cs, i < k) (h : Ltr p k r) : Ltr p cs.length (selR cs r) := by
  refine ⟨selR_len, fun x hx => ?_⟩
  obtain ⟨i, hi, rfl⟩ := List.mem_map.mp hx
  have lt : i < r.length := by rw [h.1]; exact hc i hi
  rw [List.getElem?_eq_getElem lt]
  exact h.2 _ (List.getElem_mem lt)
theorem selM_ok {p : Int} {k : Nat} {cs : List Nat} {m : Mx} (hc : ∀ i ∈ cs, i < k) (h : MxOk p k m) : MxOk p cs.length (selM cs m) := by
  refine ⟨by rw [selM, List.length_map]; exact h.1, fun r hr => ?_⟩
  obtain ⟨r', hr', rfl⟩ := List.mem_map.mp hr
  exact selR_ltr hc (h.2 r' hr')
theorem reoD_len {l : Nat} {o : List Nat} {ds : DrQ} : (reoD l o ds).length = ds.length := by simp [reoD]
theorem rehD_len {o : List Nat} {ds : DrQ} : (rehD o ds).length = ds.length := by simp [rehD]
theorem reoD_ok {p : Int} {l c h : Nat} {o : List Nat} {D : DrQ} (O : DOk p l c h D) (o0 : o ≠ []) (ol : o.length ≤ 10) (ho : ∀ k ∈ o, k < c) (few : D.length * o.length < 64) : DOk p l o.length h (reoD l o D) := by
  obtain ⟨hp, hl, hc, hh, hl2, hc2, hh2, n1, d1, f1, q1⟩ := O
  have key : ∀ d ∈ reoD l o D, 0 < d.1 ∧ d.2.length = o.length ∧ ∀ r ∈ d.2, r.length = h ∧ ∀ m ∈ r, MxOk p (l * o.length) m := by
    intro d hd
    obtain ⟨x, hx, rfl⟩ := List.mem_map.mp hd
    obtain ⟨a1, a2, a3⟩ := q1 x hx
    refine ⟨a1, by simp [reoA], fun r hr => ?_⟩
    obtain ⟨k, hk, rfl⟩ := List.mem_map.mp hr
    have lt : k < x.2.length := by rw [a2]; exact ho k hk
    rw [List.getElem?_eq_getElem lt]
    obtain ⟨b1, b2⟩ := a3 _ (List.getElem_mem lt)
    refine ⟨by simpa using b1, fun m hm => ?_⟩
    obtain ⟨m', hm', rfl⟩ := List.mem_map.mp hm
    have := selM_ok (colsO_lt (l := l) ho) (b2 m' hm')
    rw [colsO_len, Nat.mul_comm] at this
    exact this
  refine ⟨hp, hl, List.length_pos_iff.mpr o0, hh, hl2, ol, hh2, ?_, by rw [reoD_len]; exact d1, fun n hn => ?_, key⟩
  · intro z
    have := reoD_len (l := l) (o := o) (ds := D)
    rw [z, List.length_nil] at this
    exact n1 (List.eq_nil_of_length_eq_zero this.symm)
  · refine few_len (Nat.lt_of_le_of_lt (askd_len (k := o.length) fun d hd => Nat.le_of_eq (key d hd).2.1) ?_)
    rw [reoD_len]
    exact few
theorem rehD_ok {p : Int} {l c h : Nat} {o : List Nat} {D : DrQ} (O : DOk p l c h D) (o0 : Orr h o) (few : D.length * c < 64) : DOk p l c h (rehD o D) := by
  obtain ⟨hp, hl, hc, hh, hl2, hc2, hh2, n1, d1, f1, q1⟩ := O
  have key : ∀ d ∈ rehD o D, 0 < d.1 ∧ d.2.length = c ∧ ∀ r ∈ d.2, r.length = h ∧ ∀ m ∈ r, MxOk p (l * c) m := by
    intro d hd
    obtain ⟨x, hx, rfl⟩ := List.mem_map.mp hd
    obtain ⟨a1, a2, a3⟩ := q1 x hx
    refine ⟨a1, by simpa using a2, fun r hr => ?_⟩
    obtain ⟨r0, hr0, rfl⟩ := List.mem_map.mp hr
    refine ⟨by simpa using o0.1, fun m hm => ?_⟩
    obtain ⟨k, hk, rfl⟩ := List.mem_map.mp hm
    have lt : k < r0.length := by rw [(a3 r0 hr0).1]; exact o0.2.2 k hk
    rw [List.getElem?_eq_getElem lt]
    exact (a3 r0 hr0).2 _ (List.getElem_mem lt)
  refine ⟨hp, hl, hc, hh, hl2, hc2, hh2, ?_, by rw [rehD_len]; exact d1, fun n hn => ?_, key⟩
  · intro z
    have := rehD_len (o := o) (ds := D)
    rw [z, List.length_nil] at this
    exact n1 (List.eq_nil_of_length_eq_zero this.symm)
  · refine few_len (Nat.lt_of_le_of_lt (askd_len (k := c) fun d hd => Nat.le_of_eq (key d hd).2.1) ?_)
    rw [rehD_len]
    exact few
/-! back again -/
theorem bck_at {n : Nat} {o : List Nat} (h : Orr n o) {k : Nat} (hk : k < n) : ∃ j, (bckO o)[k]? = some j ∧ o[j]? = some k := by
  have lt : k < o.length := by rw [h.1]; exact hk
  have hm : k ∈ o := by
    refine Decidable.byContradiction fun no => ?_
    have : (k :: o).length ≤ (List.range n).length := by
      have key : ∀ (us qs : List Nat), us.Nodup → (∀ u ∈ us, u ∈ qs) → us.length ≤ qs.length := by
        intro us
        induction us with
        | nil => intro qs _ _; exact Nat.zero_le _
        | cons u us ih =>
          intro qs nd sub
          obtain ⟨n1, n2⟩ := List.nodup_cons.mp nd
          have hu := sub u (List.mem_cons_self ..)
          have := ih (qs.erase u) n2 fun x hx => (List.mem_erase_of_ne fun (e : x = u) => n1 (e ▸ hx)).mpr (sub x (List.mem_cons_of_mem _ hx))
          rw [List.length_erase_of_mem hu] at this
          have := List.length_pos_of_mem hu
          rw [List.length_cons]
          omega
      refine key _ _ (List.nodup_cons.mpr ⟨no, h.2.1⟩) fun u hu => ?_
      rw [List.mem_range]
      rcases List.mem_cons.mp hu with rfl | hu
      · exact hk
      · exact h.2.2 u hu
    rw [List.length_cons, List.length_range, h.1] at this
    omega
  refine ⟨o.idxOf k, ?_, ?_⟩
  · rw [bckO, List.getElem?_map, List.getElem?_range lt]
    rfl
  · have l2 := List.idxOf_lt_length_iff.mpr hm
    rw [List.getElem?_eq_getElem l2, List.getElem_idxOf l2]
theorem bck_orr {n : Nat} {o : List Nat} (h : Orr n o) : Orr n (bckO o) := by
  have hl : (bckO o).length = n := by simp [bckO, h.1]
  refine ⟨hl, ?_, fun k hk => ?_⟩
  · refine List.pairwise_iff_getElem.mpr fun i j hi hj hij e => ?_
    obtain ⟨a, a1, a2⟩ := bck_at h (k := i) (by omega)
    obtain ⟨b, b1, b2⟩ := bck_at h (k := j) (by omega)
    rw [List.getElem?_eq_getElem hi] at a1
    rw [List.getElem?_eq_getElem hj] at b1
    have : a = b := by
      rw [← Option.some.inj a1, ← Option.some.inj b1]
      exact e
    subst this
    rw [a2] at b2
    have := Option.some.inj b2
    omega
  · obtain ⟨i, hi⟩ := List.getElem?_of_mem hk
    have lt := (List.getElem?_eq_some_iff.mp hi).1
    obtain ⟨a, a1, a2⟩ := bck_at h (k := i) (by omega)
    rw [hi] at a1
    cases a1
    have := (List.getElem?_eq_some_iff.mp a2).1
    rw [h.1] at this
    exact this
theorem rehD_back {h : Nat} {o : List Nat} {D : DrQ} (ho : Orr h o) (w : Wide h D) : rehD (bckO o) (rehD o D) = D := by
  unfold rehD
  rw [List.map_map]
  conv => rhs; rw [← List.map_id D]
  refine List.map_congr_left fun d hd => ?_
  show (d.1, _) = d
  refine Prod.ext rfl ?_
  show (d.2.map fun r => o.map fun n => (r[n]?).getD []).map (fun r => (bckO o).map fun n => (r[n]?).getD []) = d.2
  rw [List.map_map]
  conv => rhs; rw [← List.map_id d.2]
  refine List.map_congr_left fun r hr => ?_
  show (bckO o).map (fun n => ((o.map fun n => (r[n]?).getD [])[n]?).getD []) = r
  have hb := bck_orr ho
  refine List.ext_getElem? fun i => ?_
  by_cases hi : i < h
  · obtain ⟨j, a1, a2⟩ := bck_at ho hi
    have lt : i < r.length := by rw [w d hd r hr]; exact hi
    rw [List.getElem?_map, a1, Option.map_some, List.getElem?_map, a2, Option.map_some, List.getElem?_eq_getElem lt]
    rfl
  · rw [List.getElem?_eq_none (by rw [List.length_map, hb.1]; omega), List.getElem?_eq_none (by rw [w d hd r hr]; omega)]
theorem selR_back {l c : Nat} {o : List Nat} {r : List Int} (l0 : 0 < l) (ho : Orr c o) (hr : r.length = l * c) : selR (colsO l (bckO o)) (selR (colsO l o) r) = r := by
  have hb := bck_orr ho
  refine List.ext_getElem? fun i => ?_
  by_cases hi : i < l * c
  · have hd : i / l < c := by rw [Nat.div_lt_iff_lt_mul l0, Nat.mul_comm]; exact hi
    have ht : i % l < l := Nat.mod_lt _ l0
    have ei : i = i / l * l + i % l := by rw [Nat.mul_comm]; exact (Nat.div_add_mod i l).symm
    obtain ⟨j, a1, a2⟩ := bck_at ho hd
    have jl := (List.getElem?_eq_some_iff.mp a2).1
    rw [ho.1] at jl
    have e1 : (colsO l (bckO o))[i]? = some (j * l + i % l) := by
      conv => lhs; rw [ei]
      exact colsO_at a1 ht
    have e2 : (colsO l o)[j * l + i % l]? = some i := by
      have := colsO_at a2 ht
      rw [← ei] at this
      exact this
    have lt : j * l + i % l < (selR (colsO l o) r).length := by
      rw [selR_len]
      exact (List.getElem?_eq_some_iff.mp e2).1
    rw [selR_at e1 lt, selR_at e2 (by omega)]
  · rw [List.getElem?_eq_none (by rw [selR_len, colsO_len, hb.1, Nat.mul_comm]; omega), List.getElem?_eq_none (by omega)]
theorem reoD_back {p : Int} {l c h : Nat} {o : List Nat} {D : DrQ} (O : DOk p l c h D) (ho : Orr c o) : reoD l (bckO o) (reoD l o D) = D := by
  unfold reoD
  rw [List.map_map]
  conv => rhs; rw [← List.map_id D]
  refine List.map_congr_left fun d hd => ?_
  obtain ⟨a1, a2, a3⟩ := O.2.2.2.2.2.2.2.2.2.2 d hd
  refine Prod.ext rfl ?_
  show reoA l (bckO o) (reoA l o d.2) = d.2
  have hb := bck_orr ho
  refine List.ext_getElem? fun i => ?_
  by_cases hi : i < c
  · obtain ⟨j, b1, b2⟩ := bck_at ho hi
    have lt : i < d.2.length := by omega
    rw [reoA, List.getElem?_map, b1, Option.map_some]
    have e : (reoA l o d.2)[j]? = some ((d.2[i]).map (selM (colsO l o))) := by
      rw [reoA, List.getElem?_map, b2, Option.map_some, List.getElem?_eq_getElem lt]
      rfl
    rw [e, List.getElem?_eq_getElem lt]
    refine congrArg some ?_
    show ((d.2[i]).map (selM (colsO l o))).map (selM (colsO l (bckO o))) = d.2[i]
    rw [List.map_map]
    conv => rhs; rw [← List.map_id d.2[i]]
    refine List.map_congr_left fun m hm => ?_
    show ((m.map (selR (colsO l o))).map (selR (colsO l (bckO o)))) = m
    rw [List.map_map]
    conv => rhs; rw [← List.map_id m]
    refine List.map_congr_left fun z hz => ?_
    exact selR_back O.2.1 ho (((a3 _ (List.getElem_mem lt)).2 m hm).2 z hz).1
  · rw [List.getElem?_eq_none (by rw [reoA, List.length_map, hb.1]; omega), List.getElem?_eq_none (by omega)]
theorem all_ints {p : Int} : ∀ {xs : List D}, xs.all (isB p) = true → ∃ r : List Int, xs = r.map D.int ∧ ∀ y ∈ r, 0 ≤ y ∧ y < p
  | [], _ => ⟨[], rfl, fun y hy => nomatch hy⟩
  | x :: xs, h => by
    rw [List.all_cons, Bool.and_eq_true] at h
    obtain ⟨r, e, hr⟩ := all_ints h.2
    cases x with
    | int i =>
      have h1 := h.1
      simp [isB] at h1
      exact ⟨i :: r, by rw [e]; rfl, fun y hy => by
        rcases List.mem_cons.mp hy with rfl | hy
        · exact h1
        · exact hr y hy⟩
    | _ => exact absurd h.1 (by simp [isB])
theorem isLt_eq {p : Int} {n : Nat} {x : D} (h : isLt p n x = true) : ∃ (b : Bool) (r : List Int), x = sqE b (r.map D.int) ∧ r.length = n ∧ ∀ y ∈ r, 0 ≤ y ∧ y < p := by
  cases x with
  | lst xs =>
    simp only [isLt, isS, seqOf, Bool.and_eq_true, decide_eq_true_eq, true_and] at h
    obtain ⟨r, rfl, hr⟩ := all_ints h.2
    exact ⟨true, r, rfl, by simpa using h.1, hr⟩
  | tup xs =>
    simp only [isLt, isS, seqOf, Bool.and_eq_true, decide_eq_true_eq, true_and] at h
    obtain ⟨r, rfl, hr⟩ := all_ints h.2
    exact ⟨false, r, rfl, by simpa using h.1, hr⟩
  | _ => exact absurd h (by simp [isLt, isS])
@[simp] theorem seqOf_sq {b : Bool} {xs : List D} : seqOf (sqE b xs) = xs := by cases b <;> rfl
theorem toI_map (r : List Int) : (r.map D.int).map toI = r := by
  rw [List.map_map]
  exact List.map_id r
theorem isOr_sq {n : Nat} {x : D} {b : Bool} {r : List Int} (h : isLt n n x = true) (e : x = sqE b (r.map D.int)) : isOr n x = decide r.Nodup := by
  unfold isOr
  rw [h, e, seqOf_sq, toI_map, Bool.true_and]
theorem ints_nat {r : List Int} (h : ∀ y ∈ r, 0 ≤ y) : ∃ o : List Nat, r.map D.int = ordD o ∧ r = o.map fun n : Nat => (n : Int) := by
  have e : r = (r.map Int.toNat).map fun n : Nat => (n : Int) := by
    rw [List.map_map]
    conv => lhs; rw [← List.map_id r]
    refine List.map_congr_left fun y hy => ?_
    show y = ((y.toNat : Nat) : Int)
    have := h y hy
    omega
  refine ⟨r.map Int.toNat, ?_, e⟩
  conv => lhs; rw [e]
  rw [List.map_map]
  rfl
/-- what is an order is one of numbers -/
theorem isOr_eq {n : Nat} {x : D} (h : isOr n x = true) : ∃ (b : Bool) (o : List Nat), x = sqE b (ordD o) ∧ Orr n o := by
  have h1 : isLt n n x = true := by
    unfold isOr at h
    exact (Bool.and_eq_true _ _ ▸ h).1
  obtain ⟨b, r, e, hl, hr⟩ := isLt_eq h1
  have nd : r.Nodup := by
    rw [isOr_sq h1 e] at h
    exact of_decide_eq_true h
  obtain ⟨o, e1, e2⟩ := ints_nat fun y hy => (hr y hy).1
  refine ⟨b, o, by rw [e, e1], by rw [e2, List.length_map] at hl; exact hl, ?_, fun k hk => ?_⟩
  · rw [e2] at nd
    exact List.Pairwise.of_map (fun n : Nat => (n : Int)) (fun a b h e => h (by rw [e])) nd
  · have := (hr (k : Int) (by rw [e2]; exact List.mem_map.mpr ⟨k, hk, rfl⟩)).2
    omega
theorem isOr_of {n : Nat} {b : Bool} {o : List Nat} (h : Orr n o) : isOr n (sqE b (ordD o)) = true := by
  have e : ordD o = (o.map fun n : Nat => (n : Int)).map D.int := by
    rw [List.map_map]
    rfl
  have h1 : isLt n n (sqE b (ordD o)) = true := by
    unfold isLt
    have s : isS (sqE b (ordD o)) = true := by cases b <;> rfl
    rw [s, seqOf_sq, Bool.true_and, Bool.and_eq_true]
    refine ⟨by simp [h.1], List.all_eq_true.mpr fun x hx => ?_⟩
    obtain ⟨k, hk, rfl⟩ := List.mem_map.mp hx
    have := h.2.2 k hk
    simp [isB]
    omega
  rw [isOr_sq h1 (by rw [e])]
  refine decide_eq_true ?_
  exact List.Pairwise.map _ (fun a b h e => h (by exact Int.ofNat.inj e)) h.2.1
theorem PlG.of {p : Int} {l c h : Nat} {D : DrQ} (O : DOk p l c h D) : PlG p l c h (qsOf h D) (numD (qsOf h D) D) D := by
  obtain ⟨n, q, hl, w, _⟩ := plan_ok O
  exact ⟨O, n, fun x hx => (q x hx).1, hl, un_num w⟩
end PU

set_option maxRecDepth 100000
set_option maxHeartbeats 8000000
set_option synthInstance.maxHeartbeats 4000000
set_option synthInstance.maxSize 4000
namespace PU
open PySem PySem.Spec PyProof.Rows L2 GS WU
section
variable {P : Program} {w : World} {K : PySem.W.Frag} {mg : Str → Option Value} {base : Heap}
theorem sclaw_told_ok_CTo : FnScope ["p", "length", "count", "houses", "draws", "questions", "told", "draw"] ["p", "length", "count", "houses", "draws"] (defScope s_law_told) := ⟨rfl, rfl, rfl, by decide +kernel, rfl, by decide +kernel, by decide +kernel⟩
theorem ok_CTo {f : Addr} {fd : FuncData} (F : FnS K "_law_told" s_law_told f fd) (B : BltU mg) (CNm : Cal P w K mg base 2 "_law_numbered" fCNm fdCNm ["houses", "draws"] (spP K cNumd)) : FnOkG P w K mg base 3 f fd ["p", "length", "count", "houses", "draws"] (spP K cTold) := by
  refine fun_okG F sclaw_told_ok_CTo (fun ws M k e h => ?_) (fun cdv A outer s H E hr hgd => ?_)
  · obtain ⟨p, l, c, h, ds, rfl, _⟩ := h
    rfl
  · have nd := sclaw_told_ok_CTo.nd
    have hu := hu64 hr
    have hu5 := hu65 hr
    refine ⟨_, _, (pss_cons (ps_asg (pe_calS (W := WD0 E) CNm (hr.mono (by decide)) (pa_cons (pv 3) (pa_cons (pv 4) pa_nil)) (takes_of rfl rfl rfl rfl)) (pg_tupP (K := K) (n := 2) (pg_tup rfl (pgs_cons (pg_name (i := 5) nd rfl (Or.inl rfl)) (pgs_cons (pg_name (i := 6) nd rfl (Or.inl rfl)) pgs_nil)))))
      (pss_one (ps_ret (pe_callB (cr_reprA (K := K) hgd hu) (by rfl) B.repr (by decide +kernel) (pa_cons (pe_tup (pa_cons (pv 0) (pa_cons (pv 1) (pa_cons (pv 2) (pa_cons (pv 3) (pa_cons (pe_callB (cr_sumP (K := K) rfl) (by rfl) B.sum (by decide +kernel) (pa_cons (pe_lc (own := [("draw", 7)]) (g := gName 7) (by rfl) nd (pi_seqB (K := K) (pv 4)) (blkOk_by (own := [("draw", 7)]) (N := ["p", "length", "count", "houses", "draws", "questions", "told", "draw"]) (sc := defScope s_law_told) (by decide +kernel)) (fun _ _ _ _ _ => (pg_name (i := 7) nd rfl (Or.inl rfl))) (fun _ _ _ _ _ => pts_nil) (fun _ _ _ _ _ => (pe_ix (ix_P (K := K)) (pv 7) pe_int (fun _ _ => rfl)))) pa_nil)) (pa_cons (pv 5) (pa_cons (pv 6) pa_nil)))))))) pa_nil))))), inferInstance, ?_⟩
    clear hgd F hr nd hu hu5
    intro ws M k e h
    obtain ⟨p, l, c, h, ds, rfl, hz, hk⟩ := h
    obtain ⟨h1, h2, h3, h4, h5⟩ := hz
    have sm := h5.sm.text (by decide) (by decide)
    simp
    refine ⟨h, ds, rfl, ⟨h1, h2, h3, h4⟩, ?_⟩
    simp
    refine lcL_mapIx ds _ (fun d => .int d.1) (line_ge (by omega)) trivial (fun d hd Q hQ => ?_) ?_
    · simp
      exact hQ
    · simp
      refine ⟨line_ge (by decide), _, ?_, sm.1, sm.2.1, sm.2.2.1, sm.2.2.2, fin0 hk⟩
      rw [← num_fst (qsOf h ds) ds]
      exact pyTd _ _ _ _ _ _
theorem sclaw_is_plan_ok_CIp : FnScope ["plan", "told", "first"] ["plan", "told"] (defScope s_law_is_plan) := ⟨rfl, rfl, rfl, by decide +kernel, rfl, by decide +kernel, by decide +kernel⟩
theorem ok_CIp {f : Addr} {fd : FuncData} (F : FnS K "_law_is_plan" s_law_is_plan f fd) (B : BltU mg) {C : Addr} (J : PlK K C) (iP : InsK K C) (gP : mg "Plan" = some (.ref C)) (kP : PySem.W.kitOne K (.ref C) (.ref C) = some true) : FnOkG P w K mg base 1 f fd ["plan", "told"] (spP K ((cIsP C))) := by
  refine fun_okG F sclaw_is_plan_ok_CIp (fun ws M k e h => ?_) (fun cdv A outer s H E hr hgd => ?_)
  · obtain ⟨p, l, c, qs, ns, s, rfl, _⟩ := h
    rfl
  · have nd := sclaw_is_plan_ok_CIp.nd
    have hu := hu64 hr
    have hu5 := hu65 hr
    refine ⟨_, _, (pss_cons (ps_if (pt_not (pt_truP (K := K) (pe_callB (cr_isiP (K := K)) (by rfl) B.isi (by decide +kernel) (pa_cons (pv 0) (pa_cons (pe_glob (v := .ref C) rfl gP rfl) pa_nil))))) (pss_one (ps_ret pe_bl)) pss_nil)
      (pss_cons (ps_set (i := 2) nd rfl (Or.inl rfl) (pe_tup (pa_cons (pe_fldP (K := K) (pv 0) rfl) (pa_cons (pe_fldP (K := K) (pv 0) rfl) (pa_cons (pe_fldP (K := K) (pv 0) rfl) (pa_cons (pe_fldP (K := K) (pv 0) rfl) (pa_cons (pe_fldP (K := K) (pv 0) rfl) pa_nil)))))))
      (pss_one (ps_ret (pe_cmpR (op_eqP (K := K) hu) (pe_callB (cr_reprA (K := K) hgd hu) (by rfl) B.repr (by decide +kernel) (pa_cons (pe_op (op_addP (K := K)) (pv 2) (pe_tup (pa_cons (pe_fldP (K := K) (pv 0) rfl) (pa_cons (pe_fldP (K := K) (pv 0) rfl) pa_nil)))) pa_nil)) (pv 1) (nomark _)))))), inferInstance, ?_⟩
    clear hgd F hr nd hu hu5
    intro ws M k e h
    obtain ⟨p, l, c, qs, ns, s, rfl, hz, hk⟩ := h
    have sm := hz.sm.text (by decide) (by decide)
    simp [J.cl, J.p, J.bl, J.bc, J.hc, J.qs, J.dr, J.wt]
    rw [show plE C p l c qs ns = .ins C (plF p l c qs ns) from rfl, pIsi_ins iP kP]
    simp
    exact ⟨line_ge (by decide), line_ge (by decide), line_ge (by decide), _, pyTd p l c qs.length qs ns, sm.1, sm.2.1, sm.2.2.1, sm.2.2.2, fin0 hk⟩
end
end PU

set_option maxRecDepth 100000
set_option maxHeartbeats 8000000
set_option synthInstance.maxHeartbeats 4000000
set_option synthInstance.maxSize 4000
namespace PU
open PySem PySem.Spec PyProof.Rows L2 GS WU
section
variable {P : Program} {w : World} {K : PySem.W.Frag} {mg : Str → Option Value} {base : Heap}

theorem pyAllM : ∀ q : List Mx, pyAll (q.map tM) = some (q.map d2)
  | [] => rfl
  | x :: q => by
    rw [List.map_cons, pyAll, pyAllM q, pyM x]
    rfl
theorem findIdx_M {x : Mx} : ∀ {q : List Mx}, x ∈ q → (q.map d2).findIdx? (fun z => PyData.eqv z (d2 x)) = some (q.idxOf x)
  | [], h => by cases h
  | y :: q, h => by
    rw [List.map_cons, List.findIdx?_cons, eqv_dec, List.idxOf_cons]
    by_cases e : y = x
    · subst e
      simp
    · have hm : x ∈ q := by
        rcases List.mem_cons.mp h with h | h
        · exact absurd h.symm e
        · exact h
      have e2 : (y == x) = false := beq_eq_false_iff_ne.mpr e
      rw [findIdx_M hm, e2]
      simp [e]
theorem pIdx_M {q : List Mx} {x : Mx} {M : Mem} {k : KW} (h : x ∈ q) (hk : k (.d (.int (q.idxOf x : Nat))) M) : pIdx (.d (tMs q)) [.d (tM x)] M k :=
  ⟨(true, q.map tM), rfl, rfl, _, rfl, _, pyAllM q, _, pyM x, shapedL q, shaped2 x, _, findIdx_M h, hk⟩
theorem foldl_sq (n : Nat) (ds : DrQ) (i : Nat) (d : Int × List (List Mx)) (h : ds[i]? = some d) : (d.2.map fun r => (r[n]?).getD []).foldl (fun l x => putQ x l) (sq (askd n (ds.take i))) = sq (askd n (ds.take (i + 1))) := by
  rw [List.take_succ, h]
  unfold sq askd
  rw [List.flatMap_append, List.foldl_append]
  simp
theorem sclaw_numbered_ok_CNm : FnScope ["houses", "draws", "questions", "n", "found", "weight", "asks", "ask", "told", "numbers"] ["houses", "draws"] (defScope s_law_numbered) := ⟨rfl, rfl, rfl, by decide +kernel, rfl, by decide +kernel, by decide +kernel⟩
theorem ok_CNm {f : Addr} {fd : FuncData} (F : FnS K "_law_numbered" s_law_numbered f fd) (B : BltU mg) (CPt : Cal P w K mg base 1 "_law_put_in" fCPt fdCPt ["rows", "one"] (spP K cPut)) : FnOk P w K mg base (L2.CX P w) 2 f fd ["houses", "draws"] (spP K cNumd) := by
  refine fun_okP F sclaw_numbered_ok_CNm (fun ws M k e h => ?_) (fun cdv A outer s H E hr => ?_)
  · obtain ⟨h, ds, rfl, _⟩ := h
    rfl
  · have nd := sclaw_numbered_ok_CNm.nd
    have hu := hu64 hr
    have hu5 := hu65 hr
    refine ⟨_, _, (pss_cons (ps_set (i := 2) nd rfl (Or.inr rfl) (pe_own (pe_lst pa_nil)))
      (pss_cons (ps_for (passes_of rfl) rfl (pi_range1 rfl B.range (pa_cons (pv 0) pa_nil)) (pg_name (i := 3) nd rfl (Or.inl rfl)) (pss_cons (ps_set (i := 4) nd rfl (Or.inl rfl) (pe_lst pa_nil))
      (pss_cons (ps_for (passes_of rfl) rfl (pi_seqB (K := K) (pv 1)) (pg_tupP (K := K) (n := 2) (pg_tup rfl (pgs_cons (pg_name (i := 5) nd rfl (Or.inl rfl)) (pgs_cons (pg_name (i := 6) nd rfl (Or.inl rfl)) pgs_nil)))) (pss_one (ps_for (passes_of rfl) rfl (pi_seqB (K := K) (pv 6)) (pg_name (i := 7) nd rfl (Or.inr rfl)) (pss_one (ps_set (i := 4) nd rfl (Or.inl rfl) (pe_calS (W := WD0 E) CPt (hr.mono (by decide)) (pa_cons (pv 4) (pa_cons (pe_ix (ix_P (K := K)) (pv 7) (pv 3) (fun _ _ => rfl)) pa_nil)) (takes_of rfl rfl rfl rfl)))))))
      (pss_one (ps_expr (pe_bmP (K := K) (pe_bm PySem.F.plainAttrs_list PySem.F.slot_list_append PySem.F.type_list_append (mt_appP (K := K)) (pv 2) (pa_cons (pv 4) pa_nil))))))))
      (pss_cons (ps_set (i := 8) nd rfl (Or.inl rfl) (pe_own (pe_lst pa_nil)))
      (pss_cons (ps_for (passes_of rfl) rfl (pi_seqB (K := K) (pv 1)) (pg_tupP (K := K) (n := 2) (pg_tup rfl (pgs_cons (pg_name (i := 5) nd rfl (Or.inl rfl)) (pgs_cons (pg_name (i := 6) nd rfl (Or.inl rfl)) pgs_nil)))) (pss_cons (ps_set (i := 9) nd rfl (Or.inl rfl) (pe_own (pe_lst pa_nil)))
      (pss_cons (ps_for (passes_of rfl) rfl (pi_seqB (K := K) (pv 6)) (pg_name (i := 7) nd rfl (Or.inr rfl)) (pss_one (ps_expr (pe_bmP (K := K) (pe_bm PySem.F.plainAttrs_list PySem.F.slot_list_append PySem.F.type_list_append (mt_appP (K := K)) (pv 9) (pa_cons (pe_callTy (cr_tupleP (K := K)) (by rfl) B.tuple (by decide +kernel) (pa_cons (pe_lc (own := [("n", 3)]) (g := gName 3) (by rfl) nd (pi_range1 rfl B.range (pa_cons (pv 0) pa_nil)) (blkOk_by (own := [("n", 3)]) (N := ["houses", "draws", "questions", "n", "found", "weight", "asks", "ask", "told", "numbers"]) (sc := defScope s_law_numbered) (by decide +kernel)) (fun _ _ _ _ _ => (pg_name (i := 3) nd rfl (Or.inl rfl))) (fun _ _ _ _ _ => pts_nil) (fun _ _ _ _ _ => (pe_bmP (K := K) (pe_bm PySem.F.plainAttrs_list PySem.F.slot_list_index PySem.F.type_list_index (mt_idxP (K := K) hu5) (pe_ix (ix_P (K := K)) (pv 2) (pv 3) (fun _ _ => rfl)) (pa_cons (pe_ix (ix_P (K := K)) (pv 7) (pv 3) (fun _ _ => rfl)) pa_nil))))) pa_nil)) pa_nil))))))
      (pss_one (ps_expr (pe_bmP (K := K) (pe_bm PySem.F.plainAttrs_list PySem.F.slot_list_append PySem.F.type_list_append (mt_appP (K := K)) (pv 8) (pa_cons (pe_tup (pa_cons (pv 5) (pa_cons (pe_callTy (cr_tupleP (K := K)) (by rfl) B.tuple (by decide +kernel) (pa_cons (pv 9) pa_nil)) pa_nil))) pa_nil))))))))
      (pss_one (ps_ret (pe_tup (pa_cons (pe_callTy (cr_tupleP (K := K)) (by rfl) B.tuple (by decide +kernel) (pa_cons (pe_lc (own := [("found", 4)]) (g := gName 4) (by rfl) nd (pi_seqB (K := K) (pv 2)) (blkOk_by (own := [("found", 4)]) (N := ["houses", "draws", "questions", "n", "found", "weight", "asks", "ask", "told", "numbers"]) (sc := defScope s_law_numbered) (by decide +kernel)) (fun _ _ _ _ _ => (pg_name (i := 4) nd rfl (Or.inl rfl))) (fun _ _ _ _ _ => pts_nil) (fun _ _ _ _ _ => (pe_callTy (cr_tupleP (K := K)) (by rfl) B.tuple (by decide +kernel) (pa_cons (pv 4) pa_nil)))) pa_nil)) (pa_cons (pe_callTy (cr_tupleP (K := K)) (by rfl) B.tuple (by decide +kernel) (pa_cons (pv 8) pa_nil)) pa_nil))))))))), inferInstance, ?_⟩
    clear F hr nd hu hu5
    intro ws M k e h
    obtain ⟨h, ds, rfl, hz, hk⟩ := h
    obtain ⟨hw, hh, hl, ha⟩ := hz
    have bnd : ∀ n, (askd n ds).length ≤ 900 := fun n => by
      have := askd_len (n := n) (k := 30) ha
      omega
    simp
    refine ⟨by omega, ?_⟩
    refine forL_inv (fun n ρ M' => ∃ v3 v4 v5 v6 v7 v8 v9 : Option W, ρ = [some (.d (.int h)), some (.d (.lst (ds.map (wE false)))), some (.p M.length), v3, v4, v5, v6, v7, v8, v9] ∧ M' = M ++ [.lst ((List.range n).map fun n => tMs (sq (askd n ds)))]) ⟨_, _, _, _, _, _, _, rfl, rfl⟩ (fun _ _ _ _ => trivial) (fun n d ρ M' hd hI k1 FK1 => ?_) (fun ρ M' hI => ?_)
    · obtain ⟨v3, v4, v5, v6, v7, v8, v9, rfl, rfl⟩ := hI
      obtain ⟨ltn, rfl⟩ := rng_at hd
      simp
      refine forL_inv (fun i ρ M' => ∃ v5 v6 v7 v8 v9 : Option W, ρ = [some (.d (.int h)), some (.d (.lst (ds.map (wE false)))), some (.p M.length), some (.d (.int n)), some (.d (tMs (sq (askd n (ds.take i))))), v5, v6, v7, v8, v9] ∧ M' = M ++ [.lst ((List.range n).map fun n => tMs (sq (askd n ds)))]) ⟨v5, v6, v7, v8, v9, by simp [askd, sq], rfl⟩ (fun _ _ _ _ => trivial) (fun i d ρ M' hd hI k2 FK2 => ?_) (fun ρ M' hI => ?_)
      · obtain ⟨v5, v6, v7, v8, v9, rfl, rfl⟩ := hI
        rw [List.getElem?_map] at hd
        cases ed : ds[i]? with
        | none =>
          rw [ed] at hd
          cases hd
        | some dd =>
          rw [ed] at hd
          cases hd
          simp
          refine forL_inv (fun j ρ M' => ∃ v7 v8 v9 : Option W, ρ = [some (.d (.int h)), some (.d (.lst (ds.map (wE false)))), some (.p M.length), some (.d (.int n)), some (.d (tMs (((dd.2.take j).map fun r => (r[n]?).getD []).foldl (fun l x => putQ x l) (sq (askd n (ds.take i)))))), some (.d (.int dd.1)), some (.d (sqE false (dd.2.map fun r => sqE false (r.map tM)))), v7, v8, v9] ∧ M' = M ++ [.lst ((List.range n).map fun n => tMs (sq (askd n ds)))]) ⟨v7, v8, v9, by simp, rfl⟩ (fun _ _ _ _ => trivial) (fun j d ρ M' hd2 hI k3 FK3 => ?_) (fun ρ M' hI => ?_)
          · obtain ⟨v7, v8, v9, rfl, rfl⟩ := hI
            rw [List.getElem?_map] at hd2
            cases er : dd.2[j]? with
            | none =>
              rw [er] at hd2
              cases hd2
            | some r =>
              rw [er] at hd2
              cases hd2
              have lr : n < r.length := by rw [hw dd (List.mem_of_getElem? ed) r (List.mem_of_getElem? er)]; exact ltn
              simp [lr]
              have b1 : (sq (askd n (ds.take i))).length ≤ 900 := by
                have a1 := sq_len (askd n (ds.take i)) []
                have a2 := askd_len (n := n) (k := 30) (ds := ds.take i) fun d hd => ha d (List.mem_of_mem_take hd)
                have a3 : (ds.take i).length ≤ ds.length := by rw [List.length_take]; omega
                have a4 := Nat.mul_le_mul_right 30 a3
                unfold sq
                simp only [List.length_nil] at a1
                omega
              have b2 := ha dd (List.mem_of_getElem? ed)
              refine ⟨_, _, rfl, ?_, FK3.nx _ _ ⟨some (.d (sqE false (r.map tM))), v8, v9, ?_, rfl⟩⟩
              · have := sq_len (List.take j (dd.2.map fun r => (r[n]?).getD [])) (sq (askd n (ds.take i)))
                rw [List.length_take, List.length_map] at this
                omega
              · rw [List.take_succ, er]
                simp [lr]
          · obtain ⟨v7, v8, v9, rfl, rfl⟩ := hI
            refine FK2.nx _ _ ⟨some (.d (.int dd.1)), some (.d (sqE false (dd.2.map fun r => sqE false (r.map tM)))), v7, v8, v9, ?_, rfl⟩
            rw [List.length_map, List.take_of_length_le (Nat.le_refl dd.2.length), foldl_sq n ds i dd ed]
      · obtain ⟨v5, v6, v7, v8, v9, rfl, rfl⟩ := hI
        rw [List.take_of_length_le (by simp)]
        simp
        exact ⟨line_gt (by omega), FK1.nx _ _ ⟨some (.d (.int n)), some (.d (tMs (sq (askd n ds)))), v5, v6, v7, v8, v9, rfl, by rw [List.range_succ]; simp⟩⟩
    · obtain ⟨v3, v4, v5, v6, v7, v8, v9, rfl, rfl⟩ := hI
      rw [rngD_len]
      simp
      have eQ : ((List.range h).map fun n => tMs (sq (askd n ds))) = (qsOf h ds).map tMs := by
        rw [qsOf, List.map_map]
        rfl
      rw [eQ]
      have hlen : (qsOf h ds).length = h := by rw [qsOf, List.length_map, List.length_range]
      refine forL_inv (fun i ρ M' => ∃ J : Mem, ∃ v3 v4 v5 v6 v7 v9 : Option W, ρ = [some (.d (.int h)), some (.d (.lst (ds.map (wE false)))), some (.p M.length), v3, v4, v5, v6, v7, some (.p (M.length + 1)), v9] ∧ M' = M ++ .lst ((qsOf h ds).map tMs) :: .lst (List.take i ((numD (qsOf h ds) ds).map (nE false))) :: J) ⟨[], v3, v4, v5, v6, v7, v9, rfl, by simp⟩ (fun _ _ _ _ => trivial) (fun i d ρ M' hd hI k2 FK2 => ?_) (fun ρ M' hI => ?_)
      · obtain ⟨J, v3, v4, v5, v6, v7, v9, rfl, rfl⟩ := hI
        rw [List.getElem?_map] at hd
        cases ed : ds[i]? with
        | none =>
          rw [ed] at hd
          cases hd
        | some dd =>
          rw [ed] at hd
          cases hd
          obtain ⟨X, hX⟩ : ∃ X : Mem, X = M ++ .lst ((qsOf h ds).map tMs) :: .lst (List.take i ((numD (qsOf h ds) ds).map (nE false))) :: J := ⟨_, rfl⟩
          rw [← hX]
          simp
          refine forL_inv (fun j ρ M' => ∃ v3 v4 v7 : Option W, ρ = [some (.d (.int h)), some (.d (.lst (ds.map (wE false)))), some (.p M.length), v3, v4, some (.d (.int dd.1)), some (.d (sqE false (dd.2.map fun r => sqE false (r.map tM)))), v7, some (.p (M.length + 1)), some (.p X.length)] ∧ M' = X ++ [.lst (List.take j (dd.2.map fun r => tI (nrow (qsOf h ds) r)))]) ⟨v3, v4, v7, by simp, by simp⟩ (fun _ _ _ _ => trivial) (fun j d ρ M' hd2 hI k3 FK3 => ?_) (fun ρ M' hI => ?_)
          · obtain ⟨v3, v4, v7, rfl, rfl⟩ := hI
            rw [List.getElem?_map] at hd2
            cases er : dd.2[j]? with
            | none =>
              rw [er] at hd2
              cases hd2
            | some r =>
              rw [er] at hd2
              cases hd2
              have hr0 := List.mem_of_getElem? er
              have hd0 := List.mem_of_getElem? ed
              have lr : r.length = h := hw dd hd0 r hr0
              rw [hX]
              simp
              refine ⟨by omega, ?_⟩
              unfold rngD
              refine lcL_mapIx (List.range h) _ (fun n => .int ((((qsOf h ds)[n]?).getD []).idxOf ((r[n]?).getD []) : Nat)) (line_ge (by rw [List.length_range]; omega)) trivial (fun n hn Q hQ => ?_) ?_
              · have ltn := List.mem_range.mp hn
                have l1 : n < (qsOf h ds).length := by omega
                have l2 : n < r.length := by omega
                rw [List.getElem?_eq_getElem l1, List.getElem?_eq_getElem l2] at hQ
                simp [l1, l2]
                simp only [Option.getD_some] at hQ
                refine ⟨_, pyAllM _, _, pyM _, shapedL _, shaped2 _, _, findIdx_M ?_, hQ⟩
                have : (qsOf h ds)[n]'l1 = sq (askd n ds) := by simp [qsOf]
                rw [this]
                exact sq_mem.mpr (askd_mem (c := h) hd0 hr0 (List.getElem?_eq_getElem l2))
              · have e : ((List.range h).map fun n => D.int ((((qsOf h ds)[n]?).getD []).idxOf ((r[n]?).getD []) : Nat)) = (nrow (qsOf h ds) r).map D.int := by
                  refine List.ext_getElem? fun n => ?_
                  rw [List.getElem?_map, List.getElem?_map, nrow, List.getElem?_zipWith]
                  by_cases ltn : n < h
                  · have l1 : n < (qsOf h ds).length := by omega
                    have l2 : n < r.length := by omega
                    rw [List.getElem?_range ltn]
                    simp [l1, l2]
                  · rw [List.getElem?_eq_none (by rw [List.length_range]; omega), List.getElem?_eq_none (show (qsOf h ds).length ≤ n by omega)]
                    rfl
                rw [e]
                simp
                refine ⟨line_gt (by have := ha dd hd0; omega), FK3.nx _ _ ⟨v3, v4, some (.d (sqE false (r.map tM))), by rw [hX]; simp, ?_⟩⟩
                rw [hX, List.take_succ, List.getElem?_map, er]
                simp
          · obtain ⟨v3, v4, v7, rfl, rfl⟩ := hI
            have en : ((numD (qsOf h ds) ds).map (nE false))[i]? = some (nE false (dd.1, dd.2.map (nrow (qsOf h ds)))) := by
              rw [List.getElem?_map, numD, List.getElem?_map, ed]
              rfl
            rw [List.length_map, List.take_of_length_le (by simp), hX]
            simp
            have : List.length (numD (qsOf h ds) ds) = ds.length := by rw [numD, List.length_map]
            refine ⟨line_ge (by decide), line_gt (by omega), FK2.nx _ _ ⟨J ++ [.lst (dd.2.map fun r => tI (nrow (qsOf h ds) r))], v3, v4, some (.d (.int dd.1)), some (.d (sqE false (dd.2.map fun r => sqE false (r.map tM)))), v7, some (.p (M.length + (J.length + 1 + 1))), rfl, ?_⟩⟩
            rw [List.take_succ, en, nE_eq]
            simp
      · obtain ⟨J, v3, v4, v5, v6, v7, v9, rfl, rfl⟩ := hI
        simp
        refine lcL_mapIx (qsOf h ds) tMs (fun q => sqE false (q.map tM)) (line_ge (by omega)) (by simp) (fun q hq Q hQ => ?_) ?_
        · simp
          exact hQ
        · have e : List.take ds.length ((numD (qsOf h ds) ds).map (nE false)) = (numD (qsOf h ds) ds).map (nE false) := List.take_of_length_le (by simp [numD])
          rw [e]
          simp
          exact ⟨line_ge (by decide), fin1 hk⟩
end
end PU

set_option maxRecDepth 100000
set_option maxHeartbeats 8000000
set_option synthInstance.maxHeartbeats 4000000
set_option synthInstance.maxSize 4000
namespace PU
open PySem PySem.Spec PyProof.Rows L2 GS WU

/-- questions of the first n houses, more than are asked -/
structure MoreQ (p : Int) (k : Nat) (D1 : DrQ) (n : Nat) (Q : List (List Mx)) : Prop where
  len : Q.length = n
  it : ∀ (i : Nat) (q : List Mx), Q[i]? = some q → (∀ m ∈ askd i D1, m ∈ q) ∧ q.Pairwise (fun a b => ltG d2 a b = true) ∧ (∀ m ∈ q, MxOk p k m ∧ m.length ≤ 2) ∧ q.length ≤ 20
theorem MoreQ.add {p : Int} {k n : Nat} {D1 : DrQ} {Q : List (List Mx)} {q : List Mx} (M : MoreQ p k D1 n Q) (h1 : ∀ m ∈ askd n D1, m ∈ q) (h2 : q.Pairwise (fun a b => ltG d2 a b = true)) (h3 : ∀ m ∈ q, MxOk p k m ∧ m.length ≤ 2) (h4 : q.length ≤ 20) : MoreQ p k D1 (n + 1) (Q ++ [q]) := by
  refine ⟨by simp [M.len], fun i x hx => ?_⟩
  by_cases hi : i < n
  · rw [List.getElem?_append_left (by rw [M.len]; exact hi)] at hx
    exact M.it i x hx
  · rw [List.getElem?_append_right (by rw [M.len]; omega), M.len] at hx
    have e : i - n = 0 := by
      have := (List.getElem?_eq_some_iff.mp hx).1
      simp at this
      omega
    rw [e] at hx
    cases hx
    have ei : i = n := by omega
    subst ei
    exact ⟨h1, h2, h3, h4⟩
theorem MoreQ.mem {p : Int} {k h : Nat} {D1 : DrQ} {Q : List (List Mx)} (M : MoreQ p k D1 h Q) {d : Int × List (List Mx)} {r : List Mx} (hd : d ∈ D1) (hr : r ∈ d.2) {i : Nat} {x : Mx} {q : List Mx} (h1 : r[i]? = some x) (h2 : Q[i]? = some q) : x ∈ q := (M.it i q h2).1 x (askd_mem (c := h) hd hr h1)
theorem MoreQ.plan {p : Int} {l c h : Nat} {D1 : DrQ} {Q : List (List Mx)} (O1 : DOk p l c h D1) (M : MoreQ p (l * c) D1 h Q) : PlG p l c h Q (numD Q D1) D1 ∧ (∀ q ∈ Q, QOk p (l * c) q) ∧ Q ≠ [] := by
  have ⟨hp, hl, hc, hh, hl2, hc2, hh2, h0, hd, hf, hr⟩ := O1
  have hlen := M.len
  have hlc : l * c ≤ 100 * 10 := Nat.mul_le_mul hl2 hc2
  have hq : ∀ q ∈ Q, ∃ i, Q[i]? = some q := fun q hq => List.getElem?_of_mem hq
  refine ⟨⟨O1, ⟨by simpa [numD] using h0, by rw [numD, List.length_map]; omega, by omega, by omega, fun q hq1 => ?_, fun d hd1 => ?_⟩, fun q hq1 m hm => ?_, hlen, ?_⟩, fun q hq1 => ?_, fun z => by rw [z] at hlen; simp at hlen; omega⟩
  · obtain ⟨i, hi⟩ := hq q hq1
    have := (M.it i q hi).2.2.2
    omega
  · obtain ⟨d', hd2, rfl⟩ := List.mem_map.mp hd1
    obtain ⟨a1, a2, a3⟩ := hr d' hd2
    refine ⟨a1, by rw [List.length_map]; exact a2, fun r hr1 => ?_⟩
    obtain ⟨r', hr2, rfl⟩ := List.mem_map.mp hr1
    refine ⟨by rw [nrow, List.length_zipWith, hlen, (a3 r' hr2).1, Nat.min_self], fun i x q e1 e2 => ?_⟩
    rw [nrow, List.getElem?_zipWith_eq_some] at e1
    obtain ⟨q', m, e3, e4, rfl⟩ := e1
    rw [e2] at e3
    cases e3
    have hm := M.mem hd2 hr2 e4 e2
    have := List.idxOf_lt_length_iff.mpr hm
    omega
  · obtain ⟨i, hi⟩ := hq q hq1
    exact ((M.it i q hi).2.2.1 m hm).1
  · unfold unD numD
    rw [List.map_map]
    conv => rhs; rw [← List.map_id D1]
    refine List.map_congr_left fun d hd1 => ?_
    refine Prod.ext rfl ?_
    show (d.2.map (nrow Q)).map (qrow Q) = d.2
    rw [List.map_map]
    conv => rhs; rw [← List.map_id d.2]
    refine List.map_congr_left fun r hr1 => ?_
    exact row_back Q r (by rw [hlen, ((hr d hd1).2.2 r hr1).1]) fun i x q e1 e2 => M.mem hd1 hr1 e1 e2
  · obtain ⟨i, hi⟩ := hq q hq1
    obtain ⟨b1, b2, b3, b4⟩ := M.it i q hi
    exact ⟨fun m hm => (b3 m hm).1, pw_risG b2, by omega, by omega⟩
theorem MoreQ.td {p : Int} {l c h : Nat} {D1 : DrQ} {Q : List (List Mx)} (O1 : DOk p l c h D1) (dn : Drn p l c h D1) (M : MoreQ p (l * c) D1 h Q) (p1 : p ≤ 31) (hl : l ≤ 3) (hc : c ≤ 3) (hh : h ≤ 4) : TdOk p l c h Q (numD Q D1) := by
  obtain ⟨P, QQ, _⟩ := M.plan O1
  have p0 : 2 ≤ p := by
    have := (by decide : ∀ q ∈ primes, (2 : Int) ≤ q)
    exact this p O1.1
  have lc : l * c ≤ 3 * 3 := Nat.mul_le_mul hl hc
  obtain ⟨n1, n2, n3, n4, n5, n6⟩ := P.n
  obtain ⟨a1, a2, a3⟩ := dn
  have hlen := M.len
  refine ⟨by omega, by omega, by omega, by omega, ?_, ⟨by omega, fun q hq => ?_⟩, ⟨by rw [numD, List.length_map]; omega, fun d hd => ?_⟩⟩
  · rw [num_fst]
    have := sum_le (b := 1000000) (D1.map fun d => d.1) fun x hx => by
      obtain ⟨d, hd, rfl⟩ := List.mem_map.mp hx
      have := a3 d hd
      omega
    rw [List.length_map] at this
    omega
  · obtain ⟨i, hi⟩ := List.getElem?_of_mem hq
    obtain ⟨b1, b2, b3, b4⟩ := M.it i q hi
    refine ⟨by omega, fun m hm => ?_⟩
    obtain ⟨g1, g2⟩ := b3 m hm
    refine ⟨by omega, fun x hx => ⟨by rw [(g1.2 x hx).1]; omega, fun y hy => ?_⟩⟩
    have := (g1.2 x hx).2 y hy
    omega
  · obtain ⟨m1, m2, m3⟩ := n6 d hd
    obtain ⟨d', hd', rfl⟩ := List.mem_map.mp hd
    have := a3 d' hd'
    refine ⟨by show d'.1.natAbs < _; omega, by omega, fun r hr => ⟨by have := (m3 r hr).1; omega, fun x hx => ?_⟩⟩
    obtain ⟨i, hi⟩ := List.getElem?_of_mem hx
    have lt := (List.getElem?_eq_some_iff.mp hi).1
    have l2 : i < Q.length := by
      have := (m3 r hr).1
      omega
    have b := (m3 r hr).2 i x _ hi (List.getElem?_eq_getElem l2)
    have := (M.it i _ (List.getElem?_eq_getElem l2)).2.2.2
    omega
theorem nrow_eq {Q : List (List Mx)} {r : List Mx} {h : Nat} (h1 : Q.length = h) (h2 : r.length = h) : ((List.range h).map fun n => D.int ((((Q)[n]?).getD []).idxOf ((r[n]?).getD []) : Nat)) = (nrow Q r).map D.int := by
  refine List.ext_getElem? fun n => ?_
  rw [List.getElem?_map, List.getElem?_map, nrow, List.getElem?_zipWith]
  by_cases ltn : n < h
  · have l1 : n < Q.length := by omega
    have l2 : n < r.length := by omega
    rw [List.getElem?_range ltn]
    simp [l1, l2]
  · rw [List.getElem?_eq_none (by rw [List.length_range]; omega), List.getElem?_eq_none (show Q.length ≤ n by omega)]
    rfl
end PU

set_option maxRecDepth 100000
set_option maxHeartbeats 8000000
set_option synthInstance.maxHeartbeats 4000000
set_option synthInstance.maxSize 4000
namespace PU
open PySem PySem.Spec PyProof.Rows L2 GS WU
section
variable {P : Program} {w : World} {K : PySem.W.Frag} {mg : Str → Option Value} {base : Heap}

theorem ordD_inj : ∀ {o o' : List Nat}, ordD o = ordD o' → o = o'
  | [], [], _ => rfl
  | [], _ :: _, h => by simp at h
  | _ :: _, [], h => by simp at h
  | a :: o, b :: o', h => by
    have h1 := List.cons.inj (show D.int (a : Int) :: ordD o = D.int (b : Int) :: ordD o' from h)
    rw [ordD_inj h1.2]
    have := D.int.inj h1.1
    have e : a = b := by omega
    rw [e]
theorem sqE_inj {b b' : Bool} {xs ys : List D} (h : sqE b xs = sqE b' ys) : xs = ys := by
  cases b <;> cases b' <;> first | exact D.lst.inj h | exact D.tup.inj h | cases h
theorem okD_ord {b : Bool} {o : List Nat} : okD (sqE b (ordD o)) = true := by
  have e : okA (ordD o) = true := okA_iff.mpr fun x hx => by
    obtain ⟨n, _, rfl⟩ := List.mem_map.mp hx
    rfl
  cases b <;> (show okD _ = true) <;> rw [okD] <;> exact e
theorem nat_lay : ∀ o : List Nat, PyData.canLayAll0 (o.map fun n : Nat => PyData.int (n : Int)) = true ∧ PyData.depthAll (o.map fun n : Nat => PyData.int (n : Int)) ≤ 1
  | [] => ⟨rfl, by simp [PyData.depthAll]⟩
  | n :: o => by
    obtain ⟨a, b⟩ := nat_lay o
    refine ⟨by rw [List.map_cons, PyData.canLayAll0, a]; rfl, ?_⟩
    simp only [List.map_cons, PyData.depthAll, PyData.depth]
    omega
theorem neL {o : List Nat} {M : Mem} {X Y : Prop} (hX : X) : ob (fNe (.d (.lst (ordD o))) (.d (.lst (ordD o))) M) fun r => r.2 ∧ ob (blW r.1) fun b => if b = true then Y else X := by
  have e : pyD (.lst (ordD o)) = some (.list (o.map fun n : Nat => PyData.int (n : Int))) := by
    show (pyAll _).map PyData.list = _
    rw [pyAll_map (f := fun n : Nat => D.int (n : Int)) (g := fun n : Nat => PyData.int (n : Int)) (fun _ => rfl) o]
    rfl
  obtain ⟨c1, c2⟩ := nat_lay o
  have sh : SeqAt.shaped (.list (o.map fun n : Nat => PyData.int (n : Int))) = true := by
    show ((PyData.list _).canLay0 && decide ((PyData.list _).depth ≤ 64)) = true
    rw [PyData.canLay0, c1, PyData.depth, decide_eq_true (by omega)]
    rfl
  have er : PyData.eqv (.list (o.map fun n : Nat => PyData.int (n : Int))) (.list (o.map fun n : Nat => PyData.int (n : Int))) = true := SeqAt.eqv_refl_plain _ (PyData.plain_of_canLay0 _ (SeqAt.canLay_of_shaped sh))
  refine ⟨(.d (.bl false), SeqAt.shaped (.list (o.map fun n : Nat => PyData.int (n : Int))) = true ∧ SeqAt.shaped (.list (o.map fun n : Nat => PyData.int (n : Int))) = true), ?_, ⟨sh, sh⟩, false, by simp, ?_⟩
  · show (match pyD (.lst (ordD o)), pyD (.lst (ordD o)) with
      | some p, some q => some (W.d (.bl (!PyData.eqv p q)), SeqAt.shaped p = true ∧ SeqAt.shaped q = true)
      | _, _ => none) = _
    rw [e]
    simp only [er]
    rfl
  · show (if false = true then Y else X)
    rw [if_neg Bool.false_ne_true]
    exact hX
section
variable {C XN : Addr} {p : Int} {l c h : Nat} {qs : List (List Mx)} {ns : DrN} {D1 : DrQ} {o : List Nat} {M : Mem} {k : KW} {e : XW}
theorem reo_call (b : Bool) (G : PlG p l c h qs ns D1) (few : D1.length * c < 64) (hc : c ≤ 10) (hh : h ≤ 10) (ho : Orr c o) (hk : k (.d (plD C p l c h (reoD l o D1))) M) : cReo C XN [.d (plE C p l c qs ns), .d (sqE b (ordD o))] M k e :=
  ⟨p, l, c, h, qs, ns, D1, _, rfl, ⟨G, okD_ord, few, hc, hh⟩, fun z => (by rw [isOr_of ho] at z; cases z), fun b' o' e' _ => by rw [← ordD_inj (sqE_inj e')]; exact hk⟩
theorem rho_call (b : Bool) (G : PlG p l c h qs ns D1) (few : D1.length * c < 64) (hc : c ≤ 10) (hh : h ≤ 10) (ho : Orr h o) (hk : k (.d (plD C p l c h (rehD o D1))) M) : cRho C XN [.d (plE C p l c qs ns), .d (sqE b (ordD o))] M k e :=
  ⟨p, l, c, h, qs, ns, D1, _, rfl, ⟨G, okD_ord, few, hc, hh⟩, fun z => (by rw [isOr_of ho] at z; cases z), fun b' o' e' _ => by rw [← ordD_inj (sqE_inj e')]; exact hk⟩
theorem isP_g {l' : Int} (T : TdOk p l c h qs ns) (ql : qs.length = h) (el : l' = l) (hk : k (.d (.bl true)) M) : cIsP C [.d (plE C p l c qs ns), .d (.str (tdS p l' c h qs ns))] M k e := by
  refine ⟨p, l, c, qs, _, _, rfl, by rw [ql]; exact T, ?_⟩
  rw [ql, el]
  simpa using hk
end
theorem reoD_short {k l : Nat} {o : List Nat} {ds : DrQ} (h1 : ShortM k ds) : ShortM k (reoD l o ds) := by
  intro d hd
  obtain ⟨x, hx, rfl⟩ := List.mem_map.mp hd
  intro r hr m hm
  obtain ⟨a, ha, rfl⟩ := List.mem_map.mp hr
  obtain ⟨m', hm', rfl⟩ := List.mem_map.mp hm
  cases e : x.2[a]? with
  | none => rw [e] at hm'; cases hm'
  | some q =>
    rw [e] at hm'
    have := h1 x hx q (List.mem_of_getElem? e) m' hm'
    rw [selM, List.length_map]
    exact this
theorem rehD_short {k : Nat} {o : List Nat} {ds : DrQ} (h1 : ShortM k ds) : ShortM k (rehD o ds) := by
  intro d hd
  obtain ⟨x, hx, rfl⟩ := List.mem_map.mp hd
  intro r hr m hm
  obtain ⟨r0, hr0, rfl⟩ := List.mem_map.mp hr
  obtain ⟨n, hn, rfl⟩ := List.mem_map.mp hm
  cases e : r0[n]? with
  | none => exact Nat.zero_le _
  | some q => exact h1 x hx r0 hr0 q (List.mem_of_getElem? e)
theorem scLaw_ok_law : FnScope ["script", "hand", "p", "length", "count", "houses", "draws", "first", "plan", "whole", "books", "row", "due", "other", "t", "handed", "made", "moved", "wrong", "told"] ["script"] (defScope sLaw) := ⟨rfl, rfl, rfl, by decide +kernel, rfl, by decide +kernel, by decide +kernel⟩
theorem ok_law {f : Addr} {fd : FuncData} (F : FnS K "law" sLaw f fd) (B : BltU mg) {C : Addr} (CDs : Cal P w K mg base 1 "_law_draws" fCDs fdCDs ["script", "many"] (spP K cDrs)) (CSh : Cal P w K mg base 2 "_law_shape" fCSh fdCSh ["hand"] (spP K cShp)) (CDw : Cal P w K mg base 3 "_law_drawn" fCDw fdCDw ["hand", "p", "length", "count", "houses"] (spP K cDrw)) (CTo : CalG P w K mg base 3 "_law_told" fCTo fdCTo ["p", "length", "count", "houses", "draws"] (spP K cTold)) (CIp : CalG P w K mg base 1 "_law_is_plan" fCIp fdCIp ["plan", "told"] (spP K (cIsP C))) (CWmr : CalG P w K mg base 11 "_law_with_more" fCWmr fdCWmr ["hand", "p", "length", "count", "houses", "draws"] (spP K (cWmr C))) (COrd : Cal P w K mg base 2 "_law_order" fCOrd fdCOrd ["hand", "many"] (spP K cOrd)) (CNoO : Cal P w K mg base 3 "_law_no_order" fCNoO fdCNoO ["hand", "many"] (spP K cNoO)) (CLRo : Cal P w K mg base 1 "_law_reordered" fCLRo fdCLRo ["draws", "length", "order"] (spP K cLRo)) (CLRh : Cal P w K mg base 1 "_law_rehoused" fCLRh fdCLRh ["draws", "order"] (spP K cLRh)) (CBck : Cal P w K mg base 1 "_law_back" fCBck fdCBck ["order"] (spP K cBck)) (CRfO : CalG P w K mg base 13 "_law_refusal" fCRfO fdCRfO ["kind", "plan", "order"] (spP K (cRfO C))) (CReo : Cal P w K mg base 12 "reordered_plan" fCReo fdCReo ["plan", "order"] (spP K (cReo C (He.ga K "InvalidNumber")))) (CRho : Cal P w K mg base 12 "rehoused_plan" fCRho fdCRho ["plan", "order"] (spP K (cRho C (He.ga K "InvalidNumber")))) : FnOkG P w K mg base 14 f fd ["script"] (spP K cLaw) := by
  refine fun_okG F scLaw_ok_law (fun ws M k e h => ?_) (fun cdv A outer s H E hr hgd => ?_)
  · obtain ⟨ns, rfl, _⟩ := h
    rfl
  · have nd := scLaw_ok_law.nd
    have hu := hu64 hr
    have hu5 := hu65 hr
    refine ⟨_, _, (pss_cons (ps_set (i := 1) nd rfl (Or.inl rfl) (pe_own (pe_lst (pa_cons (pe_calS (W := WD0 E) CDs (hr.mono (by decide)) (pa_cons (pv 0) (pa_cons pe_int pa_nil)) (takes_of rfl rfl rfl rfl)) (pa_cons pe_int pa_nil)))))
      (pss_cons (ps_asg (pe_calS (W := WD0 E) CSh (hr.mono (by decide)) (pa_cons (pv 1) pa_nil) (takes_of rfl rfl rfl rfl)) (pg_unl (K := K) rfl (n := 4) (pgs_cons (pg_name (i := 2) nd rfl (Or.inl rfl)) (pgs_cons (pg_name (i := 3) nd rfl (Or.inl rfl)) (pgs_cons (pg_name (i := 4) nd rfl (Or.inl rfl)) (pgs_cons (pg_name (i := 5) nd rfl (Or.inl rfl)) pgs_nil))))))
      (pss_cons (ps_set (i := 6) nd rfl (Or.inl rfl) (pe_calS (W := WD0 E) CDw (hr.mono (by decide)) (pa_cons (pv 1) (pa_cons (pv 2) (pa_cons (pv 3) (pa_cons (pv 4) (pa_cons (pv 5) pa_nil))))) (takes_of rfl rfl rfl rfl)))
      (pss_cons (ps_set (i := 7) nd rfl (Or.inl rfl) (pe_calG (W := WD0 E) CTo (hr.mono (by decide)) hgd (pa_cons (pv 2) (pa_cons (pv 3) (pa_cons (pv 4) (pa_cons (pv 5) (pa_cons (pv 6) pa_nil))))) (takes_of rfl rfl rfl rfl)))
      (pss_cons (ps_asg (pe_calG (W := WD0 E) CWmr (hr.mono (by decide)) hgd (pa_cons (pv 1) (pa_cons (pv 2) (pa_cons (pv 3) (pa_cons (pv 4) (pa_cons (pv 5) (pa_cons (pv 6) pa_nil)))))) (takes_of rfl rfl rfl rfl)) (pg_tupP (K := K) (n := 2) (pg_tup rfl (pgs_cons (pg_name (i := 8) nd rfl (Or.inl rfl)) (pgs_cons (pg_name (i := 9) nd rfl (Or.inl rfl)) pgs_nil)))))
      (pss_cons (ps_if (pt_not (pt_truP (K := K) (pe_calG (W := WD0 E) CIp (hr.mono (by decide)) hgd (pa_cons (pv 8) (pa_cons (pv 9) pa_nil)) (takes_of rfl rfl rfl rfl)))) (pss_one (ps_ret pe_bl)) pss_nil)
      (pss_cons (ps_set (i := 10) nd rfl (Or.inl rfl) (pe_calS (W := WD0 E) COrd (hr.mono (by decide)) (pa_cons (pv 1) (pa_cons (pv 4) pa_nil)) (takes_of rfl rfl rfl rfl)))
      (pss_cons (ps_set (i := 11) nd rfl (Or.inl rfl) (pe_calS (W := WD0 E) COrd (hr.mono (by decide)) (pa_cons (pv 1) (pa_cons (pv 5) pa_nil)) (takes_of rfl rfl rfl rfl)))
      (pss_cons (ps_set (i := 12) nd rfl (Or.inl rfl) (pe_calG (W := WD0 E) CTo (hr.mono (by decide)) hgd (pa_cons (pv 2) (pa_cons (pv 3) (pa_cons (pv 4) (pa_cons (pv 5) (pa_cons (pe_calS (W := WD0 E) CLRo (hr.mono (by decide)) (pa_cons (pv 6) (pa_cons (pv 3) (pa_cons (pv 10) pa_nil))) (takes_of rfl rfl rfl rfl)) pa_nil))))) (takes_of rfl rfl rfl rfl)))
      (pss_cons (ps_set (i := 13) nd rfl (Or.inl rfl) (pe_calG (W := WD0 E) CTo (hr.mono (by decide)) hgd (pa_cons (pv 2) (pa_cons (pv 3) (pa_cons (pv 4) (pa_cons (pv 5) (pa_cons (pe_calS (W := WD0 E) CLRh (hr.mono (by decide)) (pa_cons (pv 6) (pa_cons (pv 11) pa_nil)) (takes_of rfl rfl rfl rfl)) pa_nil))))) (takes_of rfl rfl rfl rfl)))
      (pss_cons (ps_for (passes_of rfl) rfl (pi_range1 rfl B.range (pa_cons pe_int pa_nil)) (pg_name (i := 14) nd rfl (Or.inl rfl)) (pss_cons (ps_set (i := 15) nd rfl (Or.inl rfl) (pe_ix (ix_P (K := K)) (pe_lst (pa_cons (pe_callTy (cr_listP (K := K)) (by rfl) B.lst (by decide +kernel) (pa_cons (pv 10) pa_nil)) (pa_cons (pe_callTy (cr_tupleP (K := K)) (by rfl) B.tuple (by decide +kernel) (pa_cons (pv 10) pa_nil)) pa_nil))) (pv 14) (fun _ _ => rfl)))
      (pss_cons (ps_set (i := 16) nd rfl (Or.inl rfl) (pe_calS (W := WD0 E) CReo (hr.mono (by decide)) (pa_cons (pv 8) (pa_cons (pv 15) pa_nil)) (takes_of rfl rfl rfl rfl)))
      (pss_cons (ps_if (PW.pt (pw_or (pt_not (pt_truP (K := K) (pe_calG (W := WD0 E) CIp (hr.mono (by decide)) hgd (pa_cons (pv 16) (pa_cons (pv 12) pa_nil)) (takes_of rfl rfl rfl rfl)))) (pw_or1 (pt_not (pt_truP (K := K) (pe_calG (W := WD0 E) CIp (hr.mono (by decide)) hgd (pa_cons (pe_calS (W := WD0 E) CReo (hr.mono (by decide)) (pa_cons (pv 16) (pa_cons (pe_calS (W := WD0 E) CBck (hr.mono (by decide)) (pa_cons (pv 10) pa_nil) (takes_of rfl rfl rfl rfl)) pa_nil)) (takes_of rfl rfl rfl rfl)) (pa_cons (pv 7) pa_nil)) (takes_of rfl rfl rfl rfl))))))) (pss_one (ps_ret pe_bl)) pss_nil)
      (pss_cons (ps_set (i := 17) nd rfl (Or.inl rfl) (pe_ix (ix_P (K := K)) (pe_lst (pa_cons (pe_callTy (cr_tupleP (K := K)) (by rfl) B.tuple (by decide +kernel) (pa_cons (pv 11) pa_nil)) (pa_cons (pe_callTy (cr_listP (K := K)) (by rfl) B.lst (by decide +kernel) (pa_cons (pv 11) pa_nil)) pa_nil))) (pv 14) (fun _ _ => rfl)))
      (pss_cons (ps_set (i := 16) nd rfl (Or.inl rfl) (pe_calS (W := WD0 E) CRho (hr.mono (by decide)) (pa_cons (pv 8) (pa_cons (pv 17) pa_nil)) (takes_of rfl rfl rfl rfl)))
      (pss_cons (ps_if (PW.pt (pw_or (pt_not (pt_truP (K := K) (pe_calG (W := WD0 E) CIp (hr.mono (by decide)) hgd (pa_cons (pv 16) (pa_cons (pv 13) pa_nil)) (takes_of rfl rfl rfl rfl)))) (pw_or1 (pt_not (pt_truP (K := K) (pe_calG (W := WD0 E) CIp (hr.mono (by decide)) hgd (pa_cons (pe_calS (W := WD0 E) CRho (hr.mono (by decide)) (pa_cons (pv 16) (pa_cons (pe_callTy (cr_tupleP (K := K)) (by rfl) B.tuple (by decide +kernel) (pa_cons (pe_calS (W := WD0 E) CBck (hr.mono (by decide)) (pa_cons (pv 11) pa_nil) (takes_of rfl rfl rfl rfl)) pa_nil)) pa_nil)) (takes_of rfl rfl rfl rfl)) (pa_cons (pv 7) pa_nil)) (takes_of rfl rfl rfl rfl))))))) (pss_one (ps_ret pe_bl)) pss_nil)
      (pss_one (ps_if (PW.pt (pw_or (pt_cmpR (op_neP (K := K) hu) (pe_callTy (cr_listP (K := K)) (by rfl) B.lst (by decide +kernel) (pa_cons (pv 15) pa_nil)) (pv 10) (nomark _)) (pw_or (pt_cmpR (op_neP (K := K) hu) (pe_callTy (cr_listP (K := K)) (by rfl) B.lst (by decide +kernel) (pa_cons (pv 17) pa_nil)) (pv 11) (nomark _)) (pw_or1 (pt_not (pt_truP (K := K) (pe_calG (W := WD0 E) CIp (hr.mono (by decide)) hgd (pa_cons (pv 8) (pa_cons (pv 9) pa_nil)) (takes_of rfl rfl rfl rfl)))))))) (pss_one (ps_ret pe_bl)) pss_nil)))))))))
      (pss_cons (ps_for (passes_of rfl) rfl (pi_range1 rfl B.range (pa_cons pe_int pa_nil)) (pg_name (i := 14) nd rfl (Or.inl rfl)) (pss_cons (ps_set (i := 18) nd rfl (Or.inl rfl) (pe_calS (W := WD0 E) CNoO (hr.mono (by decide)) (pa_cons (pv 1) (pa_cons (pv 4) pa_nil)) (takes_of rfl rfl rfl rfl)))
      (pss_cons (ps_set (i := 19) nd rfl (Or.inl rfl) (pe_op (op_addP (K := K)) pe_str (pe_callB (cr_reprA (K := K) hgd hu) (by rfl) B.repr (by decide +kernel) (pa_cons (pv 18) pa_nil))))
      (pss_cons (ps_if (pt_cmpR (op_neP (K := K) hu) (pe_calG (W := WD0 E) CRfO (hr.mono (by decide)) hgd (pa_cons pe_int (pa_cons (pv 8) (pa_cons (pv 18) pa_nil))) (takes_of rfl rfl rfl rfl)) (pv 19) (nomark _)) (pss_one (ps_ret pe_bl)) pss_nil)
      (pss_cons (ps_set (i := 18) nd rfl (Or.inl rfl) (pe_calS (W := WD0 E) CNoO (hr.mono (by decide)) (pa_cons (pv 1) (pa_cons (pv 5) pa_nil)) (takes_of rfl rfl rfl rfl)))
      (pss_cons (ps_set (i := 19) nd rfl (Or.inl rfl) (pe_op (op_addP (K := K)) pe_str (pe_callB (cr_reprA (K := K) hgd hu) (by rfl) B.repr (by decide +kernel) (pa_cons (pv 18) pa_nil))))
      (pss_one (ps_if (pt_cmpR (op_neP (K := K) hu) (pe_calG (W := WD0 E) CRfO (hr.mono (by decide)) hgd (pa_cons pe_int (pa_cons (pv 8) (pa_cons (pv 18) pa_nil))) (takes_of rfl rfl rfl rfl)) (pv 19) (nomark _)) (pss_one (ps_ret pe_bl)) pss_nil))))))))
      (pss_one (ps_ret pe_bl)))))))))))))), inferInstance, ?_⟩
    clear hgd F hr nd hu hu5
    intro ws M k e h
    obtain ⟨ns, rfl, ⟨hn, rfl⟩, hk⟩ := h
    simp (config := { maxSteps := 4000000 })
    refine ⟨ns, rfl, hn, fun dr hdr => ?_⟩
    refine ⟨_, rfl, line_ge (by simp), ?_⟩
    refine ⟨[], rfl, ⟨dr, 0, Int.le_refl _, hdr, rfl⟩, fun M1 p x y u hm1 hp hb => ?_⟩
    obtain ⟨x1, x3, y1, y3, u1, u4⟩ := hb
    have hpr : p ∈ primes ∧ 2 ≤ p ∧ p ≤ 31 := by
      have := (by decide : ∀ q ∈ ([2, 3, 5, 7, 13, 31] : List Int), q ∈ primes ∧ 2 ≤ q ∧ q ≤ 31)
      exact this p hp
    obtain ⟨pp, p2, p31⟩ := hpr
    refine ⟨_, rfl, rfl, _, rfl, _, rfl, _, rfl, _, rfl, rfl, ?_⟩
    refine ⟨p, x, y, u, [], rfl, ⟨hm1, by omega, p31, by omega, by omega, by omega⟩, fun M3 D1 hm3 n1 => ?_⟩
    have ok1 : DOk p x y u D1 := n1.ok pp (Int.le_refl _) (by omega) (by omega) (by omega) (by omega) (by omega) (by omega)
    have xy : x * y ≤ 3 * 3 := Nat.mul_le_mul (by omega) (by omega)
    have td1 := n1.m.td ok1 p31 (by omega) (by omega) (by omega) (by omega)
    have wd1 : Wide u D1 := (plan_ok ok1).2.2.2.1
    have dl1 := n1.2.1
    refine ⟨p, x, y, u, D1, rfl, ⟨wd1, by omega, by omega, fun d hd => by have := (n1.2.2 d hd).2.2.1; omega, td1⟩, ?_⟩
    refine ⟨p, x, y, u, D1, [], rfl, ⟨hm3, ok1, n1, p31, by omega, by omega, by omega, by omega, by omega, by omega⟩, fun M4 qs ns1 hm4 PG tdq => ?_⟩
    refine ⟨_, rfl, rfl, _, rfl, _, rfl, rfl, ?_⟩
    refine isP_g tdq PG.len rfl (ifT ?_)
    refine ⟨y, [], rfl, ⟨hm4, by omega⟩, fun M5 bo hm5 hb hbO => ?_⟩
    refine ⟨u, [], rfl, ⟨hm5, by omega⟩, fun M6 ro hm6 hr hrO => ?_⟩
    have few : D1.length * y < 64 := by
      have : D1.length * y ≤ 3 * 3 := Nat.mul_le_mul (by omega) (by omega)
      omega
    have d0 := n1.2.2
    refine ⟨D1, x, y, bo, rfl, ⟨by omega, by rw [hb.1]; omega, hb.2.2, by omega, by omega, fun d hd => ⟨(d0 d hd).2.2.1, fun r hr => ⟨by rw [((d0 d hd).2.2.2 r hr).1]; omega, fun m hm => ⟨by have := (((d0 d hd).2.2.2 r hr).2 m hm).2; omega, fun z hz => ((((d0 d hd).2.2.2 r hr).2 m hm).1.2 z hz).1⟩⟩⟩⟩, ?_⟩
    have okR : DOk p x y u (reoD x bo D1) := by
      have := reoD_ok ok1 (fun z => by have := hb.1; rw [z] at this; simp at this; omega) (by rw [hb.1]; omega) hb.2.2 (by rw [hb.1]; exact few)
      rw [hb.1] at this
      exact this
    have okH : DOk p x y u (rehD ro D1) := rehD_ok ok1 hr few
    have sh1 : ShortM 6 D1 := fun d hd r hr m hm => by
      have := (((d0 d hd).2.2.2 r hr).2 m hm).2
      omega
    have tdR : TdOk p x y u (qsOf u (reoD x bo D1)) (numD (qsOf u (reoD x bo D1)) (reoD x bo D1)) := td_of (B := 1000000) okR p31 (by omega) (by omega) (by omega) (by omega) (by rw [reoD_len]; omega) (fun d hd => by obtain ⟨z, hz, rfl⟩ := List.mem_map.mp hd; exact (d0 z hz).2.1) (by decide) (by rw [reoD_len]; omega) (by decide) (reoD_short sh1)
    have tdH : TdOk p x y u (qsOf u (rehD ro D1)) (numD (qsOf u (rehD ro D1)) (rehD ro D1)) := td_of (B := 1000000) okH p31 (by omega) (by omega) (by omega) (by omega) (by rw [rehD_len]; omega) (fun d hd => by obtain ⟨z, hz, rfl⟩ := List.mem_map.mp hd; exact (d0 z hz).2.1) (by decide) (by rw [rehD_len]; omega) (by decide) (rehD_short sh1)
    have d30 : ∀ D : DrQ, DOk p x y u D → ∀ d ∈ D, d.2.length ≤ 30 := fun D o d hd => by
      have := (o.2.2.2.2.2.2.2.2.2.2 d hd).2.1
      omega
    refine ⟨p, x, y, u, _, rfl, ⟨(plan_ok okR).2.2.2.1, by omega, by rw [reoD_len]; omega, d30 _ okR, tdR⟩, ?_⟩
    refine ⟨D1, ro, rfl, ⟨by rw [hr.1]; omega, by omega, fun d hd => ⟨by have := d30 _ ok1 d hd; omega, fun r hr' k hk => by rw [((d0 d hd).2.2.2 r hr').1]; exact hr.2.2 k hk⟩⟩, ?_⟩
    refine ⟨p, x, y, u, _, rfl, ⟨(plan_ok okH).2.2.2.1, by omega, by rw [rehD_len]; omega, d30 _ okH, tdH⟩, ?_⟩
    have fewR : (reoD x bo D1).length * y < 64 := by rw [reoD_len]; exact few
    have fewH : (rehD ro D1).length * y < 64 := by rw [rehD_len]; exact few
    refine forL_inv (fun i ρ M' => HM M' [] ∧ ∃ v14 v15 v16 v17 v18 v19 : Option W, ρ = [some (.d (.fl (ns.map D.int))), some (.p 0), some (.d (.int p)), some (.d (.int x)), some (.d (.int y)), some (.d (.int u)), some (.d (.lst (D1.map (wE false)))), some (.d (.str (tdS p x y u (qsOf u D1) (numD (qsOf u D1) D1)))), some (.d (plE C p x y qs ns1)), some (.d (.str (tdS p x y u qs ns1))), some (.d (.lst (ordD bo))), some (.d (.lst (ordD ro))), some (.d (.str (tdS p x y u (qsOf u (reoD x bo D1)) (numD (qsOf u (reoD x bo D1)) (reoD x bo D1))))), some (.d (.str (tdS p x y u (qsOf u (rehD ro D1)) (numD (qsOf u (rehD ro D1)) (rehD ro D1))))), v14, v15, v16, v17, v18, v19]) ⟨hm6, _, _, _, _, _, _, rfl⟩ (fun _ _ _ _ => trivial) (fun i d ρ M' hd hI k1 FK1 => ?_) (fun ρ M' hI => ?_)
    · obtain ⟨hm7, v14, v15, v16, v17, v18, v19, rfl⟩ := hI
      obtain ⟨lti, rfl⟩ := rng_at hd
      simp
      refine ⟨line_ge (by decide), sqE (decide (i = 0)) (ordD bo), by rcases (show i = 0 ∨ i = 1 by omega) with rfl | rfl <;> rfl, ?_⟩
      refine reo_call _ PG few (by omega) (by omega) hb ?_
      refine isP_ok okR tdR rfl (ifT ?_)
      refine ⟨y, bo, rfl, ⟨hb, by omega⟩, ?_⟩
      refine reo_call true (PlG.of okR) fewR (by omega) (by omega) (bck_orr hb) ?_
      rw [reoD_back ok1 hb]
      refine isP_ok ok1 td1 rfl (ifT ?_)
      refine ⟨line_ge (by decide), sqE (decide (i = 1)) (ordD ro), by rcases (show i = 0 ∨ i = 1 by omega) with rfl | rfl <;> rfl, ?_⟩
      refine rho_call _ PG few (by omega) (by omega) hr ?_
      refine isP_ok okH tdH rfl (ifT ?_)
      refine ⟨u, ro, rfl, ⟨hr, by omega⟩, ?_⟩
      refine ⟨_, rfl, trivial, ?_⟩
      refine rho_call false (PlG.of okH) fewH (by omega) (by omega) (bck_orr hr) ?_
      rw [rehD_back hr wd1]
      refine isP_ok ok1 td1 rfl (ifT ?_)
      refine ⟨_, fList_sq, trivial, neL ?_⟩
      refine ⟨_, fList_sq, trivial, neL ?_⟩
      refine isP_g tdq PG.len rfl (ifT ?_)
      exact FK1.nx _ _ ⟨hm7, _, _, _, _, _, _, rfl⟩
    · obtain ⟨hm7, v14, v15, v16, v17, v18, v19, rfl⟩ := hI
      refine forL_inv (fun i ρ M' => HM M' [] ∧ ∃ v14 v15 v16 v17 v18 v19 : Option W, ρ = [some (.d (.fl (ns.map D.int))), some (.p 0), some (.d (.int p)), some (.d (.int x)), some (.d (.int y)), some (.d (.int u)), some (.d (.lst (D1.map (wE false)))), some (.d (.str (tdS p x y u (qsOf u D1) (numD (qsOf u D1) D1)))), some (.d (plE C p x y qs ns1)), some (.d (.str (tdS p x y u qs ns1))), some (.d (.lst (ordD bo))), some (.d (.lst (ordD ro))), some (.d (.str (tdS p x y u (qsOf u (reoD x bo D1)) (numD (qsOf u (reoD x bo D1)) (reoD x bo D1))))), some (.d (.str (tdS p x y u (qsOf u (rehD ro D1)) (numD (qsOf u (rehD ro D1)) (rehD ro D1))))), v14, v15, v16, v17, v18, v19]) ⟨hm7, v14, v15, v16, v17, v18, v19, rfl⟩ (fun _ _ _ _ => trivial) (fun i d ρ M' hd hI k1 FK1 => ?_) (fun ρ M' hI => ?_)
      · obtain ⟨hm8, v14, v15, v16, v17, v18, v19, rfl⟩ := hI
        obtain ⟨lti, rfl⟩ := rng_at hd
        simp
        refine ⟨y, [], rfl, ⟨hm8, by omega, by omega⟩, fun M9 w0 hm9 ow0 iw0 sw0 => ?_⟩
        have ⟨pw0, ep0, s10, s20, s30, s40⟩ := sw0
        have er0 : repS w0 = pw0.shown := by rw [repS, ep0]
        refine ⟨w0, rfl, pw0, ep0, s10, s20, s30, line_ge (by omega), num_len s40, ?_⟩
        refine ⟨p, x, y, u, qs, ns1, D1, 0, w0, rfl, ⟨⟨PG, ow0, few, by omega, by omega⟩, sw0, fun _ => iw0, fun z => absurd rfl z⟩, ?_⟩
        rw [er0]
        refine neF ?_
        refine ⟨u, [], rfl, ⟨hm9, by omega, by omega⟩, fun M10 w1 hm10 ow1 iw1 sw1 => ?_⟩
        have ⟨pw1, ep1, s11, s21, s31, s41⟩ := sw1
        have er1 : repS w1 = pw1.shown := by rw [repS, ep1]
        refine ⟨w1, rfl, pw1, ep1, s11, s21, s31, line_ge (by omega), num_len s41, ?_⟩
        refine ⟨p, x, y, u, qs, ns1, D1, 1, w1, rfl, ⟨⟨PG, ow1, few, by omega, by omega⟩, sw1, fun z => absurd z (by decide), fun _ => iw1⟩, ?_⟩
        rw [er1]
        refine neF ?_
        exact FK1.nx _ _ ⟨hm10, some (.d (.int i)), v15, v16, v17, _, _, rfl⟩
      · exact finHn (hk _)
end
end PU

set_option maxRecDepth 100000
set_option maxHeartbeats 8000000
set_option synthInstance.maxHeartbeats 4000000
set_option synthInstance.maxSize 4000
namespace PU
open PySem PySem.Spec PyProof.Rows L2 GS WU
section
variable {P : Program} {w : World} {K : PySem.W.Frag} {mg : Str → Option Value} {base : Heap}
theorem scIsInt_ok_CI : FnScope ["value"] ["value"] (defScope sIsInt) := ⟨rfl, rfl, rfl, by decide +kernel, rfl, by decide +kernel, by decide +kernel⟩
theorem ok_CI {f : Addr} {fd : FuncData} (F : FnS K "is_integer" sIsInt f fd) (B : BltU mg) : FnOk P w K mg base (L2.CX P w) 1 f fd ["value"] (spP K cInt) := by
  refine fun_okP F scIsInt_ok_CI (fun ws M k e h => ?_) (fun cdv A outer s H E hr => ?_)
  · obtain ⟨z, rfl, _⟩ := h
    rfl
  · have nd := scIsInt_ok_CI.nd
    have hu := hu64 hr
    have hu5 := hu65 hr
    refine ⟨_, _, (pss_one (ps_ret (pe_and (pe_callB (cr_isiP (K := K)) (by rfl) B.isi (by decide +kernel) (pa_cons (pv 0) (pa_cons (pe_bltn (v := .ty "int") (by rfl) B.int (by decide +kernel) rfl) pa_nil))) (pe_one (pe_notP (K := K) (pe_callB (cr_isiP (K := K)) (by rfl) B.isi (by decide +kernel) (pa_cons (pv 0) (pa_cons (pe_bltn (v := .ty "bool") (by rfl) B.bool (by decide +kernel) rfl) pa_nil)))))))), inferInstance, ?_⟩
    clear F hr nd hu hu5
    intro ws M k e h
    obtain ⟨z, rfl, hz, hk⟩ := h
    try dsimp only at hz
    try dsimp only at hk
    simp
    exact fin0 hk
theorem scIsNum_ok_CN : FnScope ["value"] ["value"] (defScope sIsNum) := ⟨rfl, rfl, rfl, by decide +kernel, rfl, by decide +kernel, by decide +kernel⟩
theorem ok_CN {f : Addr} {fd : FuncData} (F : FnS K "is_number" sIsNum f fd) (B : BltU mg) (CI : Cal P w K mg base 1 "is_integer" fCI fdCI ["value"] (spP K cInt)) : FnOk P w K mg base (L2.CX P w) 2 f fd ["value"] (spP K cNum) := by
  refine fun_okP F scIsNum_ok_CN (fun ws M k e h => ?_) (fun cdv A outer s H E hr => ?_)
  · obtain ⟨z, rfl, _⟩ := h
    rfl
  · have nd := scIsNum_ok_CN.nd
    have hu := hu64 hr
    have hu5 := hu65 hr
    refine ⟨_, _, (pss_one (ps_ret (pe_and (pe_calS (W := WD0 E) CI (hr.mono (by decide)) (pa_cons (pv 0) pa_nil) (takes_of rfl rfl rfl rfl)) (pe_one (pe_cmpR (op_geP (K := K)) (pv 0) pe_int (nomark _)))))), inferInstance, ?_⟩
    clear F hr nd hu hu5
    intro ws M k e h
    obtain ⟨z, rfl, hz, hk⟩ := h
    try dsimp only at hz
    try dsimp only at hk
    simp
    refine ⟨z, rfl, trivial, ?_⟩
    simp
    exact fin0 hk
theorem scIsBel_ok_CB : FnScope ["value", "limit"] ["value", "limit"] (defScope sIsBel) := ⟨rfl, rfl, rfl, by decide +kernel, rfl, by decide +kernel, by decide +kernel⟩
theorem ok_CB {f : Addr} {fd : FuncData} (F : FnS K "is_below" sIsBel f fd) (B : BltU mg) (CN : Cal P w K mg base 2 "is_number" fCN fdCN ["value"] (spP K cNum)) : FnOk P w K mg base (L2.CX P w) 3 f fd ["value", "limit"] (spP K cBel) := by
  refine fun_okP F scIsBel_ok_CB (fun ws M k e h => ?_) (fun cdv A outer s H E hr => ?_)
  · obtain ⟨z, rfl, _⟩ := h
    rfl
  · have nd := scIsBel_ok_CB.nd
    have hu := hu64 hr
    have hu5 := hu65 hr
    refine ⟨_, _, (pss_one (ps_ret (pe_and (pe_calS (W := WD0 E) CN (hr.mono (by decide)) (pa_cons (pv 0) pa_nil) (takes_of rfl rfl rfl rfl)) (pe_one (pe_cmpR (op_ltP (K := K) hu) (pv 0) (pv 1) (nomark _)))))), inferInstance, ?_⟩
    clear F hr nd hu hu5
    intro ws M k e h
    obtain ⟨z, rfl, hz, hk⟩ := h
    obtain ⟨i, j⟩ := z
    try dsimp only at hz
    try dsimp only at hk
    simp
    refine ⟨i, rfl, trivial, ?_⟩
    by_cases q : 0 ≤ i
    · simp [q] at hk ⊢
      exact fin0 hk
    · simp [q] at hk ⊢
      exact fin0 hk
theorem scis_positive_ok_CP : FnScope ["value"] ["value"] (defScope s_is_positive) := ⟨rfl, rfl, rfl, by decide +kernel, rfl, by decide +kernel, by decide +kernel⟩
theorem ok_CP {f : Addr} {fd : FuncData} (F : FnS K "is_positive" s_is_positive f fd) (B : BltU mg) (CI : Cal P w K mg base 1 "is_integer" fCI fdCI ["value"] (spP K cInt)) : FnOk P w K mg base (L2.CX P w) 2 f fd ["value"] (spP K cPos) := by
  refine fun_okP F scis_positive_ok_CP (fun ws M k e h => ?_) (fun cdv A outer s H E hr => ?_)
  · obtain ⟨z, rfl, _⟩ := h
    rfl
  · have nd := scis_positive_ok_CP.nd
    have hu := hu64 hr
    have hu5 := hu65 hr
    refine ⟨_, _, (pss_one (ps_ret (pe_and (pe_calS (W := WD0 E) CI (hr.mono (by decide)) (pa_cons (pv 0) pa_nil) (takes_of rfl rfl rfl rfl)) (pe_one (pe_cmpR (op_gtP (K := K)) (pv 0) pe_int (nomark _)))))), inferInstance, ?_⟩
    clear F hr nd hu hu5
    intro ws M k e h
    obtain ⟨z, rfl, hz, hk⟩ := h
    try dsimp only at hz
    try dsimp only at hk
    simp
    refine ⟨z, rfl, trivial, ?_⟩
    simp
    exact fin0 hk
theorem scSeq_ok_CS : FnScope ["value"] ["value"] (defScope sSeq) := ⟨rfl, rfl, rfl, by decide +kernel, rfl, by decide +kernel, by decide +kernel⟩
theorem ok_CS {f : Addr} {fd : FuncData} (F : FnS K "is_sequence" sSeq f fd) (B : BltU mg) : FnOk P w K mg base (L2.CX P w) 1 f fd ["value"] (spP K cSeq) := by
  refine fun_okP F scSeq_ok_CS (fun ws M k e h => ?_) (fun cdv A outer s H E hr => ?_)
  · obtain ⟨z, rfl, _⟩ := h
    rfl
  · have nd := scSeq_ok_CS.nd
    have hu := hu64 hr
    have hu5 := hu65 hr
    refine ⟨_, _, (pss_one (ps_ret (pe_callB (call_isiTP (K := K)) (by rfl) B.isi (by decide +kernel) (pa_cons (pv 0) (pa_cons (pe_tup (pa_cons (pe_bltn (v := .ty "list") (by rfl) B.lst (by decide +kernel) rfl) (pa_cons (pe_bltn (v := .ty "tuple") (by rfl) B.tuple (by decide +kernel) rfl) pa_nil))) pa_nil))))), inferInstance, ?_⟩
    clear F hr nd hu hu5
    intro ws M k e h
    obtain ⟨z, rfl, hz, hk⟩ := h
    obtain ⟨b, xs⟩ := z
    try dsimp only at hz
    try dsimp only at hk
    cases b <;> (simp; exact fin0 hk)
theorem scLets_ok_CL : FnScope ["p", "count", "value", "letter"] ["p", "count", "value"] (defScope sLets) := ⟨rfl, rfl, rfl, by decide +kernel, rfl, by decide +kernel, by decide +kernel⟩
theorem ok_CL {f : Addr} {fd : FuncData} (F : FnS K "are_letters" sLets f fd) (B : BltU mg) (CS : Cal P w K mg base 1 "is_sequence" fCS fdCS ["value"] (spP K cSeq)) (CB : Cal P w K mg base 3 "is_below" fCB fdCB ["value", "limit"] (spP K cBel)) : FnOk P w K mg base (L2.CX P w) 4 f fd ["p", "count", "value"] (spP K cLets) := by
  refine fun_okP F scLets_ok_CL (fun ws M k e h => ?_) (fun cdv A outer s H E hr => ?_)
  · obtain ⟨z, rfl, _⟩ := h
    rfl
  · have nd := scLets_ok_CL.nd
    have hu := hu64 hr
    have hu5 := hu65 hr
    refine ⟨_, _, (pss_one (ps_ret (pe_and (pe_calS (W := WD0 E) CS (hr.mono (by decide)) (pa_cons (pv 2) pa_nil) (takes_of rfl rfl rfl rfl)) (pe_and (pe_cmpR (op_eqP (K := K) hu) (pe_callB (cr_lenP (K := K)) (by rfl) B.len (by decide +kernel) (pa_cons (pv 2) pa_nil)) (pv 1) (nomark _)) (pe_one (pe_callB (cr_allP (K := K) rfl) (by rfl) B.all (by decide +kernel) (pa_cons (pe_lc (own := [("letter", 3)]) (g := gName 3) (by rfl) nd (pi_seqB (K := K) (pv 2)) (blkOk_by (own := [("letter", 3)]) (N := ["p", "count", "value", "letter"]) (sc := defScope sLets) (by decide +kernel)) (fun _ _ _ _ _ => (pg_name (i := 3) nd rfl (Or.inl rfl))) (fun _ _ _ _ _ => pts_nil) (fun _ _ _ _ _ => (pe_cal CB (hr.mono (by decide)) (pa_cons (pv 3) (pa_cons (pv 0) pa_nil)) passU))) pa_nil))))))), inferInstance, ?_⟩
    clear F hr nd hu hu5
    intro ws M k e h
    obtain ⟨z, rfl, hz, hk⟩ := h
    obtain ⟨p, n, b, r⟩ := z
    try dsimp only at hz
    try dsimp only at hk
    obtain ⟨⟨hl, hr⟩, hn⟩ := hz
    simp
    refine ⟨(b, r.map D.int), rfl, trivial, ?_⟩
    simp [hl]
    refine lcL_mapIx r D.int (fun _ => .bl true) (line_ge (by omega)) trivial (fun x hx Q hq => ?_) ?_
    · simp
      obtain ⟨h1, h2⟩ := hr x hx
      refine ⟨(x, p), rfl, trivial, _, rfl, ?_⟩
      simpa [h1, h2] using hq
    · simp
      simpa using fin0 hk
theorem primes_le {p : Int} (h : p ∈ primes) : 2 ≤ p ∧ p ≤ 31 := by
  have := (by decide : ∀ q ∈ primes, 2 ≤ q ∧ q ≤ 31)
  exact this p h
theorem scCheck_ok_CC : FnScope ["p"] ["p"] (defScope sCheck) := ⟨rfl, rfl, rfl, by decide +kernel, rfl, by decide +kernel, by decide +kernel⟩
theorem ok_CC {f : Addr} {fd : FuncData} (F : FnS K "check_field" sCheck f fd) (B : BltU mg) (CF : Cal P w K mg base 2 "is_field" fCF fdCF ["p"] (spP K cFld)) : FnOk P w K mg base (L2.CX P w) 3 f fd ["p"] (spP K cChk) := by
  refine fun_okP F scCheck_ok_CC (fun ws M k e h => ?_) (fun cdv A outer s H E hr => ?_)
  · obtain ⟨z, rfl, _⟩ := h
    rfl
  · have nd := scCheck_ok_CC.nd
    have hu := hu64 hr
    have hu5 := hu65 hr
    refine ⟨_, _, (pss_one (ps_if (pt_not (pt_truP (K := K) (pe_calS (W := WD0 E) CF (hr.mono (by decide)) (pa_cons (pv 0) pa_nil) (takes_of rfl rfl rfl rfl)))) (pss_one ps_never) pss_nil)), inferInstance, ?_⟩
    clear F hr nd hu hu5
    intro ws M k e h
    obtain ⟨z, rfl, hz, hk⟩ := h
    try dsimp only at hz
    try dsimp only at hk
    simp
    refine ⟨z, rfl, hz, ?_⟩
    simp
    exact fin0 hk
theorem scis_row_ok_CRow : FnScope ["value", "p", "columns"] ["value", "p", "columns"] (defScope s_is_row) := ⟨rfl, rfl, rfl, by decide +kernel, rfl, by decide +kernel, by decide +kernel⟩
theorem ok_CRow {f : Addr} {fd : FuncData} (F : FnS K "_is_row" s_is_row f fd) (B : BltU mg) (CL : Cal P w K mg base 4 "are_letters" fCL fdCL ["p", "count", "value"] (spP K cLets)) : FnOk P w K mg base (L2.CX P w) 5 f fd ["value", "p", "columns"] (spP K cRow) := by
  refine fun_okP F scis_row_ok_CRow (fun ws M k e h => ?_) (fun cdv A outer s H E hr => ?_)
  · obtain ⟨z, rfl, _⟩ := h
    rfl
  · have nd := scis_row_ok_CRow.nd
    have hu := hu64 hr
    have hu5 := hu65 hr
    refine ⟨_, _, (pss_one (ps_ret (pe_and (pe_callB (cr_isiP (K := K)) (by rfl) B.isi (by decide +kernel) (pa_cons (pv 0) (pa_cons (pe_bltn (v := .ty "tuple") (by rfl) B.tuple (by decide +kernel) rfl) pa_nil))) (pe_one (pe_calS (W := WD0 E) CL (hr.mono (by decide)) (pa_cons (pv 1) (pa_cons (pv 2) (pa_cons (pv 0) pa_nil))) (takes_of rfl rfl rfl rfl)))))), inferInstance, ?_⟩
    clear F hr nd hu hu5
    intro ws M k e h
    obtain ⟨z, rfl, hz, hk⟩ := h
    obtain ⟨p, n, r⟩ := z
    try dsimp only at hz
    try dsimp only at hk
    simp
    exact ⟨(p, n, false, r), rfl, hz, fin0 hk⟩
theorem scis_matrix_ok_CM : FnScope ["value", "p", "columns", "row"] ["value", "p", "columns"] (defScope s_is_matrix) := ⟨rfl, rfl, rfl, by decide +kernel, rfl, by decide +kernel, by decide +kernel⟩
theorem ok_CM {f : Addr} {fd : FuncData} (F : FnS K "is_matrix" s_is_matrix f fd) (B : BltU mg) (CRow : Cal P w K mg base 5 "_is_row" fCRow fdCRow ["value", "p", "columns"] (spP K cRow)) : FnOk P w K mg base (L2.CX P w) 6 f fd ["value", "p", "columns"] (spP K cMat) := by
  refine fun_okP F scis_matrix_ok_CM (fun ws M k e h => ?_) (fun cdv A outer s H E hr => ?_)
  · obtain ⟨z, rfl, _⟩ := h
    rfl
  · have nd := scis_matrix_ok_CM.nd
    have hu := hu64 hr
    have hu5 := hu65 hr
    refine ⟨_, _, (pss_one (ps_ret (pe_and (pe_callB (cr_isiP (K := K)) (by rfl) B.isi (by decide +kernel) (pa_cons (pv 0) (pa_cons (pe_bltn (v := .ty "tuple") (by rfl) B.tuple (by decide +kernel) rfl) pa_nil))) (pe_one (pe_callB (cr_allP (K := K) rfl) (by rfl) B.all (by decide +kernel) (pa_cons (pe_lc (own := [("row", 3)]) (g := gName 3) (by rfl) nd (pi_seqB (K := K) (pv 0)) (blkOk_by (own := [("row", 3)]) (N := ["value", "p", "columns", "row"]) (sc := defScope s_is_matrix) (by decide +kernel)) (fun _ _ _ _ _ => (pg_name (i := 3) nd rfl (Or.inl rfl))) (fun _ _ _ _ _ => pts_nil) (fun _ _ _ _ _ => (pe_cal CRow (hr.mono (by decide)) (pa_cons (pv 3) (pa_cons (pv 1) (pa_cons (pv 2) pa_nil))) passU))) pa_nil)))))), inferInstance, ?_⟩
    clear F hr nd hu hu5
    intro ws M k e h
    obtain ⟨z, rfl, hz, hk⟩ := h
    obtain ⟨p, n, m⟩ := z
    try dsimp only at hz
    try dsimp only at hk
    obtain ⟨⟨hl, hm⟩, hn⟩ := hz
    simp
    refine lcL_mapIx m tI (fun _ => .bl true) (line_ge (by omega)) trivial (fun r hr Q hq => ?_) ?_
    · simp
      exact ⟨(p, n, r), rfl, ⟨hm r hr, hn⟩, _, rfl, hq⟩
    · simp
      simpa using fin0 hk
theorem scis_rising_ok_CRi : FnScope ["numbers", "one", "other"] ["numbers"] (defScope s_is_rising) := ⟨rfl, rfl, rfl, by decide +kernel, rfl, by decide +kernel, by decide +kernel⟩
theorem ok_CRi {f : Addr} {fd : FuncData} (F : FnS K "is_rising" s_is_rising f fd) (B : BltU mg) : FnOk P w K mg base (L2.CX P w) 1 f fd ["numbers"] (spP K cRis) := by
  refine fun_okP F scis_rising_ok_CRi (fun ws M k e h => ?_) (fun cdv A outer s H E hr => ?_)
  · obtain ⟨z, rfl, _⟩ := h
    rfl
  · have nd := scis_rising_ok_CRi.nd
    have hu := hu64 hr
    have hu5 := hu65 hr
    refine ⟨_, _, (pss_one (ps_ret (pe_callB (cr_allP (K := K) rfl) (by rfl) B.all (by decide +kernel) (pa_cons (pe_lc (own := [("one", 1), ("other", 2)]) (g := gTup K 2 (gCons (gName 1) (gCons (gName 2) gNil))) (by rfl) nd (pi_zip4K (K := K) (by rfl) B.zip (pa_cons (pv 0) (pa_cons (pe_slice (sl_P (K := K)) (pv 0) (po_some pe_int) po_none) pa_nil))) (blkOk_by (own := [("one", 1), ("other", 2)]) (N := ["numbers", "one", "other"]) (sc := defScope s_is_rising) (by decide +kernel)) (fun _ _ _ _ _ => (pg_tupP (K := K) (n := 2) (pg_tup rfl (pgs_cons (pg_name (i := 1) nd rfl (Or.inl rfl)) (pgs_cons (pg_name (i := 2) nd rfl (Or.inl rfl)) pgs_nil))))) (fun _ _ _ _ _ => pts_nil) (fun _ _ _ _ _ => (pe_cmpR (op_ltP (K := K) hu) (pv 1) (pv 2) (nomark _)))) pa_nil)))), inferInstance, ?_⟩
    clear F hr nd hu hu5
    intro ws M k e h
    obtain ⟨z, rfl, hz, hk⟩ := h
    try dsimp only at hz
    try dsimp only at hk
    obtain ⟨hr, hl⟩ := hz
    simp [cut_1]
    rw [← List.map_tail, zipD_map]
    refine lcL_mapIx (z.zip z.tail) _ (fun _ => .bl true) (line_ge (by rw [List.length_zip]; omega)) trivial (fun x hx Q hq => ?_) ?_
    · simp
      refine ⟨_, fLt_M, trivial, ?_⟩
      simpa [ris_pair hr x hx] using hq
    · simp
      simpa using fin0 hk
theorem scwidth_of_rows_ok_CW : FnScope ["rows"] ["rows"] (defScope s_width_of_rows) := ⟨rfl, rfl, rfl, by decide +kernel, rfl, by decide +kernel, by decide +kernel⟩
theorem ok_CW {f : Addr} {fd : FuncData} (F : FnS K "width_of_rows" s_width_of_rows f fd) (B : BltU mg) : FnOk P w K mg base (L2.CX P w) 1 f fd ["rows"] (spP K cWid) := by
  refine fun_okP F scwidth_of_rows_ok_CW (fun ws M k e h => ?_) (fun cdv A outer s H E hr => ?_)
  · obtain ⟨z, rfl, _⟩ := h
    rfl
  · have nd := scwidth_of_rows_ok_CW.nd
    have hu := hu64 hr
    have hu5 := hu65 hr
    refine ⟨_, _, (pss_cons (ps_if (PW.pt (pw_and (pt_truP (K := K) (pe_callB (cr_isiP (K := K)) (by rfl) B.isi (by decide +kernel) (pa_cons (pv 0) (pa_cons (pe_bltn (v := .ty "tuple") (by rfl) B.tuple (by decide +kernel) rfl) pa_nil)))) (pw_and (pt_cmpR (op_gtP (K := K)) (pe_callB (cr_lenP (K := K)) (by rfl) B.len (by decide +kernel) (pa_cons (pv 0) pa_nil)) pe_int (nomark _)) (pw_and1 (pt_truP (K := K) (pe_callB (cr_isiP (K := K)) (by rfl) B.isi (by decide +kernel) (pa_cons (pe_ix (ix_P (K := K)) (pv 0) pe_int (fun _ _ => rfl)) (pa_cons (pe_bltn (v := .ty "tuple") (by rfl) B.tuple (by decide +kernel) rfl) pa_nil)))))))) (pss_one (ps_ret (pe_callB (cr_lenP (K := K)) (by rfl) B.len (by decide +kernel) (pa_cons (pe_ix (ix_P (K := K)) (pv 0) pe_int (fun _ _ => rfl)) pa_nil)))) pss_nil)
      (pss_one (ps_ret pe_int))), inferInstance, ?_⟩
    clear F hr nd hu hu5
    intro ws M k e h
    obtain ⟨z, rfl, hz, hk⟩ := h
    try dsimp only at hz
    try dsimp only at hk
    cases z with
    | nil =>
      simp
      exact fin0 hk
    | cons r t =>
      simp
      simpa [wid] using fin0 hk
theorem sccheck_matrix_ok_CCM : FnScope ["p", "rows"] ["p", "rows"] (defScope s_check_matrix) := ⟨rfl, rfl, rfl, by decide +kernel, rfl, by decide +kernel, by decide +kernel⟩
theorem ok_CCM {f : Addr} {fd : FuncData} (F : FnS K "check_matrix" s_check_matrix f fd) (B : BltU mg) (CC : Cal P w K mg base 3 "check_field" fCC fdCC ["p"] (spP K cChk)) (CM : Cal P w K mg base 6 "is_matrix" fCM fdCM ["value", "p", "columns"] (spP K cMat)) (CW : Cal P w K mg base 1 "width_of_rows" fCW fdCW ["rows"] (spP K cWid)) : FnOk P w K mg base (L2.CX P w) 7 f fd ["p", "rows"] (spP K cChkM) := by
  refine fun_okP F sccheck_matrix_ok_CCM (fun ws M k e h => ?_) (fun cdv A outer s H E hr => ?_)
  · obtain ⟨z, rfl, _⟩ := h
    rfl
  · have nd := sccheck_matrix_ok_CCM.nd
    have hu := hu64 hr
    have hu5 := hu65 hr
    refine ⟨_, _, (pss_cons (ps_expr (pe_calS (W := WD0 E) CC (hr.mono (by decide)) (pa_cons (pv 0) pa_nil) (takes_of rfl rfl rfl rfl)))
      (pss_one (ps_if (pt_not (pt_truP (K := K) (pe_calS (W := WD0 E) CM (hr.mono (by decide)) (pa_cons (pv 1) (pa_cons (pv 0) (pa_cons (pe_calS (W := WD0 E) CW (hr.mono (by decide)) (pa_cons (pv 1) pa_nil) (takes_of rfl rfl rfl rfl)) pa_nil))) (takes_of rfl rfl rfl rfl)))) (pss_one ps_never) pss_nil))), inferInstance, ?_⟩
    clear F hr nd hu hu5
    intro ws M k e h
    obtain ⟨z, rfl, hz, hk⟩ := h
    obtain ⟨p, m⟩ := z
    try dsimp only at hz
    try dsimp only at hk
    obtain ⟨hp, hm, hn⟩ := hz
    simp
    refine ⟨p, rfl, hp, m, rfl, trivial, (p, wid m, m), rfl, ⟨hm, hn⟩, ?_⟩
    simp
    exact fin0 hk
theorem scu_products_ok_CPr : FnScope ["p", "rows", "letters", "row", "a", "b"] ["p", "rows", "letters"] (defScope s_u_products) := ⟨rfl, rfl, rfl, by decide +kernel, rfl, by decide +kernel, by decide +kernel⟩
theorem ok_CPr {f : Addr} {fd : FuncData} (F : FnS K "_products" s_u_products f fd) (B : BltU mg) : FnOk P w K mg base (L2.CX P w) 1 f fd ["p", "rows", "letters"] (spP K cProd) := by
  refine fun_okP F scu_products_ok_CPr (fun ws M k e h => ?_) (fun cdv A outer s H E hr => ?_)
  · obtain ⟨z, rfl, _⟩ := h
    rfl
  · have nd := scu_products_ok_CPr.nd
    have hu := hu64 hr
    have hu5 := hu65 hr
    refine ⟨_, _, (pss_one (ps_ret (pe_callTy (cr_tupleP (K := K)) (by rfl) B.tuple (by decide +kernel) (pa_cons (pe_lc (own := [("row", 3)]) (g := gName 3) (by rfl) nd (pi_seqB (K := K) (pv 1)) (blkOk_by (own := [("row", 3)]) (N := ["p", "rows", "letters", "row", "a", "b"]) (sc := defScope s_u_products) (by decide +kernel)) (fun _ _ _ _ _ => (pg_name (i := 3) nd rfl (Or.inl rfl))) (fun _ _ _ _ _ => pts_nil) (fun _ _ _ _ _ => (pe_op (op_modP (K := K)) (pe_callB (cr_sumP (K := K) rfl) (by rfl) B.sum (by decide +kernel) (pa_cons (pe_lc (own := [("a", 4), ("b", 5)]) (g := gTup K 2 (gCons (gName 4) (gCons (gName 5) gNil))) (by rfl) nd (pi_zip4K (K := K) (by rfl) B.zip (pa_cons (pv 3) (pa_cons (pv 2) pa_nil))) (blkOk_by (own := [("a", 4), ("b", 5)]) (N := ["p", "rows", "letters", "row", "a", "b"]) (sc := relS (scAt s_u_products 0 [] 0 [1]) (defScope s_u_products)) (by decide +kernel)) (fun _ _ _ _ _ => (pg_tupP (K := K) (n := 2) (pg_tup rfl (pgs_cons (pg_name (i := 4) nd rfl (Or.inl rfl)) (pgs_cons (pg_name (i := 5) nd rfl (Or.inl rfl)) pgs_nil))))) (fun _ _ _ _ _ => pts_nil) (fun _ _ _ _ _ => (pe_op (op_mulP (K := K)) (pv 4) (pv 5)))) pa_nil)) (pv 0)))) pa_nil)))), inferInstance, ?_⟩
    clear F hr nd hu hu5
    intro ws M k e h
    obtain ⟨z, rfl, hz, hk⟩ := h
    obtain ⟨p, n, m, ls⟩ := z
    try dsimp only at hz
    try dsimp only at hk
    obtain ⟨hp, hm, hl, hn⟩ := hz
    obtain ⟨p1, p2⟩ := primes_le hp
    simp
    refine lcL_mapIx m tI (fun r => .int (((r.zip ls).map fun z => z.1 * z.2).sum % p)) (line_ge (by have := hm.1; omega)) trivial (fun r hr Q hq => ?_) ?_
    · simp [zipD_map]
      refine lcL_mapIx (r.zip ls) _ (fun z => .int (z.1 * z.2)) (line_ge (by have := (hm.2 r hr).1; rw [List.length_zip]; omega)) trivial (fun x hx Q hq => ?_) ?_
      · obtain ⟨h1, h2⟩ := List.of_mem_zip (show (x.1, x.2) ∈ r.zip ls from hx)
        have a := (hm.2 r hr).2 _ h1
        have b := hl.2 _ h2
        simp
        refine ⟨cmul_of (by omega) (by omega), hq⟩
      · simp
        exact ⟨by omega, hq⟩
    · unfold prodM tI at hk
      rw [List.map_map] at hk
      exact fin0 hk
theorem scproducts_ok_CPrs : FnScope ["p", "rows", "letters"] ["p", "rows", "letters"] (defScope s_products) := ⟨rfl, rfl, rfl, by decide +kernel, rfl, by decide +kernel, by decide +kernel⟩
theorem ok_CPrs {f : Addr} {fd : FuncData} (F : FnS K "products" s_products f fd) (B : BltU mg) (CCM : Cal P w K mg base 7 "check_matrix" fCCM fdCCM ["p", "rows"] (spP K cChkM)) (CPr : Cal P w K mg base 1 "_products" fCPr fdCPr ["p", "rows", "letters"] (spP K cProd)) : FnOk P w K mg base (L2.CX P w) 8 f fd ["p", "rows", "letters"] (spP K cProd) := by
  refine fun_okP F scproducts_ok_CPrs (fun ws M k e h => ?_) (fun cdv A outer s H E hr => ?_)
  · obtain ⟨z, rfl, _⟩ := h
    rfl
  · have nd := scproducts_ok_CPrs.nd
    have hu := hu64 hr
    have hu5 := hu65 hr
    refine ⟨_, _, (pss_cons (ps_expr (pe_calS (W := WD0 E) CCM (hr.mono (by decide)) (pa_cons (pv 0) (pa_cons (pv 1) pa_nil)) (takes_of rfl rfl rfl rfl)))
      (pss_one (ps_ret (pe_calS (W := WD0 E) CPr (hr.mono (by decide)) (pa_cons (pv 0) (pa_cons (pv 1) (pa_cons (pv 2) pa_nil))) (takes_of rfl rfl rfl rfl))))), inferInstance, ?_⟩
    clear F hr nd hu hu5
    intro ws M k e h
    obtain ⟨z, rfl, hz, hk⟩ := h
    obtain ⟨p, n, m, ls⟩ := z
    try dsimp only at hz
    try dsimp only at hk
    obtain ⟨hp, hm, hl, hn⟩ := hz
    simp
    refine ⟨(p, m), rfl, ⟨hp, hm.wid, ?_⟩, (p, n, m, ls), rfl, ⟨hp, hm, hl, hn⟩, fin0 hk⟩
    cases m with
    | nil => exact Nat.zero_le _
    | cons r t =>
      have := (hm.2 r (List.mem_cons_self ..)).1
      show r.length ≤ 1000
      omega
end
end PU

set_option maxRecDepth 100000
set_option maxHeartbeats 8000000
set_option synthInstance.maxHeartbeats 4000000
set_option synthInstance.maxSize 4000
namespace PU
open PySem PySem.Spec PyProof.Rows L2 GS WU
section
variable {P : Program} {w : World} {K : PySem.W.Frag} {mg : Str → Option Value} {base : Heap}
theorem scmembers_of_ok_CMe : FnScope ["value"] ["value"] (defScope s_members_of) := ⟨rfl, rfl, rfl, by decide +kernel, rfl, by decide +kernel, by decide +kernel⟩
theorem ok_CMe {f : Addr} {fd : FuncData} (F : FnS K "members_of" s_members_of f fd) (B : BltU mg) (CS : Cal P w K mg base 1 "is_sequence" fCS fdCS ["value"] (spP K cSeq)) : FnOk P w K mg base (L2.CX P w) 2 f fd ["value"] (spP K cMem) := by
  refine fun_okP F scmembers_of_ok_CMe (fun ws M k e h => ?_) (fun cdv A outer s H E hr => ?_)
  · obtain ⟨z, rfl, _⟩ := h
    rfl
  · have nd := scmembers_of_ok_CMe.nd
    have hu := hu64 hr
    have hu5 := hu65 hr
    refine ⟨_, _, (pss_one (ps_ret (pe_ifExp (PW.pt (pw_and (pt_truP (K := K) (pe_calS (W := WD0 E) CS (hr.mono (by decide)) (pa_cons (pv 0) pa_nil) (takes_of rfl rfl rfl rfl))) (pw_and1 (pt_cmpR (op_gtP (K := K)) (pe_callB (cr_lenP (K := K)) (by rfl) B.len (by decide +kernel) (pa_cons (pv 0) pa_nil)) pe_int (nomark _))))) (pe_callTy (cr_listP (K := K)) (by rfl) B.lst (by decide +kernel) (pa_cons (pv 0) pa_nil)) (pe_lst (pa_cons pe_non pa_nil))))), inferInstance, ?_⟩
    clear F hr nd hu hu5
    intro ws M k e h
    obtain ⟨z, rfl, hz, hk⟩ := h
    obtain ⟨b, xs⟩ := z
    try dsimp only at hz
    try dsimp only at hk
    have hp : 0 < xs.length := List.length_pos_iff.mpr hz
    simp
    refine ⟨(b, xs), rfl, trivial, ?_⟩
    simp [hp, hz]
    exact fin0 hk
theorem sccheck_places_ok_CPl : FnScope ["part", "rights"] ["part", "rights"] (defScope s_check_places) := ⟨rfl, rfl, rfl, by decide +kernel, rfl, by decide +kernel, by decide +kernel⟩
theorem ok_CPl {f : Addr} {fd : FuncData} (F : FnS K "check_places" s_check_places f fd) (B : BltU mg) : FnOk P w K mg base (L2.CX P w) 1 f fd ["part", "rights"] (spP K cPlc) := by
  refine fun_okP F sccheck_places_ok_CPl (fun ws M k e h => ?_) (fun cdv A outer s H E hr => ?_)
  · obtain ⟨z, rfl, _⟩ := h
    rfl
  · have nd := sccheck_places_ok_CPl.nd
    have hu := hu64 hr
    have hu5 := hu65 hr
    refine ⟨_, _, (pss_one (ps_if (pt_cmpR (op_inP (K := K) hu5) pe_bl (pv 1) rfl) (pss_one ps_never) pss_nil)), inferInstance, ?_⟩
    clear F hr nd hu hu5
    intro ws M k e h
    obtain ⟨z, rfl, hz, hk⟩ := h
    obtain ⟨part, ds⟩ := z
    try dsimp only at hz
    try dsimp only at hk
    obtain ⟨hl, hd⟩ := hz
    have e : ds = List.replicate ds.length (.bl true) := List.eq_replicate_iff.mpr ⟨rfl, hd⟩
    generalize ds.length = n at e hl
    subst e
    simp
    exact fin0 hk
theorem scis_framed_ok_CFr : FnScope ["value", "book_count", "house_count", "asks", "asked"] ["value", "book_count", "house_count"] (defScope s_is_framed) := ⟨rfl, rfl, rfl, by decide +kernel, rfl, by decide +kernel, by decide +kernel⟩
theorem ok_CFr {f : Addr} {fd : FuncData} (F : FnS K "_is_framed" s_is_framed f fd) (B : BltU mg) (CS : Cal P w K mg base 1 "is_sequence" fCS fdCS ["value"] (spP K cSeq)) (CP : Cal P w K mg base 2 "is_positive" fCP fdCP ["value"] (spP K cPos)) : FnOk P w K mg base (L2.CX P w) 3 f fd ["value", "book_count", "house_count"] (spP K cFrm) := by
  refine fun_okP F scis_framed_ok_CFr (fun ws M k e h => ?_) (fun cdv A outer s H E hr => ?_)
  · obtain ⟨z, rfl, _⟩ := h
    rfl
  · have nd := scis_framed_ok_CFr.nd
    have hu := hu64 hr
    have hu5 := hu65 hr
    refine ⟨_, _, (pss_cons (ps_if (PW.pt (pw_or (pt_not (pt_truP (K := K) (pe_calS (W := WD0 E) CS (hr.mono (by decide)) (pa_cons (pv 0) pa_nil) (takes_of rfl rfl rfl rfl)))) (pw_or (pt_cmpR (op_neP (K := K) hu) (pe_callB (cr_lenP (K := K)) (by rfl) B.len (by decide +kernel) (pa_cons (pv 0) pa_nil)) pe_int (nomark _)) (pw_or1 (pt_not (pt_truP (K := K) (pe_calS (W := WD0 E) CP (hr.mono (by decide)) (pa_cons (pe_ix (ix_P (K := K)) (pv 0) pe_int (fun _ _ => rfl)) pa_nil) (takes_of rfl rfl rfl rfl)))))))) (pss_one (ps_ret pe_bl)) pss_nil)
      (pss_cons (ps_set (i := 3) nd rfl (Or.inl rfl) (pe_ix (ix_P (K := K)) (pv 0) pe_int (fun _ _ => rfl)))
      (pss_cons (ps_if (PW.pt (pw_or (pt_not (pt_truP (K := K) (pe_calS (W := WD0 E) CS (hr.mono (by decide)) (pa_cons (pv 3) pa_nil) (takes_of rfl rfl rfl rfl)))) (pw_or1 (pt_cmpR (op_neP (K := K) hu) (pe_callB (cr_lenP (K := K)) (by rfl) B.len (by decide +kernel) (pa_cons (pv 3) pa_nil)) (pv 1) (nomark _))))) (pss_one (ps_ret pe_bl)) pss_nil)
      (pss_one (ps_ret (pe_callB (cr_allP (K := K) rfl) (by rfl) B.all (by decide +kernel) (pa_cons (pe_lc (own := [("asked", 4)]) (g := gName 4) (by rfl) nd (pi_seqB (K := K) (pv 3)) (blkOk_by (own := [("asked", 4)]) (N := ["value", "book_count", "house_count", "asks", "asked"]) (sc := defScope s_is_framed) (by decide +kernel)) (fun _ _ _ _ _ => (pg_name (i := 4) nd rfl (Or.inl rfl))) (fun _ _ _ _ _ => pts_nil) (fun _ _ _ _ _ => (pe_and (pe_cal CS (hr.mono (by decide)) (pa_cons (pv 4) pa_nil) passU) (pe_one (pe_cmpR (op_eqP (K := K) hu) (pe_callB (cr_lenP (K := K)) (by rfl) B.len (by decide +kernel) (pa_cons (pv 4) pa_nil)) (pv 2) (nomark _)))))) pa_nil))))))), inferInstance, ?_⟩
    clear F hr nd hu hu5
    intro ws M k e h
    obtain ⟨z, rfl, hz, hk⟩ := h
    obtain ⟨b, w, as, h⟩ := z
    try dsimp only at hz
    try dsimp only at hk
    obtain ⟨hw, hl, hr⟩ := hz
    simp
    refine ⟨(false, _), rfl, trivial, ?_⟩
    simp
    refine ⟨w, rfl, trivial, ?_⟩
    simp [hw]
    refine ⟨(b, _), rfl, trivial, ?_⟩
    simp
    refine lcL_mapIx as (sqE b) (fun _ => .bl true) (line_ge (by omega)) trivial (fun r hr' Q hq => ?_) ?_
    · simp
      refine ⟨(b, r), rfl, trivial, ?_⟩
      simpa [hr r hr'] using hq
    · simp
      simpa using fin0 hk
theorem scis_draw_ok_CDr : FnScope ["value", "book_count", "counts", "asked", "number", "count"] ["value", "book_count", "counts"] (defScope s_is_draw) := ⟨rfl, rfl, rfl, by decide +kernel, rfl, by decide +kernel, by decide +kernel⟩
theorem ok_CDr {f : Addr} {fd : FuncData} (F : FnS K "is_draw" s_is_draw f fd) (B : BltU mg) (CFr : Cal P w K mg base 3 "_is_framed" fCFr fdCFr ["value", "book_count", "house_count"] (spP K cFrm)) (CB : Cal P w K mg base 3 "is_below" fCB fdCB ["value", "limit"] (spP K cBel)) : FnOk P w K mg base (L2.CX P w) 4 f fd ["value", "book_count", "counts"] (spP K cDraw) := by
  refine fun_okP F scis_draw_ok_CDr (fun ws M k e h => ?_) (fun cdv A outer s H E hr => ?_)
  · obtain ⟨z, rfl, _⟩ := h
    rfl
  · have nd := scis_draw_ok_CDr.nd
    have hu := hu64 hr
    have hu5 := hu65 hr
    refine ⟨_, _, (pss_cons (ps_if (pt_not (pt_truP (K := K) (pe_calS (W := WD0 E) CFr (hr.mono (by decide)) (pa_cons (pv 0) (pa_cons (pv 1) (pa_cons (pe_callB (cr_lenP (K := K)) (by rfl) B.len (by decide +kernel) (pa_cons (pv 2) pa_nil)) pa_nil))) (takes_of rfl rfl rfl rfl)))) (pss_one (ps_ret pe_bl)) pss_nil)
      (pss_one (ps_ret (pe_callB (cr_allP (K := K) rfl) (by rfl) B.all (by decide +kernel) (pa_cons (pe_lc2 (own := [("asked", 3), ("number", 4), ("count", 5)]) (vs1 := [4, 5]) (g := gName 3) (g1 := gTup K 2 (gCons (gName 4) (gCons (gName 5) gNil))) (by rfl) nd (pi_seqB (K := K) (pe_ix (ix_P (K := K)) (pv 0) pe_int (fun _ _ => rfl))) (blkOk_by (own := [("asked", 3), ("number", 4), ("count", 5)]) (N := ["value", "book_count", "counts", "asked", "number", "count"]) (sc := defScope s_is_draw) (by decide +kernel)) (by decide) (fun _ _ _ _ _ => (pg_name (i := 3) nd rfl (Or.inl rfl))) (fun _ _ _ _ _ => pts_nil) (fun _ _ _ _ _ => (pi_zip4K (K := K) (by rfl) B.zip (pa_cons (pv 3) (pa_cons (pv 2) pa_nil)))) (fun _ _ _ _ _ => (pg_tupP (K := K) (n := 2) (pg_tup rfl (pgs_cons (pg_name (i := 4) nd rfl (Or.inl rfl)) (pgs_cons (pg_name (i := 5) nd rfl (Or.inl rfl)) pgs_nil))))) (fun _ _ _ _ _ => pts_nil) (fun _ _ _ _ _ => (pe_cal CB (hr.mono (by decide)) (pa_cons (pv 4) (pa_cons (pv 5) pa_nil)) passU))) pa_nil))))), inferInstance, ?_⟩
    clear F hr nd hu hu5
    intro ws M k e h
    obtain ⟨z, rfl, hz, hk⟩ := h
    obtain ⟨b, ⟨w, ns⟩, n, cs⟩ := z
    try dsimp only at hz
    try dsimp only at hk
    obtain ⟨hw, hn, hn2, hc, hr⟩ := hz
    simp
    refine ⟨(b, w, ns.map fun r => r.map D.int, cs.length), by simp [hn], ⟨hw, by simp; omega, fun r h => ?_⟩, ?_⟩
    · obtain ⟨r', h', rfl⟩ := List.mem_map.mp h
      rw [List.length_map]
      exact (hr r' h').1
    simp
    refine lcL2_flat (m := 100) _ (fun (r : List Int) => (r.zip cs).map fun _ => .bl true) trivial ns [] (line_ge (by simp; omega)) (fun r h => by rw [List.length_map, List.length_zip]; omega) (fun r h acc Q hl hq => ?_) ?_
    · simp [zipD_map]
      refine lcL_mapA _ _ trivial (r.zip cs) acc (by simpa using hl) (fun x hx Q hq => ?_) hq
      simp
      refine ⟨x, rfl, trivial, _, rfl, ?_⟩
      obtain ⟨i, hi⟩ := List.getElem?_of_mem hx
      obtain ⟨h1, h2⟩ := List.getElem?_zip_eq_some.mp hi
      obtain ⟨h3, h4⟩ := (hr r h).2 i x.1 x.2 h1 h2
      simpa [h3, h4] using hq
    · have e : ∀ l : List (List Int), ((l.flatMap fun (r : List Int) => (r.zip cs).map fun _ => D.bl true)) = ((l.flatMap fun (r : List Int) => (r.zip cs)).map fun _ => D.bl true) := fun l => by
        rw [List.map_flatMap]
      rw [List.nil_append, e]
      simp
      simpa using fin0 hk
theorem sckept_questions_ok_CKq : FnScope ["questions", "asked"] ["questions"] (defScope s_kept_questions) := ⟨rfl, rfl, rfl, by decide +kernel, rfl, by decide +kernel, by decide +kernel⟩
theorem ok_CKq {f : Addr} {fd : FuncData} (F : FnS K "kept_questions" s_kept_questions f fd) (B : BltU mg) : FnOk P w K mg base (L2.CX P w) 1 f fd ["questions"] (spP K cKq) := by
  refine fun_okP F sckept_questions_ok_CKq (fun ws M k e h => ?_) (fun cdv A outer s H E hr => ?_)
  · obtain ⟨z, rfl, _⟩ := h
    rfl
  · have nd := sckept_questions_ok_CKq.nd
    have hu := hu64 hr
    have hu5 := hu65 hr
    refine ⟨_, _, (pss_one (ps_ret (pe_callTy (cr_tupleP (K := K)) (by rfl) B.tuple (by decide +kernel) (pa_cons (pe_lc (own := [("asked", 1)]) (g := gName 1) (by rfl) nd (pi_seqB (K := K) (pv 0)) (blkOk_by (own := [("asked", 1)]) (N := ["questions", "asked"]) (sc := defScope s_kept_questions) (by decide +kernel)) (fun _ _ _ _ _ => (pg_name (i := 1) nd rfl (Or.inl rfl))) (fun _ _ _ _ _ => pts_nil) (fun _ _ _ _ _ => (pe_callTy (cr_tupleP (K := K)) (by rfl) B.tuple (by decide +kernel) (pa_cons (pv 1) pa_nil)))) pa_nil)))), inferInstance, ?_⟩
    clear F hr nd hu hu5
    intro ws M k e h
    obtain ⟨z, rfl, hz, hk⟩ := h
    try dsimp only at hz
    try dsimp only at hk
    simp
    refine lcL_mapIx z _ (fun q => sqE false (q.map tM)) (line_ge (by omega)) trivial (fun r hr Q hq => ?_) ?_
    · simp
      exact hq
    · exact fin0 (by simpa using hk)
theorem sckept_draws_ok_CKd : FnScope ["draws", "weight", "asks", "asked"] ["draws"] (defScope s_kept_draws) := ⟨rfl, rfl, rfl, by decide +kernel, rfl, by decide +kernel, by decide +kernel⟩
theorem ok_CKd {f : Addr} {fd : FuncData} (F : FnS K "kept_draws" s_kept_draws f fd) (B : BltU mg) : FnOk P w K mg base (L2.CX P w) 1 f fd ["draws"] (spP K cKd) := by
  refine fun_okP F sckept_draws_ok_CKd (fun ws M k e h => ?_) (fun cdv A outer s H E hr => ?_)
  · obtain ⟨z, rfl, _⟩ := h
    rfl
  · have nd := sckept_draws_ok_CKd.nd
    have hu := hu64 hr
    have hu5 := hu65 hr
    refine ⟨_, _, (pss_one (ps_ret (pe_callTy (cr_tupleP (K := K)) (by rfl) B.tuple (by decide +kernel) (pa_cons (pe_lc (own := [("weight", 1), ("asks", 2)]) (g := gTup K 2 (gCons (gName 1) (gCons (gName 2) gNil))) (by rfl) nd (pi_seqB (K := K) (pv 0)) (blkOk_by (own := [("weight", 1), ("asks", 2)]) (N := ["draws", "weight", "asks", "asked"]) (sc := defScope s_kept_draws) (by decide +kernel)) (fun _ _ _ _ _ => (pg_tupP (K := K) (n := 2) (pg_tup rfl (pgs_cons (pg_name (i := 1) nd rfl (Or.inl rfl)) (pgs_cons (pg_name (i := 2) nd rfl (Or.inl rfl)) pgs_nil))))) (fun _ _ _ _ _ => pts_nil) (fun _ _ _ _ _ => (pe_tup (pa_cons (pv 1) (pa_cons (pe_callTy (cr_tupleP (K := K)) (by rfl) B.tuple (by decide +kernel) (pa_cons (pe_lc (own := [("asked", 3)]) (g := gName 3) (by rfl) nd (pi_seqB (K := K) (pv 2)) (blkOk_by (own := [("asked", 3)]) (N := ["draws", "weight", "asks", "asked"]) (sc := relS (scAt s_kept_draws 0 [] 0 [1]) (defScope s_kept_draws)) (by decide +kernel)) (fun _ _ _ _ _ => (pg_name (i := 3) nd rfl (Or.inl rfl))) (fun _ _ _ _ _ => pts_nil) (fun _ _ _ _ _ => (pe_callTy (cr_tupleP (K := K)) (by rfl) B.tuple (by decide +kernel) (pa_cons (pv 3) pa_nil)))) pa_nil)) pa_nil))))) pa_nil)))), inferInstance, ?_⟩
    clear F hr nd hu hu5
    intro ws M k e h
    obtain ⟨z, rfl, hz, hk⟩ := h
    try dsimp only at hz
    try dsimp only at hk
    obtain ⟨hl, hr⟩ := hz
    simp
    refine lcL_mapIx z _ (nE false) (line_ge (by omega)) trivial (fun d hd Q hq => ?_) ?_
    · simp
      refine lcL_mapIx d.2 _ (fun r => sqE false (r.map D.int)) (line_ge (by have := hr d hd; omega)) trivial (fun r hr' Q hq => ?_) ?_
      · simp
        exact hq
      · rw [nE_eq] at hq
        exact ⟨line_ge (by decide), hq⟩
    · exact fin0 (by simpa using hk)
theorem scweight_of_ok_CWt : FnScope ["draws", "weight", "_"] ["draws"] (defScope s_weight_of) := ⟨rfl, rfl, rfl, by decide +kernel, rfl, by decide +kernel, by decide +kernel⟩
theorem ok_CWt {f : Addr} {fd : FuncData} (F : FnS K "weight_of" s_weight_of f fd) (B : BltU mg) : FnOk P w K mg base (L2.CX P w) 1 f fd ["draws"] (spP K cWt) := by
  refine fun_okP F scweight_of_ok_CWt (fun ws M k e h => ?_) (fun cdv A outer s H E hr => ?_)
  · obtain ⟨z, rfl, _⟩ := h
    rfl
  · have nd := scweight_of_ok_CWt.nd
    have hu := hu64 hr
    have hu5 := hu65 hr
    refine ⟨_, _, (pss_one (ps_ret (pe_callB (cr_sumP (K := K) rfl) (by rfl) B.sum (by decide +kernel) (pa_cons (pe_lc (own := [("weight", 1), ("_", 2)]) (g := gTup K 2 (gCons (gName 1) (gCons (gName 2) gNil))) (by rfl) nd (pi_seqB (K := K) (pv 0)) (blkOk_by (own := [("weight", 1), ("_", 2)]) (N := ["draws", "weight", "_"]) (sc := defScope s_weight_of) (by decide +kernel)) (fun _ _ _ _ _ => (pg_tupP (K := K) (n := 2) (pg_tup rfl (pgs_cons (pg_name (i := 1) nd rfl (Or.inl rfl)) (pgs_cons (pg_name (i := 2) nd rfl (Or.inl rfl)) pgs_nil))))) (fun _ _ _ _ _ => pts_nil) (fun _ _ _ _ _ => (pv 1))) pa_nil)))), inferInstance, ?_⟩
    clear F hr nd hu hu5
    intro ws M k e h
    obtain ⟨z, rfl, hz, hk⟩ := h
    try dsimp only at hz
    try dsimp only at hk
    simp
    refine lcL_mapIx z _ (fun d => .int d.1) (line_ge (by omega)) trivial (fun d hd Q hq => ?_) ?_
    · simp
      exact hq
    · simp
      exact fin0 hk
theorem scare_questions_ok_CAq : FnScope ["p", "columns", "value", "question"] ["p", "columns", "value"] (defScope s_are_questions) := ⟨rfl, rfl, rfl, by decide +kernel, rfl, by decide +kernel, by decide +kernel⟩
theorem ok_CAq {f : Addr} {fd : FuncData} (F : FnS K "_are_questions" s_are_questions f fd) (B : BltU mg) (CS : Cal P w K mg base 1 "is_sequence" fCS fdCS ["value"] (spP K cSeq)) (CM : Cal P w K mg base 6 "is_matrix" fCM fdCM ["value", "p", "columns"] (spP K cMat)) (CRi : Cal P w K mg base 1 "is_rising" fCRi fdCRi ["numbers"] (spP K cRis)) : FnOk P w K mg base (L2.CX P w) 7 f fd ["p", "columns", "value"] (spP K cAreQ) := by
  refine fun_okP F scare_questions_ok_CAq (fun ws M k e h => ?_) (fun cdv A outer s H E hr => ?_)
  · obtain ⟨z, rfl, _⟩ := h
    rfl
  · have nd := scare_questions_ok_CAq.nd
    have hu := hu64 hr
    have hu5 := hu65 hr
    refine ⟨_, _, (pss_one (ps_ret (pe_and (pe_calS (W := WD0 E) CS (hr.mono (by decide)) (pa_cons (pv 2) pa_nil) (takes_of rfl rfl rfl rfl)) (pe_and (pe_callB (cr_allP (K := K) rfl) (by rfl) B.all (by decide +kernel) (pa_cons (pe_lc (own := [("question", 3)]) (g := gName 3) (by rfl) nd (pi_seqB (K := K) (pv 2)) (blkOk_by (own := [("question", 3)]) (N := ["p", "columns", "value", "question"]) (sc := defScope s_are_questions) (by decide +kernel)) (fun _ _ _ _ _ => (pg_name (i := 3) nd rfl (Or.inl rfl))) (fun _ _ _ _ _ => pts_nil) (fun _ _ _ _ _ => (pe_cal CM (hr.mono (by decide)) (pa_cons (pv 3) (pa_cons (pv 0) (pa_cons (pv 1) pa_nil))) passU))) pa_nil)) (pe_one (pe_calS (W := WD0 E) CRi (hr.mono (by decide)) (pa_cons (pv 2) pa_nil) (takes_of rfl rfl rfl rfl))))))), inferInstance, ?_⟩
    clear F hr nd hu hu5
    intro ws M k e h
    obtain ⟨z, rfl, hz, hk⟩ := h
    obtain ⟨p, k, q⟩ := z
    try dsimp only at hz
    try dsimp only at hk
    obtain ⟨hm, hr, hl, hk'⟩ := hz
    simp
    refine ⟨(true, q.map tM), rfl, trivial, ?_⟩
    simp
    refine lcL_mapIx q tM (fun _ => .bl true) (line_ge (by omega)) trivial (fun m h Q hq => ?_) ?_
    · simp
      exact ⟨(p, k, m), rfl, ⟨hm m h, hk'⟩, _, rfl, hq⟩
    · simp
      exact ⟨q, rfl, ⟨hr, hl⟩, fin0 hk⟩
theorem sccheck_sizes_ok_CSz : FnScope ["p", "book_length", "book_count"] ["p", "book_length", "book_count"] (defScope s_check_sizes) := ⟨rfl, rfl, rfl, by decide +kernel, rfl, by decide +kernel, by decide +kernel⟩
theorem ok_CSz {f : Addr} {fd : FuncData} (F : FnS K "check_sizes" s_check_sizes f fd) (B : BltU mg) (CF : Cal P w K mg base 2 "is_field" fCF fdCF ["p"] (spP K cFld)) (CP : Cal P w K mg base 2 "is_positive" fCP fdCP ["value"] (spP K cPos)) : FnOk P w K mg base (L2.CX P w) 3 f fd ["p", "book_length", "book_count"] (spP K cSiz) := by
  refine fun_okP F sccheck_sizes_ok_CSz (fun ws M k e h => ?_) (fun cdv A outer s H E hr => ?_)
  · obtain ⟨z, rfl, _⟩ := h
    rfl
  · have nd := sccheck_sizes_ok_CSz.nd
    have hu := hu64 hr
    have hu5 := hu65 hr
    refine ⟨_, _, (pss_cons (ps_if (pt_not (pt_truP (K := K) (pe_calS (W := WD0 E) CF (hr.mono (by decide)) (pa_cons (pv 0) pa_nil) (takes_of rfl rfl rfl rfl)))) (pss_one ps_never) pss_nil)
      (pss_cons (ps_if (pt_not (pt_truP (K := K) (pe_calS (W := WD0 E) CP (hr.mono (by decide)) (pa_cons (pv 1) pa_nil) (takes_of rfl rfl rfl rfl)))) (pss_one ps_never) pss_nil)
      (pss_one (ps_if (pt_not (pt_truP (K := K) (pe_calS (W := WD0 E) CP (hr.mono (by decide)) (pa_cons (pv 2) pa_nil) (takes_of rfl rfl rfl rfl)))) (pss_one ps_never) pss_nil)))), inferInstance, ?_⟩
    clear F hr nd hu hu5
    intro ws M k e h
    obtain ⟨z, rfl, hz, hk⟩ := h
    obtain ⟨p, l, c⟩ := z
    try dsimp only at hz
    try dsimp only at hk
    obtain ⟨hp, hl, hc⟩ := hz
    simp
    refine ⟨p, rfl, hp, ?_⟩
    simp
    refine ⟨l, rfl, trivial, ?_⟩
    simp [hl]
    refine ⟨c, rfl, trivial, ?_⟩
    simp [hc]
    exact fin0 hk
theorem sccheck_draws_ok_CCD : FnScope ["book_count", "questions", "draws", "counts", "asked", "draw"] ["book_count", "questions", "draws"] (defScope s_check_draws) := ⟨rfl, rfl, rfl, by decide +kernel, rfl, by decide +kernel, by decide +kernel⟩
theorem ok_CCD {f : Addr} {fd : FuncData} (F : FnS K "check_draws" s_check_draws f fd) (B : BltU mg) (CPl : Cal P w K mg base 1 "check_places" fCPl fdCPl ["part", "rights"] (spP K cPlc)) (CDr : Cal P w K mg base 4 "is_draw" fCDr fdCDr ["value", "book_count", "counts"] (spP K cDraw)) (CMe : Cal P w K mg base 2 "members_of" fCMe fdCMe ["value"] (spP K cMem)) : FnOk P w K mg base (L2.CX P w) 5 f fd ["book_count", "questions", "draws"] (spP K cChkD) := by
  refine fun_okP F sccheck_draws_ok_CCD (fun ws M k e h => ?_) (fun cdv A outer s H E hr => ?_)
  · obtain ⟨z, rfl, _⟩ := h
    rfl
  · have nd := sccheck_draws_ok_CCD.nd
    have hu := hu64 hr
    have hu5 := hu65 hr
    refine ⟨_, _, (pss_cons (ps_set (i := 3) nd rfl (Or.inr rfl) (pe_lc (own := [("asked", 4)]) (g := gName 4) (by rfl) nd (pi_seqB (K := K) (pv 1)) (blkOk_by (own := [("asked", 4)]) (N := ["book_count", "questions", "draws", "counts", "asked", "draw"]) (sc := defScope s_check_draws) (by decide +kernel)) (fun _ _ _ _ _ => (pg_name (i := 4) nd rfl (Or.inl rfl))) (fun _ _ _ _ _ => pts_nil) (fun _ _ _ _ _ => (pe_callB (cr_lenP (K := K)) (by rfl) B.len (by decide +kernel) (pa_cons (pv 4) pa_nil)))))
      (pss_one (ps_expr (pe_calS (W := WD0 E) CPl (hr.mono (by decide)) (pa_cons pe_str (pa_cons (pe_lc (own := [("draw", 5)]) (g := gName 5) (by rfl) nd (pi_seqB (K := K) (pe_calS (W := WD0 E) CMe (hr.mono (by decide)) (pa_cons (pv 2) pa_nil) (takes_of rfl rfl rfl rfl))) (blkOk_by (own := [("draw", 5)]) (N := ["book_count", "questions", "draws", "counts", "asked", "draw"]) (sc := defScope s_check_draws) (by decide +kernel)) (fun _ _ _ _ _ => (pg_name (i := 5) nd rfl (Or.inl rfl))) (fun _ _ _ _ _ => pts_nil) (fun _ _ _ _ _ => (pe_cal CDr (hr.mono (by decide)) (pa_cons (pv 5) (pa_cons (pv 0) (pa_cons (pv 3) pa_nil))) passU))) pa_nil)) (takes_of rfl rfl rfl rfl))))), inferInstance, ?_⟩
    clear F hr nd hu hu5
    intro ws M k e h
    obtain ⟨z, rfl, hz, hk⟩ := h
    obtain ⟨c, qs, ds⟩ := z
    try dsimp only at hz
    try dsimp only at hk
    obtain ⟨h0, hl, hc, hqs, hql, hd⟩ := hz
    simp
    refine lcL_mapIx qs _ (fun q => .int q.length) (line_ge (by omega)) trivial (fun q h Q hq => ?_) ?_
    · simpa using hq
    · refine ⟨(true, ds.map (nE true)), rfl, by simpa using h0, ?_⟩
      simp
      refine lcL_mapIx ds _ (fun _ => .bl true) (line_ge (by omega)) trivial (fun d h Q hq => ?_) ?_
      · simp
        obtain ⟨a1, a2, a3⟩ := hd d h
        refine ⟨(true, d, c, qs.map fun q => (q.length : Int)), by simp, ⟨a1, a2, hc, by simpa using hqs, fun r hr => ⟨by simpa using (a3 r hr).1, fun i x q e1 e2 => ?_⟩⟩, _, rfl, hq⟩
        rw [List.getElem?_map] at e2
        cases e3 : qs[i]? with
        | none => rw [e3] at e2; cases e2
        | some q' =>
          rw [e3] at e2
          cases e2
          exact (a3 r hr).2 i x q' e1 e3
      · exact ⟨("draws", _), rfl, ⟨by simpa using hl, fun d h => by obtain ⟨_, _, rfl⟩ := List.mem_map.mp h; rfl⟩, fin0 hk⟩
end
end PU

set_option maxRecDepth 100000
set_option maxHeartbeats 8000000
set_option synthInstance.maxHeartbeats 4000000
set_option synthInstance.maxSize 4000
namespace PU
open PySem PySem.Spec PyProof.Rows L2 GS WU
section
variable {P : Program} {w : World} {K : PySem.W.Frag} {mg : Str → Option Value} {base : Heap}

theorem QOk.le {p : Int} {k : Nat} {q : List Mx} (h : QOk p k q) : k ≤ 1000 := h.2.2.2
theorem scPlan_init_ok_Ini : FnScope ["self", "p", "book_length", "book_count", "questions", "draws", "columns", "asked"] ["self", "p", "book_length", "book_count", "questions", "draws"] (defScope sPlan_init) := ⟨rfl, rfl, rfl, by decide +kernel, rfl, by decide +kernel, by decide +kernel⟩
theorem ok_Ini {f : Addr} {fd : FuncData} (F : FunD K "__init__" "Plan.__init__" (defArgs sPlan_init) (defBody sPlan_init) (defScope sPlan_init) [] [] f fd) (B : BltU mg) {C : Addr} (hC : Cls K C) (hA : ∀ f ∈ (["p", "book_length", "book_count", "house_count", "questions", "draws", "weight"] : List Str), NoAttr K C f) (CSz : Cal P w K mg base 3 "check_sizes" fCSz fdCSz ["p", "book_length", "book_count"] (spP K cSiz)) (CAq : Cal P w K mg base 7 "_are_questions" fCAq fdCAq ["p", "columns", "value"] (spP K cAreQ)) (CMe : Cal P w K mg base 2 "members_of" fCMe fdCMe ["value"] (spP K cMem)) (CPl : Cal P w K mg base 1 "check_places" fCPl fdCPl ["part", "rights"] (spP K cPlc)) (CCD : Cal P w K mg base 5 "check_draws" fCCD fdCCD ["book_count", "questions", "draws"] (spP K cChkD)) (CKq : Cal P w K mg base 1 "kept_questions" fCKq fdCKq ["questions"] (spP K cKq)) (CKd : Cal P w K mg base 1 "kept_draws" fCKd fdCKd ["draws"] (spP K cKd)) (CWt : Cal P w K mg base 1 "weight_of" fCWt fdCWt ["draws"] (spP K cWt)) : FnOk P w K mg base (L2.CX P w) 8 f fd ["self", "p", "book_length", "book_count", "questions", "draws"] (spP K ((cIni C))) := by
  refine fun_okP F scPlan_init_ok_Ini (fun ws M k e h => ?_) (fun cdv A outer s H E hr => ?_)
  · obtain ⟨M1, p, l, c, qs, ds, rfl, _⟩ := h
    rfl
  · have nd := scPlan_init_ok_Ini.nd
    have hu := hu64 hr
    have hu5 := hu65 hr
    refine ⟨_, _, (pss_cons (ps_expr (pe_calS (W := WD0 E) CSz (hr.mono (by decide)) (pa_cons (pv 1) (pa_cons (pv 2) (pa_cons (pv 3) pa_nil))) (takes_of rfl rfl rfl rfl)))
      (pss_cons (ps_set (i := 6) nd rfl (Or.inr rfl) (pe_op (op_mulP (K := K)) (pv 2) (pv 3)))
      (pss_cons (ps_expr (pe_calS (W := WD0 E) CPl (hr.mono (by decide)) (pa_cons pe_str (pa_cons (pe_lc (own := [("asked", 7)]) (g := gName 7) (by rfl) nd (pi_seqB (K := K) (pe_calS (W := WD0 E) CMe (hr.mono (by decide)) (pa_cons (pv 4) pa_nil) (takes_of rfl rfl rfl rfl))) (blkOk_by (own := [("asked", 7)]) (N := ["self", "p", "book_length", "book_count", "questions", "draws", "columns", "asked"]) (sc := defScope sPlan_init) (by decide +kernel)) (fun _ _ _ _ _ => (pg_name (i := 7) nd rfl (Or.inl rfl))) (fun _ _ _ _ _ => pts_nil) (fun _ _ _ _ _ => (pe_cal CAq (hr.mono (by decide)) (pa_cons (pv 1) (pa_cons (pv 6) (pa_cons (pv 7) pa_nil))) passU))) pa_nil)) (takes_of rfl rfl rfl rfl)))
      (pss_cons (ps_expr (pe_calS (W := WD0 E) CCD (hr.mono (by decide)) (pa_cons (pv 3) (pa_cons (pv 4) (pa_cons (pv 5) pa_nil))) (takes_of rfl rfl rfl rfl)))
      (pss_cons (ps_fldP (K := K) (ps_fld (pv 0) (pv 1) rfl))
      (pss_cons (ps_fldP (K := K) (ps_fld (pv 0) (pv 2) rfl))
      (pss_cons (ps_fldP (K := K) (ps_fld (pv 0) (pv 3) rfl))
      (pss_cons (ps_fldP (K := K) (ps_fld (pv 0) (pe_callB (cr_lenP (K := K)) (by rfl) B.len (by decide +kernel) (pa_cons (pv 4) pa_nil)) rfl))
      (pss_cons (ps_fldP (K := K) (ps_fld (pv 0) (pe_calS (W := WD0 E) CKq (hr.mono (by decide)) (pa_cons (pv 4) pa_nil) (takes_of rfl rfl rfl rfl)) rfl))
      (pss_cons (ps_fldP (K := K) (ps_fld (pv 0) (pe_calS (W := WD0 E) CKd (hr.mono (by decide)) (pa_cons (pv 5) pa_nil) (takes_of rfl rfl rfl rfl)) rfl))
      (pss_one (ps_fldP (K := K) (ps_fld (pv 0) (pe_calS (W := WD0 E) CWt (hr.mono (by decide)) (pa_cons (pv 5) pa_nil) (takes_of rfl rfl rfl rfl)) rfl))))))))))))), inferInstance, ?_⟩
    clear F hr nd hu hu5
    intro ws M k e h
    obtain ⟨M1, p, l, c, qs, ds, rfl, rfl, ⟨hp, hl, hc, hq0, hl2, hq, hn⟩, hk⟩ := h
    have hc2 : c ≤ 100 := hn.2.2.1
    simp
    refine ⟨(p, (l : Int), (c : Int)), rfl, ⟨hp, by simpa using hl, by simpa using hc⟩, ?_⟩
    refine ⟨cmul_of (by omega) (by omega), (true, _), rfl, by simpa using hq0, ?_⟩
    simp
    refine lcL_mapIx qs _ (fun _ => .bl true) (line_ge (by have := hn.2.2.2.1; omega)) trivial (fun q h Q hQ => ?_) ?_
    · simp
      exact ⟨(p, l * c, q), by simp, hq q h, _, rfl, hQ⟩
    · refine ⟨("questions", _), rfl, ⟨by rw [List.length_map]; have := hn.2.2.2.1; omega, fun d h => by obtain ⟨_, _, rfl⟩ := List.mem_map.mp h; rfl⟩, ?_⟩
      refine ⟨(c, qs, ds), rfl, hn, ?_⟩
      refine ⟨C, _, mem_at0, hC, hA _ (by simp), (by decide : 0 < 1000), ?_⟩
      try simp only [mem_set0]
      refine ⟨C, _, mem_at0, hC, hA _ (by simp), (by decide : 1 < 1000), ?_⟩
      try simp only [mem_set0]
      refine ⟨C, _, mem_at0, hC, hA _ (by simp), (by decide : 2 < 1000), ?_⟩
      try simp only [mem_set0]
      refine ⟨C, _, mem_at0, hC, hA _ (by simp), (by decide : 3 < 1000), ?_⟩
      try simp only [mem_set0]
      refine ⟨qs, rfl, by have := hn.2.2.2.1; omega, ?_⟩
      refine ⟨C, _, mem_at0, hC, hA _ (by simp), (by decide : 4 < 1000), ?_⟩
      try simp only [mem_set0]
      refine ⟨ds, rfl, ⟨hn.2.1, fun d h => by have := (hn.2.2.2.2.2 d h).2.1; omega⟩, ?_⟩
      refine ⟨C, _, mem_at0, hC, hA _ (by simp), (by decide : 5 < 1000), ?_⟩
      try simp only [mem_set0]
      refine ⟨ds, rfl, hn.2.1, ?_⟩
      refine ⟨C, _, mem_at0, hC, hA _ (by simp), (by decide : 6 < 1000), ?_⟩
      try simp only [mem_set0]
      exact fin0 hk
theorem scis_made_ok_CFm : FnScope ["value", "book_count", "house_count", "p", "columns", "asked", "question"] ["value", "book_count", "house_count", "p", "columns"] (defScope s_is_made) := ⟨rfl, rfl, rfl, by decide +kernel, rfl, by decide +kernel, by decide +kernel⟩
theorem ok_CFm {f : Addr} {fd : FuncData} (F : FnS K "_is_made" s_is_made f fd) (B : BltU mg) (CFr : Cal P w K mg base 3 "_is_framed" fCFr fdCFr ["value", "book_count", "house_count"] (spP K cFrm)) (CM : Cal P w K mg base 6 "is_matrix" fCM fdCM ["value", "p", "columns"] (spP K cMat)) : FnOk P w K mg base (L2.CX P w) 7 f fd ["value", "book_count", "house_count", "p", "columns"] (spP K cFm) := by
  refine fun_okP F scis_made_ok_CFm (fun ws M k e h => ?_) (fun cdv A outer s H E hr => ?_)
  · obtain ⟨z, rfl, _⟩ := h
    rfl
  · have nd := scis_made_ok_CFm.nd
    have hu := hu64 hr
    have hu5 := hu65 hr
    refine ⟨_, _, (pss_cons (ps_if (pt_not (pt_truP (K := K) (pe_calS (W := WD0 E) CFr (hr.mono (by decide)) (pa_cons (pv 0) (pa_cons (pv 1) (pa_cons (pv 2) pa_nil))) (takes_of rfl rfl rfl rfl)))) (pss_one (ps_ret pe_bl)) pss_nil)
      (pss_one (ps_ret (pe_callB (cr_allP (K := K) rfl) (by rfl) B.all (by decide +kernel) (pa_cons (pe_lc2 (own := [("asked", 5), ("question", 6)]) (vs1 := [6]) (g := gName 5) (g1 := gName 6) (by rfl) nd (pi_seqB (K := K) (pe_ix (ix_P (K := K)) (pv 0) pe_int (fun _ _ => rfl))) (blkOk_by (own := [("asked", 5), ("question", 6)]) (N := ["value", "book_count", "house_count", "p", "columns", "asked", "question"]) (sc := defScope s_is_made) (by decide +kernel)) (by decide) (fun _ _ _ _ _ => (pg_name (i := 5) nd rfl (Or.inl rfl))) (fun _ _ _ _ _ => pts_nil) (fun _ _ _ _ _ => (pi_seqB (K := K) (pv 5))) (fun _ _ _ _ _ => (pg_name (i := 6) nd rfl (Or.inl rfl))) (fun _ _ _ _ _ => pts_nil) (fun _ _ _ _ _ => (pe_cal CM (hr.mono (by decide)) (pa_cons (pv 6) (pa_cons (pv 3) (pa_cons (pv 4) pa_nil))) passU))) pa_nil))))), inferInstance, ?_⟩
    clear F hr nd hu hu5
    intro ws M k e h
    obtain ⟨z, rfl, hz, hk⟩ := h
    obtain ⟨b, d, h, p, k⟩ := z
    try dsimp only at hz
    try dsimp only at hk
    obtain ⟨hw, hl, hh, hk', hr⟩ := hz
    simp
    refine ⟨(b, d.1, d.2.map fun r => r.map tM, h), by simp, ⟨hw, by simp; omega, fun r q => ?_⟩, ?_⟩
    · obtain ⟨r', h', rfl⟩ := List.mem_map.mp q
      rw [List.length_map]
      exact (hr r' h').1
    simp
    refine lcL2_flat (m := 100) _ (fun (r : List Mx) => r.map fun _ => .bl true) trivial d.2 [] (line_ge (by simp; omega)) (fun r q => by rw [List.length_map, (hr r q).1]; exact hh) (fun r q acc Q hl hq => ?_) ?_
    · simp
      refine lcL_mapA _ _ trivial r acc (by simpa using hl) (fun x hx Q hq => ?_) hq
      simp
      exact ⟨(p, k, x), rfl, ⟨(hr r q).2 x hx, hk'⟩, _, rfl, hq⟩
    · have e : ∀ l : List (List Mx), ((l.flatMap fun (r : List Mx) => r.map fun _ => D.bl true)) = ((l.flatMap fun (r : List Mx) => r).map fun _ => D.bl true) := fun l => by
        rw [List.map_flatMap]
      rw [List.nil_append, e]
      generalize (d.2.flatMap fun (r : List Mx) => r) = L
      simp
      simpa using fin0 hk
theorem scquestions_asked_ok_CQa : FnScope ["house", "draws", "_", "asks", "asked"] ["house", "draws"] (defScope s_questions_asked) := ⟨rfl, rfl, rfl, by decide +kernel, rfl, by decide +kernel, by decide +kernel⟩
theorem ok_CQa {f : Addr} {fd : FuncData} (F : FnS K "_questions_asked" s_questions_asked f fd) (B : BltU mg) : FnOk P w K mg base (L2.CX P w) 1 f fd ["house", "draws"] (spP K cQa) := by
  refine fun_okP F scquestions_asked_ok_CQa (fun ws M k e h => ?_) (fun cdv A outer s H E hr => ?_)
  · obtain ⟨z, rfl, _⟩ := h
    rfl
  · have nd := scquestions_asked_ok_CQa.nd
    have hu := hu64 hr
    have hu5 := hu65 hr
    refine ⟨_, _, (pss_one (ps_ret (pe_callB (cr_sortE (P := P) (w := w) rfl hu) (by rfl) B.sorted (by decide +kernel) (pa_cons (pe_callTy (cr_setE (P := P) (w := w) rfl hu) (by rfl) B.set (by decide +kernel) (pa_cons (pe_lc2 (own := [("_", 2), ("asks", 3), ("asked", 4)]) (vs1 := [4]) (g := gTup K 2 (gCons (gName 2) (gCons (gName 3) gNil))) (g1 := gName 4) (by rfl) nd (pi_seqB (K := K) (pv 1)) (blkOk_by (own := [("_", 2), ("asks", 3), ("asked", 4)]) (N := ["house", "draws", "_", "asks", "asked"]) (sc := defScope s_questions_asked) (by decide +kernel)) (by decide) (fun _ _ _ _ _ => (pg_tupP (K := K) (n := 2) (pg_tup rfl (pgs_cons (pg_name (i := 2) nd rfl (Or.inl rfl)) (pgs_cons (pg_name (i := 3) nd rfl (Or.inl rfl)) pgs_nil))))) (fun _ _ _ _ _ => pts_nil) (fun _ _ _ _ _ => (pi_seqB (K := K) (pv 3))) (fun _ _ _ _ _ => (pg_name (i := 4) nd rfl (Or.inl rfl))) (fun _ _ _ _ _ => pts_nil) (fun _ _ _ _ _ => (pe_ix (ix_P (K := K)) (pv 4) (pv 0) (fun _ _ => rfl)))) pa_nil)) pa_nil)))), inferInstance, ?_⟩
    clear F hr nd hu hu5
    intro ws M k e h
    obtain ⟨z, rfl, hz, hk⟩ := h
    obtain ⟨b, n, ds⟩ := z
    try dsimp only at hz
    try dsimp only at hk
    obtain ⟨hf, hl, hd⟩ := hz
    simp
    refine lcL2_flat (m := 10) _ (fun (d : Int × List (List Mx)) => d.2.map fun r => tM ((r[n]?).getD [])) trivial ds [] (line_ge (by simp; omega)) (fun d q => by rw [List.length_map]; exact (hd d q).1) (fun d q acc Q hl hq => ?_) ?_
    · simp
      refine lcL_mapA _ _ trivial d.2 acc (by simpa using hl) (fun r hr Q hq => ?_) hq
      simp
      have lt := (hd d q).2 r hr
      rw [List.getElem?_eq_getElem lt] at hq
      rw [List.getElem?_eq_getElem lt]
      exact ⟨_, rfl, hq⟩
    · refine ⟨askd n ds, ?_, hf, fun rs h => ?_⟩
      · rw [List.nil_append, askd, List.map_flatMap]
        exact congrArg (fun f => ds.flatMap f) (funext fun d => by rw [List.map_map]; rfl)
      · rw [isQs_one h]
        exact fin0 hk
theorem scnumbered_asks_ok_CNa : FnScope ["numbers", "asks", "asked", "known", "question"] ["numbers", "asks"] (defScope s_numbered_asks) := ⟨rfl, rfl, rfl, by decide +kernel, rfl, by decide +kernel, by decide +kernel⟩
theorem ok_CNa {f : Addr} {fd : FuncData} (F : FnS K "_numbered_asks" s_numbered_asks f fd) (B : BltU mg) : FnOk P w K mg base (L2.CX P w) 1 f fd ["numbers", "asks"] (spP K ((cNa P w))) := by
  refine fun_okP F scnumbered_asks_ok_CNa (fun ws M k e h => ?_) (fun cdv A outer s H E hr => ?_)
  · obtain ⟨z, rfl, _⟩ := h
    rfl
  · have nd := scnumbered_asks_ok_CNa.nd
    have hu := hu64 hr
    have hu5 := hu65 hr
    refine ⟨_, _, (pss_one (ps_ret (pe_lc (own := [("asked", 2)]) (g := gName 2) (by rfl) nd (pi_seqB (K := K) (pv 1)) (blkOk_by (own := [("asked", 2)]) (N := ["numbers", "asks", "asked", "known", "question"]) (sc := defScope s_numbered_asks) (by decide +kernel)) (fun _ _ _ _ _ => (pg_name (i := 2) nd rfl (Or.inl rfl))) (fun _ _ _ _ _ => pts_nil) (fun _ _ _ _ _ => (pe_lc (own := [("known", 3), ("question", 4)]) (g := gTup K 2 (gCons (gName 3) (gCons (gName 4) gNil))) (by rfl) nd (pi_zip4K (K := K) (by rfl) B.zip (pa_cons (pv 0) (pa_cons (pv 2) pa_nil))) (blkOk_by (own := [("known", 3), ("question", 4)]) (N := ["numbers", "asks", "asked", "known", "question"]) (sc := relS (scAt s_numbered_asks 0 [] 0 []) (defScope s_numbered_asks)) (by decide +kernel)) (fun _ _ _ _ _ => (pg_tupP (K := K) (n := 2) (pg_tup rfl (pgs_cons (pg_name (i := 3) nd rfl (Or.inl rfl)) (pgs_cons (pg_name (i := 4) nd rfl (Or.inl rfl)) pgs_nil))))) (fun _ _ _ _ _ => pts_nil) (fun _ _ _ _ _ => (pe_ix (ix_dicE (P := P) (w := w) hu) (pv 3) (pv 4) (fun _ _ => rfl)))))))), inferInstance, ?_⟩
    clear F hr nd hu hu5
    intro ws M k e h
    obtain ⟨z, rfl, hz, hk⟩ := h
    obtain ⟨b, qs, as⟩ := z
    try dsimp only at hz
    try dsimp only at hk
    obtain ⟨h1, h2, h3⟩ := hz
    simp
    refine lcL_mapIx as _ (fun r => sqE true ((nrow qs r).map D.int)) (line_ge (by omega)) trivial (fun r hr Q hq => ?_) (fin0 hk)
    simp [zipD_map]
    have e : (nrow qs r).map D.int = (qs.zip r).map fun z => .int (z.1.idxOf z.2 : Nat) := by
      rw [nrow, ← List.map_uncurry_zip_eq_zipWith, List.map_map]
      rfl
    rw [e] at hq
    refine lcL_mapIx (qs.zip r) _ _ (line_ge (by rw [List.length_zip]; omega)) trivial (fun z hz' Q hq => ?_) hq
    simp
    obtain ⟨i, hi⟩ := List.getElem?_of_mem hz'
    obtain ⟨e1, e2⟩ := List.getElem?_zip_eq_some.mp hi
    have hm := h3 r hr i z.2 z.1 e2 e1
    have lt := List.idxOf_lt_length_iff.mpr hm
    refine ⟨kvD z.1, by rw [kvD, List.map_map], ?_⟩
    refine ⟨z.2, rfl, D.int (z.1.idxOf z.2 : Nat), ⟨z.1.idxOf z.2, ?_⟩, hq⟩
    rw [List.getElem?_map, List.getElem?_zipIdx, List.getElem?_eq_getElem lt, List.getElem_idxOf lt]
    simp
end
end PU

set_option maxRecDepth 100000
set_option maxHeartbeats 8000000
set_option synthInstance.maxHeartbeats 4000000
set_option synthInstance.maxSize 4000
namespace PU
open PySem PySem.Spec PyProof.Rows L2 GS WU
section
variable {P : Program} {w : World} {K : PySem.W.Frag} {mg : Str → Option Value} {base : Heap}
theorem scIsInt_ok_CIG : FnScope ["value"] ["value"] (defScope sIsInt) := ⟨rfl, rfl, rfl, by decide +kernel, rfl, by decide +kernel, by decide +kernel⟩
theorem ok_CIG {f : Addr} {fd : FuncData} (F : FnS K "is_integer" sIsInt f fd) (B : BltU mg) : FnOk P w K mg base (L2.CX P w) 1 f fd ["value"] (spP K cIntG) := by
  refine fun_okP F scIsInt_ok_CIG (fun ws M k e h => ?_) (fun cdv A outer s H E hr => ?_)
  · obtain ⟨x, rfl, _⟩ := h
    rfl
  · have nd := scIsInt_ok_CIG.nd
    have hu := hu64 hr
    have hu5 := hu65 hr
    refine ⟨_, _, (pss_one (ps_ret (pe_and (pe_callB (cr_isiP (K := K)) (by rfl) B.isi (by decide +kernel) (pa_cons (pv 0) (pa_cons (pe_bltn (v := .ty "int") (by rfl) B.int (by decide +kernel) rfl) pa_nil))) (pe_one (pe_notP (K := K) (pe_callB (cr_isiP (K := K)) (by rfl) B.isi (by decide +kernel) (pa_cons (pv 0) (pa_cons (pe_bltn (v := .ty "bool") (by rfl) B.bool (by decide +kernel) rfl) pa_nil)))))))), inferInstance, ?_⟩
    clear F hr nd hu hu5
    intro ws M k e h
    obtain ⟨x, rfl, hz, hk⟩ := h
    cases x <;> first | (simp; exact fin0 hk) | exact absurd hz (by simp [okD])
theorem scIsNum_ok_CNG : FnScope ["value"] ["value"] (defScope sIsNum) := ⟨rfl, rfl, rfl, by decide +kernel, rfl, by decide +kernel, by decide +kernel⟩
theorem ok_CNG {f : Addr} {fd : FuncData} (F : FnS K "is_number" sIsNum f fd) (B : BltU mg) (CIG : Cal P w K mg base 1 "is_integer" fCIG fdCIG ["value"] (spP K cIntG)) : FnOk P w K mg base (L2.CX P w) 2 f fd ["value"] (spP K cNumG) := by
  refine fun_okP F scIsNum_ok_CNG (fun ws M k e h => ?_) (fun cdv A outer s H E hr => ?_)
  · obtain ⟨x, rfl, _⟩ := h
    rfl
  · have nd := scIsNum_ok_CNG.nd
    have hu := hu64 hr
    have hu5 := hu65 hr
    refine ⟨_, _, (pss_one (ps_ret (pe_and (pe_calS (W := WD0 E) CIG (hr.mono (by decide)) (pa_cons (pv 0) pa_nil) (takes_of rfl rfl rfl rfl)) (pe_one (pe_cmpR (op_geP (K := K)) (pv 0) pe_int (nomark _)))))), inferInstance, ?_⟩
    clear F hr nd hu hu5
    intro ws M k e h
    obtain ⟨x, rfl, hz, hk⟩ := h
    simp
    refine ⟨x, rfl, hz, ?_⟩
    cases x <;> first | (simp [isI, isN] at hk ⊢; exact fin0 hk) | exact absurd hz (by simp [okD])
theorem scIsBel_ok_CBG : FnScope ["value", "limit"] ["value", "limit"] (defScope sIsBel) := ⟨rfl, rfl, rfl, by decide +kernel, rfl, by decide +kernel, by decide +kernel⟩
theorem ok_CBG {f : Addr} {fd : FuncData} (F : FnS K "is_below" sIsBel f fd) (B : BltU mg) (CNG : Cal P w K mg base 2 "is_number" fCNG fdCNG ["value"] (spP K cNumG)) : FnOk P w K mg base (L2.CX P w) 3 f fd ["value", "limit"] (spP K cBelG) := by
  refine fun_okP F scIsBel_ok_CBG (fun ws M k e h => ?_) (fun cdv A outer s H E hr => ?_)
  · obtain ⟨x, l, rfl, _⟩ := h
    rfl
  · have nd := scIsBel_ok_CBG.nd
    have hu := hu64 hr
    have hu5 := hu65 hr
    refine ⟨_, _, (pss_one (ps_ret (pe_and (pe_calS (W := WD0 E) CNG (hr.mono (by decide)) (pa_cons (pv 0) pa_nil) (takes_of rfl rfl rfl rfl)) (pe_one (pe_cmpR (op_ltP (K := K) hu) (pv 0) (pv 1) (nomark _)))))), inferInstance, ?_⟩
    clear F hr nd hu hu5
    intro ws M k e h
    obtain ⟨x, l, rfl, hz, hk⟩ := h
    simp
    refine ⟨x, rfl, hz, ?_⟩
    cases x with
    | int i =>
      by_cases q : 0 ≤ i
      · simp [q, isN, isB] at hk ⊢
        exact fin0 hk
      · simp [q, isN, isB] at hk ⊢
        exact fin0 hk
    | _ => first | (simp [isN, isB] at hk ⊢; exact fin0 hk) | exact absurd hz (by simp [okD])
theorem scis_positive_ok_CPG : FnScope ["value"] ["value"] (defScope s_is_positive) := ⟨rfl, rfl, rfl, by decide +kernel, rfl, by decide +kernel, by decide +kernel⟩
theorem ok_CPG {f : Addr} {fd : FuncData} (F : FnS K "is_positive" s_is_positive f fd) (B : BltU mg) (CIG : Cal P w K mg base 1 "is_integer" fCIG fdCIG ["value"] (spP K cIntG)) : FnOk P w K mg base (L2.CX P w) 2 f fd ["value"] (spP K cPosG) := by
  refine fun_okP F scis_positive_ok_CPG (fun ws M k e h => ?_) (fun cdv A outer s H E hr => ?_)
  · obtain ⟨x, rfl, _⟩ := h
    rfl
  · have nd := scis_positive_ok_CPG.nd
    have hu := hu64 hr
    have hu5 := hu65 hr
    refine ⟨_, _, (pss_one (ps_ret (pe_and (pe_calS (W := WD0 E) CIG (hr.mono (by decide)) (pa_cons (pv 0) pa_nil) (takes_of rfl rfl rfl rfl)) (pe_one (pe_cmpR (op_gtP (K := K)) (pv 0) pe_int (nomark _)))))), inferInstance, ?_⟩
    clear F hr nd hu hu5
    intro ws M k e h
    obtain ⟨x, rfl, hz, hk⟩ := h
    simp
    refine ⟨x, rfl, hz, ?_⟩
    cases x <;> first | (simp [isI, isP] at hk ⊢; exact fin0 hk) | exact absurd hz (by simp [okD])
theorem scSeq_ok_CSG : FnScope ["value"] ["value"] (defScope sSeq) := ⟨rfl, rfl, rfl, by decide +kernel, rfl, by decide +kernel, by decide +kernel⟩
theorem ok_CSG {f : Addr} {fd : FuncData} (F : FnS K "is_sequence" sSeq f fd) (B : BltU mg) : FnOk P w K mg base (L2.CX P w) 1 f fd ["value"] (spP K cSeqG) := by
  refine fun_okP F scSeq_ok_CSG (fun ws M k e h => ?_) (fun cdv A outer s H E hr => ?_)
  · obtain ⟨x, rfl, _⟩ := h
    rfl
  · have nd := scSeq_ok_CSG.nd
    have hu := hu64 hr
    have hu5 := hu65 hr
    refine ⟨_, _, (pss_one (ps_ret (pe_callB (call_isiTP (K := K)) (by rfl) B.isi (by decide +kernel) (pa_cons (pv 0) (pa_cons (pe_tup (pa_cons (pe_bltn (v := .ty "list") (by rfl) B.lst (by decide +kernel) rfl) (pa_cons (pe_bltn (v := .ty "tuple") (by rfl) B.tuple (by decide +kernel) rfl) pa_nil))) pa_nil))))), inferInstance, ?_⟩
    clear F hr nd hu hu5
    intro ws M k e h
    obtain ⟨x, rfl, hz, hk⟩ := h
    cases x <;> first | (simp; exact fin0 hk) | exact absurd hz (by simp [okD])
end
end PU

set_option maxRecDepth 100000
set_option maxHeartbeats 8000000
set_option synthInstance.maxHeartbeats 4000000
set_option synthInstance.maxSize 4000
namespace PU
open PySem PySem.Spec PyProof.Rows L2 GS WU
section
variable {P : Program} {w : World} {K : PySem.W.Frag} {mg : Str → Option Value} {base : Heap}
theorem scSeq_ok_CSW : FnScope ["value"] ["value"] (defScope sSeq) := ⟨rfl, rfl, rfl, by decide +kernel, rfl, by decide +kernel, by decide +kernel⟩
theorem ok_CSW {f : Addr} {fd : FuncData} (F : FnS K "is_sequence" sSeq f fd) (B : BltU mg) : FnOk P w K mg base (L2.CX P w) 1 f fd ["value"] (spP K cSeqW) := by
  refine fun_okP F scSeq_ok_CSW (fun ws M k e h => ?_) (fun cdv A outer s H E hr => ?_)
  · obtain ⟨w, b, xs, rfl, _⟩ := h
    rfl
  · have nd := scSeq_ok_CSW.nd
    have hu := hu64 hr
    have hu5 := hu65 hr
    refine ⟨_, _, (pss_one (ps_ret (pe_callB (call_isiTP (K := K)) (by rfl) B.isi (by decide +kernel) (pa_cons (pv 0) (pa_cons (pe_tup (pa_cons (pe_bltn (v := .ty "list") (by rfl) B.lst (by decide +kernel) rfl) (pa_cons (pe_bltn (v := .ty "tuple") (by rfl) B.tuple (by decide +kernel) rfl) pa_nil))) pa_nil))))), inferInstance, ?_⟩
    clear F hr nd hu hu5
    intro ws M k e h
    obtain ⟨w, b, xs, rfl, hz, hk⟩ := h
    cases w with
    | d x => cases x <;> first | (simp [seqW, nfW] at hz; done) | (simp; exact fin0 hk)
    | p n =>
      have hm : M[n]? = some (.lst xs) := keep_seq hz.1
      simp
      exact pIsT_p hm (fin0 hk)
theorem scmembers_of_ok_CMeW : FnScope ["value"] ["value"] (defScope s_members_of) := ⟨rfl, rfl, rfl, by decide +kernel, rfl, by decide +kernel, by decide +kernel⟩
theorem ok_CMeW {f : Addr} {fd : FuncData} (F : FnS K "members_of" s_members_of f fd) (B : BltU mg) (CSW : Cal P w K mg base 1 "is_sequence" fCSW fdCSW ["value"] (spP K cSeqW)) : FnOk P w K mg base (L2.CX P w) 2 f fd ["value"] (spP K cMemW) := by
  refine fun_okP F scmembers_of_ok_CMeW (fun ws M k e h => ?_) (fun cdv A outer s H E hr => ?_)
  · obtain ⟨w, b, xs, rfl, _⟩ := h
    rfl
  · have nd := scmembers_of_ok_CMeW.nd
    have hu := hu64 hr
    have hu5 := hu65 hr
    refine ⟨_, _, (pss_one (ps_ret (pe_ifExp (PW.pt (pw_and (pt_truP (K := K) (pe_calS (W := WD0 E) CSW (hr.mono (by decide)) (pa_cons (pv 0) pa_nil) (takes_of rfl rfl rfl rfl))) (pw_and1 (pt_cmpR (op_gtP (K := K)) (pe_callB (cr_lenP (K := K)) (by rfl) B.len (by decide +kernel) (pa_cons (pv 0) pa_nil)) pe_int (nomark _))))) (pe_callTy (cr_listP (K := K)) (by rfl) B.lst (by decide +kernel) (pa_cons (pv 0) pa_nil)) (pe_lst (pa_cons pe_non pa_nil))))), inferInstance, ?_⟩
    clear F hr nd hu hu5
    intro ws M k e h
    obtain ⟨w, b, xs, rfl, hz, hk⟩ := h
    obtain ⟨hs, hf, hz⟩ := hz
    have hp : 0 < xs.length := List.length_pos_iff.mpr hz
    simp
    refine ⟨w, b, xs, rfl, ⟨hs, hf⟩, ?_⟩
    simp [fLen_seq hs, fList_seq hs, hp, hz]
    exact fin0 hk
theorem scquestions_asked_ok_CQaW : FnScope ["house", "draws", "_", "asks", "asked"] ["house", "draws"] (defScope s_questions_asked) := ⟨rfl, rfl, rfl, by decide +kernel, rfl, by decide +kernel, by decide +kernel⟩
theorem ok_CQaW {f : Addr} {fd : FuncData} (F : FnS K "_questions_asked" s_questions_asked f fd) (B : BltU mg) : FnOk P w K mg base (L2.CX P w) 1 f fd ["house", "draws"] (spP K cQaW) := by
  refine fun_okP F scquestions_asked_ok_CQaW (fun ws M k e h => ?_) (fun cdv A outer s H E hr => ?_)
  · obtain ⟨b, b0, n, ds, w, rfl, _⟩ := h
    rfl
  · have nd := scquestions_asked_ok_CQaW.nd
    have hu := hu64 hr
    have hu5 := hu65 hr
    refine ⟨_, _, (pss_one (ps_ret (pe_callB (cr_sortE (P := P) (w := w) rfl hu) (by rfl) B.sorted (by decide +kernel) (pa_cons (pe_callTy (cr_setE (P := P) (w := w) rfl hu) (by rfl) B.set (by decide +kernel) (pa_cons (pe_lc2 (own := [("_", 2), ("asks", 3), ("asked", 4)]) (vs1 := [4]) (g := gTup K 2 (gCons (gName 2) (gCons (gName 3) gNil))) (g1 := gName 4) (by rfl) nd (pi_seqB (K := K) (pv 1)) (blkOk_by (own := [("_", 2), ("asks", 3), ("asked", 4)]) (N := ["house", "draws", "_", "asks", "asked"]) (sc := defScope s_questions_asked) (by decide +kernel)) (by decide) (fun _ _ _ _ _ => (pg_tupP (K := K) (n := 2) (pg_tup rfl (pgs_cons (pg_name (i := 2) nd rfl (Or.inl rfl)) (pgs_cons (pg_name (i := 3) nd rfl (Or.inl rfl)) pgs_nil))))) (fun _ _ _ _ _ => pts_nil) (fun _ _ _ _ _ => (pi_seqB (K := K) (pv 3))) (fun _ _ _ _ _ => (pg_name (i := 4) nd rfl (Or.inl rfl))) (fun _ _ _ _ _ => pts_nil) (fun _ _ _ _ _ => (pe_ix (ix_P (K := K)) (pv 4) (pv 0) (fun _ _ => rfl)))) pa_nil)) pa_nil)))), inferInstance, ?_⟩
    clear F hr nd hu hu5
    intro ws M k e h
    obtain ⟨b, b0, n, ds, w, rfl, hz, hk⟩ := h
    obtain ⟨hs, hf, hl, hd⟩ := hz
    simp [hs]
    refine lcL2_flat (m := 10) _ (fun (d : Int × List (List Mx)) => d.2.map fun r => tM ((r[n]?).getD [])) (keep_seq hs) ds [] (line_ge (by simp; omega)) (fun d q => by rw [List.length_map]; exact (hd d q).1) (fun d q acc Q hl hq => ?_) ?_
    · simp
      refine lcL_mapA _ _ trivial d.2 acc (by simpa using hl) (fun r hr Q hq => ?_) hq
      simp
      have lt := (hd d q).2 r hr
      rw [List.getElem?_eq_getElem lt] at hq
      rw [List.getElem?_eq_getElem lt]
      exact ⟨_, rfl, hq⟩
    · refine ⟨askd n ds, ?_, hf, fun rs h => ?_⟩
      · rw [List.nil_append, askd, List.map_flatMap]
        exact congrArg (fun f => ds.flatMap f) (funext fun d => by rw [List.map_map]; rfl)
      · rw [isQs_one h]
        exact fin0 hk
theorem scdraws_asking_ok_CAkB : FnScope ["plan", "questions", "weight", "asks", "asked", "known", "number"] ["plan", "questions"] (defScope s_draws_asking) := ⟨rfl, rfl, rfl, by decide +kernel, rfl, by decide +kernel, by decide +kernel⟩
theorem ok_CAkB {f : Addr} {fd : FuncData} (F : FnS K "draws_asking" s_draws_asking f fd) (B : BltU mg) {C : Addr} (J : PlK K C) : FnOk P w K mg base (L2.CX P w) 1 f fd ["plan", "questions"] (spP K ((cAskB C))) := by
  refine fun_okP F scdraws_asking_ok_CAkB (fun ws M k e h => ?_) (fun cdv A outer s H E hr => ?_)
  · obtain ⟨p, l, c, qs, ns, b, qs', rfl, _⟩ := h
    rfl
  · have nd := scdraws_asking_ok_CAkB.nd
    have hu := hu64 hr
    have hu5 := hu65 hr
    refine ⟨_, _, (pss_one (ps_ret (pe_lc (own := [("weight", 2), ("asks", 3)]) (g := gTup K 2 (gCons (gName 2) (gCons (gName 3) gNil))) (by rfl) nd (pi_seqB (K := K) (pe_fldP (K := K) (pv 0) rfl)) (blkOk_by (own := [("weight", 2), ("asks", 3)]) (N := ["plan", "questions", "weight", "asks", "asked", "known", "number"]) (sc := defScope s_draws_asking) (by decide +kernel)) (fun _ _ _ _ _ => (pg_tupP (K := K) (n := 2) (pg_tup rfl (pgs_cons (pg_name (i := 2) nd rfl (Or.inl rfl)) (pgs_cons (pg_name (i := 3) nd rfl (Or.inl rfl)) pgs_nil))))) (fun _ _ _ _ _ => pts_nil) (fun _ _ _ _ _ => (pe_tup (pa_cons (pv 2) (pa_cons (pe_lc (own := [("asked", 4)]) (g := gName 4) (by rfl) nd (pi_seqB (K := K) (pv 3)) (blkOk_by (own := [("asked", 4)]) (N := ["plan", "questions", "weight", "asks", "asked", "known", "number"]) (sc := relS (scAt s_draws_asking 0 [] 0 []) (defScope s_draws_asking)) (by decide +kernel)) (fun _ _ _ _ _ => (pg_name (i := 4) nd rfl (Or.inl rfl))) (fun _ _ _ _ _ => pts_nil) (fun _ _ _ _ _ => (pe_lc (own := [("known", 5), ("number", 6)]) (g := gTup K 2 (gCons (gName 5) (gCons (gName 6) gNil))) (by rfl) nd (pi_zip4K (K := K) (by rfl) B.zip (pa_cons (pv 1) (pa_cons (pv 4) pa_nil))) (blkOk_by (own := [("known", 5), ("number", 6)]) (N := ["plan", "questions", "weight", "asks", "asked", "known", "number"]) (sc := relS (scAt s_draws_asking 0 [] 0 [0, 1]) (relS (scAt s_draws_asking 0 [] 0 []) (defScope s_draws_asking))) (by decide +kernel)) (fun _ _ _ _ _ => (pg_tupP (K := K) (n := 2) (pg_tup rfl (pgs_cons (pg_name (i := 5) nd rfl (Or.inl rfl)) (pgs_cons (pg_name (i := 6) nd rfl (Or.inl rfl)) pgs_nil))))) (fun _ _ _ _ _ => pts_nil) (fun _ _ _ _ _ => (pe_ix (ix_P (K := K)) (pv 5) (pv 6) (fun _ _ => rfl)))))) pa_nil))))))), inferInstance, ?_⟩
    clear F hr nd hu hu5
    intro ws M k e h
    obtain ⟨p, l, c, qs, ns, b, qs', rfl, hz, hk⟩ := h
    obtain ⟨h1, h2, h3⟩ := hz
    simp [J.cl, J.p, J.bl, J.bc, J.hc, J.qs, J.dr, J.wt]
    refine lcL_mapIx ns _ (fun d => wE true (d.1, d.2.map (qrow qs'))) (line_ge (by omega)) trivial (fun d hd Q hQ => ?_) ?_
    · simp
      rw [wE_eq, List.map_map] at hQ
      refine lcL_mapIx d.2 _ _ (line_ge (by have := (h3 d hd).1; omega)) trivial (fun r hr Q hq => ?_) ⟨line_ge (by decide), hQ⟩
      simp [zipD_map]
      have e : (qrow qs' r).map tM = (qs'.zip r).map fun z => tM ((z.1[z.2.toNat]?).getD []) := by
        rw [qrow, ← List.map_uncurry_zip_eq_zipWith, List.map_map]
        rfl
      rw [show ((fun r => sqE true (List.map tM r)) ∘ qrow qs') r = .lst ((qrow qs' r).map tM) from rfl, e] at hq
      refine lcL_mapIx (qs'.zip r) _ _ (line_ge (by rw [List.length_zip]; omega)) (by first | trivial | (cases b <;> trivial)) (fun z hz' Q hq => ?_) hq
      obtain ⟨i, hi⟩ := List.getElem?_of_mem hz'
      obtain ⟨e1, e2⟩ := List.getElem?_zip_eq_some.mp hi
      obtain ⟨g1, g2⟩ := (h3 d hd).2 r hr i z.2 z.1 e2 e1
      simp
      have lt : z.2.toNat < z.1.length := by omega
      rw [List.getElem?_eq_getElem lt] at hq
      have e3 : z.2 = (z.2.toNat : Int) := by omega
      rw [e3, atI_nat, List.getElem?_map, List.getElem?_eq_getElem lt]
      exact ⟨_, rfl, hq⟩
    · rw [unD, List.map_map] at hk
      exact fin0 hk
theorem screhoused_ok_CRh : FnScope ["draws", "order", "weight", "asks", "asked", "house"] ["draws", "order"] (defScope s_rehoused) := ⟨rfl, rfl, rfl, by decide +kernel, rfl, by decide +kernel, by decide +kernel⟩
theorem ok_CRh {f : Addr} {fd : FuncData} (F : FnS K "_rehoused" s_rehoused f fd) (B : BltU mg) : FnOk P w K mg base (L2.CX P w) 1 f fd ["draws", "order"] (spP K cReh) := by
  refine fun_okP F screhoused_ok_CRh (fun ws M k e h => ?_) (fun cdv A outer s H E hr => ?_)
  · obtain ⟨b, ds, o, rfl, _⟩ := h
    rfl
  · have nd := screhoused_ok_CRh.nd
    have hu := hu64 hr
    have hu5 := hu65 hr
    refine ⟨_, _, (pss_one (ps_ret (pe_lc (own := [("weight", 2), ("asks", 3)]) (g := gTup K 2 (gCons (gName 2) (gCons (gName 3) gNil))) (by rfl) nd (pi_seqB (K := K) (pv 0)) (blkOk_by (own := [("weight", 2), ("asks", 3)]) (N := ["draws", "order", "weight", "asks", "asked", "house"]) (sc := defScope s_rehoused) (by decide +kernel)) (fun _ _ _ _ _ => (pg_tupP (K := K) (n := 2) (pg_tup rfl (pgs_cons (pg_name (i := 2) nd rfl (Or.inl rfl)) (pgs_cons (pg_name (i := 3) nd rfl (Or.inl rfl)) pgs_nil))))) (fun _ _ _ _ _ => pts_nil) (fun _ _ _ _ _ => (pe_tup (pa_cons (pv 2) (pa_cons (pe_lc (own := [("asked", 4)]) (g := gName 4) (by rfl) nd (pi_seqB (K := K) (pv 3)) (blkOk_by (own := [("asked", 4)]) (N := ["draws", "order", "weight", "asks", "asked", "house"]) (sc := relS (scAt s_rehoused 0 [] 0 []) (defScope s_rehoused)) (by decide +kernel)) (fun _ _ _ _ _ => (pg_name (i := 4) nd rfl (Or.inr rfl))) (fun _ _ _ _ _ => pts_nil) (fun _ _ _ _ _ => (pe_lc (own := [("house", 5)]) (g := gName 5) (by rfl) nd (pi_seqB (K := K) (pv 1)) (blkOk_by (own := [("house", 5)]) (N := ["draws", "order", "weight", "asks", "asked", "house"]) (sc := relS (scAt s_rehoused 0 [] 0 [0, 1]) (relS (scAt s_rehoused 0 [] 0 []) (defScope s_rehoused))) (by decide +kernel)) (fun _ _ _ _ _ => (pg_name (i := 5) nd rfl (Or.inl rfl))) (fun _ _ _ _ _ => pts_nil) (fun _ _ _ _ _ => (pe_ix (ix_P (K := K)) (pv 4) (pv 5) (fun _ _ => rfl)))))) pa_nil))))))), inferInstance, ?_⟩
    clear F hr nd hu hu5
    intro ws M k e h
    obtain ⟨b, ds, o, rfl, hz, hk⟩ := h
    obtain ⟨h1, h2, h3⟩ := hz
    simp
    refine lcL_mapIx ds _ (fun d => wE true (d.1, d.2.map fun r => o.map fun n => (r[n]?).getD [])) (line_ge (by omega)) trivial (fun d hd Q hQ => ?_) ?_
    · simp
      rw [wE_eq, List.map_map] at hQ
      refine lcL_mapIx d.2 _ _ (line_ge (by have := (h3 d hd).1; omega)) trivial (fun r hr Q hq => ?_) ⟨line_ge (by decide), hQ⟩
      simp
      rw [show ((fun r => sqE true (List.map tM r)) ∘ fun r => o.map fun n => (r[n]?).getD []) r = .lst ((o.map fun n => (r[n]?).getD []).map tM) from rfl, List.map_map] at hq
      refine lcL_mapIx o _ _ (line_ge (by omega)) (by cases b <;> trivial) (fun n hn Q hq => ?_) hq
      have lt := (h3 d hd).2 r hr n hn
      have hq2 : Q (tM ((r[n]?).getD [])) M := hq
      rw [List.getElem?_eq_getElem lt] at hq2
      simp
      rw [List.getElem?_eq_getElem lt]
      exact ⟨_, rfl, hq2⟩
    · rw [rehD, List.map_map] at hk
      exact fin0 hk
theorem scplan_like_ok_CPlk : FnScope ["plan", "draws"] ["plan", "draws"] (defScope s_plan_like) := ⟨rfl, rfl, rfl, by decide +kernel, rfl, by decide +kernel, by decide +kernel⟩
theorem ok_CPlk {f : Addr} {fd : FuncData} (F : FnS K "_plan_like" s_plan_like f fd) (B : BltU mg) {C : Addr} (J : PlK K C) {pO gO : Addr} (O : PMW P w K mg base C pO gO) : FnOk P w K mg base (L2.CX P w) 11 f fd ["plan", "draws"] (spP K ((cPlk C))) := by
  refine fun_okP F scplan_like_ok_CPlk (fun ws M k e h => ?_) (fun cdv A outer s H E hr => ?_)
  · obtain ⟨p, l, c, h, qs, ns, b, b0, ds, w, rfl, _⟩ := h
    rfl
  · have nd := scplan_like_ok_CPlk.nd
    have hu := hu64 hr
    have hu5 := hu65 hr
    refine ⟨_, _, (pss_one (ps_ret (pe_cmethS (E := WE (WD0 E)) (pe_glob (v := .ref C) rfl O.gP rfl) O.r O.c O.F (hr.mono (by decide)) (fun _ => passAt (takes_of rfl rfl rfl rfl) _) (pa_cons (pe_fldP (K := K) (pv 0) rfl) (pa_cons (pe_fldP (K := K) (pv 0) rfl) (pa_cons (pe_fldP (K := K) (pv 0) rfl) (pa_cons (pe_fldP (K := K) (pv 0) rfl) (pa_cons (pv 1) pa_nil)))))))), inferInstance, ?_⟩
    clear F hr nd hu hu5
    intro ws M k e h
    obtain ⟨p, l, c, h, qs, ns, b, b0, ds, w, rfl, hz, hk⟩ := h
    obtain ⟨hs, hf, hd, hl⟩ := hz
    simp [J.cl, J.p, J.bl, J.bc, J.hc, J.qs, J.dr, J.wt]
    exact ⟨b, b0, p, l, c, h, ds, w, by simp [hl], ⟨hs, hf, hd⟩, fin0 hk⟩
end
end PU

set_option maxRecDepth 100000
set_option maxHeartbeats 8000000
set_option synthInstance.maxHeartbeats 4000000
set_option synthInstance.maxSize 4000
namespace PU
open PySem PySem.Spec PyProof.Rows L2 GS WU
section
variable {P : Program} {w : World} {K : PySem.W.Frag} {mg : Str → Option Value} {base : Heap}
theorem scPlan_made_ok_MadeW : FnScope ["cls", "p", "book_length", "book_count", "house_count", "draws", "columns", "questions", "numbers", "numbered", "house", "known", "weight", "asks", "draw", "at", "question"] ["cls", "p", "book_length", "book_count", "house_count", "draws"] (defScope sPlan_made) := ⟨rfl, rfl, rfl, by decide +kernel, rfl, by decide +kernel, by decide +kernel⟩
theorem ok_MadeW {f : Addr} {fd : FuncData} (F : FunD K "made" "Plan.made" (defArgs sPlan_made) (defBody sPlan_made) (defScope sPlan_made) [] [] f fd) (B : BltU mg) {C fI : Addr} {fdI : FuncData} (MK : Mk K C fI) (GI : FnOk P w K mg base (L2.CX P w) 8 fI fdI ["self", "p", "book_length", "book_count", "questions", "draws"] (spP K (cIni C))) (bI : L2.Binds K fdI ["self", "p", "book_length", "book_count", "questions", "draws"] []) (CSz : Cal P w K mg base 3 "check_sizes" fCSz fdCSz ["p", "book_length", "book_count"] (spP K cSiz)) (CP : Cal P w K mg base 2 "is_positive" fCP fdCP ["value"] (spP K cPos)) (CPl : Cal P w K mg base 1 "check_places" fCPl fdCPl ["part", "rights"] (spP K cPlc)) (CMeW : Cal P w K mg base 2 "members_of" fCMeW fdCMeW ["value"] (spP K cMemW)) (CFm : Cal P w K mg base 7 "_is_made" fCFm fdCFm ["value", "book_count", "house_count", "p", "columns"] (spP K cFm)) (CQaW : Cal P w K mg base 1 "_questions_asked" fCQaW fdCQaW ["house", "draws"] (spP K cQaW)) (CNa : Cal P w K mg base 1 "_numbered_asks" fCNa fdCNa ["numbers", "asks"] (spP K (cNa P w))) : FnOk P w K mg base (L2.CX P w) 10 f fd ["cls", "p", "book_length", "book_count", "house_count", "draws"] (spP K ((cMadeW C))) := by
  refine fun_okP F scPlan_made_ok_MadeW (fun ws M k e h => ?_) (fun cdv A outer s H E hr => ?_)
  · obtain ⟨b, b0, p, l, c, h, ds, dw, rfl, _⟩ := h
    rfl
  · have nd := scPlan_made_ok_MadeW.nd
    have hu := hu64 hr
    have hu5 := hu65 hr
    refine ⟨_, _, (pss_cons (ps_expr (pe_calS (W := WD0 E) CSz (hr.mono (by decide)) (pa_cons (pv 1) (pa_cons (pv 2) (pa_cons (pv 3) pa_nil))) (takes_of rfl rfl rfl rfl)))
      (pss_cons (ps_if (pt_not (pt_truP (K := K) (pe_calS (W := WD0 E) CP (hr.mono (by decide)) (pa_cons (pv 4) pa_nil) (takes_of rfl rfl rfl rfl)))) (pss_one ps_never) pss_nil)
      (pss_cons (ps_set (i := 6) nd rfl (Or.inr rfl) (pe_op (op_mulP (K := K)) (pv 2) (pv 3)))
      (pss_cons (ps_expr (pe_calS (W := WD0 E) CPl (hr.mono (by decide)) (pa_cons pe_str (pa_cons (pe_lc (own := [("draw", 14)]) (g := gName 14) (by rfl) nd (pi_seqB (K := K) (pe_calS (W := WD0 E) CMeW (hr.mono (by decide)) (pa_cons (pv 5) pa_nil) (takes_of rfl rfl rfl rfl))) (blkOk_by (own := [("draw", 14)]) (N := ["cls", "p", "book_length", "book_count", "house_count", "draws", "columns", "questions", "numbers", "numbered", "house", "known", "weight", "asks", "draw", "at", "question"]) (sc := defScope sPlan_made) (by decide +kernel)) (fun _ _ _ _ _ => (pg_name (i := 14) nd rfl (Or.inl rfl))) (fun _ _ _ _ _ => pts_nil) (fun _ _ _ _ _ => (pe_cal CFm (hr.mono (by decide)) (pa_cons (pv 14) (pa_cons (pv 3) (pa_cons (pv 4) (pa_cons (pv 1) (pa_cons (pv 6) pa_nil))))) passU))) pa_nil)) (takes_of rfl rfl rfl rfl)))
      (pss_cons (ps_setLc (i := 7) (own := [("house", 10)]) (g := gName 10) (by rfl) nd rfl rfl (sw_true rfl rfl rfl (by decide +kernel)) (pi_range1 rfl B.range (pa_cons (pv 4) pa_nil)) (blkOk_by (own := [("house", 10)]) (N := ["cls", "p", "book_length", "book_count", "house_count", "draws", "columns", "questions", "numbers", "numbered", "house", "known", "weight", "asks", "draw", "at", "question"]) (sc := defScope sPlan_made) (by decide +kernel)) (fun _ _ _ _ _ => (pg_name (i := 10) nd rfl (Or.inl rfl))) (fun _ _ _ _ _ => pts_nil) (fun _ _ _ _ _ => (pe_cal CQaW (hr.mono (by decide)) (pa_cons (pv 10) (pa_cons (pv 5) pa_nil)) passU)))
      (pss_cons (ps_set (i := 8) nd rfl (Or.inr rfl) (pe_lc (own := [("known", 11)]) (g := gName 11) (by rfl) nd (pi_seqB (K := K) (pv 7)) (blkOk_by (own := [("known", 11)]) (N := ["cls", "p", "book_length", "book_count", "house_count", "draws", "columns", "questions", "numbers", "numbered", "house", "known", "weight", "asks", "draw", "at", "question"]) (sc := defScope sPlan_made) (by decide +kernel)) (fun _ _ _ _ _ => (pg_name (i := 11) nd rfl (Or.inl rfl))) (fun _ _ _ _ _ => pts_nil) (fun _ _ _ _ _ => (pe_dcE (P := P) (w := w) hu (own := [("at", 15), ("question", 16)]) (g := gTup K 2 (gCons (gName 15) (gCons (gName 16) gNil))) (by rfl) nd (pi_enumB (K := K) (by rfl) B.enum (pa_cons (pv 11) pa_nil)) (blkOk_by (own := [("at", 15), ("question", 16)]) (N := ["cls", "p", "book_length", "book_count", "house_count", "draws", "columns", "questions", "numbers", "numbered", "house", "known", "weight", "asks", "draw", "at", "question"]) (sc := relS (scAt sPlan_made 5 [] 0 []) (defScope sPlan_made)) (by decide +kernel)) (fun _ _ _ _ _ => (pg_tupP (K := K) (n := 2) (pg_tup rfl (pgs_cons (pg_name (i := 15) nd rfl (Or.inl rfl)) (pgs_cons (pg_name (i := 16) nd rfl (Or.inl rfl)) pgs_nil))))) (fun _ _ _ _ _ => (pv 16)) (fun _ _ _ _ _ => (pv 15))))))
      (pss_cons (ps_setLc (i := 9) (own := [("weight", 12), ("asks", 13)]) (g := gTup K 2 (gCons (gName 12) (gCons (gName 13) gNil))) (by rfl) nd rfl rfl (sw_true rfl rfl rfl (by decide +kernel)) (pi_seqB (K := K) (pv 5)) (blkOk_by (own := [("weight", 12), ("asks", 13)]) (N := ["cls", "p", "book_length", "book_count", "house_count", "draws", "columns", "questions", "numbers", "numbered", "house", "known", "weight", "asks", "draw", "at", "question"]) (sc := defScope sPlan_made) (by decide +kernel)) (fun _ _ _ _ _ => (pg_tupP (K := K) (n := 2) (pg_tup rfl (pgs_cons (pg_name (i := 12) nd rfl (Or.inl rfl)) (pgs_cons (pg_name (i := 13) nd rfl (Or.inl rfl)) pgs_nil))))) (fun _ _ _ _ _ => pts_nil) (fun _ _ _ _ _ => (pe_tup (pa_cons (pv 12) (pa_cons (pe_cal CNa (hr.mono (by decide)) (pa_cons (pv 8) (pa_cons (pv 13) pa_nil)) passU) pa_nil)))))
      (pss_one (ps_ret (pe_makeL (i := 0) (E := WE (WD0 E)) MK GI (hr.mono (by decide)) rfl (Or.inl rfl) bI (fun _ => passAt (takes_of rfl rfl rfl rfl) _) (pa_cons (pv 1) (pa_cons (pv 2) (pa_cons (pv 3) (pa_cons (pv 7) (pa_cons (pv 9) pa_nil))))))))))))))), inferInstance, ?_⟩
    clear F hr nd hu hu5
    intro ws M k e h
    obtain ⟨b, b0, p, l, c, h, ds, dw, rfl, hz, hk⟩ := h
    obtain ⟨hs, hfl, hp, hl, hc, hh, hl2, hc2, hh2, h0, hd, hf, hr⟩ := hz
    simp
    refine ⟨(p, (l : Int), (c : Int)), rfl, ⟨hp, by simpa using hl, by simpa using hc⟩, ?_⟩
    refine ⟨(h : Int), rfl, trivial, ?_⟩
    simp [hh]
    refine ⟨cmul_of (by omega) (by omega), dw, b0, _, rfl, ⟨hs, hfl, by simpa using h0⟩, ?_⟩
    simp
    refine lcL_mapIx ds _ (fun _ => .bl true) (line_ge (by omega)) trivial (fun d q Q hQ => ?_) ?_
    · obtain ⟨a1, a2, a3⟩ := hr d q
      simp
      exact ⟨(b, d, h, p, l * c), by simp [a2], ⟨a1, by show d.2.length ≤ 100; omega, hh2, Nat.mul_le_mul hl2 hc2, a3⟩, _, rfl, hQ⟩
    refine ⟨("draws", _), rfl, ⟨by rw [List.length_map]; omega, fun d q => by obtain ⟨_, _, rfl⟩ := List.mem_map.mp q; rfl⟩, ?_⟩
    refine ⟨by omega, ?_⟩
    have hw : Wide h ds := fun d q r hr' => ((hr d q).2.2 r hr').1
    refine lcL_mapIx (List.range h) _ (fun n => .lst ((sq (askd n ds)).map tM)) (line_ge (by rw [List.length_range]; omega)) trivial (fun n hn Q hq => ?_) ?_
    · simp
      refine ⟨b, b0, n, ds, dw, by simp, ⟨hs, hf n (List.mem_range.mp hn), hd, fun d q => ⟨by rw [(hr d q).2.1]; exact hc2, fun r hr' => by rw [hw d q r hr']; exact List.mem_range.mp hn⟩⟩, _, rfl, hq⟩
    have e1 : ((List.range h).map fun n => D.lst ((sq (askd n ds)).map tM)) = (qsOf h ds).map fun q => .lst (q.map tM) := by
      rw [qsOf, List.map_map]
      rfl
    rw [e1]
    have hlen : (qsOf h ds).length = h := by rw [qsOf, List.length_map, List.length_range]
    have hqn : ∀ q ∈ qsOf h ds, ∃ n < h, q = sq (askd n ds) := fun q hq => by
      obtain ⟨n, hn, rfl⟩ := List.mem_map.mp hq
      exact ⟨n, List.mem_range.mp hn, rfl⟩
    have hq64 : ∀ q ∈ qsOf h ds, q.length < 64 := fun q hq => by
      obtain ⟨n, hn, rfl⟩ := hqn q hq
      exact hf n hn _ (sq_nd _) fun u hu => sq_mem.mp hu
    refine lcL_mapIx (qsOf h ds) _ (fun q => dicQ P w (kvD q)) (line_ge (by omega)) trivial (fun q hq Q hQ => ?_) ?_
    · simp
      rw [enumD_map]
      refine dcL_mapA _ (fun z => z.1) (fun z => .int (z.2 : Nat)) trivial q.zipIdx [] ?_ (by rw [List.length_zipIdx]; have := hq64 q hq; simp only [List.length_nil]; omega) (fun z hz Q hQ => ?_) (by rw [List.nil_append]; exact hQ)
      · obtain ⟨n, hn, rfl⟩ := hqn q hq
        rw [List.map_nil, List.nil_append]
        exact (List.zipIdx_map_fst 0 (sq (askd n ds))).symm ▸ sq_nd (askd n ds)
      · simp
        exact ⟨z.1, rfl, hQ⟩
    simp only [hs, ob_some]
    refine lcL_mapIx ds _ (fun d => nE true (d.1, d.2.map (nrow (qsOf h ds)))) (line_ge (by omega)) (keep_seq hs) (fun d hd' Q hQ => ?_) ?_
    · simp
      refine ⟨(b, qsOf h ds, d.2), rfl, ⟨by show (qsOf h ds).length ≤ 100; omega, by show d.2.length ≤ 100; have := (hr d hd').2.1; omega, fun r hr' i q l e1 e2 => ?_⟩, ?_⟩
      · obtain ⟨lt, rfl⟩ := List.getElem?_eq_some_iff.mp e2
        have : (qsOf h ds)[i]'lt = sq (askd i ds) := by simp [qsOf]
        rw [this]
        exact sq_mem.mpr (askd_mem (c := h) hd' hr' e1)
      · refine ⟨_, rfl, line_ge (by simp), ?_⟩
        rw [nE_eq, List.map_map] at hQ
        exact hQ
    have e2 : (ds.map fun d => nE true (d.1, d.2.map (nrow (qsOf h ds)))) = (numD (qsOf h ds) ds).map (nE true) := by
      rw [numD, List.map_map]
      rfl
    rw [e2]
    refine ⟨M, p, l, c, qsOf h ds, numD (qsOf h ds) ds, rfl, rfl, ⟨hp, hl, hc, ?_, by omega, ?_, ?_⟩, rfl, M, _, rfl, rfl, id, ?_⟩
    · intro z
      rw [z] at hlen
      simp at hlen
      omega
    · intro q hq
      obtain ⟨n, hn, rfl⟩ := hqn q hq
      refine ⟨fun m hm => ?_, sq_ris _, by have := hq64 _ hq; omega, Nat.mul_le_mul hl2 hc2⟩
      obtain ⟨d, hd1, hm⟩ := List.mem_flatMap.mp (sq_mem.mp hm)
      obtain ⟨r, hr1, rfl⟩ := List.mem_map.mp hm
      have lt : n < r.length := by rw [hw d hd1 r hr1]; exact hn
      rw [List.getElem?_eq_getElem lt]
      exact ((hr d hd1).2.2 r hr1).2 _ (List.getElem_mem lt)
    · refine ⟨by simpa [numD] using h0, by rw [numD, List.length_map]; omega, by omega, by omega, fun q hq => by have := hq64 q hq; omega, fun d hd1 => ?_⟩
      obtain ⟨d', hd2, rfl⟩ := List.mem_map.mp hd1
      obtain ⟨a1, a2, a3⟩ := hr d' hd2
      refine ⟨a1, by rw [List.length_map]; exact a2, fun r hr1 => ?_⟩
      obtain ⟨r', hr2, rfl⟩ := List.mem_map.mp hr1
      refine ⟨by rw [nrow, List.length_zipWith, hlen, (a3 r' hr2).1, Nat.min_self], fun i x q e1 e2 => ?_⟩
      rw [nrow, List.getElem?_zipWith_eq_some] at e1
      obtain ⟨q', m, e3, e4, rfl⟩ := e1
      rw [e2] at e3
      cases e3
      obtain ⟨lt, rfl⟩ := List.getElem?_eq_some_iff.mp e2
      have : (qsOf h ds)[i]'lt = sq (askd i ds) := by simp [qsOf]
      have hm : m ∈ (qsOf h ds)[i]'lt := by
        rw [this]
        exact sq_mem.mpr (askd_mem (c := h) hd2 hr2 e4)
      have := List.idxOf_lt_length_iff.mpr hm
      omega
    · exact ⟨_, rfl, fin0 hk⟩
end
end PU

set_option maxRecDepth 100000
set_option maxHeartbeats 8000000
set_option synthInstance.maxHeartbeats 4000000
set_option synthInstance.maxSize 4000
namespace PU
open PySem PySem.Spec PyProof.Rows L2 GS WU
section
variable {P : Program} {w : World} {K : PySem.W.Frag} {mg : Str → Option Value} {base : Heap}
theorem scLets_ok_CLG : FnScope ["p", "count", "value", "letter"] ["p", "count", "value"] (defScope sLets) := ⟨rfl, rfl, rfl, by decide +kernel, rfl, by decide +kernel, by decide +kernel⟩
theorem ok_CLG {f : Addr} {fd : FuncData} (F : FnS K "are_letters" sLets f fd) (B : BltU mg) (CSG : Cal P w K mg base 1 "is_sequence" fCSG fdCSG ["value"] (spP K cSeqG)) (CBG : Cal P w K mg base 3 "is_below" fCBG fdCBG ["value", "limit"] (spP K cBelG)) : FnOk P w K mg base (L2.CX P w) 4 f fd ["p", "count", "value"] (spP K cLetsG) := by
  refine fun_okP F scLets_ok_CLG (fun ws M k e h => ?_) (fun cdv A outer s H E hr => ?_)
  · obtain ⟨p, n, x, rfl, _⟩ := h
    rfl
  · have nd := scLets_ok_CLG.nd
    have hu := hu64 hr
    have hu5 := hu65 hr
    refine ⟨_, _, (pss_one (ps_ret (pe_and (pe_calS (W := WD0 E) CSG (hr.mono (by decide)) (pa_cons (pv 2) pa_nil) (takes_of rfl rfl rfl rfl)) (pe_and (pe_cmpR (op_eqP (K := K) hu) (pe_callB (cr_lenP (K := K)) (by rfl) B.len (by decide +kernel) (pa_cons (pv 2) pa_nil)) (pv 1) (nomark _)) (pe_one (pe_callB (cr_allP (K := K) rfl) (by rfl) B.all (by decide +kernel) (pa_cons (pe_lc (own := [("letter", 3)]) (g := gName 3) (by rfl) nd (pi_seqB (K := K) (pv 2)) (blkOk_by (own := [("letter", 3)]) (N := ["p", "count", "value", "letter"]) (sc := defScope sLets) (by decide +kernel)) (fun _ _ _ _ _ => (pg_name (i := 3) nd rfl (Or.inl rfl))) (fun _ _ _ _ _ => pts_nil) (fun _ _ _ _ _ => (pe_cal CBG (hr.mono (by decide)) (pa_cons (pv 3) (pa_cons (pv 0) pa_nil)) passU))) pa_nil))))))), inferInstance, ?_⟩
    clear F hr nd hu hu5
    intro ws M k e h
    obtain ⟨p, n, x, rfl, hz, hk⟩ := h
    obtain ⟨hx, hn⟩ := hz
    simp
    refine ⟨x, rfl, hx, ?_⟩
    cases x with
    | lst xs =>
      have hall : ∀ y ∈ xs, okD y = true := pl_seq hx
      simp [isS]
      by_cases q : (xs.length : Int) = n
      · have q2 : xs.length = n := by omega
        rw [if_pos q]
        refine Eq.mp (congrArg (fun z => lcL _ _ _ _ _ _ z [] _) (List.map_id' xs)) ?_
        refine lcL_mapIx xs (fun y => y) (fun y => .bl (isB p y)) ?_ trivial (fun y hy Q hq => ?_) ?_
        · exact line_ge (by omega)
        · simp
          exact ⟨y, p, rfl, hall y hy, _, rfl, hq⟩
        · have e : isLt p n (.lst xs) = xs.all (isB p) := by
            simp [isLt, isS, seqOf, q2]
          rw [e] at hk
          simp
          exact fin0 hk
      · have q2 : ¬ xs.length = n := by omega
        rw [if_neg q]
        have e : isLt p n (.lst xs) = false := by simp [isLt, isS, seqOf, q2]
        rw [e] at hk
        exact fin0 hk
    | tup xs =>
      have hall : ∀ y ∈ xs, okD y = true := pl_seq hx
      simp [isS]
      by_cases q : (xs.length : Int) = n
      · have q2 : xs.length = n := by omega
        rw [if_pos q]
        refine Eq.mp (congrArg (fun z => lcL _ _ _ _ _ _ z [] _) (List.map_id' xs)) ?_
        refine lcL_mapIx xs (fun y => y) (fun y => .bl (isB p y)) ?_ trivial (fun y hy Q hq => ?_) ?_
        · exact line_ge (by omega)
        · simp
          exact ⟨y, p, rfl, hall y hy, _, rfl, hq⟩
        · have e : isLt p n (.tup xs) = xs.all (isB p) := by
            simp [isLt, isS, seqOf, q2]
          rw [e] at hk
          simp
          exact fin0 hk
      · have q2 : ¬ xs.length = n := by omega
        rw [if_neg q]
        have e : isLt p n (.tup xs) = false := by simp [isLt, isS, seqOf, q2]
        rw [e] at hk
        exact fin0 hk
    | _ => first | (simp [isS, isLt] at hk ⊢; exact fin0 hk) | exact absurd hx (by simp [okD])
theorem scis_order_ok_COG : FnScope ["value", "limit"] ["value", "limit"] (defScope s_is_order) := ⟨rfl, rfl, rfl, by decide +kernel, rfl, by decide +kernel, by decide +kernel⟩
theorem ok_COG {f : Addr} {fd : FuncData} (F : FnS K "is_order" s_is_order f fd) (B : BltU mg) (CLG : Cal P w K mg base 4 "are_letters" fCLG fdCLG ["p", "count", "value"] (spP K cLetsG)) : FnOk P w K mg base (L2.CX P w) 5 f fd ["value", "limit"] (spP K cOrdG) := by
  refine fun_okP F scis_order_ok_COG (fun ws M k e h => ?_) (fun cdv A outer s H E hr => ?_)
  · obtain ⟨x, n, rfl, _⟩ := h
    rfl
  · have nd := scis_order_ok_COG.nd
    have hu := hu64 hr
    have hu5 := hu65 hr
    refine ⟨_, _, (pss_one (ps_ret (pe_and (pe_calS (W := WD0 E) CLG (hr.mono (by decide)) (pa_cons (pv 1) (pa_cons (pv 1) (pa_cons (pv 0) pa_nil))) (takes_of rfl rfl rfl rfl)) (pe_one (pe_cmpR (op_eqP (K := K) hu) (pe_lenSetG (K := K) (by rfl) B.len (by rfl) B.set (pv 0) (by rfl)) (pv 1) (nomark _)))))), inferInstance, ?_⟩
    clear F hr nd hu hu5
    intro ws M k e h
    obtain ⟨x, n, rfl, hz, hk⟩ := h
    obtain ⟨hx, hn⟩ := hz
    simp
    refine ⟨n, n, x, rfl, ⟨hx, by omega⟩, ?_⟩
    cases q : isLt n n x with
    | false =>
      have e : isOr n x = false := by rw [isOr, q]; rfl
      rw [e] at hk
      simp
      exact fin0 hk
    | true =>
      obtain ⟨b, r, e, hl, hr⟩ := isLt_eq q
      rw [isOr_sq q e] at hk
      rw [e]
      simp
      refine ⟨by omega, fun c hc => ?_⟩
      have := hc.eq_iff
      have e2 : decide ((c : Int) = n) = decide r.Nodup := by
        rw [decide_eq_decide, ← this]
        omega
      rw [e2]
      exact fin0 hk
theorem sccolumns_of_book_ok_CCob : FnScope ["plan", "book"] ["plan", "book"] (defScope s_columns_of_book) := ⟨rfl, rfl, rfl, by decide +kernel, rfl, by decide +kernel, by decide +kernel⟩
theorem ok_CCob {f : Addr} {fd : FuncData} (F : FnS K "columns_of_book" s_columns_of_book f fd) (B : BltU mg) {C : Addr} (J : PlK K C) : FnOk P w K mg base (L2.CX P w) 1 f fd ["plan", "book"] (spP K ((cCob C))) := by
  refine fun_okP F sccolumns_of_book_ok_CCob (fun ws M k e h => ?_) (fun cdv A outer s H E hr => ?_)
  · obtain ⟨p, c, l, b, qs, ns, rfl, _⟩ := h
    rfl
  · have nd := sccolumns_of_book_ok_CCob.nd
    have hu := hu64 hr
    have hu5 := hu65 hr
    refine ⟨_, _, (pss_one (ps_ret (pe_tupRg rfl (by rfl) B.tuple (prg_2 (by rfl) B.range (pe_op (op_mulP (K := K)) (pv 1) (pe_fldP (K := K) (pv 0) rfl)) (pe_op (op_mulP (K := K)) (pe_op (op_addP (K := K)) (pv 1) pe_int) (pe_fldP (K := K) (pv 0) rfl)))))), inferInstance, ?_⟩
    clear F hr nd hu hu5
    intro ws M k e h
    obtain ⟨p, c, l, b, qs, ns, rfl, hz, hk⟩ := h
    obtain ⟨hb, hl⟩ := hz
    simp [J.cl, J.p, J.bl, J.bc, J.hc, J.qs, J.dr, J.wt]
    refine ⟨cmul_of (by omega) (by omega), cmul_of (by omega) (by omega), ?_⟩
    have e1 : ((b : Int) + 1) * l - b * l = (l : Int) := by rw [Int.add_mul]; omega
    have e2 : D.tup (rngD ((b : Int) * l) (((b : Int) + 1) * l - b * l).toNat) = .tup (ordD (colsB l b)) := by
      rw [e1, Int.toNat_natCast, rngD]
      show _ = D.tup (((List.range l).map fun t => b * l + t).map fun n : Nat => D.int (n : Int))
      rw [List.map_map]
      refine congrArg D.tup (List.map_congr_left fun t _ => ?_)
      show D.int ((b : Int) * l + t) = D.int ((b * l + t : Nat) : Int)
      rw [Int.natCast_add, Int.natCast_mul]
    rw [e2]
    have b1 : (b : Int) * l ≤ 100 * 100 := Int.mul_le_mul (by omega) (by omega) (by omega) (by decide)
    have b0 : 0 ≤ (b : Int) * l := Int.mul_nonneg (by omega) (by omega)
    refine ⟨RgOk.of_le b0 (by rw [Int.add_mul]; omega) (by omega) (by rw [Int.add_mul]; omega), fin0 hk⟩
theorem sccolumns_at_ok_CCat : FnScope ["rows", "places", "row", "place"] ["rows", "places"] (defScope s_columns_at) := ⟨rfl, rfl, rfl, by decide +kernel, rfl, by decide +kernel, by decide +kernel⟩
theorem ok_CCat {f : Addr} {fd : FuncData} (F : FnS K "columns_at" s_columns_at f fd) (B : BltU mg) : FnOk P w K mg base (L2.CX P w) 1 f fd ["rows", "places"] (spP K cCat) := by
  refine fun_okP F sccolumns_at_ok_CCat (fun ws M k e h => ?_) (fun cdv A outer s H E hr => ?_)
  · obtain ⟨m, cs, wd, rfl, _⟩ := h
    rfl
  · have nd := sccolumns_at_ok_CCat.nd
    have hu := hu64 hr
    have hu5 := hu65 hr
    refine ⟨_, _, (pss_one (ps_ret (pe_callTy (cr_tupleP (K := K)) (by rfl) B.tuple (by decide +kernel) (pa_cons (pe_lc (own := [("row", 2)]) (g := gName 2) (by rfl) nd (pi_seqB (K := K) (pv 0)) (blkOk_by (own := [("row", 2)]) (N := ["rows", "places", "row", "place"]) (sc := defScope s_columns_at) (by decide +kernel)) (fun _ _ _ _ _ => (pg_name (i := 2) nd rfl (Or.inr rfl))) (fun _ _ _ _ _ => pts_nil) (fun _ _ _ _ _ => (pe_callTy (cr_tupleP (K := K)) (by rfl) B.tuple (by decide +kernel) (pa_cons (pe_lc (own := [("place", 3)]) (g := gName 3) (by rfl) nd (pi_seqB (K := K) (pv 1)) (blkOk_by (own := [("place", 3)]) (N := ["rows", "places", "row", "place"]) (sc := relS (scAt s_columns_at 0 [] 0 [1]) (defScope s_columns_at)) (by decide +kernel)) (fun _ _ _ _ _ => (pg_name (i := 3) nd rfl (Or.inl rfl))) (fun _ _ _ _ _ => pts_nil) (fun _ _ _ _ _ => (pe_ix (ix_P (K := K)) (pv 2) (pv 3) (fun _ _ => rfl)))) pa_nil)))) pa_nil)))), inferInstance, ?_⟩
    clear F hr nd hu hu5
    intro ws M k e h
    obtain ⟨m, cs, wd, rfl, hz, hk⟩ := h
    obtain ⟨h1, h2, h3, h4⟩ := hz
    simp
    refine lcL_mapIx m _ (fun r => tI (selR cs r)) (line_ge (by omega)) trivial (fun r hr Q hq => ?_) ?_
    · simp
      refine lcL_mapIx cs _ (fun i => .int ((r[i]?).getD 0)) (line_ge (by omega)) trivial (fun i hi Q hq => ?_) (by
        have e : D.tup (cs.map fun i : Nat => D.int ((r[i]?).getD 0)) = tI (selR cs r) := by
          show _ = D.tup ((cs.map fun i => (r[i]?).getD 0).map D.int)
          rw [List.map_map]
          rfl
        rw [e]
        exact hq)
      have lt : i < r.length := by rw [h3 r hr]; exact h4 i hi
      simp
      have hq2 : Q (.int ((r[i]?).getD 0)) M := hq
      rw [List.getElem?_eq_getElem lt] at hq2 ⊢
      exact ⟨_, rfl, hq2⟩
    · have e : tM (selM cs m) = D.tup (m.map fun r => tI (selR cs r)) := by
        show D.tup ((m.map (selR cs)).map tI) = _
        rw [List.map_map]
        rfl
      rw [e] at hk
      exact fin0 hk
end
end PU

set_option maxRecDepth 100000
set_option maxHeartbeats 8000000
set_option synthInstance.maxHeartbeats 4000000
set_option synthInstance.maxSize 4000
namespace PU
open PySem PySem.Spec PyProof.Rows L2 GS WU
section
variable {P : Program} {w : World} {K : PySem.W.Frag} {mg : Str → Option Value} {base : Heap}
theorem scplan_of_books_ok_CPob : FnScope ["plan", "books", "columns", "questions", "draws", "book", "column", "known", "weight", "asks", "question"] ["plan", "books"] (defScope s_plan_of_books) := ⟨rfl, rfl, rfl, by decide +kernel, rfl, by decide +kernel, by decide +kernel⟩
theorem ok_CPob {f : Addr} {fd : FuncData} (F : FnS K "_plan_of_books" s_plan_of_books f fd) (B : BltU mg) {C : Addr} (J : PlK K C) {pO gO : Addr} (O : PMW P w K mg base C pO gO) (CCob : Cal P w K mg base 1 "columns_of_book" fCCob fdCCob ["plan", "book"] (spP K (cCob C))) (CCat : Cal P w K mg base 1 "columns_at" fCCat fdCCat ["rows", "places"] (spP K cCat)) (CAkB : Cal P w K mg base 1 "draws_asking" fCAkB fdCAkB ["plan", "questions"] (spP K (cAskB C))) : FnOk P w K mg base (L2.CX P w) 11 f fd ["plan", "books"] (spP K ((cPob C))) := by
  refine fun_okP F scplan_of_books_ok_CPob (fun ws M k e h => ?_) (fun cdv A outer s H E hr => ?_)
  · obtain ⟨p, l, c, h, qs, ns, D1, b, o, rfl, _⟩ := h
    rfl
  · have nd := scplan_of_books_ok_CPob.nd
    have hu := hu64 hr
    have hu5 := hu65 hr
    refine ⟨_, _, (pss_cons (ps_set (i := 2) nd rfl (Or.inr rfl) (pe_lc2 (own := [("book", 5), ("column", 6)]) (vs1 := [6]) (g := gName 5) (g1 := gName 6) (by rfl) nd (pi_seqB (K := K) (pv 1)) (blkOk_by (own := [("book", 5), ("column", 6)]) (N := ["plan", "books", "columns", "questions", "draws", "book", "column", "known", "weight", "asks", "question"]) (sc := defScope s_plan_of_books) (by decide +kernel)) (by decide) (fun _ _ _ _ _ => (pg_name (i := 5) nd rfl (Or.inl rfl))) (fun _ _ _ _ _ => pts_nil) (fun _ _ _ _ _ => (pi_seqB (K := K) (pe_cal CCob (hr.mono (by decide)) (pa_cons (pv 0) (pa_cons (pv 5) pa_nil)) passU))) (fun _ _ _ _ _ => (pg_name (i := 6) nd rfl (Or.inl rfl))) (fun _ _ _ _ _ => pts_nil) (fun _ _ _ _ _ => (pv 6))))
      (pss_cons (ps_setLc (i := 3) (own := [("known", 7)]) (g := gName 7) (by rfl) nd rfl rfl (sw_true rfl rfl rfl (by decide +kernel)) (pi_seqB (K := K) (pe_fldP (K := K) (pv 0) rfl)) (blkOk_by (own := [("known", 7)]) (N := ["plan", "books", "columns", "questions", "draws", "book", "column", "known", "weight", "asks", "question"]) (sc := defScope s_plan_of_books) (by decide +kernel)) (fun _ _ _ _ _ => (pg_name (i := 7) nd rfl (Or.inl rfl))) (fun _ _ _ _ _ => pts_nil) (fun _ _ _ _ _ => (pe_lc (own := [("question", 10)]) (g := gName 10) (by rfl) nd (pi_seqB (K := K) (pv 7)) (blkOk_by (own := [("question", 10)]) (N := ["plan", "books", "columns", "questions", "draws", "book", "column", "known", "weight", "asks", "question"]) (sc := relS (scAt s_plan_of_books 1 [] 0 []) (defScope s_plan_of_books)) (by decide +kernel)) (fun _ _ _ _ _ => (pg_name (i := 10) nd rfl (Or.inl rfl))) (fun _ _ _ _ _ => pts_nil) (fun _ _ _ _ _ => (pe_cal CCat (hr.mono (by decide)) (pa_cons (pv 10) (pa_cons (pv 2) pa_nil)) passU)))))
      (pss_cons (ps_setLc (i := 4) (own := [("weight", 8), ("asks", 9)]) (g := gTup K 2 (gCons (gName 8) (gCons (gName 9) gNil))) (by rfl) nd rfl rfl (sw_true rfl rfl rfl (by decide +kernel)) (pi_seqB (K := K) (pe_calS (W := WD0 E) CAkB (hr.mono (by decide)) (pa_cons (pv 0) (pa_cons (pv 3) pa_nil)) (takes_of rfl rfl rfl rfl))) (blkOk_by (own := [("weight", 8), ("asks", 9)]) (N := ["plan", "books", "columns", "questions", "draws", "book", "column", "known", "weight", "asks", "question"]) (sc := defScope s_plan_of_books) (by decide +kernel)) (fun _ _ _ _ _ => (pg_tupP (K := K) (n := 2) (pg_tup rfl (pgs_cons (pg_name (i := 8) nd rfl (Or.inl rfl)) (pgs_cons (pg_name (i := 9) nd rfl (Or.inr rfl)) pgs_nil))))) (fun _ _ _ _ _ => pts_nil) (fun _ _ _ _ _ => (pe_tup (pa_cons (pv 8) (pa_cons (pe_lc (own := [("book", 5)]) (g := gName 5) (by rfl) nd (pi_seqB (K := K) (pv 1)) (blkOk_by (own := [("book", 5)]) (N := ["plan", "books", "columns", "questions", "draws", "book", "column", "known", "weight", "asks", "question"]) (sc := relS (scAt s_plan_of_books 2 [] 0 []) (defScope s_plan_of_books)) (by decide +kernel)) (fun _ _ _ _ _ => (pg_name (i := 5) nd rfl (Or.inl rfl))) (fun _ _ _ _ _ => pts_nil) (fun _ _ _ _ _ => (pe_ix (ix_P (K := K)) (pv 9) (pv 5) (fun _ _ => rfl)))) pa_nil)))))
      (pss_one (ps_ret (pe_cmethS (E := WE (WD0 E)) (pe_glob (v := .ref C) rfl O.gP rfl) O.r O.c O.F (hr.mono (by decide)) (fun _ => passAt (takes_of rfl rfl rfl rfl) _) (pa_cons (pe_fldP (K := K) (pv 0) rfl) (pa_cons (pe_fldP (K := K) (pv 0) rfl) (pa_cons (pe_callB (cr_lenP (K := K)) (by rfl) B.len (by decide +kernel) (pa_cons (pv 1) pa_nil)) (pa_cons (pe_fldP (K := K) (pv 0) rfl) (pa_cons (pv 4) pa_nil))))))))))), inferInstance, ?_⟩
    clear F hr nd hu hu5
    intro ws M k e h
    obtain ⟨p, l, c, h, qs, ns, D1, b, o, rfl, hz, hk⟩ := h
    obtain ⟨G, o0, ol, ho, few⟩ := hz
    have O1 := G.ok
    have hql := G.len
    have hun := G.un
    obtain ⟨n0, n1, n2, n3, n4, n5⟩ := G.n
    obtain ⟨hp, hl0, hc0, hh0, hl2, hc2, hh2, d0, d1, f1, dq⟩ := id O1
    have hlc : l * c ≤ 100 * 10 := Nat.mul_le_mul hl2 hc2
    have hol : o.length * l ≤ 10 * 100 := Nat.mul_le_mul ol hl2
    simp [J.cl, J.p, J.bl, J.bc, J.hc, J.qs, J.dr, J.wt]
    refine lcL2_flat (m := 100) _ (fun (k : Nat) => ordD (colsB l k)) (by cases b <;> trivial) o [] (line_ge (by simp; omega)) (fun k hk => by rw [List.length_map, colsB_len]; exact hl2) (fun k hk acc Q hl hq => ?_) ?_
    · simp
      refine ⟨p, c, l, k, qs, ns, rfl, ⟨by have := ho k hk; omega, hl2⟩, _, rfl, ?_⟩
      refine lcL_mapA _ _ trivial (colsB l k) acc (by simpa using hl) (fun t ht Q hq => ?_) hq
      simp
      exact hq
    have ec : [] ++ (o.flatMap fun k => ordD (colsB l k)) = ordD (colsO l o) := by
      rw [List.nil_append, colsO]
      show _ = List.map (fun n : Nat => D.int (n : Int)) (o.flatMap (colsB l))
      rw [List.map_flatMap]
    rw [ec]
    have hcl : (colsO l o).length ≤ 1000 := by rw [colsO_len]; omega
    refine lcL_mapIx qs _ (fun q => .lst ((q.map (selM (colsO l o))).map tM)) (line_ge (by omega)) trivial (fun q hq Q hQ => ?_) ?_
    · simp
      rw [List.map_map] at hQ
      refine lcL_mapIx q _ _ (line_ge (by have := n4 q hq; omega)) trivial (fun m hm Q hq2 => ?_) hQ
      simp
      have mo := G.q q hq m hm
      exact ⟨m, colsO l o, l * c, rfl, ⟨mo.1, hcl, fun r hr => (mo.2 r hr).1, colsO_lt ho⟩, _, rfl, hq2⟩
    have eq1 : (qs.map fun q => D.lst ((q.map (selM (colsO l o))).map tM)) = (qs.map (List.map (selM (colsO l o)))).map fun q => sqE true (q.map tM) := by
      rw [List.map_map]
      rfl
    rw [eq1]
    have bound : ∀ d ∈ ns, d.2.length ≤ 1000 ∧ ∀ r ∈ d.2, ∀ (i : Nat) (x : Int) (q : List Mx), r[i]? = some x → (qs.map (List.map (selM (colsO l o))))[i]? = some q → 0 ≤ x ∧ x < q.length := by
      intro d hd
      obtain ⟨e1, e2, e3⟩ := n5 d hd
      refine ⟨by omega, fun r hr i x q g1 g2 => ?_⟩
      rw [List.getElem?_map] at g2
      cases g3 : qs[i]? with
      | none => rw [g3] at g2; cases g2
      | some q' =>
        rw [g3] at g2
        cases g2
        rw [List.length_map]
        exact (e3 r hr).2 i x q' g1 g3
    refine ⟨p, l, c, qs, ns, true, _, rfl, ⟨by rw [List.length_map]; omega, n1, bound⟩, ?_⟩
    rw [unD_map _ rfl, hun]
    simp
    refine lcL_mapIx D1 _ (fun d => wE true (d.1, reoA l o d.2)) (line_ge (by omega)) trivial (fun d hd Q hQ => ?_) ?_
    · obtain ⟨a1, a2, a3⟩ := dq d hd
      simp
      rw [wE_eq, reoA, List.map_map] at hQ
      refine lcL_mapIx o _ _ (line_ge (by omega)) (by cases b <;> trivial) (fun k hk Q hq => ?_) ⟨line_ge (by decide), hQ⟩
      have lt : k < d.2.length := by rw [a2]; exact ho k hk
      have hq2 : Q (sqE true ((((d.2[k]?).getD []).map (selM (colsO l o))).map tM)) M := hq
      rw [List.getElem?_eq_getElem lt] at hq2
      simp
      rw [List.getElem?_eq_getElem lt]
      refine ⟨_, rfl, ?_⟩
      simpa using hq2
    · refine ⟨true, true, p, l, o.length, h, reoD l o D1, _, by rw [hql], ⟨?_, rfl, reoD_ok O1 o0 ol ho few⟩, fin0 hk⟩
      simp [reoD]
theorem screordered_plan_ok_CReo : FnScope ["plan", "order"] ["plan", "order"] (defScope s_reordered_plan) := ⟨rfl, rfl, rfl, by decide +kernel, rfl, by decide +kernel, by decide +kernel⟩
theorem ok_CReo {f : Addr} {fd : FuncData} (F : FnS K "reordered_plan" s_reordered_plan f fd) (B : BltU mg) {C : Addr} (J : PlK K C) (XN : XC P w K mg base "InvalidNumber" ["value"]) (COG : Cal P w K mg base 5 "is_order" fCOG fdCOG ["value", "limit"] (spP K cOrdG)) (CPob : Cal P w K mg base 11 "_plan_of_books" fCPob fdCPob ["plan", "books"] (spP K (cPob C))) : FnOk P w K mg base (L2.CX P w) 12 f fd ["plan", "order"] (spP K ((cReo C (He.ga K "InvalidNumber")))) := by
  refine fun_okP F screordered_plan_ok_CReo (fun ws M k e h => ?_) (fun cdv A outer s H E hr => ?_)
  · obtain ⟨p, l, c, h, qs, ns, D1, x, rfl, _⟩ := h
    rfl
  · have nd := screordered_plan_ok_CReo.nd
    have hu := hu64 hr
    have hu5 := hu65 hr
    refine ⟨_, _, (pss_cons (ps_if (pt_not (pt_truP (K := K) (pe_calS (W := WD0 E) COG (hr.mono (by decide)) (pa_cons (pv 1) (pa_cons (pe_fldP (K := K) (pv 0) rfl) pa_nil)) (takes_of rfl rfl rfl rfl)))) (pss_one (ps_raiseN (W := WD0 E) (K := K) rfl (takes_of rfl rfl rfl rfl) XN (hr.mono (by decide)) (pa_cons (pv 1) pa_nil))) pss_nil)
      (pss_one (ps_ret (pe_calS (W := WD0 E) CPob (hr.mono (by decide)) (pa_cons (pv 0) (pa_cons (pv 1) pa_nil)) (takes_of rfl rfl rfl rfl))))), inferInstance, ?_⟩
    clear F hr nd hu hu5
    intro ws M k e h
    obtain ⟨p, l, c, h, qs, ns, D1, x, rfl, ⟨G, hx, few, hc, hh⟩, q1, q2⟩ := h
    have O1 := G.ok
    have hql := G.len
    have ⟨n0, n1, n2, n3, n4, n5⟩ := G.n
    have ⟨hp, hl0, hc0, hh0, hl2, hc2, hh2, d0, d1, f1, dq⟩ := O1
    simp [J.cl, J.p, J.bl, J.bc, J.hc, J.qs, J.dr, J.wt]
    refine ⟨x, c, rfl, ⟨hx, by omega⟩, ?_⟩
    cases bx : isOr c x with
    | false =>
      simp
      exact .inl (q1 bx)
    | true =>
      simp
      obtain ⟨b, o, rfl, ho⟩ := isOr_eq bx
      have ho1 := ho.1
      exact ⟨p, l, c, h, qs, ns, D1, b, o, rfl, ⟨G, fun z => by rw [z] at ho1; simp at ho1; omega, by omega, ho.2.2, by rw [ho1]; exact few⟩, fin0 (by rw [ho1]; exact q2 b o rfl ho)⟩
theorem screhoused_plan_ok_CRho : FnScope ["plan", "order"] ["plan", "order"] (defScope s_rehoused_plan) := ⟨rfl, rfl, rfl, by decide +kernel, rfl, by decide +kernel, by decide +kernel⟩
theorem ok_CRho {f : Addr} {fd : FuncData} (F : FnS K "rehoused_plan" s_rehoused_plan f fd) (B : BltU mg) {C : Addr} (J : PlK K C) (XN : XC P w K mg base "InvalidNumber" ["value"]) (COG : Cal P w K mg base 5 "is_order" fCOG fdCOG ["value", "limit"] (spP K cOrdG)) (CAkB : Cal P w K mg base 1 "draws_asking" fCAkB fdCAkB ["plan", "questions"] (spP K (cAskB C))) (CRh : Cal P w K mg base 1 "_rehoused" fCRh fdCRh ["draws", "order"] (spP K cReh)) (CPlk : Cal P w K mg base 11 "_plan_like" fCPlk fdCPlk ["plan", "draws"] (spP K (cPlk C))) : FnOk P w K mg base (L2.CX P w) 12 f fd ["plan", "order"] (spP K ((cRho C (He.ga K "InvalidNumber")))) := by
  refine fun_okP F screhoused_plan_ok_CRho (fun ws M k e h => ?_) (fun cdv A outer s H E hr => ?_)
  · obtain ⟨p, l, c, h, qs, ns, D1, x, rfl, _⟩ := h
    rfl
  · have nd := screhoused_plan_ok_CRho.nd
    have hu := hu64 hr
    have hu5 := hu65 hr
    refine ⟨_, _, (pss_cons (ps_if (pt_not (pt_truP (K := K) (pe_calS (W := WD0 E) COG (hr.mono (by decide)) (pa_cons (pv 1) (pa_cons (pe_fldP (K := K) (pv 0) rfl) pa_nil)) (takes_of rfl rfl rfl rfl)))) (pss_one (ps_raiseN (W := WD0 E) (K := K) rfl (takes_of rfl rfl rfl rfl) XN (hr.mono (by decide)) (pa_cons (pv 1) pa_nil))) pss_nil)
      (pss_one (ps_ret (pe_calS (W := WD0 E) CPlk (hr.mono (by decide)) (pa_cons (pv 0) (pa_cons (pe_calS (W := WD0 E) CRh (hr.mono (by decide)) (pa_cons (pe_calS (W := WD0 E) CAkB (hr.mono (by decide)) (pa_cons (pv 0) (pa_cons (pe_fldP (K := K) (pv 0) rfl) pa_nil)) (takes_of rfl rfl rfl rfl)) (pa_cons (pv 1) pa_nil)) (takes_of rfl rfl rfl rfl)) pa_nil)) (takes_of rfl rfl rfl rfl))))), inferInstance, ?_⟩
    clear F hr nd hu hu5
    intro ws M k e h
    obtain ⟨p, l, c, h, qs, ns, D1, x, rfl, ⟨G, hx, few, hc, hh⟩, q1, q2⟩ := h
    have O1 := G.ok
    have hql := G.len
    have ⟨n0, n1, n2, n3, n4, n5⟩ := G.n
    have ⟨hp, hl0, hc0, hh0, hl2, hc2, hh2, d0, d1, f1, dq⟩ := O1
    simp [J.cl, J.p, J.bl, J.bc, J.hc, J.qs, J.dr, J.wt]
    refine ⟨x, h, by rw [hql], ⟨hx, by omega⟩, ?_⟩
    cases bx : isOr h x with
    | false =>
      simp
      exact .inl (q1 bx)
    | true =>
      simp
      obtain ⟨b, o, rfl, ho⟩ := isOr_eq bx
      have ho1 := ho.1
      refine ⟨p, l, c, qs, ns, false, qs, rfl, ⟨by omega, n1, fun d hd => ⟨by have := (n5 d hd).2.1; omega, fun r hr => ((n5 d hd).2.2 r hr).2⟩⟩, ?_⟩
      rw [G.un]
      refine ⟨b, D1, o, rfl, ⟨by omega, by omega, fun d hd => ⟨by have := (dq d hd).2.1; omega, fun r hr k hk => by rw [((dq d hd).2.2 r hr).1]; exact ho.2.2 k hk⟩⟩, ?_⟩
      exact ⟨p, l, c, h, qs, ns, true, true, rehD o D1, _, rfl, ⟨rfl, rfl, rehD_ok O1 ho few, hql⟩, fin0 (q2 b o rfl ho)⟩
end
end PU

set_option maxRecDepth 100000
set_option maxHeartbeats 8000000
set_option synthInstance.maxHeartbeats 4000000
set_option synthInstance.maxSize 4000
namespace PU
open PySem PySem.Spec PyProof.Rows L2 GS WU
section
variable {P : Program} {w : World} {K : PySem.W.Frag} {mg : Str → Option Value} {base : Heap}

theorem ixN_nat {n i : Nat} (h : i < n) : ixN n (i : Int) = some i := by
  unfold ixN
  simp
  omega
theorem Orr.ins {i t : Nat} {o : List Nat} (h : Orr i o) : Orr (i + 1) (o.take t ++ i :: o.drop t) := by
  have p : (o.take t ++ i :: o.drop t).Perm (i :: o) := by
    have := List.perm_middle (a := i) (l₁ := o.take t) (l₂ := o.drop t)
    rwa [List.take_append_drop] at this
  refine ⟨by rw [p.length_eq, List.length_cons, h.1], p.nodup_iff.mpr (List.nodup_cons.mpr ⟨fun z => by have := h.2.2 i z; omega, h.2.1⟩), fun k hk => ?_⟩
  rcases List.mem_cons.mp (p.mem_iff.mp hk) with rfl | hk
  · omega
  · have := h.2.2 k hk
    omega
theorem sclaw_order_ok_COrd : FnScope ["hand", "many", "order", "k", "at"] ["hand", "many"] (defScope s_law_order) := ⟨rfl, rfl, rfl, by decide +kernel, rfl, by decide +kernel, by decide +kernel⟩
theorem ok_COrd {f : Addr} {fd : FuncData} (F : FnS K "_law_order" s_law_order f fd) (B : BltU mg) (CTk : Cal P w K mg base 1 "_law_take" fCTk fdCTk ["hand", "many"] (spP K cTake)) : FnOk P w K mg base (L2.CX P w) 2 f fd ["hand", "many"] (spP K cOrd) := by
  refine fun_okP F sclaw_order_ok_COrd (fun ws M k e h => ?_) (fun cdv A outer s H E hr => ?_)
  · obtain ⟨n, R, rfl, _⟩ := h
    rfl
  · have nd := sclaw_order_ok_COrd.nd
    have hu := hu64 hr
    have hu5 := hu65 hr
    refine ⟨_, _, (pss_cons (ps_set (i := 2) nd rfl (Or.inl rfl) (pe_lst pa_nil))
      (pss_cons (ps_for (passes_of rfl) rfl (pi_range1 rfl B.range (pa_cons (pv 1) pa_nil)) (pg_name (i := 3) nd rfl (Or.inl rfl)) (pss_cons (ps_set (i := 4) nd rfl (Or.inl rfl) (pe_calS (W := WD0 E) CTk (hr.mono (by decide)) (pa_cons (pv 0) (pa_cons (pe_op (op_addP (K := K)) (pe_callB (cr_lenP (K := K)) (by rfl) B.len (by decide +kernel) (pa_cons (pv 2) pa_nil)) pe_int) pa_nil)) (takes_of rfl rfl rfl rfl)))
      (pss_one (ps_set (i := 2) nd rfl (Or.inl rfl) (pe_op (op_addP (K := K)) (pe_op (op_addP (K := K)) (pe_slice (sl_P (K := K)) (pv 2) po_none (po_some (pv 4))) (pe_lst (pa_cons (pv 3) pa_nil))) (pe_slice (sl_P (K := K)) (pv 2) (po_some (pv 4)) po_none))))))
      (pss_one (ps_ret (pv 2))))), inferInstance, ?_⟩
    clear F hr nd hu hu5
    intro ws M k e h
    obtain ⟨n, R, rfl, ⟨hm, hn⟩, hk⟩ := h
    simp
    refine ⟨by omega, ?_⟩
    refine forL_inv (fun i ρ M' => HM M' R ∧ ∃ (o : List Nat) (v3 v4 : Option W), ρ = [some (.p 0), some (.d (.int n)), some (.d (.lst (ordD o))), v3, v4] ∧ Orr i o ∧ o ∈ ords i) ⟨hm, [], _, _, rfl, ⟨rfl, List.nodup_nil, fun k hk => nomatch hk⟩, List.mem_singleton.mpr rfl⟩ (fun _ _ _ _ => trivial) (fun i d ρ M' hd hI k1 FK1 => ?_) (fun ρ M' hI => ?_)
    · obtain ⟨hm1, o, v3, v4, rfl, ho, hO⟩ := hI
      obtain ⟨lti, rfl⟩ := rng_at hd
      have hl := ho.1
      simp
      refine ⟨(o.length : Int) + 1, R, rfl, ⟨hm1, by omega, by omega⟩, fun M2 t hm2 t0 t1 => ?_⟩
      obtain ⟨t, rfl⟩ := Int.eq_ofNat_of_zero_le t0
      simp
      exact ⟨line_ge (by decide), line_ge (by omega), line_ge (by omega), FK1.nx _ _ ⟨hm2, o.take t ++ i :: o.drop t, some (.d (.int i)), some (.d (.int t)), by simp, ho.ins, List.mem_flatMap.mpr ⟨o, hO, List.mem_map.mpr ⟨t, List.mem_range.mpr (by omega), rfl⟩⟩⟩⟩
    · obtain ⟨hm1, o, v3, v4, rfl, ho, hO⟩ := hI
      rw [rngD_len] at ho hO
      exact ⟨_, rfl, finHn (hk _ o hm1 ho hO)⟩
theorem sclaw_rehoused_ok_CLRh : FnScope ["draws", "order", "found", "weight", "asks", "ask", "n"] ["draws", "order"] (defScope s_law_rehoused) := ⟨rfl, rfl, rfl, by decide +kernel, rfl, by decide +kernel, by decide +kernel⟩
theorem ok_CLRh {f : Addr} {fd : FuncData} (F : FnS K "_law_rehoused" s_law_rehoused f fd) (B : BltU mg) : FnOk P w K mg base (L2.CX P w) 1 f fd ["draws", "order"] (spP K cLRh) := by
  refine fun_okP F sclaw_rehoused_ok_CLRh (fun ws M k e h => ?_) (fun cdv A outer s H E hr => ?_)
  · obtain ⟨D1, o, rfl, _⟩ := h
    rfl
  · have nd := sclaw_rehoused_ok_CLRh.nd
    have hu := hu64 hr
    have hu5 := hu65 hr
    refine ⟨_, _, (pss_cons (ps_set (i := 2) nd rfl (Or.inl rfl) (pe_own (pe_lst pa_nil)))
      (pss_cons (ps_for (passes_of rfl) rfl (pi_seqB (K := K) (pv 0)) (pg_tupP (K := K) (n := 2) (pg_tup rfl (pgs_cons (pg_name (i := 3) nd rfl (Or.inl rfl)) (pgs_cons (pg_name (i := 4) nd rfl (Or.inl rfl)) pgs_nil)))) (pss_one (ps_expr (pe_bmP (K := K) (pe_bm PySem.F.plainAttrs_list PySem.F.slot_list_append PySem.F.type_list_append (mt_appP (K := K)) (pv 2) (pa_cons (pe_tup (pa_cons (pv 3) (pa_cons (pe_callTy (cr_tupleP (K := K)) (by rfl) B.tuple (by decide +kernel) (pa_cons (pe_lc (own := [("ask", 5)]) (g := gName 5) (by rfl) nd (pi_seqB (K := K) (pv 4)) (blkOk_by (own := [("ask", 5)]) (N := ["draws", "order", "found", "weight", "asks", "ask", "n"]) (sc := defScope s_law_rehoused) (by decide +kernel)) (fun _ _ _ _ _ => (pg_name (i := 5) nd rfl (Or.inr rfl))) (fun _ _ _ _ _ => pts_nil) (fun _ _ _ _ _ => (pe_callTy (cr_tupleP (K := K)) (by rfl) B.tuple (by decide +kernel) (pa_cons (pe_lc (own := [("n", 6)]) (g := gName 6) (by rfl) nd (pi_seqB (K := K) (pv 1)) (blkOk_by (own := [("n", 6)]) (N := ["draws", "order", "found", "weight", "asks", "ask", "n"]) (sc := relS (scAt s_law_rehoused 1 [0] 0 [1, 1, 1]) (defScope s_law_rehoused)) (by decide +kernel)) (fun _ _ _ _ _ => (pg_name (i := 6) nd rfl (Or.inl rfl))) (fun _ _ _ _ _ => pts_nil) (fun _ _ _ _ _ => (pe_ix (ix_P (K := K)) (pv 5) (pv 6) (fun _ _ => rfl)))) pa_nil)))) pa_nil)) pa_nil))) pa_nil))))))
      (pss_one (ps_ret (pv 2))))), inferInstance, ?_⟩
    clear F hr nd hu hu5
    intro ws M k e h
    obtain ⟨D1, o, rfl, hz, hk⟩ := h
    obtain ⟨h1, h2, h3⟩ := hz
    simp
    refine forL_inv (fun i ρ M' => ∃ v3 v4 v5 v6 : Option W, ρ = [some (.d (.lst (D1.map (wE false)))), some (.d (.lst (ordD o))), some (.p M.length), v3, v4, v5, v6] ∧ M' = M ++ [.lst (List.take i ((rehD o D1).map (wE false)))]) ⟨_, _, _, _, rfl, by simp⟩ (fun _ _ _ _ => trivial) (fun i d ρ M' hd hI k1 FK1 => ?_) (fun ρ M' hI => ?_)
    · obtain ⟨v3, v4, v5, v6, rfl, rfl⟩ := hI
      rw [List.getElem?_map] at hd
      cases ed : D1[i]? with
      | none => rw [ed] at hd; cases hd
      | some dd =>
        rw [ed] at hd
        cases hd
        have hd0 := List.mem_of_getElem? ed
        obtain ⟨a1, a2⟩ := h3 dd hd0
        simp
        refine lcL_mapIx dd.2 _ (fun r => sqE false ((o.map fun n => (r[n]?).getD []).map tM)) (line_ge (by omega)) trivial (fun r hr Q hQ => ?_) ?_
        · simp
          rw [List.map_map] at hQ
          refine lcL_mapIx o _ _ (line_ge (by omega)) trivial (fun n hn Q hq => ?_) hQ
          have lt := a2 r hr n hn
          have hq2 : Q (tM ((r[n]?).getD [])) (M ++ [.lst (List.take i ((rehD o D1).map (wE false)))]) := hq
          rw [List.getElem?_eq_getElem lt] at hq2
          simp
          rw [List.getElem?_eq_getElem lt]
          exact ⟨_, rfl, hq2⟩
        · simp
          have lr2 : (rehD o D1).length = D1.length := rehD_len
          refine ⟨line_ge (by decide), line_gt (by omega), FK1.nx _ _ ⟨_, _, _, _, rfl, ?_⟩⟩
          rw [List.take_succ, List.getElem?_map, rehD, List.getElem?_map, ed]
          simp [wE_eq]
    · obtain ⟨v3, v4, v5, v6, rfl, rfl⟩ := hI
      rw [List.take_of_length_le (by simp [rehD])]
      exact ⟨_, rfl, finL hk⟩
theorem sclaw_back_ok_CBck : FnScope ["order", "back", "k"] ["order"] (defScope s_law_back) := ⟨rfl, rfl, rfl, by decide +kernel, rfl, by decide +kernel, by decide +kernel⟩
theorem ok_CBck {f : Addr} {fd : FuncData} (F : FnS K "_law_back" s_law_back f fd) (B : BltU mg) : FnOk P w K mg base (L2.CX P w) 1 f fd ["order"] (spP K cBck) := by
  refine fun_okP F sclaw_back_ok_CBck (fun ws M k e h => ?_) (fun cdv A outer s H E hr => ?_)
  · obtain ⟨n, o, rfl, _⟩ := h
    rfl
  · have nd := sclaw_back_ok_CBck.nd
    have hu := hu64 hr
    have hu5 := hu65 hr
    refine ⟨_, _, (pss_cons (ps_own (ps_setLc (i := 1) (own := [("k", 2)]) (g := gName 2) (by rfl) nd rfl rfl (sw_true rfl rfl rfl (by decide +kernel)) (pi_seqB (K := K) (pv 0)) (blkOk_by (own := [("k", 2)]) (N := ["order", "back", "k"]) (sc := defScope s_law_back) (by decide +kernel)) (fun _ _ _ _ _ => (pg_name (i := 2) nd rfl (Or.inl rfl))) (fun _ _ _ _ _ => pts_nil) (fun _ _ _ _ _ => pe_int)))
      (pss_cons (ps_for (passes_of rfl) rfl (pi_range1 rfl B.range (pa_cons (pe_callB (cr_lenP (K := K)) (by rfl) B.len (by decide +kernel) (pa_cons (pv 0) pa_nil)) pa_nil)) (pg_name (i := 2) nd rfl (Or.inl rfl)) (pss_one (ps_asg (pv 2) (pg_sub (pv 1) (pe_ix (ix_P (K := K)) (pv 0) (pv 2) (fun _ _ => rfl)) set_list))))
      (pss_one (ps_ret (pv 1))))), inferInstance, ?_⟩
    clear F hr nd hu hu5
    intro ws M k e h
    obtain ⟨n, o, rfl, hz, hk⟩ := h
    obtain ⟨h1, h2⟩ := hz
    have hl := h1.1
    simp
    refine lcL_mapIx o _ (fun _ => .int 0) (line_ge (by omega)) trivial (fun k hk Q hq => by simpa using hq) ?_
    refine ⟨by omega, ?_⟩
    refine forL_inv (fun i ρ M' => ∃ (B : List Nat) (v2 : Option W), ρ = [some (.d (.lst (ordD o))), some (.p M.length), v2] ∧ M' = M ++ [.lst (ordD B)] ∧ B.length = n ∧ ∀ k < i, ∀ j, o[k]? = some j → B[j]? = some k) ⟨List.replicate n 0, _, rfl, by simp [hl, List.map_const'], by simp, fun k hk => by omega⟩ (fun _ _ _ _ => trivial) (fun i d ρ M' hd hI k1 FK1 => ?_) (fun ρ M' hI => ?_)
    · obtain ⟨B, v2, rfl, rfl, hB, hs⟩ := hI
      obtain ⟨lti, rfl⟩ := rng_at hd
      have li : i < o.length := lti
      have lj := h1.2.2 _ (List.getElem_mem li)
      simp
      rw [List.getElem?_eq_getElem li]
      refine ⟨_, rfl, _, ixN_nat (by omega), ?_⟩
      dsimp only
      refine FK1.nx _ _ ⟨B.set o[i] i, _, rfl, by simp, by simpa using hB, fun k hk j hj => ?_⟩
      by_cases q : k = i
      · subst q
        rw [List.getElem?_eq_getElem li] at hj
        cases hj
        rw [List.getElem?_set]
        simp
        omega
      · have ne : ¬ o[i] = j := fun z => by
          obtain ⟨lk, ek⟩ := List.getElem?_eq_some_iff.mp hj
          have := List.pairwise_iff_getElem.mp h1.2.1 k i lk li (by omega)
          exact this (by rw [ek, z])
        rw [List.getElem?_set, if_neg ne]
        exact hs k (by omega) j hj
    · obtain ⟨B, v2, rfl, rfl, hB, hs⟩ := hI
      rw [rngD_len] at hs
      have e : B = bckO o := by
        refine List.ext_getElem? fun j => ?_
        have hb := bck_orr h1
        by_cases hj : j < n
        · obtain ⟨k, b1, b2⟩ := bck_at h1 hj
          rw [b1]
          exact hs k (List.getElem?_eq_some_iff.mp b2).1 j b2
        · rw [List.getElem?_eq_none (by omega), List.getElem?_eq_none (by rw [hb.1]; omega)]
      rw [e]
      exact ⟨_, rfl, finL hk⟩
end
end PU

set_option maxRecDepth 100000
set_option maxHeartbeats 8000000
set_option synthInstance.maxHeartbeats 4000000
set_option synthInstance.maxSize 4000
namespace PU
open PySem PySem.Spec PyProof.Rows L2 GS WU
section
variable {P : Program} {w : World} {K : PySem.W.Frag} {mg : Str → Option Value} {base : Heap}

theorem sel_len {l : Nat} {o : List Nat} {r : List Int} : (selR (colsO l o) r).length = o.length * l := by rw [selR_len, colsO_len]
theorem sel_chunk {l k : Nat} {r : List Int} (h : k * l + l ≤ r.length) : selR (colsB l k) r = (r.drop (k * l)).take l := by
  refine List.ext_getElem? fun i => ?_
  by_cases hi : i < l
  · have e : (colsB l k)[i]? = some (k * l + i) := by
      rw [colsB, List.getElem?_map, List.getElem?_range hi]
      rfl
    rw [selR_at e (by omega), List.getElem?_take, if_pos hi, List.getElem?_drop]
  · rw [List.getElem?_eq_none (by rw [selR_len, colsB_len]; omega), List.getElem?_eq_none (by rw [List.length_take]; omega)]
theorem tM_sel {cs : List Nat} {m : Mx} : D.tup (m.map fun r => tI (selR cs r)) = PU.tM (selM cs m) := by
  show _ = D.tup ((m.map (selR cs)).map tI)
  rw [List.map_map]
  rfl
theorem sel_succ {l j k : Nat} {o : List Nat} {r : List Int} (h : o[j]? = some k) (hl : k * l + l ≤ r.length) : selR (colsO l (o.take (j + 1))) r = selR (colsO l (o.take j)) r ++ (r.drop (k * l)).take l := by
  rw [List.take_succ, h, ← sel_chunk hl]
  unfold colsO selR
  rw [List.flatMap_append, List.map_append]
  simp
theorem sclaw_reordered_ok_CLRo : FnScope ["draws", "length", "order", "found", "weight", "asks", "told", "old", "ask", "question", "rows", "row", "letters", "book"] ["draws", "length", "order"] (defScope s_law_reordered) := ⟨rfl, rfl, rfl, by decide +kernel, rfl, by decide +kernel, by decide +kernel⟩
theorem ok_CLRo {f : Addr} {fd : FuncData} (F : FnS K "_law_reordered" s_law_reordered f fd) (B : BltU mg) : FnOk P w K mg base (L2.CX P w) 1 f fd ["draws", "length", "order"] (spP K cLRo) := by
  refine fun_okP F sclaw_reordered_ok_CLRo (fun ws M k e h => ?_) (fun cdv A outer s H E hr => ?_)
  · obtain ⟨D1, l, c, o, rfl, _⟩ := h
    rfl
  · have nd := sclaw_reordered_ok_CLRo.nd
    have hu := hu64 hr
    have hu5 := hu65 hr
    refine ⟨_, _, (pss_cons (ps_set (i := 3) nd rfl (Or.inl rfl) (pe_own (pe_lst pa_nil)))
      (pss_cons (ps_for (passes_of rfl) rfl (pi_seqB (K := K) (pv 0)) (pg_tupP (K := K) (n := 2) (pg_tup rfl (pgs_cons (pg_name (i := 4) nd rfl (Or.inl rfl)) (pgs_cons (pg_name (i := 5) nd rfl (Or.inl rfl)) pgs_nil)))) (pss_cons (ps_set (i := 6) nd rfl (Or.inl rfl) (pe_own (pe_lst pa_nil)))
      (pss_cons (ps_for (passes_of rfl) rfl (pi_seqB (K := K) (pv 2)) (pg_name (i := 7) nd rfl (Or.inl rfl)) (pss_cons (ps_set (i := 8) nd rfl (Or.inl rfl) (pe_own (pe_lst pa_nil)))
      (pss_cons (ps_for (passes_of rfl) rfl (pi_seqB (K := K) (pe_ix (ix_P (K := K)) (pv 5) (pv 7) (fun _ _ => rfl))) (pg_name (i := 9) nd rfl (Or.inl rfl)) (pss_cons (ps_set (i := 10) nd rfl (Or.inl rfl) (pe_own (pe_lst pa_nil)))
      (pss_cons (ps_for (passes_of rfl) rfl (pi_seqB (K := K) (pv 9)) (pg_name (i := 11) nd rfl (Or.inl rfl)) (pss_cons (ps_set (i := 12) nd rfl (Or.inl rfl) (pe_tup pa_nil))
      (pss_cons (ps_for (passes_of rfl) rfl (pi_seqB (K := K) (pv 2)) (pg_name (i := 13) nd rfl (Or.inl rfl)) (pss_one (ps_set (i := 12) nd rfl (Or.inl rfl) (pe_op (op_addP (K := K)) (pv 12) (pe_slice (sl_P (K := K)) (pv 11) (po_some (pe_op (op_mulP (K := K)) (pv 13) (pv 1))) (po_some (pe_op (op_addP (K := K)) (pe_op (op_mulP (K := K)) (pv 13) (pv 1)) (pv 1))))))))
      (pss_one (ps_expr (pe_bmP (K := K) (pe_bm PySem.F.plainAttrs_list PySem.F.slot_list_append PySem.F.type_list_append (mt_appP (K := K)) (pv 10) (pa_cons (pv 12) pa_nil))))))))
      (pss_one (ps_expr (pe_bmP (K := K) (pe_bm PySem.F.plainAttrs_list PySem.F.slot_list_append PySem.F.type_list_append (mt_appP (K := K)) (pv 8) (pa_cons (pe_callTy (cr_tupleP (K := K)) (by rfl) B.tuple (by decide +kernel) (pa_cons (pv 10) pa_nil)) pa_nil))))))))
      (pss_one (ps_expr (pe_bmP (K := K) (pe_bm PySem.F.plainAttrs_list PySem.F.slot_list_append PySem.F.type_list_append (mt_appP (K := K)) (pv 6) (pa_cons (pe_callTy (cr_tupleP (K := K)) (by rfl) B.tuple (by decide +kernel) (pa_cons (pv 8) pa_nil)) pa_nil))))))))
      (pss_one (ps_expr (pe_bmP (K := K) (pe_bm PySem.F.plainAttrs_list PySem.F.slot_list_append PySem.F.type_list_append (mt_appP (K := K)) (pv 3) (pa_cons (pe_tup (pa_cons (pv 4) (pa_cons (pe_callTy (cr_tupleP (K := K)) (by rfl) B.tuple (by decide +kernel) (pa_cons (pv 6) pa_nil)) pa_nil))) pa_nil))))))))
      (pss_one (ps_ret (pv 3))))), inferInstance, ?_⟩
    clear F hr nd hu hu5
    intro ws M k e h
    obtain ⟨D1, l, c, o, rfl, hz, hk⟩ := h
    obtain ⟨h1, h2, h3, h4, h5, h6⟩ := hz
    simp
    refine forL_inv (fun i ρ M' => ∃ J : Mem, ∃ v4 v5 v6 v7 v8 v9 v10 v11 v12 v13 : Option W, ρ = [some (.d (.lst (D1.map (wE false)))), some (.d (.int l)), some (.d (.lst (ordD o))), some (.p M.length), v4, v5, v6, v7, v8, v9, v10, v11, v12, v13] ∧ M' = M ++ .lst (List.take i ((reoD l o D1).map (wE false))) :: J) ⟨[], _, _, _, _, _, _, _, _, _, _, rfl, by simp⟩ (fun _ _ _ _ => trivial) (fun i d ρ M' hd hI k1 FK1 => ?_) (fun ρ M' hI => ?_)
    · obtain ⟨J, v4, v5, v6, v7, v8, v9, v10, v11, v12, v13, rfl, rfl⟩ := hI
      rw [List.getElem?_map] at hd
      cases ed : D1[i]? with
      | none => rw [ed] at hd; cases hd
      | some dd =>
        rw [ed] at hd
        cases hd
        have hd0 := List.mem_of_getElem? ed
        obtain ⟨a1, a2⟩ := h6 dd hd0
        obtain ⟨X, hX⟩ : ∃ X : Mem, X = M ++ .lst (List.take i ((reoD l o D1).map (wE false))) :: J := ⟨_, rfl⟩
        rw [← hX]
        simp
        refine forL_inv (fun a ρ M' => ∃ J2 : Mem, ∃ v7 v8 v9 v10 v11 v12 v13 : Option W, ρ = [some (.d (.lst (D1.map (wE false)))), some (.d (.int l)), some (.d (.lst (ordD o))), some (.p M.length), some (.d (.int dd.1)), some (.d (sqE false (dd.2.map fun r => sqE false (r.map PU.tM)))), some (.p X.length), v7, v8, v9, v10, v11, v12, v13] ∧ M' = X ++ .lst (List.take a ((reoA l o dd.2).map fun x => sqE false (x.map PU.tM))) :: J2) ⟨[], v7, v8, v9, v10, v11, v12, v13, rfl, by simp⟩ (fun _ _ _ _ => trivial) (fun a d ρ M' hd2 hI k2 FK2 => ?_) (fun ρ M' hI => ?_)
        · obtain ⟨J2, v7, v8, v9, v10, v11, v12, v13, rfl, rfl⟩ := hI
          rw [List.getElem?_map] at hd2
          cases eo : o[a]? with
          | none => rw [eo] at hd2; cases hd2
          | some old =>
            rw [eo] at hd2
            cases hd2
            have lo : old < dd.2.length := by rw [a1]; exact h3 old (List.mem_of_getElem? eo)
            obtain ⟨q, hq⟩ : ∃ q, q = dd.2[old] := ⟨_, rfl⟩
            have hqm : q ∈ dd.2 := by rw [hq]; exact List.getElem_mem lo
            obtain ⟨b1, b2⟩ := a2 q hqm
            obtain ⟨Y, hY⟩ : ∃ Y : Mem, Y = X ++ .lst (List.take a ((reoA l o dd.2).map fun x => sqE false (x.map PU.tM))) :: J2 := ⟨_, rfl⟩
            rw [← hY]
            simp
            rw [List.getElem?_eq_getElem lo, ← hq]
            refine ⟨_, rfl, ?_⟩
            refine forL_inv (fun b ρ M' => ∃ J3 : Mem, ∃ v7 v9 v10 v11 v12 v13 : Option W, ρ = [some (.d (.lst (D1.map (wE false)))), some (.d (.int l)), some (.d (.lst (ordD o))), some (.p M.length), some (.d (.int dd.1)), some (.d (sqE false (dd.2.map fun r => sqE false (r.map PU.tM)))), some (.p X.length), v7, some (.p Y.length), v9, v10, v11, v12, v13] ∧ M' = Y ++ .lst (List.take b (q.map fun m => PU.tM (selM (colsO l o) m))) :: J3) ⟨[], some (.d (.int old)), v9, v10, v11, v12, v13, rfl, by simp⟩ (fun _ _ _ _ => trivial) (fun b d ρ M' hd3 hI k3 FK3 => ?_) (fun ρ M' hI => ?_)
            · obtain ⟨J3, v7, v9, v10, v11, v12, v13, rfl, rfl⟩ := hI
              rw [List.getElem?_map] at hd3
              cases em : q[b]? with
              | none => rw [em] at hd3; cases hd3
              | some m =>
                rw [em] at hd3
                cases hd3
                have hm := List.mem_of_getElem? em
                obtain ⟨c1, c3⟩ := b2 m hm
                obtain ⟨Z, hZ⟩ : ∃ Z : Mem, Z = Y ++ .lst (List.take b (q.map fun m => PU.tM (selM (colsO l o) m))) :: J3 := ⟨_, rfl⟩
                rw [← hZ]
                simp
                refine forL_inv (fun c2 ρ M' => ∃ v7 v9 v11 v12 v13 : Option W, ρ = [some (.d (.lst (D1.map (wE false)))), some (.d (.int l)), some (.d (.lst (ordD o))), some (.p M.length), some (.d (.int dd.1)), some (.d (sqE false (dd.2.map fun r => sqE false (r.map PU.tM)))), some (.p X.length), v7, some (.p Y.length), v9, some (.p Z.length), v11, v12, v13] ∧ M' = Z ++ [.lst (List.take c2 (m.map fun r => tI (selR (colsO l o) r)))]) ⟨v7, some (.d (PU.tM m)), v11, v12, v13, rfl, by simp⟩ (fun _ _ _ _ => trivial) (fun c2 d ρ M' hd4 hI k4 FK4 => ?_) (fun ρ M' hI => ?_)
                · obtain ⟨v7, v9, v11, v12, v13, rfl, rfl⟩ := hI
                  rw [List.getElem?_map] at hd4
                  cases er : m[c2]? with
                  | none => rw [er] at hd4; cases hd4
                  | some r =>
                    rw [er] at hd4
                    cases hd4
                    have hr := c3 r (List.mem_of_getElem? er)
                    simp
                    refine forL_inv (fun j ρ M' => ∃ v7 v9 v13 : Option W, ρ = [some (.d (.lst (D1.map (wE false)))), some (.d (.int l)), some (.d (.lst (ordD o))), some (.p M.length), some (.d (.int dd.1)), some (.d (sqE false (dd.2.map fun r => sqE false (r.map PU.tM)))), some (.p X.length), v7, some (.p Y.length), v9, some (.p Z.length), some (.d (tI r)), some (.d (tI (selR (colsO l (o.take j)) r))), v13] ∧ M' = Z ++ [.lst (List.take c2 (m.map fun r => tI (selR (colsO l o) r)))]) ⟨v7, v9, v13, by simp [colsO, selR], rfl⟩ (fun _ _ _ _ => trivial) (fun j d ρ M' hd5 hI k5 FK5 => ?_) (fun ρ M' hI => ?_)
                    · obtain ⟨v7, v9, v13, rfl, rfl⟩ := hI
                      rw [List.getElem?_map] at hd5
                      cases ek : o[j]? with
                      | none => rw [ek] at hd5; cases hd5
                      | some kk =>
                        rw [ek] at hd5
                        cases hd5
                        have hkk := h3 kk (List.mem_of_getElem? ek)
                        have kb : kk * l ≤ 10 * 10 := Nat.mul_le_mul (by omega) h1
                        have e3 : (kk : Int) * l = ((kk * l : Nat) : Int) := by simp
                        have e4 : (kk : Int) * l + l = ((kk * l + l : Nat) : Int) := by simp
                        have jb := sel_len (o := o.take j) (l := l) (r := r)
                        have jb2 : (o.take j).length * l ≤ 10 * 10 := Nat.mul_le_mul (by rw [List.length_take]; omega) h1
                        have fit : kk * l + l ≤ r.length := by
                          rw [hr, Nat.mul_comm l c, ← Nat.succ_mul]
                          exact Nat.mul_le_mul_right _ hkk
                        simp
                        rw [e4, e3, cutD_nat, show kk * l + l - kk * l = l by omega, ← List.map_drop, ← List.map_take]
                        exact ⟨cmul_of (by omega) (by omega), line_ge (by have := List.length_take_le l (List.drop (kk * l) r); rw [jb, List.length_map]; omega), FK5.nx _ _ ⟨v7, v9, some (.d (.int kk)), by rw [sel_succ ek fit]; simp only [tI, List.map_append], rfl⟩⟩
                    · obtain ⟨v7, v9, v13, rfl, rfl⟩ := hI
                      rw [List.length_map, List.take_length]
                      simp
                      refine ⟨line_gt (by omega), FK4.nx _ _ ⟨v7, v9, some (.d (tI r)), some (.d (tI (selR (colsO l o) r))), v13, rfl, ?_⟩⟩
                      rw [List.take_succ, List.getElem?_map, er]
                      rfl
                · obtain ⟨v7, v9, v11, v12, v13, rfl, rfl⟩ := hI
                  rw [List.length_map, List.take_of_length_le (by simp), hZ]
                  simp
                  refine ⟨line_gt (by omega), FK3.nx _ _ ⟨J3 ++ [.lst (m.map fun r => tI (selR (colsO l o) r))], v7, v9, some (.p (Y.length + (J3.length + 1))), v11, v12, v13, rfl, ?_⟩⟩
                  rw [List.take_succ, List.getElem?_map, em, tM_sel]
                  simp
            · obtain ⟨J3, v7, v9, v10, v11, v12, v13, rfl, rfl⟩ := hI
              rw [List.length_map, List.take_of_length_le (by simp), hY]
              simp
              refine ⟨line_gt (by simp [reoA]; omega), FK2.nx _ _ ⟨J2 ++ .lst (q.map fun m => PU.tM (selM (colsO l o) m)) :: J3, v7, some (.p (X.length + (J2.length + 1))), v9, v10, v11, v12, v13, rfl, ?_⟩⟩
              have en : (reoA l o dd.2)[a]? = some (q.map (selM (colsO l o))) := by
                rw [reoA, List.getElem?_map, eo, Option.map_some, List.getElem?_eq_getElem lo, ← hq]
                rfl
              rw [List.take_succ, List.getElem?_map, en]
              simp
        · obtain ⟨J2, v7, v8, v9, v10, v11, v12, v13, rfl, rfl⟩ := hI
          rw [List.length_map, List.take_of_length_le (by simp [reoA]), hX]
          simp
          refine ⟨line_ge (by decide), line_gt (by simp [reoD]; omega), FK1.nx _ _ ⟨J ++ .lst ((reoA l o dd.2).map fun r => sqE false (r.map PU.tM)) :: J2, some (.d (.int dd.1)), some (.d (sqE false (dd.2.map fun r => sqE false (r.map PU.tM)))), some (.p (M.length + (J.length + 1))), v7, v8, v9, v10, v11, v12, v13, rfl, ?_⟩⟩
          have en : (reoD l o D1)[i]? = some (dd.1, reoA l o dd.2) := by
            rw [reoD, List.getElem?_map, ed]
            rfl
          rw [List.take_succ, List.getElem?_map, en]
          simp [wE_eq]
    · obtain ⟨J, v4, v5, v6, v7, v8, v9, v10, v11, v12, v13, rfl, rfl⟩ := hI
      rw [List.take_of_length_le (by simp [reoD])]
      exact ⟨_, rfl, finLJ hk⟩
end
end PU

set_option maxRecDepth 100000
set_option maxHeartbeats 8000000
set_option synthInstance.maxHeartbeats 4000000
set_option synthInstance.maxSize 4000
namespace PU
open PySem PySem.Spec PyProof.Rows L2 GS WU
section
variable {P : Program} {w : World} {K : PySem.W.Frag} {mg : Str → Option Value} {base : Heap}
theorem sclaw_refusal_ok_CRfO : FnScope ["kind", "plan", "order", "e", "found"] ["kind", "plan", "order"] (defScope s_law_refusal) := ⟨rfl, rfl, rfl, by decide +kernel, rfl, by decide +kernel, by decide +kernel⟩
theorem ok_CRfO {f : Addr} {fd : FuncData} (F : FnS K "_law_refusal" s_law_refusal f fd) (B : BltU mg) {C : Addr} (EG : ErrG K mg) (EN : ErrC K "InvalidNumber" ["value"]) (EP : ErrC K "InvalidPlan" ["part", "place"]) (EM : ErrC K "InvalidMatrix" ["value"]) (EU : ErrC K "Undefined" ["what"]) (CReo : Cal P w K mg base 12 "reordered_plan" fCReo fdCReo ["plan", "order"] (spP K (cReo C (He.ga K "InvalidNumber")))) (CRho : Cal P w K mg base 12 "rehoused_plan" fCRho fdCRho ["plan", "order"] (spP K (cRho C (He.ga K "InvalidNumber")))) : FnOkG P w K mg base 13 f fd ["kind", "plan", "order"] (spP K ((cRfO C))) := by
  refine fun_okG F sclaw_refusal_ok_CRfO (fun ws M k e h => ?_) (fun cdv A outer s H E hr hgd => ?_)
  · obtain ⟨p, l, c, h, qs, ns, D1, kd, x, rfl, _⟩ := h
    rfl
  · have nd := sclaw_refusal_ok_CRfO.nd
    have hu := hu64 hr
    have hu5 := hu65 hr
    refine ⟨_, _, (pss_cons (ps_tryP (K := K) rfl rfl nd (i := 3) rfl rfl ⟨rfl, by decide, .inl EG.gW⟩ (Wout := WD0 E) (takes_of rfl rfl rfl rfl) (fun W pn xe tk _ => (pss_one (ps_if (pt_cmpR (op_eqP (K := K) hu) (pv 0) pe_int (nomark _)) (pss_one (ps_expr (pe_calS (W := W) CReo (hr.mono (by decide)) (pa_cons (pv 1) (pa_cons (pv 2) pa_nil)) tk))) (pss_one (ps_expr (pe_calS (W := W) CRho (hr.mono (by decide)) (pa_cons (pv 1) (pa_cons (pv 2) pa_nil)) tk)))))) (fun a oe cls d pn hz hf => (pss_cons (ps_set (i := 4) nd rfl (Or.inl rfl) (pe_own (pe_lst pa_nil)))
      (pss_cons (ps_if (pt_truP (K := K) (pe_callB (call_isX (K := K) hz hf) (by rfl) B.isi (by decide +kernel) (pa_cons (pv 3) (pa_cons (pe_glob (v := .ref (He.ga K "InvalidNumber")) rfl (EG.g "InvalidNumber" (by decide)) rfl) pa_nil)))) (pss_one (ps_expr (pe_bmP (K := K) (pe_bm PySem.F.plainAttrs_list PySem.F.slot_list_append PySem.F.type_list_append (mt_appP (K := K)) (pv 4) (pa_cons (pe_op (op_addP (K := K)) pe_str (pe_callB (cr_reprA (K := K) hgd hu) (by rfl) B.repr (by decide +kernel) (pa_cons (pe_xf (EN).xf ((EN).no "value" (by decide)) hz hf (pv 3)) pa_nil))) pa_nil))))) pss_nil)
      (pss_cons (ps_if (pt_truP (K := K) (pe_callB (call_isX (K := K) hz hf) (by rfl) B.isi (by decide +kernel) (pa_cons (pv 3) (pa_cons (pe_glob (v := .ref (He.ga K "InvalidMatrix")) rfl (EG.g "InvalidMatrix" (by decide)) rfl) pa_nil)))) (pss_one (ps_expr (pe_bmP (K := K) (pe_bm PySem.F.plainAttrs_list PySem.F.slot_list_append PySem.F.type_list_append (mt_appP (K := K)) (pv 4) (pa_cons (pe_op (op_addP (K := K)) pe_str (pe_callB (cr_reprA (K := K) hgd hu) (by rfl) B.repr (by decide +kernel) (pa_cons (pe_xf (EM).xf ((EM).no "value" (by decide)) hz hf (pv 3)) pa_nil))) pa_nil))))) pss_nil)
      (pss_cons (ps_if (pt_truP (K := K) (pe_callB (call_isX (K := K) hz hf) (by rfl) B.isi (by decide +kernel) (pa_cons (pv 3) (pa_cons (pe_glob (v := .ref (He.ga K "InvalidPlan")) rfl (EG.g "InvalidPlan" (by decide)) rfl) pa_nil)))) (pss_one (ps_expr (pe_bmP (K := K) (pe_bm PySem.F.plainAttrs_list PySem.F.slot_list_append PySem.F.type_list_append (mt_appP (K := K)) (pv 4) (pa_cons (pe_op (op_addP (K := K)) pe_str (pe_callB (cr_reprA (K := K) hgd hu) (by rfl) B.repr (by decide +kernel) (pa_cons (pe_tup (pa_cons (pe_xf (EP).xf ((EP).no "part" (by decide)) hz hf (pv 3)) (pa_cons (pe_xf (EP).xf ((EP).no "place" (by decide)) hz hf (pv 3)) pa_nil))) pa_nil))) pa_nil))))) pss_nil)
      (pss_cons (ps_if (pt_truP (K := K) (pe_callB (call_isX (K := K) hz hf) (by rfl) B.isi (by decide +kernel) (pa_cons (pv 3) (pa_cons (pe_glob (v := .ref (He.ga K "Undefined")) rfl (EG.g "Undefined" (by decide)) rfl) pa_nil)))) (pss_one (ps_expr (pe_bmP (K := K) (pe_bm PySem.F.plainAttrs_list PySem.F.slot_list_append PySem.F.type_list_append (mt_appP (K := K)) (pv 4) (pa_cons (pe_op (op_addP (K := K)) pe_str (pe_callB (cr_reprA (K := K) hgd hu) (by rfl) B.repr (by decide +kernel) (pa_cons (pe_xf (EU).xf ((EU).no "what" (by decide)) hz hf (pv 3)) pa_nil))) pa_nil))))) pss_nil)
      (pss_cons (ps_if (pt_not (pt_truP (K := K) (pe_callB (call_isX (K := K) hz hf) (by rfl) B.isi (by decide +kernel) (pa_cons (pv 3) (pa_cons (pe_bltn (v := .ty "ValueError") (by rfl) EG.vE (by decide +kernel) rfl) pa_nil))))) (pss_one (ps_expr (pe_bmP (K := K) (pe_bm PySem.F.plainAttrs_list PySem.F.slot_list_append PySem.F.type_list_append (mt_appP (K := K)) (pv 4) (pa_cons pe_str pa_nil))))) pss_nil)
      (pss_one (ps_ret (pe_joinP (K := K) pe_str (pv 4))))))))))))
      (pss_one (ps_ret pe_str))), inferInstance, ?_⟩
    clear hgd F hr nd hu hu5
    intro ws M k e h
    obtain ⟨p, l, c, h, qs, ns, D1, kd, x, rfl, ⟨pre, shx, hx0, hx1⟩, hk⟩ := h
    simp
    have kN1 : PySem.W.kitOne K (.ref (He.ga K "InvalidNumber")) (.ref (He.ga K "InvalidNumber")) = some true := EN.k _ (by decide)
    have kN2 : PySem.W.kitOne K (.ref (He.ga K "InvalidNumber")) (.ref (He.ga K "InvalidMatrix")) = some false := EN.k _ (by decide)
    have kN3 : PySem.W.kitOne K (.ref (He.ga K "InvalidNumber")) (.ref (He.ga K "InvalidPlan")) = some false := EN.k _ (by decide)
    have kN4 : PySem.W.kitOne K (.ref (He.ga K "InvalidNumber")) (.ref (He.ga K "Undefined")) = some false := EN.k _ (by decide)
    by_cases q : kd = 0
    · rw [if_pos q]
      refine ⟨p, l, c, h, qs, ns, D1, x, rfl, pre, fun _ => ?_, fun b o e ho => ?_⟩
      · refine .inr ⟨EN.w, fun dd => ⟨EN.ex, _, rfl, .inr ⟨kN1, _, _, ⟨rfl, rfl, rfl⟩, rfl, rfl, _, rfl, ?_⟩⟩⟩
        obtain ⟨p, ep, a1, a2, a3, a4⟩ := shx
        have e5 : repS x = p.shown := by rw [repS, ep]
        rw [e5] at hk
        refine ⟨p, ep, a1, a2, a3, line_ge (by omega), num_len a4, line_gt (by decide), EN.ex, _, rfl, .inl ⟨kN2, EN.ex, _, rfl, .inl ⟨kN3, EN.ex, _, rfl, .inl ⟨kN4, EN.ex, _, rfl, .inr ⟨EN.v, _, rfl, num_sum a4, ?_⟩⟩⟩⟩⟩
        rw [join_one]
        exact fin1 hk
      · have := hx0 q
        rw [e, isOr_of ho] at this
        cases this
    · rw [if_neg q]
      refine ⟨p, l, c, h, qs, ns, D1, x, rfl, pre, fun _ => ?_, fun b o e ho => ?_⟩
      · refine .inr ⟨EN.w, fun dd => ⟨EN.ex, _, rfl, .inr ⟨kN1, _, _, ⟨rfl, rfl, rfl⟩, rfl, rfl, _, rfl, ?_⟩⟩⟩
        obtain ⟨p, ep, a1, a2, a3, a4⟩ := shx
        have e5 : repS x = p.shown := by rw [repS, ep]
        rw [e5] at hk
        refine ⟨p, ep, a1, a2, a3, line_ge (by omega), num_len a4, line_gt (by decide), EN.ex, _, rfl, .inl ⟨kN2, EN.ex, _, rfl, .inl ⟨kN3, EN.ex, _, rfl, .inl ⟨kN4, EN.ex, _, rfl, .inr ⟨EN.v, _, rfl, num_sum a4, ?_⟩⟩⟩⟩⟩
        rw [join_one]
        exact fin1 hk
      · have := hx1 q
        rw [e, isOr_of ho] at this
        cases this
end
end PU

set_option maxRecDepth 100000
set_option maxHeartbeats 8000000
set_option synthInstance.maxHeartbeats 4000000
set_option synthInstance.maxSize 4000
namespace PU
open PySem PySem.Spec PyProof.Rows L2 GS WU
def cRisB : Con := cF (α := Bool × List Mx) (fun z => [.d (sqE z.1 (z.2.map tM))]) (fun z => RisG d2 z.2 ∧ z.2.length ≤ 1000) (fun z => .bl true)
instance : UC cRisB := by unfold cRisB; infer_instance
def cAreB : Con := cF (α := Bool × Int × Nat × List Mx) (fun z => [.d (.int z.2.1), .d (.int z.2.2.1), .d (sqE z.1 (z.2.2.2.map tM))]) (fun z => QOk z.2.1 z.2.2.1 z.2.2.2) (fun z => .bl true)
instance : UC cAreB := by unfold cAreB; infer_instance
def cChkB  : Con := fun ws M k e => ∃ (c : Nat) (qs : List (List Mx)) (ns : DrN) (b b0 bn : Bool) (w : W), ws = [.d (.int c), .d (qsE b qs), w] ∧ (seqW M w = some (b0, ns.map (nE bn)) ∧ nfW w = true ∧ NOk c qs ns) ∧ k (.d (.non)) M
instance  : UC (cChkB ) := ⟨fun hk _ h => by
  obtain ⟨c, qs, ns, b, b0, bn, w, e1, e2, qQ⟩ := h
  exact ⟨c, qs, ns, b, b0, bn, w, e1, e2, hk _ _ qQ⟩⟩
def cKqB  : Con := fun ws M k e => ∃ (b : Bool) (qs : List (List Mx)), ws = [.d (qsE b qs)] ∧ (qs.length ≤ 1000) ∧ k (.d (qsE false qs)) M
instance  : UC (cKqB ) := ⟨fun hk _ h => by
  obtain ⟨b, qs, e1, e2, qQ⟩ := h
  exact ⟨b, qs, e1, e2, hk _ _ qQ⟩⟩
def cKdB  : Con := fun ws M k e => ∃ (ns : DrN) (b0 bn : Bool) (w : W), ws = [w] ∧ (seqW M w = some (b0, ns.map (nE bn)) ∧ ns.length ≤ 1000 ∧ ∀ d ∈ ns, d.2.length ≤ 1000) ∧ k (.d (.tup (ns.map (nE false)))) M
instance  : UC (cKdB ) := ⟨fun hk _ h => by
  obtain ⟨ns, b0, bn, w, e1, e2, qQ⟩ := h
  exact ⟨ns, b0, bn, w, e1, e2, hk _ _ qQ⟩⟩
def cWtB  : Con := fun ws M k e => ∃ (ns : DrN) (b0 bn : Bool) (w : W), ws = [w] ∧ (seqW M w = some (b0, ns.map (nE bn)) ∧ ns.length ≤ 1000) ∧ k (.d (.int (ns.map fun d => d.1).sum)) M
instance  : UC (cWtB ) := ⟨fun hk _ h => by
  obtain ⟨ns, b0, bn, w, e1, e2, qQ⟩ := h
  exact ⟨ns, b0, bn, w, e1, e2, hk _ _ qQ⟩⟩

/-- a plan's __init__ on a place, its arguments of either kind -/
def cIniB (C : Addr) : Con := fun ws M k _ => ∃ (M1 : Mem) (p : Int) (l c : Nat) (qs : List (List Mx)) (ns : DrN) (b b0 bn : Bool) (w : W), ws = [.p M1.length, .d (.int p), .d (.int l), .d (.int c), .d (qsE b qs), w] ∧ M = M1 ++ [.ins C []] ∧
  (seqW M1 w = some (b0, ns.map (nE bn)) ∧ nfW w = true ∧ p ∈ primes ∧ 0 < l ∧ 0 < c ∧ qs ≠ [] ∧ l ≤ 1000 ∧ (∀ q ∈ qs, QOk p (l * c) q) ∧ NOk c qs ns) ∧ k (.d .non) (M1 ++ [.ins C ((plF p l c qs ns).map fun f => (f.1, .d f.2))])
instance {C : Addr} : UC (cIniB C) := ⟨fun hk _ ⟨M1, p, l, c, qs, ds, b, b0, bn, w, h1, h2, h3, q⟩ => ⟨M1, p, l, c, qs, ds, b, b0, bn, w, h1, h2, h3, hk _ _ q⟩⟩
theorem seqW_app {M X : Mem} {w : W} {r : Bool × List D} (h : seqW M w = some r) : seqW (M ++ X) w = some r := by
  cases w with
  | d x => cases x <;> exact h
  | p n =>
    have e : ∀ c, M[n]? = some c → (M ++ X)[n]? = some c := fun c hc => by
      rw [List.getElem?_append_left (List.getElem?_eq_some_iff.mp hc).1]
      exact hc
    cases q : M[n]? with
    | none => rw [seqW, q] at h; cases h
    | some c =>
      rw [seqW, q] at h
      rw [seqW, e c q]
      exact h
end PU

set_option maxRecDepth 100000
set_option maxHeartbeats 8000000
set_option synthInstance.maxHeartbeats 4000000
set_option synthInstance.maxSize 4000
namespace PU
open PySem PySem.Spec PyProof.Rows L2 GS WU
section
variable {P : Program} {w : World} {K : PySem.W.Frag} {mg : Str → Option Value} {base : Heap}
theorem scis_rising_ok_CRiB : FnScope ["numbers", "one", "other"] ["numbers"] (defScope s_is_rising) := ⟨rfl, rfl, rfl, by decide +kernel, rfl, by decide +kernel, by decide +kernel⟩
theorem ok_CRiB {f : Addr} {fd : FuncData} (F : FnS K "is_rising" s_is_rising f fd) (B : BltU mg) : FnOk P w K mg base (L2.CX P w) 1 f fd ["numbers"] (spP K cRisB) := by
  refine fun_okP F scis_rising_ok_CRiB (fun ws M k e h => ?_) (fun cdv A outer s H E hr => ?_)
  · obtain ⟨z, rfl, _⟩ := h
    rfl
  · have nd := scis_rising_ok_CRiB.nd
    have hu := hu64 hr
    have hu5 := hu65 hr
    refine ⟨_, _, (pss_one (ps_ret (pe_callB (cr_allP (K := K) rfl) (by rfl) B.all (by decide +kernel) (pa_cons (pe_lc (own := [("one", 1), ("other", 2)]) (g := gTup K 2 (gCons (gName 1) (gCons (gName 2) gNil))) (by rfl) nd (pi_zip4K (K := K) (by rfl) B.zip (pa_cons (pv 0) (pa_cons (pe_slice (sl_P (K := K)) (pv 0) (po_some pe_int) po_none) pa_nil))) (blkOk_by (own := [("one", 1), ("other", 2)]) (N := ["numbers", "one", "other"]) (sc := defScope s_is_rising) (by decide +kernel)) (fun _ _ _ _ _ => (pg_tupP (K := K) (n := 2) (pg_tup rfl (pgs_cons (pg_name (i := 1) nd rfl (Or.inl rfl)) (pgs_cons (pg_name (i := 2) nd rfl (Or.inl rfl)) pgs_nil))))) (fun _ _ _ _ _ => pts_nil) (fun _ _ _ _ _ => (pe_cmpR (op_ltP (K := K) hu) (pv 1) (pv 2) (nomark _)))) pa_nil)))), inferInstance, ?_⟩
    clear F hr nd hu hu5
    intro ws M k e h
    obtain ⟨z, rfl, hz, hk⟩ := h
    obtain ⟨b, z⟩ := z
    try dsimp only at hz
    try dsimp only at hk
    obtain ⟨hr, hl⟩ := hz
    cases b <;>
    · simp [cut_1]
      rw [← List.map_tail, zipD_map]
      refine lcL_mapIx (z.zip z.tail) _ (fun _ => .bl true) (line_ge (by rw [List.length_zip]; omega)) trivial (fun x hx Q hq => ?_) ?_
      · simp
        refine ⟨_, fLt_M, trivial, ?_⟩
        simpa [ris_pair hr x hx] using hq
      · simp
        simpa using fin0 hk
theorem scare_questions_ok_CAqB : FnScope ["p", "columns", "value", "question"] ["p", "columns", "value"] (defScope s_are_questions) := ⟨rfl, rfl, rfl, by decide +kernel, rfl, by decide +kernel, by decide +kernel⟩
theorem ok_CAqB {f : Addr} {fd : FuncData} (F : FnS K "_are_questions" s_are_questions f fd) (B : BltU mg) (CS : Cal P w K mg base 1 "is_sequence" fCS fdCS ["value"] (spP K cSeq)) (CM : Cal P w K mg base 6 "is_matrix" fCM fdCM ["value", "p", "columns"] (spP K cMat)) (CRiB : Cal P w K mg base 1 "is_rising" fCRiB fdCRiB ["numbers"] (spP K cRisB)) : FnOk P w K mg base (L2.CX P w) 7 f fd ["p", "columns", "value"] (spP K cAreB) := by
  refine fun_okP F scare_questions_ok_CAqB (fun ws M k e h => ?_) (fun cdv A outer s H E hr => ?_)
  · obtain ⟨z, rfl, _⟩ := h
    rfl
  · have nd := scare_questions_ok_CAqB.nd
    have hu := hu64 hr
    have hu5 := hu65 hr
    refine ⟨_, _, (pss_one (ps_ret (pe_and (pe_calS (W := WD0 E) CS (hr.mono (by decide)) (pa_cons (pv 2) pa_nil) (takes_of rfl rfl rfl rfl)) (pe_and (pe_callB (cr_allP (K := K) rfl) (by rfl) B.all (by decide +kernel) (pa_cons (pe_lc (own := [("question", 3)]) (g := gName 3) (by rfl) nd (pi_seqB (K := K) (pv 2)) (blkOk_by (own := [("question", 3)]) (N := ["p", "columns", "value", "question"]) (sc := defScope s_are_questions) (by decide +kernel)) (fun _ _ _ _ _ => (pg_name (i := 3) nd rfl (Or.inl rfl))) (fun _ _ _ _ _ => pts_nil) (fun _ _ _ _ _ => (pe_cal CM (hr.mono (by decide)) (pa_cons (pv 3) (pa_cons (pv 0) (pa_cons (pv 1) pa_nil))) passU))) pa_nil)) (pe_one (pe_calS (W := WD0 E) CRiB (hr.mono (by decide)) (pa_cons (pv 2) pa_nil) (takes_of rfl rfl rfl rfl))))))), inferInstance, ?_⟩
    clear F hr nd hu hu5
    intro ws M k e h
    obtain ⟨z, rfl, hz, hk⟩ := h
    obtain ⟨b, p, k, q⟩ := z
    try dsimp only at hz
    try dsimp only at hk
    obtain ⟨hm, hr, hl, hk'⟩ := hz
    simp
    refine ⟨(b, q.map tM), rfl, trivial, ?_⟩
    simp
    refine lcL_mapIx q tM (fun _ => .bl true) (line_ge (by omega)) (by cases b <;> trivial) (fun m h Q hq => ?_) ?_
    · simp
      exact ⟨(p, k, m), rfl, ⟨hm m h, hk'⟩, _, rfl, hq⟩
    · simp
      exact ⟨(b, q), rfl, ⟨hr, hl⟩, fin0 hk⟩
theorem sckept_questions_ok_CKqB : FnScope ["questions", "asked"] ["questions"] (defScope s_kept_questions) := ⟨rfl, rfl, rfl, by decide +kernel, rfl, by decide +kernel, by decide +kernel⟩
theorem ok_CKqB {f : Addr} {fd : FuncData} (F : FnS K "kept_questions" s_kept_questions f fd) (B : BltU mg) : FnOk P w K mg base (L2.CX P w) 1 f fd ["questions"] (spP K cKqB) := by
  refine fun_okP F sckept_questions_ok_CKqB (fun ws M k e h => ?_) (fun cdv A outer s H E hr => ?_)
  · obtain ⟨b, qs, rfl, _⟩ := h
    rfl
  · have nd := sckept_questions_ok_CKqB.nd
    have hu := hu64 hr
    have hu5 := hu65 hr
    refine ⟨_, _, (pss_one (ps_ret (pe_callTy (cr_tupleP (K := K)) (by rfl) B.tuple (by decide +kernel) (pa_cons (pe_lc (own := [("asked", 1)]) (g := gName 1) (by rfl) nd (pi_seqB (K := K) (pv 0)) (blkOk_by (own := [("asked", 1)]) (N := ["questions", "asked"]) (sc := defScope s_kept_questions) (by decide +kernel)) (fun _ _ _ _ _ => (pg_name (i := 1) nd rfl (Or.inl rfl))) (fun _ _ _ _ _ => pts_nil) (fun _ _ _ _ _ => (pe_callTy (cr_tupleP (K := K)) (by rfl) B.tuple (by decide +kernel) (pa_cons (pv 1) pa_nil)))) pa_nil)))), inferInstance, ?_⟩
    clear F hr nd hu hu5
    intro ws M k e h
    obtain ⟨b, qs, rfl, hz, hk⟩ := h
    simp
    refine lcL_mapIx qs _ (fun q => sqE false (q.map tM)) (line_ge (by omega)) (by cases b <;> trivial) (fun r hr Q hq => ?_) ?_
    · simp
      exact hq
    · exact fin0 (by simpa using hk)
theorem sckept_draws_ok_CKdB : FnScope ["draws", "weight", "asks", "asked"] ["draws"] (defScope s_kept_draws) := ⟨rfl, rfl, rfl, by decide +kernel, rfl, by decide +kernel, by decide +kernel⟩
theorem ok_CKdB {f : Addr} {fd : FuncData} (F : FnS K "kept_draws" s_kept_draws f fd) (B : BltU mg) : FnOk P w K mg base (L2.CX P w) 1 f fd ["draws"] (spP K cKdB) := by
  refine fun_okP F sckept_draws_ok_CKdB (fun ws M k e h => ?_) (fun cdv A outer s H E hr => ?_)
  · obtain ⟨ns, b0, bn, w, rfl, _⟩ := h
    rfl
  · have nd := sckept_draws_ok_CKdB.nd
    have hu := hu64 hr
    have hu5 := hu65 hr
    refine ⟨_, _, (pss_one (ps_ret (pe_callTy (cr_tupleP (K := K)) (by rfl) B.tuple (by decide +kernel) (pa_cons (pe_lc (own := [("weight", 1), ("asks", 2)]) (g := gTup K 2 (gCons (gName 1) (gCons (gName 2) gNil))) (by rfl) nd (pi_seqB (K := K) (pv 0)) (blkOk_by (own := [("weight", 1), ("asks", 2)]) (N := ["draws", "weight", "asks", "asked"]) (sc := defScope s_kept_draws) (by decide +kernel)) (fun _ _ _ _ _ => (pg_tupP (K := K) (n := 2) (pg_tup rfl (pgs_cons (pg_name (i := 1) nd rfl (Or.inl rfl)) (pgs_cons (pg_name (i := 2) nd rfl (Or.inl rfl)) pgs_nil))))) (fun _ _ _ _ _ => pts_nil) (fun _ _ _ _ _ => (pe_tup (pa_cons (pv 1) (pa_cons (pe_callTy (cr_tupleP (K := K)) (by rfl) B.tuple (by decide +kernel) (pa_cons (pe_lc (own := [("asked", 3)]) (g := gName 3) (by rfl) nd (pi_seqB (K := K) (pv 2)) (blkOk_by (own := [("asked", 3)]) (N := ["draws", "weight", "asks", "asked"]) (sc := relS (scAt s_kept_draws 0 [] 0 [1]) (defScope s_kept_draws)) (by decide +kernel)) (fun _ _ _ _ _ => (pg_name (i := 3) nd rfl (Or.inl rfl))) (fun _ _ _ _ _ => pts_nil) (fun _ _ _ _ _ => (pe_callTy (cr_tupleP (K := K)) (by rfl) B.tuple (by decide +kernel) (pa_cons (pv 3) pa_nil)))) pa_nil)) pa_nil))))) pa_nil)))), inferInstance, ?_⟩
    clear F hr nd hu hu5
    intro ws M k e h
    obtain ⟨ns, b0, bn, w, rfl, hz, hk⟩ := h
    obtain ⟨hs, hl, hr⟩ := hz
    simp [hs]
    refine lcL_mapIx ns _ (nE false) (line_ge (by omega)) (keep_seq hs) (fun d hd Q hq => ?_) ?_
    · simp
      refine lcL_mapIx d.2 _ (fun r => sqE false (r.map D.int)) (line_ge (by have := hr d hd; omega)) (by cases bn <;> trivial) (fun r hr' Q hq => ?_) ?_
      · simp
        exact hq
      · rw [nE_eq] at hq
        exact ⟨line_ge (by decide), hq⟩
    · exact fin0 (by simpa using hk)
theorem scweight_of_ok_CWtB : FnScope ["draws", "weight", "_"] ["draws"] (defScope s_weight_of) := ⟨rfl, rfl, rfl, by decide +kernel, rfl, by decide +kernel, by decide +kernel⟩
theorem ok_CWtB {f : Addr} {fd : FuncData} (F : FnS K "weight_of" s_weight_of f fd) (B : BltU mg) : FnOk P w K mg base (L2.CX P w) 1 f fd ["draws"] (spP K cWtB) := by
  refine fun_okP F scweight_of_ok_CWtB (fun ws M k e h => ?_) (fun cdv A outer s H E hr => ?_)
  · obtain ⟨ns, b0, bn, w, rfl, _⟩ := h
    rfl
  · have nd := scweight_of_ok_CWtB.nd
    have hu := hu64 hr
    have hu5 := hu65 hr
    refine ⟨_, _, (pss_one (ps_ret (pe_callB (cr_sumP (K := K) rfl) (by rfl) B.sum (by decide +kernel) (pa_cons (pe_lc (own := [("weight", 1), ("_", 2)]) (g := gTup K 2 (gCons (gName 1) (gCons (gName 2) gNil))) (by rfl) nd (pi_seqB (K := K) (pv 0)) (blkOk_by (own := [("weight", 1), ("_", 2)]) (N := ["draws", "weight", "_"]) (sc := defScope s_weight_of) (by decide +kernel)) (fun _ _ _ _ _ => (pg_tupP (K := K) (n := 2) (pg_tup rfl (pgs_cons (pg_name (i := 1) nd rfl (Or.inl rfl)) (pgs_cons (pg_name (i := 2) nd rfl (Or.inl rfl)) pgs_nil))))) (fun _ _ _ _ _ => pts_nil) (fun _ _ _ _ _ => (pv 1))) pa_nil)))), inferInstance, ?_⟩
    clear F hr nd hu hu5
    intro ws M k e h
    obtain ⟨ns, b0, bn, w, rfl, hz, hk⟩ := h
    obtain ⟨hs, hl⟩ := hz
    simp [hs]
    refine lcL_mapIx ns _ (fun d => .int d.1) (line_ge (by omega)) (keep_seq hs) (fun d hd Q hq => ?_) ?_
    · simp
      exact hq
    · simp
      exact fin0 hk
theorem sccheck_draws_ok_CCDB : FnScope ["book_count", "questions", "draws", "counts", "asked", "draw"] ["book_count", "questions", "draws"] (defScope s_check_draws) := ⟨rfl, rfl, rfl, by decide +kernel, rfl, by decide +kernel, by decide +kernel⟩
theorem ok_CCDB {f : Addr} {fd : FuncData} (F : FnS K "check_draws" s_check_draws f fd) (B : BltU mg) (CPl : Cal P w K mg base 1 "check_places" fCPl fdCPl ["part", "rights"] (spP K cPlc)) (CDr : Cal P w K mg base 4 "is_draw" fCDr fdCDr ["value", "book_count", "counts"] (spP K cDraw)) (CMeW : Cal P w K mg base 2 "members_of" fCMeW fdCMeW ["value"] (spP K cMemW)) : FnOk P w K mg base (L2.CX P w) 5 f fd ["book_count", "questions", "draws"] (spP K cChkB) := by
  refine fun_okP F sccheck_draws_ok_CCDB (fun ws M k e h => ?_) (fun cdv A outer s H E hr => ?_)
  · obtain ⟨c, qs, ns, b, b0, bn, w, rfl, _⟩ := h
    rfl
  · have nd := sccheck_draws_ok_CCDB.nd
    have hu := hu64 hr
    have hu5 := hu65 hr
    refine ⟨_, _, (pss_cons (ps_set (i := 3) nd rfl (Or.inr rfl) (pe_lc (own := [("asked", 4)]) (g := gName 4) (by rfl) nd (pi_seqB (K := K) (pv 1)) (blkOk_by (own := [("asked", 4)]) (N := ["book_count", "questions", "draws", "counts", "asked", "draw"]) (sc := defScope s_check_draws) (by decide +kernel)) (fun _ _ _ _ _ => (pg_name (i := 4) nd rfl (Or.inl rfl))) (fun _ _ _ _ _ => pts_nil) (fun _ _ _ _ _ => (pe_callB (cr_lenP (K := K)) (by rfl) B.len (by decide +kernel) (pa_cons (pv 4) pa_nil)))))
      (pss_one (ps_expr (pe_calS (W := WD0 E) CPl (hr.mono (by decide)) (pa_cons pe_str (pa_cons (pe_lc (own := [("draw", 5)]) (g := gName 5) (by rfl) nd (pi_seqB (K := K) (pe_calS (W := WD0 E) CMeW (hr.mono (by decide)) (pa_cons (pv 2) pa_nil) (takes_of rfl rfl rfl rfl))) (blkOk_by (own := [("draw", 5)]) (N := ["book_count", "questions", "draws", "counts", "asked", "draw"]) (sc := defScope s_check_draws) (by decide +kernel)) (fun _ _ _ _ _ => (pg_name (i := 5) nd rfl (Or.inl rfl))) (fun _ _ _ _ _ => pts_nil) (fun _ _ _ _ _ => (pe_cal CDr (hr.mono (by decide)) (pa_cons (pv 5) (pa_cons (pv 0) (pa_cons (pv 3) pa_nil))) passU))) pa_nil)) (takes_of rfl rfl rfl rfl))))), inferInstance, ?_⟩
    clear F hr nd hu hu5
    intro ws M k e h
    obtain ⟨c, qs, ns, b, b0, bn, w, rfl, hz, hk⟩ := h
    obtain ⟨hs, hf, h0, hl, hc, hqs, hql, hd⟩ := hz
    simp
    refine lcL_mapIx qs _ (fun q => .int q.length) (line_ge (by omega)) (by cases b <;> trivial) (fun q h Q hq => ?_) ?_
    · simpa using hq
    · refine ⟨w, b0, ns.map (nE bn), rfl, ⟨hs, hf, by simpa using h0⟩, ?_⟩
      simp
      refine lcL_mapIx ns _ (fun _ => .bl true) (line_ge (by omega)) trivial (fun d h Q hq => ?_) ?_
      · simp
        obtain ⟨a1, a2, a3⟩ := hd d h
        refine ⟨(bn, d, c, qs.map fun q => (q.length : Int)), by simp, ⟨a1, a2, hc, by simpa using hqs, fun r hr => ⟨by simpa using (a3 r hr).1, fun i x q e1 e2 => ?_⟩⟩, _, rfl, hq⟩
        rw [List.getElem?_map] at e2
        cases e3 : qs[i]? with
        | none => rw [e3] at e2; cases e2
        | some q' =>
          rw [e3] at e2
          cases e2
          exact (a3 r hr).2 i x q' e1 e3
      · exact ⟨("draws", _), rfl, ⟨by simpa using hl, fun d h => by obtain ⟨_, _, rfl⟩ := List.mem_map.mp h; rfl⟩, fin0 hk⟩
theorem scPlan_init_ok_IniB : FnScope ["self", "p", "book_length", "book_count", "questions", "draws", "columns", "asked"] ["self", "p", "book_length", "book_count", "questions", "draws"] (defScope sPlan_init) := ⟨rfl, rfl, rfl, by decide +kernel, rfl, by decide +kernel, by decide +kernel⟩
theorem ok_IniB {f : Addr} {fd : FuncData} (F : FunD K "__init__" "Plan.__init__" (defArgs sPlan_init) (defBody sPlan_init) (defScope sPlan_init) [] [] f fd) (B : BltU mg) {C : Addr} (hC : Cls K C) (hA : ∀ f ∈ (["p", "book_length", "book_count", "house_count", "questions", "draws", "weight"] : List Str), NoAttr K C f) (CSz : Cal P w K mg base 3 "check_sizes" fCSz fdCSz ["p", "book_length", "book_count"] (spP K cSiz)) (CAqB : Cal P w K mg base 7 "_are_questions" fCAqB fdCAqB ["p", "columns", "value"] (spP K cAreB)) (CMeW : Cal P w K mg base 2 "members_of" fCMeW fdCMeW ["value"] (spP K cMemW)) (CPl : Cal P w K mg base 1 "check_places" fCPl fdCPl ["part", "rights"] (spP K cPlc)) (CCDB : Cal P w K mg base 5 "check_draws" fCCDB fdCCDB ["book_count", "questions", "draws"] (spP K cChkB)) (CKqB : Cal P w K mg base 1 "kept_questions" fCKqB fdCKqB ["questions"] (spP K cKqB)) (CKdB : Cal P w K mg base 1 "kept_draws" fCKdB fdCKdB ["draws"] (spP K cKdB)) (CWtB : Cal P w K mg base 1 "weight_of" fCWtB fdCWtB ["draws"] (spP K cWtB)) : FnOk P w K mg base (L2.CX P w) 8 f fd ["self", "p", "book_length", "book_count", "questions", "draws"] (spP K ((cIniB C))) := by
  refine fun_okP F scPlan_init_ok_IniB (fun ws M k e h => ?_) (fun cdv A outer s H E hr => ?_)
  · obtain ⟨M1, p, l, c, qs, ds, b, b0, bn, dw, rfl, _⟩ := h
    rfl
  · have nd := scPlan_init_ok_IniB.nd
    have hu := hu64 hr
    have hu5 := hu65 hr
    refine ⟨_, _, (pss_cons (ps_expr (pe_calS (W := WD0 E) CSz (hr.mono (by decide)) (pa_cons (pv 1) (pa_cons (pv 2) (pa_cons (pv 3) pa_nil))) (takes_of rfl rfl rfl rfl)))
      (pss_cons (ps_set (i := 6) nd rfl (Or.inr rfl) (pe_op (op_mulP (K := K)) (pv 2) (pv 3)))
      (pss_cons (ps_expr (pe_calS (W := WD0 E) CPl (hr.mono (by decide)) (pa_cons pe_str (pa_cons (pe_lc (own := [("asked", 7)]) (g := gName 7) (by rfl) nd (pi_seqB (K := K) (pe_calS (W := WD0 E) CMeW (hr.mono (by decide)) (pa_cons (pv 4) pa_nil) (takes_of rfl rfl rfl rfl))) (blkOk_by (own := [("asked", 7)]) (N := ["self", "p", "book_length", "book_count", "questions", "draws", "columns", "asked"]) (sc := defScope sPlan_init) (by decide +kernel)) (fun _ _ _ _ _ => (pg_name (i := 7) nd rfl (Or.inl rfl))) (fun _ _ _ _ _ => pts_nil) (fun _ _ _ _ _ => (pe_cal CAqB (hr.mono (by decide)) (pa_cons (pv 1) (pa_cons (pv 6) (pa_cons (pv 7) pa_nil))) passU))) pa_nil)) (takes_of rfl rfl rfl rfl)))
      (pss_cons (ps_expr (pe_calS (W := WD0 E) CCDB (hr.mono (by decide)) (pa_cons (pv 3) (pa_cons (pv 4) (pa_cons (pv 5) pa_nil))) (takes_of rfl rfl rfl rfl)))
      (pss_cons (ps_fldP (K := K) (ps_fld (pv 0) (pv 1) rfl))
      (pss_cons (ps_fldP (K := K) (ps_fld (pv 0) (pv 2) rfl))
      (pss_cons (ps_fldP (K := K) (ps_fld (pv 0) (pv 3) rfl))
      (pss_cons (ps_fldP (K := K) (ps_fld (pv 0) (pe_callB (cr_lenP (K := K)) (by rfl) B.len (by decide +kernel) (pa_cons (pv 4) pa_nil)) rfl))
      (pss_cons (ps_fldP (K := K) (ps_fld (pv 0) (pe_calS (W := WD0 E) CKqB (hr.mono (by decide)) (pa_cons (pv 4) pa_nil) (takes_of rfl rfl rfl rfl)) rfl))
      (pss_cons (ps_fldP (K := K) (ps_fld (pv 0) (pe_calS (W := WD0 E) CKdB (hr.mono (by decide)) (pa_cons (pv 5) pa_nil) (takes_of rfl rfl rfl rfl)) rfl))
      (pss_one (ps_fldP (K := K) (ps_fld (pv 0) (pe_calS (W := WD0 E) CWtB (hr.mono (by decide)) (pa_cons (pv 5) pa_nil) (takes_of rfl rfl rfl rfl)) rfl))))))))))))), inferInstance, ?_⟩
    clear F hr nd hu hu5
    intro ws M k e h
    obtain ⟨M1, p, l, c, qs, ds, b, b0, bn, dw, rfl, rfl, ⟨hs, hf, hp, hl, hc, hq0, hl2, hq, hn⟩, hk⟩ := h
    have hc2 : c ≤ 100 := hn.2.2.1
    have hsx : ∀ X, seqW (M1 ++ X) dw = some (b0, ds.map (nE bn)) := fun X => seqW_app hs
    simp
    refine ⟨(p, (l : Int), (c : Int)), rfl, ⟨hp, by simpa using hl, by simpa using hc⟩, ?_⟩
    refine ⟨cmul_of (by omega) (by omega), .d (qsE b qs), b, qs.map fun q => sqE b (q.map tM), rfl, ⟨seqW_sq, by cases b <;> rfl, by simpa using hq0⟩, ?_⟩
    simp
    refine lcL_mapIx qs _ (fun _ => .bl true) (line_ge (by have := hn.2.2.2.1; omega)) trivial (fun q h Q hQ => ?_) ?_
    · simp
      exact ⟨(b, p, l * c, q), by simp, hq q h, _, rfl, hQ⟩
    · refine ⟨("questions", _), rfl, ⟨by rw [List.length_map]; have := hn.2.2.2.1; omega, fun d h => by obtain ⟨_, _, rfl⟩ := List.mem_map.mp h; rfl⟩, ?_⟩
      refine ⟨c, qs, ds, b, b0, bn, dw, rfl, ⟨hsx _, hf, hn⟩, ?_⟩
      refine ⟨C, _, mem_at0, hC, hA _ (by simp), (by decide : 0 < 1000), ?_⟩
      try simp only [mem_set0]
      refine ⟨C, _, mem_at0, hC, hA _ (by simp), (by decide : 1 < 1000), ?_⟩
      try simp only [mem_set0]
      refine ⟨C, _, mem_at0, hC, hA _ (by simp), (by decide : 2 < 1000), ?_⟩
      try simp only [mem_set0]
      refine ⟨C, _, mem_at0, hC, hA _ (by simp), (by decide : 3 < 1000), ?_⟩
      try simp only [mem_set0]
      refine ⟨b, qs, rfl, by have := hn.2.2.2.1; omega, ?_⟩
      refine ⟨C, _, mem_at0, hC, hA _ (by simp), (by decide : 4 < 1000), ?_⟩
      try simp only [mem_set0]
      refine ⟨ds, b0, bn, dw, rfl, ⟨hsx _, hn.2.1, fun d h => by have := (hn.2.2.2.2.2 d h).2.1; omega⟩, ?_⟩
      refine ⟨C, _, mem_at0, hC, hA _ (by simp), (by decide : 5 < 1000), ?_⟩
      try simp only [mem_set0]
      refine ⟨ds, b0, bn, dw, rfl, ⟨hsx _, hn.2.1⟩, ?_⟩
      refine ⟨C, _, mem_at0, hC, hA _ (by simp), (by decide : 6 < 1000), ?_⟩
      try simp only [mem_set0]
      exact fin0 hk
end
end PU

set_option maxRecDepth 100000
set_option maxHeartbeats 8000000
set_option synthInstance.maxHeartbeats 4000000
set_option synthInstance.maxSize 4000
namespace PU
open PySem PySem.Spec PyProof.Rows L2 GS WU
section
variable {P : Program} {w : World} {K : PySem.W.Frag} {mg : Str → Option Value} {base : Heap}

def turnD (o : List Nat) : List D := o.map fun k : Nat => if k < 2 then .bl (decide (k = 1)) else .int (k : Int)
def endD (n : Nat) (o : List Nat) : List D := (List.range (n - 1)).map fun k => .int ((((o[k]?).getD 0 : Nat)) : Int)
def noA (n at_ : Nat) (o : List Nat) : List D := [.lst (ordD o ++ [.int 0]), .lst (cutD (ordD o) none (some (-1))), .lst (List.take at_ (ordD o) ++ .int (n : Int) :: cutD (ordD o) (some ((at_ : Int) + 1)) none), .lst (List.take at_ (ordD o) ++ .int (-1) :: cutD (ordD o) (some ((at_ : Int) + 1)) none), .non, .str "0", .int 0,
  .lst (ordD o ++ [.int (n : Int)]), .lst (List.take at_ (ordD o) ++ .non :: cutD (ordD o) (some ((at_ : Int) + 1)) none), .bl true, .tup (ordD o ++ [.int (((o[0]?).getD 0 : Nat) : Int)]), .tup []]
def noB (n : Nat) (o : List Nat) : List D := [.lst (endD n o ++ [.int (((o[0]?).getD 0 : Nat) : Int)]), .lst (turnD o), .tup (turnD o)]
def noGood (n : Nat) (x : D) : Bool := okD x && (!isOr n x && shB x)
theorem no_all : ((List.range 5).all fun n => n == 0 || (ords n).all fun o => (List.range n).all fun a => (noA n a o).all (noGood n) && (decide (n ≤ 1) || (noB n o).all (noGood n)) && decide ((cutD (ordD o) (some ((a : Int) + 1)) none).length ≤ 4)) = true := by decide +kernel

theorem noG {n : Nat} {x : D} (h : noGood n x = true) : okD x = true ∧ isOr n x = false ∧ ShD x := by
  unfold noGood at h
  rw [Bool.and_eq_true, Bool.and_eq_true, Bool.not_eq_true'] at h
  exact ⟨h.1, h.2.1, shB_ok h.2.2⟩
theorem no_ok {n a : Nat} {o : List Nat} (hn1 : 1 ≤ n) (hn4 : n ≤ 4) (hO : o ∈ ords n) (ha : a < n) : (∀ x ∈ noA n a o, okD x = true ∧ isOr n x = false ∧ ShD x) ∧ (1 < n → ∀ x ∈ noB n o, okD x = true ∧ isOr n x = false ∧ ShD x) ∧ (cutD (ordD o) (some ((a : Int) + 1)) none).length ≤ 4 := by
  have h := List.all_eq_true.mp no_all n (List.mem_range.mpr (by omega))
  rw [Bool.or_eq_true] at h
  rcases h with h | h
  · simp at h
    omega
  · have h2 := List.all_eq_true.mp (List.all_eq_true.mp h o hO) a (List.mem_range.mpr ha)
    rw [Bool.and_eq_true, Bool.and_eq_true, Bool.or_eq_true] at h2
    refine ⟨fun x hx => noG (List.all_eq_true.mp h2.1.1 x hx), fun q x hx => ?_, of_decide_eq_true h2.2⟩
    rcases h2.1.2 with z | z
    · have := of_decide_eq_true z
      omega
    · exact noG (List.all_eq_true.mp z x hx)
theorem fAdd_pl {M : Mem} {n : Nat} {L ys : List D} (h : M[n]? = some (.lst L)) : fAdd (.p n) (.d (.lst ys)) M = some (.d (.lst (L ++ ys)), L.length + ys.length ≤ sizeLine) := by
  show (match lv M (.p n), lv M (.d (.lst ys)) with
    | some xs, some ys => some (W.d (.lst (xs ++ ys)), xs.length + ys.length ≤ sizeLine)
    | _, _ => none) = _
  rw [show lv M (.p n) = some L by rw [lv, h]]
  rfl
theorem pickP {M M2 R : Mem} {L : List D} {k : KW} {e : XW} {m : Int} (hm : HM M R) (hm2 : HM M2 R) (em : m = L.length) (h0 : 0 < L.length) (h1 : L.length < 1000) (hk : ∀ M' x, HM M' R → x ∈ L → k (.d x) M') : cTake [.p 0, .d (.int m)] (M2 ++ [.lst L]) (fun b M3 => ob (fIx (.p M2.length) b M3) fun r => r.2 ∧ FinK M k r.1 M3) e := by
  refine ⟨m, R ++ [.lst L], rfl, ⟨hm2.app _, by omega, by omega⟩, fun M3 b hm3 b0 b1 => ?_⟩
  obtain ⟨M4, rfl, hm4⟩ := hm3.un
  obtain ⟨b, rfl⟩ := Int.eq_ofNat_of_zero_le b0
  have lt : b < L.length := by omega
  have el : M2.length = M4.length := by rw [hm2.len, hm4.len]
  have es : seqW (M4 ++ [.lst L]) (.p M2.length) = some (true, L) := by rw [seqW, el, mem_at0]
  rw [fIx_seqW es, atI_nat, List.getElem?_eq_getElem lt]
  exact ⟨_, rfl, trivial, finH hm hm4 (hk M4 _ hm4 (List.getElem_mem lt))⟩
theorem pickD {M M2 R X : Mem} {L : List D} {k : KW} {e : XW} {m : Int} (hm : HM M R) (hm2 : HM M2 R) (em : m = L.length) (h0 : 0 < L.length) (h1 : L.length < 1000) (hk : ∀ M' x, HM M' R → x ∈ L → k (.d x) M') : cTake [.p 0, .d (.int m)] (M2 ++ X) (fun b M3 => ob (fIx (.d (.lst L)) b M3) fun r => r.2 ∧ FinK M k r.1 M3) e := by
  refine ⟨m, R ++ X, rfl, ⟨hm2.app _, by omega, by omega⟩, fun M3 b hm3 b0 b1 => ?_⟩
  obtain ⟨M4, rfl, hm4⟩ := hm3.un
  obtain ⟨b, rfl⟩ := Int.eq_ofNat_of_zero_le b0
  have lt : b < L.length := by omega
  rw [fIx_lst, atI_nat, List.getElem?_eq_getElem lt]
  exact ⟨_, rfl, trivial, finH hm hm4 (hk M4 _ hm4 (List.getElem_mem lt))⟩
theorem sclaw_no_order_ok_CNoO : FnScope ["hand", "many", "order", "at", "wrong", "turned", "one", "k"] ["hand", "many"] (defScope s_law_no_order) := ⟨rfl, rfl, rfl, by decide +kernel, rfl, by decide +kernel, by decide +kernel⟩
theorem ok_CNoO {f : Addr} {fd : FuncData} (F : FnS K "_law_no_order" s_law_no_order f fd) (B : BltU mg) (COrd : Cal P w K mg base 2 "_law_order" fCOrd fdCOrd ["hand", "many"] (spP K cOrd)) (CTk : Cal P w K mg base 1 "_law_take" fCTk fdCTk ["hand", "many"] (spP K cTake)) : FnOk P w K mg base (L2.CX P w) 3 f fd ["hand", "many"] (spP K cNoO) := by
  refine fun_okP F sclaw_no_order_ok_CNoO (fun ws M k e h => ?_) (fun cdv A outer s H E hr => ?_)
  · obtain ⟨n, R, rfl, _⟩ := h
    rfl
  · have nd := sclaw_no_order_ok_CNoO.nd
    have hu := hu64 hr
    have hu5 := hu65 hr
    refine ⟨_, _, (pss_cons (ps_set (i := 2) nd rfl (Or.inr rfl) (pe_calS (W := WD0 E) COrd (hr.mono (by decide)) (pa_cons (pv 0) (pa_cons (pv 1) pa_nil)) (takes_of rfl rfl rfl rfl)))
      (pss_cons (ps_set (i := 3) nd rfl (Or.inl rfl) (pe_calS (W := WD0 E) CTk (hr.mono (by decide)) (pa_cons (pv 0) (pa_cons (pv 1) pa_nil)) (takes_of rfl rfl rfl rfl)))
      (pss_cons (ps_set (i := 4) nd rfl (Or.inl rfl) (pe_lst (pa_cons (pe_op (op_addP (K := K)) (pv 2) (pe_lst (pa_cons pe_int pa_nil))) (pa_cons (pe_slice (sl_P (K := K)) (pv 2) po_none (po_some (pe_un (un_negP (K := K)) pe_int))) (pa_cons (pe_op (op_addP (K := K)) (pe_op (op_addP (K := K)) (pe_slice (sl_P (K := K)) (pv 2) po_none (po_some (pv 3))) (pe_lst (pa_cons (pv 1) pa_nil))) (pe_slice (sl_P (K := K)) (pv 2) (po_some (pe_op (op_addP (K := K)) (pv 3) pe_int)) po_none)) (pa_cons (pe_op (op_addP (K := K)) (pe_op (op_addP (K := K)) (pe_slice (sl_P (K := K)) (pv 2) po_none (po_some (pv 3))) (pe_lst (pa_cons (pe_un (un_negP (K := K)) pe_int) pa_nil))) (pe_slice (sl_P (K := K)) (pv 2) (po_some (pe_op (op_addP (K := K)) (pv 3) pe_int)) po_none)) pa_nil))))))
      (pss_cons (ps_set (i := 4) nd rfl (Or.inl rfl) (pe_op (op_addP (K := K)) (pv 4) (pe_lst (pa_cons pe_non (pa_cons pe_str (pa_cons pe_int pa_nil))))))
      (pss_cons (ps_set (i := 4) nd rfl (Or.inl rfl) (pe_op (op_catO (K := K)) (pv 4) (pe_lst (pa_cons (pe_op (op_addP (K := K)) (pv 2) (pe_lst (pa_cons (pv 1) pa_nil))) (pa_cons (pe_op (op_addP (K := K)) (pe_op (op_addP (K := K)) (pe_slice (sl_P (K := K)) (pv 2) po_none (po_some (pv 3))) (pe_lst (pa_cons pe_non pa_nil))) (pe_slice (sl_P (K := K)) (pv 2) (po_some (pe_op (op_addP (K := K)) (pv 3) pe_int)) po_none)) (pa_cons pe_bl (pa_cons (pe_op (op_addP (K := K)) (pe_callTy (cr_tupleP (K := K)) (by rfl) B.tuple (by decide +kernel) (pa_cons (pv 2) pa_nil)) (pe_tup (pa_cons (pe_ix (ix_P (K := K)) (pv 2) pe_int (fun _ _ => rfl)) pa_nil))) (pa_cons (pe_tup pa_nil) pa_nil))))))))
      (pss_cons (ps_if (pt_cmpR (op_gtP (K := K)) (pv 1) pe_int (nomark _)) (pss_cons (ps_expr (pe_bmP (K := K) (pe_bm PySem.F.plainAttrs_list PySem.F.slot_list_append PySem.F.type_list_append (mt_appP (K := K)) (pv 4) (pa_cons (pe_op (op_addP (K := K)) (pe_lc (own := [("k", 7)]) (g := gName 7) (by rfl) nd (pi_range1 rfl B.range (pa_cons (pe_op (op_subP (K := K)) (pv 1) pe_int) pa_nil)) (blkOk_by (own := [("k", 7)]) (N := ["hand", "many", "order", "at", "wrong", "turned", "one", "k"]) (sc := defScope s_law_no_order) (by decide +kernel)) (fun _ _ _ _ _ => (pg_name (i := 7) nd rfl (Or.inl rfl))) (fun _ _ _ _ _ => pts_nil) (fun _ _ _ _ _ => (pe_callTy (cr_intP (K := K)) (by rfl) B.int (by decide +kernel) (pa_cons (pe_ix (ix_P (K := K)) (pv 2) (pv 7) (fun _ _ => rfl)) pa_nil)))) (pe_lst (pa_cons (pe_ix (ix_P (K := K)) (pv 2) pe_int (fun _ _ => rfl)) pa_nil))) pa_nil))))
      (pss_cons (ps_setLc (i := 5) (own := [("one", 6)]) (g := gName 6) (by rfl) nd rfl rfl (sw_true rfl rfl rfl (by decide +kernel)) (pi_seqB (K := K) (pv 2)) (blkOk_by (own := [("one", 6)]) (N := ["hand", "many", "order", "at", "wrong", "turned", "one", "k"]) (sc := defScope s_law_no_order) (by decide +kernel)) (fun _ _ _ _ _ => (pg_name (i := 6) nd rfl (Or.inl rfl))) (fun _ _ _ _ _ => pts_nil) (fun _ _ _ _ _ => (pe_ix (ix_P (K := K)) (pe_lst (pa_cons (pv 6) (pa_cons (pe_cmpR (op_eqP (K := K) hu) (pv 6) pe_int (nomark _)) pa_nil))) (pe_callTy (cr_intP (K := K)) (by rfl) B.int (by decide +kernel) (pa_cons (pe_cmpR (op_ltP (K := K) hu) (pv 6) pe_int (nomark _)) pa_nil)) (fun _ _ => rfl))))
      (pss_one (ps_set (i := 4) nd rfl (Or.inl rfl) (pe_op (op_addP (K := K)) (pv 4) (pe_lst (pa_cons (pv 5) (pa_cons (pe_callTy (cr_tupleP (K := K)) (by rfl) B.tuple (by decide +kernel) (pa_cons (pv 5) pa_nil)) pa_nil)))))))) pss_nil)
      (pss_one (ps_ret (pe_ix (ix_P (K := K)) (pv 4) (pe_calS (W := WD0 E) CTk (hr.mono (by decide)) (pa_cons (pv 0) (pa_cons (pe_callB (cr_lenP (K := K)) (by rfl) B.len (by decide +kernel) (pa_cons (pv 4) pa_nil)) pa_nil)) (takes_of rfl rfl rfl rfl)) (fun _ _ => rfl)))))))))), inferInstance, ?_⟩
    clear F hr nd hu hu5
    intro ws M k e h
    obtain ⟨n, R, rfl, ⟨hm, hn1, hn4⟩, hk⟩ := h
    simp
    refine ⟨n, R, rfl, ⟨hm, by omega⟩, fun M1 o hm1 ho hO => ?_⟩
    refine ⟨(n : Int), R, rfl, ⟨hm1, by omega, by omega⟩, fun M2 at_ hm2 a0 a1 => ?_⟩
    obtain ⟨at_, rfl⟩ := Int.eq_ofNat_of_zero_le a0
    simp
    obtain ⟨okA, okB, c4⟩ := no_ok hn1 hn4 hO (show at_ < n by omega)
    have hl := ho.1
    have l0 : 0 < o.length := by omega
    have h0 : atI (ordD o) 0 = some (.int (((o[0]?).getD 0 : Nat) : Int)) := by
      have := atI_nat (ordD o) 0
      rw [List.getElem?_map, List.getElem?_eq_getElem l0] at this
      rw [List.getElem?_eq_getElem l0]
      exact this
    refine ⟨line_ge (by omega), line_ge (by omega), line_ge (by omega), line_ge (by omega), line_ge (by omega), line_ge (by omega), line_ge (by omega), line_ge (by omega), line_ge (by omega), line_ge (by omega), line_ge (by omega), line_ge (by omega), line_ge (by omega), line_ge (by omega), line_ge (by omega), line_ge (by omega), _, h0, line_ge (by omega), line_ge (by omega), line_ge (by omega), line_ge (by omega), ?_⟩
    by_cases q : 1 < (n : Int)
    · rw [if_pos q]
      refine ⟨by omega, by omega, ?_⟩
      unfold rngD
      refine lcL_mapIx (List.range (n - 1)) _ (fun k => .int ((((o[k]?).getD 0 : Nat)) : Int)) (line_ge (by rw [List.length_range]; omega)) trivial (fun k hk Q hQ => ?_) ?_
      · have lk : k < o.length := by have := List.mem_range.mp hk; omega
        rw [List.getElem?_eq_getElem lk] at hQ
        simp
        rw [List.getElem?_eq_getElem lk]
        exact ⟨_, rfl, hQ⟩
      · refine ⟨_, h0, line_ge (by omega), line_ge (by simp; omega), ?_⟩
        simp
        refine ⟨line_gt (by decide), ?_⟩
        refine lcL_mapIx o _ (fun k : Nat => if k < 2 then .bl (decide (k = 1)) else .int (k : Int)) (line_ge (by omega)) trivial (fun k hk Q hQ => ?_) ?_
        · simp
          refine ⟨line_ge (by decide), ?_⟩
          by_cases q2 : k < 2
          · rw [if_pos q2] at hQ
            rw [if_pos (by omega : (k : Int) < 2)]
            have ed : decide ((k : Int) = 1) = decide (k = 1) := by rw [decide_eq_decide]; omega
            rw [ed]
            exact ⟨_, rfl, hQ⟩
          · rw [if_neg q2] at hQ
            rw [if_neg (by omega : ¬ (k : Int) < 2)]
            exact ⟨_, rfl, hQ⟩
        · refine ⟨line_ge (by decide), _, fAdd_pl mem_at0, ?_⟩
          refine ⟨line_ge (by simp), _, rfl, trivial, ?_⟩
          refine pickD (L := noA n at_ o ++ noB n o) hm hm2 rfl (by simp [noA]) (by simp [noA, noB]) fun M' x hM hx => ?_
          rcases List.mem_append.mp hx with hx | hx
          · obtain ⟨x1, x2, x3⟩ := okA x hx
            exact hk M' x hM x1 x2 x3
          · obtain ⟨x1, x2, x3⟩ := okB (by omega) x hx
            exact hk M' x hM x1 x2 x3
    · rw [if_neg q]
      refine pickP (L := noA n at_ o) hm hm2 rfl (by simp [noA]) (by simp [noA]) fun M' x hM hx => ?_
      obtain ⟨x1, x2, x3⟩ := okA x hx
      exact hk M' x hM x1 x2 x3
end
end PU

set_option maxRecDepth 100000
set_option maxHeartbeats 8000000
set_option synthInstance.maxHeartbeats 4000000
set_option synthInstance.maxSize 4000
namespace PU
open PySem PySem.Spec PyProof.Rows L2 GS WU
section
variable {P : Program} {w : World} {K : PySem.W.Frag} {mg : Str → Option Value} {base : Heap}

theorem askd_ok {p : Int} {l c h n : Nat} {D1 : DrQ} (dn : Drn p l c h D1) (w : Wide h D1) (hn : n < h) {m : Mx} (hm : m ∈ askd n D1) : MxOk p (l * c) m ∧ m.length ≤ 2 := by
  obtain ⟨d, hd, hm⟩ := List.mem_flatMap.mp hm
  obtain ⟨r, hr, rfl⟩ := List.mem_map.mp hm
  have lt : n < r.length := by rw [w d hd r hr]; exact hn
  rw [List.getElem?_eq_getElem lt]
  exact ((dn.2.2 d hd).2.2.2 r hr).2 _ (List.getElem_mem lt)
theorem sclaw_with_more_ok_CWmr : FnScope ["hand", "p", "length", "count", "houses", "draws", "questions", "told", "more", "n", "found", "k", "asked", "weight", "asks", "whole", "draw", "ask"] ["hand", "p", "length", "count", "houses", "draws"] (defScope s_law_with_more) := ⟨rfl, rfl, rfl, by decide +kernel, rfl, by decide +kernel, by decide +kernel⟩
theorem ok_CWmr {f : Addr} {fd : FuncData} (F : FnS K "_law_with_more" s_law_with_more f fd) (B : BltU mg) {C pO gO : Addr} (O : PMW P w K mg base C pO gO) {fI : Addr} {fdI : FuncData} (MK : Mk K C fI) (GI : FnOk P w K mg base (L2.CX P w) 8 fI fdI ["self", "p", "book_length", "book_count", "questions", "draws"] (spP K (cIniB C))) (bI : L2.Binds K fdI ["self", "p", "book_length", "book_count", "questions", "draws"] []) (CTk : Cal P w K mg base 1 "_law_take" fCTk fdCTk ["hand", "many"] (spP K cTake)) (CTo : CalG P w K mg base 3 "_law_told" fCTo fdCTo ["p", "length", "count", "houses", "draws"] (spP K cTold)) (CNm : Cal P w K mg base 2 "_law_numbered" fCNm fdCNm ["houses", "draws"] (spP K cNumd)) (CPt : Cal P w K mg base 1 "_law_put_in" fCPt fdCPt ["rows", "one"] (spP K cPut)) (CQu : Cal P w K mg base 2 "_law_question" fCQu fdCQu ["hand", "p", "columns"] (spP K cQue)) : FnOkG P w K mg base 11 f fd ["hand", "p", "length", "count", "houses", "draws"] (spP K ((cWmr C))) := by
  refine fun_okG F sclaw_with_more_ok_CWmr (fun ws M k e h => ?_) (fun cdv A outer s H E hr hgd => ?_)
  · obtain ⟨p, l, c, h, D1, R, rfl, _⟩ := h
    rfl
  · have nd := sclaw_with_more_ok_CWmr.nd
    have hu := hu64 hr
    have hu5 := hu65 hr
    refine ⟨_, _, (pss_cons (ps_if (pt_cmpR (op_gtP (K := K)) (pe_calS (W := WD0 E) CTk (hr.mono (by decide)) (pa_cons (pv 0) (pa_cons pe_int pa_nil)) (takes_of rfl rfl rfl rfl)) pe_int (nomark _)) (pss_one (ps_ret (pe_tup (pa_cons (pe_cmethS (E := WE (WD0 E)) (pe_glob (v := .ref C) rfl O.gP rfl) O.r O.c O.F (hr.mono (by decide)) (fun _ => passAt (takes_of rfl rfl rfl rfl) _) (pa_cons (pv 1) (pa_cons (pv 2) (pa_cons (pv 3) (pa_cons (pv 4) (pa_cons (pv 5) pa_nil)))))) (pa_cons (pe_calG (W := WD0 E) CTo (hr.mono (by decide)) hgd (pa_cons (pv 1) (pa_cons (pv 2) (pa_cons (pv 3) (pa_cons (pv 4) (pa_cons (pv 5) pa_nil))))) (takes_of rfl rfl rfl rfl)) pa_nil))))) pss_nil)
      (pss_cons (ps_asg (pe_calS (W := WD0 E) CNm (hr.mono (by decide)) (pa_cons (pv 4) (pa_cons (pv 5) pa_nil)) (takes_of rfl rfl rfl rfl)) (pg_tupP (K := K) (n := 2) (pg_tup rfl (pgs_cons (pg_name (i := 6) nd rfl (Or.inl rfl)) (pgs_cons (pg_name (i := 7) nd rfl (Or.inl rfl)) pgs_nil)))))
      (pss_cons (ps_set (i := 8) nd rfl (Or.inr rfl) (pe_own (pe_lst pa_nil)))
      (pss_cons (ps_for (passes_of rfl) rfl (pi_range1 rfl B.range (pa_cons (pv 4) pa_nil)) (pg_name (i := 9) nd rfl (Or.inl rfl)) (pss_cons (ps_set (i := 10) nd rfl (Or.inl rfl) (pe_callTy (cr_listP (K := K)) (by rfl) B.lst (by decide +kernel) (pa_cons (pe_ix (ix_P (K := K)) (pv 6) (pv 9) (fun _ _ => rfl)) pa_nil)))
      (pss_cons (ps_for (passes_of rfl) rfl (pi_range1 rfl B.range (pa_cons (pe_calS (W := WD0 E) CTk (hr.mono (by decide)) (pa_cons (pv 0) (pa_cons pe_int pa_nil)) (takes_of rfl rfl rfl rfl)) pa_nil)) (pg_name (i := 11) nd rfl (Or.inl rfl)) (pss_one (ps_set (i := 10) nd rfl (Or.inl rfl) (pe_calS (W := WD0 E) CPt (hr.mono (by decide)) (pa_cons (pv 10) (pa_cons (pe_calS (W := WD0 E) CQu (hr.mono (by decide)) (pa_cons (pv 0) (pa_cons (pv 1) (pa_cons (pe_op (op_mulP (K := K)) (pv 2) (pv 3)) pa_nil))) (takes_of rfl rfl rfl rfl)) pa_nil)) (takes_of rfl rfl rfl rfl)))))
      (pss_one (ps_expr (pe_bmP (K := K) (pe_bm PySem.F.plainAttrs_list PySem.F.slot_list_append PySem.F.type_list_append (mt_appP (K := K)) (pv 8) (pa_cons (pe_callTy (cr_tupleN (K := K)) (by rfl) B.tuple (by decide +kernel) (pa_cons (pv 10) pa_nil)) pa_nil))))))))
      (pss_cons (ps_set (i := 12) nd rfl (Or.inl rfl) (pe_own (pe_lst pa_nil)))
      (pss_cons (ps_for (passes_of rfl) rfl (pi_seqB (K := K) (pv 5)) (pg_tupP (K := K) (n := 2) (pg_tup rfl (pgs_cons (pg_name (i := 13) nd rfl (Or.inl rfl)) (pgs_cons (pg_name (i := 14) nd rfl (Or.inl rfl)) pgs_nil)))) (pss_one (ps_expr (pe_bmP (K := K) (pe_bm PySem.F.plainAttrs_list PySem.F.slot_list_append PySem.F.type_list_append (mt_appP (K := K)) (pv 12) (pa_cons (pe_tup (pa_cons (pv 13) (pa_cons (pe_callTy (cr_tupleP (K := K)) (by rfl) B.tuple (by decide +kernel) (pa_cons (pe_lc (own := [("ask", 17)]) (g := gName 17) (by rfl) nd (pi_seqB (K := K) (pv 14)) (blkOk_by (own := [("ask", 17)]) (N := ["hand", "p", "length", "count", "houses", "draws", "questions", "told", "more", "n", "found", "k", "asked", "weight", "asks", "whole", "draw", "ask"]) (sc := defScope s_law_with_more) (by decide +kernel)) (fun _ _ _ _ _ => (pg_name (i := 17) nd rfl (Or.inr rfl))) (fun _ _ _ _ _ => pts_nil) (fun _ _ _ _ _ => (pe_callTy (cr_tupleP (K := K)) (by rfl) B.tuple (by decide +kernel) (pa_cons (pe_lc (own := [("n", 9)]) (g := gName 9) (by rfl) nd (pi_range1 rfl B.range (pa_cons (pv 4) pa_nil)) (blkOk_by (own := [("n", 9)]) (N := ["hand", "p", "length", "count", "houses", "draws", "questions", "told", "more", "n", "found", "k", "asked", "weight", "asks", "whole", "draw", "ask"]) (sc := relS (scAt s_law_with_more 5 [0] 0 [1, 1, 1]) (defScope s_law_with_more)) (by decide +kernel)) (fun _ _ _ _ _ => (pg_name (i := 9) nd rfl (Or.inl rfl))) (fun _ _ _ _ _ => pts_nil) (fun _ _ _ _ _ => (pe_bmN PySem.F.plainAttrs_tuple PySem.F.slot_tuple_index PySem.F.type_tuple_index (mt_idxN (K := K) hu5) (pe_ix (ix_P (K := K)) (pv 8) (pv 9) (fun _ _ => rfl)) (pa_cons (pe_ix (ix_P (K := K)) (pv 17) (pv 9) (fun _ _ => rfl)) pa_nil)))) pa_nil)))) pa_nil)) pa_nil))) pa_nil))))))
      (pss_cons (ps_set (i := 15) nd rfl (Or.inl rfl) (pe_tup (pa_cons (pv 1) (pa_cons (pv 2) (pa_cons (pv 3) (pa_cons (pv 4) (pa_cons (pe_callB (cr_sumP (K := K) rfl) (by rfl) B.sum (by decide +kernel) (pa_cons (pe_lc (own := [("draw", 16)]) (g := gName 16) (by rfl) nd (pi_seqB (K := K) (pv 5)) (blkOk_by (own := [("draw", 16)]) (N := ["hand", "p", "length", "count", "houses", "draws", "questions", "told", "more", "n", "found", "k", "asked", "weight", "asks", "whole", "draw", "ask"]) (sc := defScope s_law_with_more) (by decide +kernel)) (fun _ _ _ _ _ => (pg_name (i := 16) nd rfl (Or.inl rfl))) (fun _ _ _ _ _ => pts_nil) (fun _ _ _ _ _ => (pe_ix (ix_P (K := K)) (pv 16) pe_int (fun _ _ => rfl)))) pa_nil)) (pa_cons (pe_callTy (cr_tupleU (K := K)) (by rfl) B.tuple (by decide +kernel) (pa_cons (pv 8) pa_nil)) (pa_cons (pe_callTy (cr_tupleP (K := K)) (by rfl) B.tuple (by decide +kernel) (pa_cons (pv 12) pa_nil)) pa_nil)))))))))
      (pss_one (ps_ret (pe_tup (pa_cons (pe_makeS (E := WE (WD0 E)) MK GI (hr.mono (by decide)) rfl O.gP bI (fun _ => passAt (takes_of rfl rfl rfl rfl) _) (pa_cons (pv 1) (pa_cons (pv 2) (pa_cons (pv 3) (pa_cons (pe_callTy (cr_tupleU (K := K)) (by rfl) B.tuple (by decide +kernel) (pa_cons (pv 8) pa_nil)) (pa_cons (pv 12) pa_nil)))))) (pa_cons (pe_callB (cr_reprA (K := K) hgd hu) (by rfl) B.repr (by decide +kernel) (pa_cons (pv 15) pa_nil)) pa_nil)))))))))))), inferInstance, ?_⟩
    clear hgd F hr nd hu hu5
    intro ws M k e h
    obtain ⟨p, l, c, h, D1, R, rfl, ⟨hm, O1, dn, p31, l1, l3, c1, c3, h1, h4⟩, hk⟩ := h
    simp
    refine ⟨3, R, rfl, ⟨hm, by decide, by decide⟩, fun M1 t hm1 t0 t1 => ?_⟩
    have wd : Wide h D1 := (plan_ok O1).2.2.2.1
    have lc : l * c ≤ 3 * 3 := Nat.mul_le_mul l3 c3
    have td := dn.m.td O1 p31 (by omega) (by omega) (by omega) (by omega)
    have dl := dn.2.1
    have d30 : ∀ d ∈ D1, d.2.length ≤ 30 := fun d hd => by have := (dn.2.2 d hd).2.2.1; omega
    have p2 : 2 ≤ p := by
      have := (by decide : ∀ q ∈ primes, (2 : Int) ≤ q)
      exact this p O1.1
    simp
    by_cases q : 0 < t
    · rw [if_pos q]
      refine ⟨false, true, p, l, c, h, D1, _, rfl, ⟨rfl, rfl, O1⟩, ?_⟩
      refine ⟨p, l, c, h, D1, rfl, ⟨wd, by omega, by omega, d30, td⟩, ?_⟩
      exact ⟨_, rfl, line_ge (by simp), finHn (hk M1 _ _ hm1 (PlG.of O1) td)⟩
    · rw [if_neg q]
      refine ⟨h, D1, rfl, ⟨wd, by omega, by omega, d30⟩, ?_⟩
      obtain ⟨c0, hc0, rfl⟩ := hm1.cons
      simp
      refine ⟨by omega, ?_⟩
      refine forL_inv (fun n ρ M' => ∃ (c1 : Cell) (Q : List (List Mx)), (∃ v9 v10 v11 v12 v13 v14 v15 v16 v17 : Option W, ρ = [some (.p 0), some (.d (.int p)), some (.d (.int l)), some (.d (.int c)), some (.d (.int h)), some (.d (.lst (D1.map (wE false)))), some (.d (qsE false (qsOf h D1))), some (.d (.tup ((numD (qsOf h D1) D1).map (nE false)))), some (.p (R.length + 1)), v9, v10, v11, v12, v13, v14, v15, v16, v17]) ∧ HC c1 ∧ M' = c1 :: (R ++ [.lst (Q.map fun q => D.nt (q.map PU.tM))]) ∧ MoreQ p (l * c) D1 n Q) ⟨c0, [], ⟨_, _, _, _, _, _, _, _, _, rfl⟩, hc0, by simp, rfl, fun i q hq => by simp at hq⟩ (fun _ _ _ _ => trivial) (fun n d ρ M' hd hI k1 FK1 => ?_) (fun ρ M' hI => ?_)
      · obtain ⟨cA, Q, ⟨v9, v10, v11, v12, v13, v14, v15, v16, v17, rfl⟩, hcA, rfl, MQ⟩ := hI
        obtain ⟨ltn, rfl⟩ := rng_at hd
        obtain ⟨X, hX⟩ : ∃ X : Mem, X = R ++ [.lst (Q.map fun q => D.nt (q.map PU.tM))] := ⟨_, rfl⟩
        rw [← hX]
        have eq1 : (qsOf h D1)[n]? = some (sq (askd n D1)) := by rw [qsOf, List.getElem?_map, List.getElem?_range ltn]; rfl
        simp [eq1]
        refine ⟨3, X, rfl, ⟨hcA.hm, by decide, by decide⟩, fun M2 t2 hm2 t20 t21 => ?_⟩
        obtain ⟨cB, hcB, rfl⟩ := hm2.cons
        simp
        refine ⟨by omega, by omega, ?_⟩
        refine forL_inv (fun i ρ M' => ∃ (c2 : Cell) (q : List Mx), (∃ v11 v12 v13 v14 v15 v16 v17 : Option W, ρ = [some (.p 0), some (.d (.int p)), some (.d (.int l)), some (.d (.int c)), some (.d (.int h)), some (.d (.lst (D1.map (wE false)))), some (.d (qsE false (qsOf h D1))), some (.d (.tup ((numD (qsOf h D1) D1).map (nE false)))), some (.p (R.length + 1)), some (.d (.int n)), some (.d (tMs q)), v11, v12, v13, v14, v15, v16, v17]) ∧ HC c2 ∧ M' = c2 :: X ∧ (∀ m ∈ askd n D1, m ∈ q) ∧ q.Pairwise (fun a b => ltG d2 a b = true) ∧ (∀ m ∈ q, MxOk p (l * c) m ∧ m.length ≤ 2) ∧ q.length ≤ 12 + i) ⟨cB, sq (askd n D1), ⟨_, _, _, _, _, _, _, rfl⟩, hcB, rfl, fun m hm => sq_mem.mpr hm, sq_pw _, fun m hm => askd_ok dn wd ltn (sq_mem.mp hm), by
          have a1 := sq_len (askd n D1) []
          have a2 := askd_len (n := n) (k := 3) (ds := D1) fun d hd => by have := (dn.2.2 d hd).2.2.1; omega
          unfold sq
          simp only [List.length_nil] at a1
          omega⟩ (fun _ _ _ _ => trivial) (fun i d ρ M' hd2 hI k2 FK2 => ?_) (fun ρ M' hI => ?_)
        · obtain ⟨c2, q, ⟨v11, v12, v13, v14, v15, v16, v17, rfl⟩, hc2, rfl, q1, q2, q3, q4⟩ := hI
          obtain ⟨lti, rfl⟩ := rng_at hd2
          simp
          refine ⟨cmul_of (by omega) (by omega), p, l * c, X, by simp, ⟨hc2.hm, by omega, p31, by omega⟩, fun M3 m hm3 g1 g2 => ?_⟩
          obtain ⟨c3, hc3, rfl⟩ := hm3.cons
          refine ⟨q, m, rfl, by omega, ?_⟩
          have pl := putQ_len (x := m) (l := q)
          refine FK2.nx _ _ ⟨c3, putQ m q, ⟨some (.d (.int i)), v12, v13, v14, v15, v16, v17, rfl⟩, hc3, rfl, fun z hz => mem_putQ.mpr (.inr (q1 z hz)), pw_putQ q2, fun z hz => ?_, by omega⟩
          rcases mem_putQ.mp hz with rfl | hz
          · exact ⟨g1, g2⟩
          · exact q3 z hz
        · obtain ⟨c2, q, ⟨v11, v12, v13, v14, v15, v16, v17, rfl⟩, hc2, rfl, q1, q2, q3, q4⟩ := hI
          rw [rngD_len] at q4
          rw [hX]
          simp
          refine ⟨line_gt (by have := MQ.len; omega), FK1.nx _ _ ⟨c2, Q ++ [q], ⟨some (.d (.int n)), some (.d (tMs q)), v11, v12, v13, v14, v15, v16, v17, rfl⟩, hc2, by simp, MQ.add q1 q2 q3 (by omega)⟩⟩
      · obtain ⟨cA, Q, ⟨v9, v10, v11, v12, v13, v14, v15, v16, v17, rfl⟩, hcA, rfl, MQ⟩ := hI
        rw [rngD_len] at MQ
        obtain ⟨X, hX⟩ : ∃ X : Mem, X = cA :: (R ++ [.lst (Q.map fun q => D.nt (q.map PU.tM))]) := ⟨_, rfl⟩
        rw [← hX]
        simp
        have hX8 : ∀ Y : Mem, (X ++ Y)[R.length + 1]? = some (.lst (Q.map fun q => D.nt (q.map PU.tM))) := fun Y => by
          rw [hX]
          simp
        have hlen := MQ.len
        refine forL_inv (fun i ρ M' => ∃ v9 v10 v11 v13 v14 v15 v16 v17 : Option W, ρ = [some (.p 0), some (.d (.int p)), some (.d (.int l)), some (.d (.int c)), some (.d (.int h)), some (.d (.lst (D1.map (wE false)))), some (.d (qsE false (qsOf h D1))), some (.d (.tup ((numD (qsOf h D1) D1).map (nE false)))), some (.p (R.length + 1)), v9, v10, v11, some (.p X.length), v13, v14, v15, v16, v17] ∧ M' = X ++ [.lst (List.take i ((numD Q D1).map (nE false)))]) ⟨v9, v10, v11, v13, v14, v15, v16, v17, rfl, by simp⟩ (fun _ _ _ _ => trivial) (fun i d ρ M' hd hI k2 FK2 => ?_) (fun ρ M' hI => ?_)
        · obtain ⟨v9, v10, v11, v13, v14, v15, v16, v17, rfl, rfl⟩ := hI
          rw [List.getElem?_map] at hd
          cases ed : D1[i]? with
          | none => rw [ed] at hd; cases hd
          | some dd =>
            rw [ed] at hd
            cases hd
            have hd0 := List.mem_of_getElem? ed
            have d30' := d30 dd hd0
            simp
            refine lcL_mapIx dd.2 _ (fun r => sqE false ((nrow Q r).map D.int)) (line_ge (by omega)) trivial (fun r hr Q' hQ => ?_) ?_
            · have lr : r.length = h := wd dd hd0 r hr
              simp
              refine ⟨by omega, ?_⟩
              unfold rngD
              refine lcL_mapIx (List.range h) _ (fun n => .int ((((Q)[n]?).getD []).idxOf ((r[n]?).getD []) : Nat)) (line_ge (by rw [List.length_range]; omega)) trivial (fun n hn Q'' hQ2 => ?_) (by rw [nrow_eq hlen lr]; exact hQ)
              have ltn := List.mem_range.mp hn
              have l1 : n < Q.length := by omega
              have l2 : n < r.length := by omega
              rw [List.getElem?_eq_getElem l1, List.getElem?_eq_getElem l2] at hQ2
              simp [hX8, l1, l2]
              simp only [Option.getD_some] at hQ2
              exact ⟨_, pyAllM _, _, pyM _, shapedL _, shaped2 _, _, findIdx_M (MQ.mem hd0 hr (List.getElem?_eq_getElem l2) (List.getElem?_eq_getElem l1)), hQ2⟩
            · simp
              have en : ((numD Q D1).map (nE false))[i]? = some (nE false (dd.1, dd.2.map (nrow Q))) := by
                rw [List.getElem?_map, numD, List.getElem?_map, ed]
                rfl
              refine ⟨line_ge (by decide), line_gt (by simp [numD]; omega), FK2.nx _ _ ⟨v9, v10, v11, some (.d (.int dd.1)), some (.d (sqE false (dd.2.map fun r => sqE false (r.map PU.tM)))), v15, v16, v17, rfl, ?_⟩⟩
              rw [List.take_succ, en, nE_eq]
              simp
        · obtain ⟨v9, v10, v11, v13, v14, v15, v16, v17, rfl, rfl⟩ := hI
          rw [List.length_map, List.take_of_length_le (by simp [numD])]
          simp
          refine lcL_mapIx D1 _ (fun d => .int d.1) (line_ge (by omega)) trivial (fun d hd Q' hQ => by simpa using hQ) ?_
          simp
          obtain ⟨PG, QQ, Q0⟩ := MQ.plan O1
          have td2 := MQ.td O1 dn p31 l3 c3 h4
          have sm := td2.sm.text (by decide) (by decide)
          have eU : (Q.map fun q => D.nt (q.map PU.tM)).map unN = Q.map fun q => sqE false (q.map PU.tM) := by
            rw [List.map_map]
            rfl
          refine ⟨_, fTupleU_p (hX8 _), trivial, ?_⟩
          rw [eU]
          refine ⟨_, rfl, line_ge (by simp), _, fTupleU_p (hX8 _), trivial, ?_⟩
          rw [eU]
          refine ⟨X ++ [.lst ((numD Q D1).map (nE false))], p, l, c, Q, numD Q D1, false, true, false, .p X.length, by simp, by simp, ⟨by rw [seqW, mem_at0], rfl, O1.1, by omega, by omega, Q0, by omega, QQ, PG.n⟩, ?_⟩
          refine ⟨rfl, _, _, rfl, by simp, id, _, rfl, ?_⟩
          refine ⟨tdP p l c h Q (numD Q D1), ?_, sm.1, sm.2.1, sm.2.2.1, sm.2.2.2, line_ge (by decide), ?_⟩
          · have e : (D1.map Prod.fst) = (numD Q D1).map fun d => d.1 := (num_fst Q D1).symm
            rw [e]
            exact pyTd p l c h Q (numD Q D1)
          · have e : X ++ [.lst ((numD Q D1).map (nE false))] = (cA :: R) ++ [.lst (Q.map fun q => D.nt (q.map PU.tM)), .lst ((numD Q D1).map (nE false))] := by
              rw [hX]
              simp
            rw [e]
            exact finH hm hcA.hm (hk _ Q (numD Q D1) hcA.hm PG td2)
end
end PU

set_option maxRecDepth 100000
set_option maxHeartbeats 8000000
set_option synthInstance.maxHeartbeats 4000000
set_option synthInstance.maxSize 4000
namespace PU
open PySem PySem.Spec PyProof.Rows L2 GS WU
section
variable {P : Program} {w : World} {K : PySem.W.Frag} {mg : Str → Option Value} {base : Heap}
theorem scTake_ok_CTk : FnScope ["hand", "many", "at", "draws"] ["hand", "many"] (defScope sTake) := ⟨rfl, rfl, rfl, by decide +kernel, rfl, by decide +kernel, by decide +kernel⟩
theorem ok_CTk {f : Addr} {fd : FuncData} (F : FnS K "_law_take" sTake f fd) (B : BltU mg) : FnOk P w K mg base (L2.CX P w) 1 f fd ["hand", "many"] (spP K cTake) := by
  refine fun_okP F scTake_ok_CTk (fun ws M k e h => ?_) (fun cdv A outer s H E hr => ?_)
  · obtain ⟨m, R, rfl, _⟩ := h
    rfl
  · have nd := scTake_ok_CTk.nd
    have hu := hu64 hr
    have hu5 := hu65 hr
    refine ⟨_, _, (pss_cons (ps_set (i := 2) nd rfl (Or.inl rfl) (pe_ix (ix_P (K := K)) (pv 0) pe_int (fun _ _ => rfl)))
      (pss_cons (ps_asg (pe_op (op_addP (K := K)) (pv 2) pe_int) (pg_sub (pv 0) pe_int set_list))
      (pss_cons (ps_set (i := 3) nd rfl (Or.inl rfl) (pe_ix (ix_P (K := K)) (pv 0) pe_int (fun _ _ => rfl)))
      (pss_cons (ps_if (pt_cmpR (op_geP (K := K)) (pv 2) (pe_callB (cr_lenP (K := K)) (by rfl) B.len (by decide +kernel) (pa_cons (pv 3) pa_nil)) (nomark _)) (pss_one (ps_ret pe_int)) pss_nil)
      (pss_one (ps_ret (pe_op (op_modP (K := K)) (pe_op (op_divP (K := K)) (pe_callTy (cr_intP (K := K)) (by rfl) B.int (by decide +kernel) (pa_cons (pe_ix (ix_P (K := K)) (pv 3) (pv 2) (fun _ _ => rfl)) pa_nil)) pe_int) (pv 1)))))))), inferInstance, ?_⟩
    clear F hr nd hu hu5
    intro ws M k e h
    obtain ⟨m, R, rfl, ⟨⟨ds, i, hi, hd, rfl⟩, m0, m1⟩, hk⟩ := h
    simp
    by_cases q : (ds.length : Int) ≤ i
    · simp [q]
      exact finHn (hk _ 0 ⟨ds, i + 1, by omega, hd, rfl⟩ (Int.le_refl _) m0)
    · simp [q]
      obtain ⟨n, rfl⟩ := Int.eq_ofNat_of_zero_le hi
      have lt : n < ds.length := by omega
      rw [atI_nat, List.getElem?_map, List.getElem?_eq_getElem lt]
      simp
      exact ⟨m0, finHn (hk _ _ ⟨ds, n + 1, by omega, hd, rfl⟩ (Int.emod_nonneg _ (by omega)) (Int.emod_lt_of_pos _ m0))⟩
theorem sclaw_put_in_ok_CPt : FnScope ["rows", "one", "k"] ["rows", "one"] (defScope s_law_put_in) := ⟨rfl, rfl, rfl, by decide +kernel, rfl, by decide +kernel, by decide +kernel⟩
theorem ok_CPt {f : Addr} {fd : FuncData} (F : FnS K "_law_put_in" s_law_put_in f fd) (B : BltU mg) : FnOk P w K mg base (L2.CX P w) 1 f fd ["rows", "one"] (spP K cPut) := by
  refine fun_okP F sclaw_put_in_ok_CPt (fun ws M k e h => ?_) (fun cdv A outer s H E hr => ?_)
  · obtain ⟨rows, one, rfl, _⟩ := h
    rfl
  · have nd := sclaw_put_in_ok_CPt.nd
    have hu := hu64 hr
    have hu5 := hu65 hr
    refine ⟨_, _, (pss_cons (ps_for (passes_of rfl) rfl (pi_range1 rfl B.range (pa_cons (pe_callB (cr_lenP (K := K)) (by rfl) B.len (by decide +kernel) (pa_cons (pv 0) pa_nil)) pa_nil)) (pg_name (i := 2) nd rfl (Or.inl rfl)) (pss_cons (ps_if (pt_cmpR (op_eqP (K := K) hu) (pe_ix (ix_P (K := K)) (pv 0) (pv 2) (fun _ _ => rfl)) (pv 1) (nomark _)) (pss_one (ps_ret (pv 0))) pss_nil)
      (pss_one (ps_if (pt_cmpR (op_ltP (K := K) hu) (pv 1) (pe_ix (ix_P (K := K)) (pv 0) (pv 2) (fun _ _ => rfl)) (nomark _)) (pss_one (ps_ret (pe_op (op_addP (K := K)) (pe_op (op_addP (K := K)) (pe_slice (sl_P (K := K)) (pv 0) po_none (po_some (pv 2))) (pe_lst (pa_cons (pv 1) pa_nil))) (pe_slice (sl_P (K := K)) (pv 0) (po_some (pv 2)) po_none)))) pss_nil))))
      (pss_one (ps_ret (pe_op (op_addP (K := K)) (pv 0) (pe_lst (pa_cons (pv 1) pa_nil)))))), inferInstance, ?_⟩
    clear F hr nd hu hu5
    intro ws M k e h
    obtain ⟨rows, one, rfl, hz, hk⟩ := h
    simp
    refine ⟨by omega, ?_⟩
    refine forL_inv (fun i ρ M' => M' = M ∧ (∃ v, ρ = [some (.d (tMs rows)), some (.d (tM one)), v]) ∧ ∀ y ∈ rows.take i, y ≠ one ∧ ¬ ltG d2 one y = true) ⟨rfl, ⟨_, rfl⟩, fun y hy => by simp at hy⟩ (fun _ _ _ _ => trivial) (fun i d ρ M' hd hI k' FK => ?_) (fun ρ M' hI => ?_)
    · obtain ⟨rfl, ⟨v, rfl⟩, hI⟩ := hI
      obtain ⟨lt, rfl⟩ := rng_at hd
      have e1 : rows = rows.take i ++ rows[i] :: rows.drop (i + 1) := by rw [← List.drop_eq_getElem_cons lt, List.take_append_drop]
      simp [lt]
      by_cases q : rows[i] = one
      · rw [if_pos q]
        refine FK.rt _ _ ?_
        have : putQ one rows = rows := by
          conv => lhs; rw [e1]
          rw [putQ_app hI, putQ, if_pos q, ← e1]
        rw [this] at hk
        exact fin0 hk
      · rw [if_neg q]
        refine ⟨_, fLt_M, trivial, _, rfl, ?_⟩
        dsimp only
        by_cases q2 : ltG d2 one rows[i] = true
        · rw [q2, if_pos rfl]
          have : putQ one rows = rows.take i ++ one :: rows.drop i := by
            conv => lhs; rw [e1]
            rw [putQ_app hI, putQ, if_neg q, if_pos q2, List.drop_eq_getElem_cons lt]
          rw [this] at hk
          refine ⟨line_ge (by decide), line_ge (by omega), line_ge (by omega), FK.rt _ _ (fin0 ?_)⟩
          rw [tMs, List.map_append, List.map_cons, List.map_take, List.map_drop] at hk
          exact hk
        · rw [if_neg q2]
          refine FK.nx _ _ ⟨rfl, ⟨_, rfl⟩, fun y hy => ?_⟩
          rw [List.take_succ, List.getElem?_eq_getElem lt] at hy
          rcases List.mem_append.mp hy with hy | hy
          · exact hI y hy
          · simp at hy
            rw [hy]
            exact ⟨q, q2⟩
    · obtain ⟨rfl, ⟨v, rfl⟩, hI⟩ := hI
      simp
      have : putQ one rows = rows ++ [one] := by
        have := putQ_app (x := one) (b := []) (a := rows) (by simpa using hI)
        simpa [putQ] using this
      rw [this, tMs, List.map_append] at hk
      exact ⟨line_ge (by decide), line_ge (by omega), fin0 hk⟩
end
end PU

set_option maxRecDepth 100000
set_option maxHeartbeats 8000000
set_option synthInstance.maxHeartbeats 4000000
set_option synthInstance.maxSize 4000
namespace PU
open PySem PySem.Spec PyProof.Rows L2 GS WU
section
variable {P : Program} {w : World} {K : PySem.W.Frag} {mg : Str → Option Value} {base : Heap}

theorem fIx_ints {L : List Int} {n : Int} (h0 : 0 ≤ n) (h1 : n < L.length) (M : Mem) : ∃ v ∈ L, fIx (.d (.lst (L.map D.int))) (.d (.int n)) M = some (.d (.int v), True) := by
  obtain ⟨i, rfl⟩ := Int.eq_ofNat_of_zero_le h0
  have lt : i < L.length := by omega
  refine ⟨L[i], List.getElem_mem lt, ?_⟩
  rw [fIx_lst, atI_nat, List.getElem?_map, List.getElem?_eq_getElem lt]
  rfl
theorem sclaw_shape_ok_CSh : FnScope ["hand", "p"] ["hand"] (defScope s_law_shape) := ⟨rfl, rfl, rfl, by decide +kernel, rfl, by decide +kernel, by decide +kernel⟩
theorem ok_CSh {f : Addr} {fd : FuncData} (F : FnS K "_law_shape" s_law_shape f fd) (B : BltU mg) (CTk : Cal P w K mg base 1 "_law_take" fCTk fdCTk ["hand", "many"] (spP K cTake)) : FnOk P w K mg base (L2.CX P w) 2 f fd ["hand"] (spP K cShp) := by
  refine fun_okP F sclaw_shape_ok_CSh (fun ws M k e h => ?_) (fun cdv A outer s H E hr => ?_)
  · obtain ⟨R, rfl, _⟩ := h
    rfl
  · have nd := sclaw_shape_ok_CSh.nd
    have hu := hu64 hr
    have hu5 := hu65 hr
    refine ⟨_, _, (pss_cons (ps_set (i := 1) nd rfl (Or.inl rfl) (pe_ix (ix_P (K := K)) (pe_lst (pa_cons pe_int (pa_cons pe_int (pa_cons pe_int (pa_cons pe_int (pa_cons pe_int (pa_cons pe_int pa_nil))))))) (pe_calS (W := WD0 E) CTk (hr.mono (by decide)) (pa_cons (pv 0) (pa_cons pe_int pa_nil)) (takes_of rfl rfl rfl rfl)) (fun _ _ => rfl)))
      (pss_one (ps_ret (pe_lst (pa_cons (pv 1) (pa_cons (pe_op (op_addP (K := K)) pe_int (pe_calS (W := WD0 E) CTk (hr.mono (by decide)) (pa_cons (pv 0) (pa_cons pe_int pa_nil)) (takes_of rfl rfl rfl rfl))) (pa_cons (pe_op (op_addP (K := K)) pe_int (pe_calS (W := WD0 E) CTk (hr.mono (by decide)) (pa_cons (pv 0) (pa_cons pe_int pa_nil)) (takes_of rfl rfl rfl rfl))) (pa_cons (pe_op (op_addP (K := K)) pe_int (pe_calS (W := WD0 E) CTk (hr.mono (by decide)) (pa_cons (pv 0) (pa_cons pe_int pa_nil)) (takes_of rfl rfl rfl rfl))) pa_nil)))))))), inferInstance, ?_⟩
    clear F hr nd hu hu5
    intro ws M k e h
    obtain ⟨R, rfl, hm, hk⟩ := h
    simp
    refine ⟨line_ge (by decide), 6, R, rfl, ⟨hm, by decide, by decide⟩, ?_⟩
    intro M1 n hm1 n0 n1
    obtain ⟨v, hv, e⟩ := fIx_ints (L := [2, 3, 5, 7, 13, 31]) n0 n1 M1
    refine ⟨_, e, trivial, 3, R, rfl, ⟨hm1, by decide, by decide⟩, ?_⟩
    intro M2 x hm2 x0 x1
    simp
    refine ⟨3, R, rfl, ⟨hm2, by decide, by decide⟩, ?_⟩
    intro M3 y hm3 y0 y1
    simp
    refine ⟨4, R, rfl, ⟨hm3, by decide, by decide⟩, ?_⟩
    intro M4 u hm4 u0 u1
    simp
    refine ⟨line_ge (by decide), finHn ?_⟩
    have := hk M4 v (1 + x).toNat (1 + y).toNat (1 + u).toNat hm4 hv ⟨by omega, by omega, by omega, by omega, by omega, by omega⟩
    rw [Int.toNat_of_nonneg (by omega), Int.toNat_of_nonneg (by omega), Int.toNat_of_nonneg (by omega)] at this
    exact this
theorem sclaw_question_ok_CQu : FnScope ["hand", "p", "columns", "rows", "k", "c"] ["hand", "p", "columns"] (defScope s_law_question) := ⟨rfl, rfl, rfl, by decide +kernel, rfl, by decide +kernel, by decide +kernel⟩
theorem ok_CQu {f : Addr} {fd : FuncData} (F : FnS K "_law_question" s_law_question f fd) (B : BltU mg) (CTk : Cal P w K mg base 1 "_law_take" fCTk fdCTk ["hand", "many"] (spP K cTake)) : FnOk P w K mg base (L2.CX P w) 2 f fd ["hand", "p", "columns"] (spP K cQue) := by
  refine fun_okP F sclaw_question_ok_CQu (fun ws M k e h => ?_) (fun cdv A outer s H E hr => ?_)
  · obtain ⟨p, n, R, rfl, _⟩ := h
    rfl
  · have nd := sclaw_question_ok_CQu.nd
    have hu := hu64 hr
    have hu5 := hu65 hr
    refine ⟨_, _, (pss_cons (ps_set (i := 3) nd rfl (Or.inl rfl) (pe_own (pe_lst pa_nil)))
      (pss_cons (ps_for (passes_of rfl) rfl (pi_range1 rfl B.range (pa_cons (pe_ix (ix_P (K := K)) (pe_lst (pa_cons pe_int (pa_cons pe_int (pa_cons pe_int (pa_cons pe_int pa_nil))))) (pe_calS (W := WD0 E) CTk (hr.mono (by decide)) (pa_cons (pv 0) (pa_cons pe_int pa_nil)) (takes_of rfl rfl rfl rfl)) (fun _ _ => rfl)) pa_nil)) (pg_name (i := 4) nd rfl (Or.inl rfl)) (pss_one (ps_expr (pe_bmP (K := K) (pe_bm PySem.F.plainAttrs_list PySem.F.slot_list_append PySem.F.type_list_append (mt_appP (K := K)) (pv 3) (pa_cons (pe_callTy (cr_tupleP (K := K)) (by rfl) B.tuple (by decide +kernel) (pa_cons (pe_lc (own := [("c", 5)]) (g := gName 5) (by rfl) nd (pi_range1 rfl B.range (pa_cons (pv 2) pa_nil)) (blkOk_by (own := [("c", 5)]) (N := ["hand", "p", "columns", "rows", "k", "c"]) (sc := defScope s_law_question) (by decide +kernel)) (fun _ _ _ _ _ => (pg_name (i := 5) nd rfl (Or.inl rfl))) (fun _ _ _ _ _ => pts_nil) (fun _ _ _ _ _ => (pe_op (op_mulP (K := K)) (pe_cal CTk (hr.mono (by decide)) (pa_cons (pv 0) (pa_cons (pv 1) pa_nil)) passU) (pe_callTy (cr_intP (K := K)) (by rfl) B.int (by decide +kernel) (pa_cons (pe_cmpR (op_gtP (K := K)) (pe_cal CTk (hr.mono (by decide)) (pa_cons (pv 0) (pa_cons pe_int pa_nil)) passU) pe_int (nomark _)) pa_nil))))) pa_nil)) pa_nil))))))
      (pss_one (ps_ret (pe_callTy (cr_tupleP (K := K)) (by rfl) B.tuple (by decide +kernel) (pa_cons (pv 3) pa_nil)))))), inferInstance, ?_⟩
    clear F hr nd hu hu5
    intro ws M k e h
    obtain ⟨p, n, R, rfl, ⟨hm, p0, p1, hn⟩, hk⟩ := h
    simp
    refine ⟨line_ge (by decide), 4, R ++ [.lst []], rfl, ⟨hm.app _, by decide, by decide⟩, ?_⟩
    intro M0 q hm0 q0 q1
    obtain ⟨M1, rfl, hm1⟩ := hm0.un
    obtain ⟨j, hj, e⟩ := fIx_ints (L := [0, 1, 1, 2]) q0 q1 (M1 ++ [.lst []])
    have j2 : 0 ≤ j ∧ j ≤ 2 := by
      have := (by decide : ∀ v ∈ ([0, 1, 1, 2] : List Int), 0 ≤ v ∧ v ≤ 2)
      exact this j hj
    refine ⟨_, e, trivial, _, rfl, by omega, by omega, ?_⟩
    refine forL_inv (fun i ρ M' => (∃ v4 v5 : Option W, ρ = [some (.p 0), some (.d (.int p)), some (.d (.int n)), some (.p M.length), v4, v5]) ∧ ∃ (M1 : Mem) (rs : Mx), HM M1 R ∧ M' = M1 ++ [.lst (rs.map tI)] ∧ rs.length = i ∧ ∀ r ∈ rs, Ltr p n r) ⟨⟨_, _, rfl⟩, M1, [], hm1, rfl, rfl, fun r hr => nomatch hr⟩ (fun _ _ _ _ => trivial) (fun i d ρ M' hd hI k1 FK1 => ?_) (fun ρ M' hI => ?_)
    · obtain ⟨⟨v4, v5, rfl⟩, M1, rs, hm1, rfl, hi, hrs⟩ := hI
      obtain ⟨lti, rfl⟩ := rng_at hd
      have ml : M.length = M1.length := by rw [hm.len, hm1.len]
      rw [ml]
      simp
      refine ⟨by omega, ?_⟩
      refine lcL_inv (fun i acc M' => ∃ (M1 : Mem) (row : List Int), HM M1 R ∧ M' = M1 ++ [.lst (rs.map tI)] ∧ acc = row.map D.int ∧ row.length = i ∧ ∀ x ∈ row, 0 ≤ x ∧ x < p) (line_ge (by rw [rngD_len]; omega)) ⟨M1, [], hm1, rfl, rfl, rfl, fun r hr => nomatch hr⟩ (fun _ _ _ _ => trivial) (fun i2 d acc M2 hd hI Q _ hQ _ => ?_) (fun acc M2 hI => ?_)
      · obtain ⟨M1, row, hm1, rfl, rfl, hi2, hrow⟩ := hI
        simp
        refine ⟨p, R ++ [.lst (rs.map tI)], rfl, ⟨hm1.app _, p0, by omega⟩, ?_⟩
        intro M3 x hm3 x0 x1
        refine ⟨3, R ++ [.lst (rs.map tI)], rfl, ⟨hm3, by decide, by decide⟩, ?_⟩
        intro M4 y hm4 y0 y1
        obtain ⟨M5, rfl, hm5⟩ := hm4.un
        simp
        by_cases hy : 0 < y
        · simp [hy]
          refine ⟨cmul_r (by decide) (by decide), hQ _ _ ⟨M5, row ++ [x], hm5, rfl, by simp, by simp [hi2], fun z hz => ?_⟩⟩
          rcases List.mem_append.mp hz with hz | hz
          · exact hrow z hz
          · rw [List.mem_singleton.mp hz]
            exact ⟨x0, x1⟩
        · simp [hy]
          refine ⟨cmul_r (by decide) (by decide), hQ _ _ ⟨M5, row ++ [0], hm5, rfl, by simp, by simp [hi2], fun z hz => ?_⟩⟩
          rcases List.mem_append.mp hz with hz | hz
          · exact hrow z hz
          · rw [List.mem_singleton.mp hz]
            exact ⟨Int.le_refl _, p0⟩
      · obtain ⟨M5, row, hm5, rfl, rfl, hi2, hrow⟩ := hI
        have ml5 : M.length = M5.length := by rw [hm.len, hm5.len]
        rw [rngD_len] at hi2
        rw [show M1.length = M5.length by omega]
        simp
        refine ⟨line_gt (by omega), FK1.nx _ _ ⟨⟨_, _, by rw [ml5]⟩, M5, rs ++ [row], hm5, by simp, by simp [hi], fun r hr => ?_⟩⟩
        rcases List.mem_append.mp hr with hr | hr
        · exact hrs r hr
        · rw [List.mem_singleton.mp hr]
          exact ⟨by omega, hrow⟩
    · obtain ⟨⟨v4, v5, rfl⟩, M1, rs, hm1, rfl, hi, hrs⟩ := hI
      have ml : M.length = M1.length := by rw [hm.len, hm1.len]
      rw [rngD_len] at hi
      rw [ml]
      simp
      exact finH hm hm1 (hk _ rs hm1 ⟨by omega, hrs⟩ (by omega))
end
end PU

set_option maxRecDepth 100000
set_option maxHeartbeats 8000000
set_option synthInstance.maxHeartbeats 4000000
set_option synthInstance.maxSize 4000
namespace PU
open PySem PySem.Spec PyProof.Rows L2 GS WU
section
variable {P : Program} {w : World} {K : PySem.W.Frag} {mg : Str → Option Value} {base : Heap}

section
variable {c a b x y : Cell} {R J X : Mem}
@[simp] theorem pl3 : (c :: (R ++ a :: b :: (J ++ x :: X)))[R.length + 3 + J.length]? = some x := by
  have e : c :: (R ++ a :: b :: (J ++ x :: X)) = (c :: (R ++ a :: b :: J)) ++ x :: X := by simp
  have l : (c :: (R ++ a :: b :: J)).length = R.length + 3 + J.length := by
    simp
    omega
  rw [e, ← l]
  exact mem_at0
@[simp] theorem ps3 : (c :: (R ++ a :: b :: (J ++ x :: X))).set (R.length + 3 + J.length) y = c :: (R ++ a :: b :: (J ++ y :: X)) := by
  have e : ∀ z, c :: (R ++ a :: b :: (J ++ z :: X)) = (c :: (R ++ a :: b :: J)) ++ z :: X := fun z => by simp
  have l : (c :: (R ++ a :: b :: J)).length = R.length + 3 + J.length := by
    simp
    omega
  rw [e, e, ← l]
  exact mem_set0
end
theorem sclaw_drawn_ok_CDw : FnScope ["hand", "p", "length", "count", "houses", "pools", "n", "draws", "d", "asks", "wish", "k"] ["hand", "p", "length", "count", "houses"] (defScope s_law_drawn) := ⟨rfl, rfl, rfl, by decide +kernel, rfl, by decide +kernel, by decide +kernel⟩
theorem ok_CDw {f : Addr} {fd : FuncData} (F : FnS K "_law_drawn" s_law_drawn f fd) (B : BltU mg) (CTk : Cal P w K mg base 1 "_law_take" fCTk fdCTk ["hand", "many"] (spP K cTake)) (CQu : Cal P w K mg base 2 "_law_question" fCQu fdCQu ["hand", "p", "columns"] (spP K cQue)) : FnOk P w K mg base (L2.CX P w) 3 f fd ["hand", "p", "length", "count", "houses"] (spP K cDrw) := by
  refine fun_okP F sclaw_drawn_ok_CDw (fun ws M k e h => ?_) (fun cdv A outer s H E hr => ?_)
  · obtain ⟨p, l, c, h, R, rfl, _⟩ := h
    rfl
  · have nd := sclaw_drawn_ok_CDw.nd
    have hu := hu64 hr
    have hu5 := hu65 hr
    refine ⟨_, _, (pss_cons (ps_set (i := 5) nd rfl (Or.inr rfl) (pe_own (pe_lst pa_nil)))
      (pss_cons (ps_for (passes_of rfl) rfl (pi_range1 rfl B.range (pa_cons (pv 4) pa_nil)) (pg_name (i := 6) nd rfl (Or.inl rfl)) (pss_one (ps_expr (pe_bmP (K := K) (pe_bm PySem.F.plainAttrs_list PySem.F.slot_list_append PySem.F.type_list_append (mt_appP (K := K)) (pv 5) (pa_cons (pe_lc (own := [("k", 11)]) (g := gName 11) (by rfl) nd (pi_range1 rfl B.range (pa_cons pe_int pa_nil)) (blkOk_by (own := [("k", 11)]) (N := ["hand", "p", "length", "count", "houses", "pools", "n", "draws", "d", "asks", "wish", "k"]) (sc := defScope s_law_drawn) (by decide +kernel)) (fun _ _ _ _ _ => (pg_name (i := 11) nd rfl (Or.inl rfl))) (fun _ _ _ _ _ => pts_nil) (fun _ _ _ _ _ => (pe_cal CQu (hr.mono (by decide)) (pa_cons (pv 0) (pa_cons (pv 1) (pa_cons (pe_op (op_mulP (K := K)) (pv 2) (pv 3)) pa_nil))) passU))) pa_nil))))))
      (pss_cons (ps_set (i := 7) nd rfl (Or.inl rfl) (pe_own (pe_lst pa_nil)))
      (pss_cons (ps_for (passes_of rfl) rfl (pi_range1 rfl B.range (pa_cons (pe_op (op_addP (K := K)) pe_int (pe_calS (W := WD0 E) CTk (hr.mono (by decide)) (pa_cons (pv 0) (pa_cons pe_int pa_nil)) (takes_of rfl rfl rfl rfl))) pa_nil)) (pg_name (i := 8) nd rfl (Or.inl rfl)) (pss_cons (ps_set (i := 9) nd rfl (Or.inl rfl) (pe_own (pe_lst pa_nil)))
      (pss_cons (ps_for (passes_of rfl) rfl (pi_range1 rfl B.range (pa_cons (pv 3) pa_nil)) (pg_name (i := 10) nd rfl (Or.inl rfl)) (pss_one (ps_expr (pe_bmP (K := K) (pe_bm PySem.F.plainAttrs_list PySem.F.slot_list_append PySem.F.type_list_append (mt_appP (K := K)) (pv 9) (pa_cons (pe_callTy (cr_tupleP (K := K)) (by rfl) B.tuple (by decide +kernel) (pa_cons (pe_lc (own := [("n", 6)]) (g := gName 6) (by rfl) nd (pi_range1 rfl B.range (pa_cons (pv 4) pa_nil)) (blkOk_by (own := [("n", 6)]) (N := ["hand", "p", "length", "count", "houses", "pools", "n", "draws", "d", "asks", "wish", "k"]) (sc := defScope s_law_drawn) (by decide +kernel)) (fun _ _ _ _ _ => (pg_name (i := 6) nd rfl (Or.inl rfl))) (fun _ _ _ _ _ => pts_nil) (fun _ _ _ _ _ => (pe_ix (ix_P (K := K)) (pe_ix (ix_P (K := K)) (pv 5) (pv 6) (fun _ _ => rfl)) (pe_cal CTk (hr.mono (by decide)) (pa_cons (pv 0) (pa_cons pe_int pa_nil)) passU) (fun _ _ => rfl)))) pa_nil)) pa_nil))))))
      (pss_one (ps_expr (pe_bmP (K := K) (pe_bm PySem.F.plainAttrs_list PySem.F.slot_list_append PySem.F.type_list_append (mt_appP (K := K)) (pv 7) (pa_cons (pe_tup (pa_cons (pe_ix (ix_P (K := K)) (pe_lst (pa_cons pe_int (pa_cons pe_int (pa_cons pe_int (pa_cons pe_int (pa_cons (pe_op (op_addP (K := K)) pe_int (pe_calS (W := WD0 E) CTk (hr.mono (by decide)) (pa_cons (pv 0) (pa_cons (pe_op (op_powP (K := K)) pe_int pe_int) pa_nil)) (takes_of rfl rfl rfl rfl))) pa_nil)))))) (pe_calS (W := WD0 E) CTk (hr.mono (by decide)) (pa_cons (pv 0) (pa_cons pe_int pa_nil)) (takes_of rfl rfl rfl rfl)) (fun _ _ => rfl)) (pa_cons (pe_callTy (cr_tupleP (K := K)) (by rfl) B.tuple (by decide +kernel) (pa_cons (pv 9) pa_nil)) pa_nil))) pa_nil))))))))
      (pss_one (ps_ret (pv 7))))))), inferInstance, ?_⟩
    clear F hr nd hu hu5
    intro ws M k e h
    obtain ⟨p, l, c, h, R, rfl, ⟨hm, p0, p1, hl, hc, hh⟩, hk⟩ := h
    obtain ⟨c0, hc0, rfl⟩ := hm.cons
    have hlc : l * c ≤ 10 * 10 := Nat.mul_le_mul hl hc
    simp
    refine ⟨by omega, ?_⟩
    refine forL_inv (fun i ρ M' => (∃ v6 v7 v8 v9 v10 v11 : Option W, ρ = [some (.p 0), some (.d (.int p)), some (.d (.int l)), some (.d (.int c)), some (.d (.int h)), some (.p (R.length + 1)), v6, v7, v8, v9, v10, v11]) ∧ ∃ (c1 : Cell) (ps : List (List Mx)), HC c1 ∧ M' = c1 :: (R ++ [.lst (ps.map tMs)]) ∧ ps.length = i ∧ (∀ q ∈ ps, q.length = 3 ∧ ∀ m ∈ q, MxOk p (l * c) m ∧ m.length ≤ 2)) ⟨⟨_, _, _, _, _, _, rfl⟩, c0, [], hc0, rfl, rfl, fun r hr => nomatch hr⟩ (fun _ _ _ _ => trivial) (fun i d ρ M' hd hI k1 FK1 => ?_) (fun ρ M' hI => ?_)
    · obtain ⟨⟨v6, v7, v8, v9, v10, v11, rfl⟩, c1, ps, hc1, rfl, hi, hps⟩ := hI
      obtain ⟨lti, rfl⟩ := rng_at hd
      simp
      refine lcL_inv (fun i acc M' => ∃ (c1 : Cell) (qs : List Mx), HC c1 ∧ M' = c1 :: (R ++ [.lst (ps.map tMs)]) ∧ acc = qs.map tM ∧ qs.length = i ∧ ∀ m ∈ qs, MxOk p (l * c) m ∧ m.length ≤ 2) (line_ge (by rw [rngD_len]; omega)) ⟨c1, [], hc1, rfl, rfl, rfl, fun r hr => nomatch hr⟩ (fun _ _ _ _ => trivial) (fun i2 d acc M2 hd hI Q _ hQ _ => ?_) (fun acc M2 hI => ?_)
      · obtain ⟨c1, qs, hc1, rfl, rfl, hi2, hqs⟩ := hI
        simp
        refine ⟨cmul_of (by omega) (by omega), p, l * c, R ++ [.lst (ps.map tMs)], by simp, ⟨hc1.hm, p0, p1, by omega⟩, ?_⟩
        intro M3 m hm3 g1 g2
        obtain ⟨c3, hc3, rfl⟩ := hm3.cons
        refine ⟨_, rfl, hQ _ _ ⟨c3, qs ++ [m], hc3, rfl, by simp, by simp [hi2], fun z hz => ?_⟩⟩
        rcases List.mem_append.mp hz with hz | hz
        · exact hqs z hz
        · rw [List.mem_singleton.mp hz]
          exact ⟨g1, g2⟩
      · obtain ⟨c2, qs, hc2, rfl, rfl, hi2, hqs⟩ := hI
        rw [rngD_len] at hi2
        simp
        refine ⟨line_gt (by omega), FK1.nx _ _ ⟨⟨_, _, _, _, _, _, rfl⟩, c2, ps ++ [qs], hc2, by simp, by simp [hi], fun r hr => ?_⟩⟩
        rcases List.mem_append.mp hr with hr | hr
        · exact hps r hr
        · rw [List.mem_singleton.mp hr]
          exact ⟨by simpa using hi2, hqs⟩
    · obtain ⟨⟨v6, v7, v8, v9, v10, v11, rfl⟩, c1, ps, hc1, rfl, hi, hps⟩ := hI
      rw [rngD_len] at hi
      simp
      refine ⟨3, _, rfl, ⟨hc1.hm, by decide, by decide⟩, ?_⟩
      intro M2 n hm2 n0 n1
      obtain ⟨c2, hc2, rfl⟩ := hm2.cons
      simp
      refine ⟨by omega, by omega, ?_⟩
      refine forL_inv (fun i ρ M' => (∃ v6 v8 v9 v10 v11 : Option W, ρ = [some (.p 0), some (.d (.int p)), some (.d (.int l)), some (.d (.int c)), some (.d (.int h)), some (.p (R.length + 1)), v6, some (.p (R.length + 2)), v8, v9, v10, v11]) ∧ ∃ (c1 : Cell) (ds : DrQ) (J : Mem), HC c1 ∧ M' = c1 :: (R ++ .lst (ps.map tMs) :: .lst (ds.map (wE false)) :: J) ∧ ds.length = i ∧ (∀ d ∈ ds, 0 < d.1 ∧ d.1 ≤ 1000000 ∧ d.2.length = c ∧ ∀ r ∈ d.2, r.length = h ∧ ∀ m ∈ r, MxOk p (l * c) m ∧ m.length ≤ 2)) ⟨⟨v6, v8, v9, v10, v11, rfl⟩, c2, [], [], hc2, rfl, rfl, fun r hr => nomatch hr⟩ (fun _ _ _ _ => trivial) (fun i d ρ M' hd hI k1 FK1 => ?_) (fun ρ M' hI => ?_)
      · obtain ⟨⟨v6, v8, v9, v10, v11, rfl⟩, c3, ds, J, hc3, rfl, hi3, hds⟩ := hI
        obtain ⟨lti, rfl⟩ := rng_at hd
        have eL : R.length + (J.length + 1 + 1) + 1 = R.length + 3 + J.length := by omega
        simp
        rw [eL]
        refine ⟨by omega, ?_⟩
        refine forL_inv (fun i ρ M' => (∃ v6 v8 v10 v11 : Option W, ρ = [some (.p 0), some (.d (.int p)), some (.d (.int l)), some (.d (.int c)), some (.d (.int h)), some (.p (R.length + 1)), v6, some (.p (R.length + 2)), v8, some (.p (R.length + 3 + J.length)), v10, v11]) ∧ ∃ (c1 : Cell) (as : List (List Mx)), HC c1 ∧ M' = c1 :: (R ++ .lst (ps.map tMs) :: .lst (ds.map (wE false)) :: (J ++ [.lst (as.map fun r => sqE false (r.map tM))])) ∧ as.length = i ∧ (∀ r ∈ as, r.length = h ∧ ∀ m ∈ r, MxOk p (l * c) m ∧ m.length ≤ 2)) ⟨⟨v6, _, v10, v11, rfl⟩, c3, [], hc3, rfl, rfl, fun r hr => nomatch hr⟩ (fun _ _ _ _ => trivial) (fun w d ρ M' hd hI k2 FK2 => ?_) (fun ρ M' hI => ?_)
        · obtain ⟨⟨v6, v8, v10, v11, rfl⟩, c4, as, hc4, rfl, hi4, has⟩ := hI
          obtain ⟨ltw, rfl⟩ := rng_at hd
          simp
          refine ⟨by omega, ?_⟩
          refine lcL_inv (fun i acc M' => ∃ (c1 : Cell) (r : List Mx), HC c1 ∧ M' = c1 :: (R ++ .lst (ps.map tMs) :: .lst (ds.map (wE false)) :: (J ++ [.lst (as.map fun r => sqE false (r.map tM))])) ∧ acc = r.map tM ∧ r.length = i ∧ ∀ m ∈ r, MxOk p (l * c) m ∧ m.length ≤ 2) (line_ge (by rw [rngD_len]; omega)) ⟨c4, [], hc4, rfl, rfl, rfl, fun r hr => nomatch hr⟩ (fun _ _ _ _ => trivial) (fun i2 d acc M2 hd hI Q _ hQ _ => ?_) (fun acc M2 hI => ?_)
          · obtain ⟨c5, r, hc5, rfl, rfl, hi5, hr⟩ := hI
            obtain ⟨lt5, rfl⟩ := rng_at hd
            have ltp : i2 < ps.length := by omega
            simp [ltp]
            refine ⟨3, _, rfl, ⟨hc5.hm, by decide, by decide⟩, ?_⟩
            intro M6 u hm6 u0 u1
            obtain ⟨c6, hc6, rfl⟩ := hm6.cons
            obtain ⟨g1, g2⟩ := hps _ (List.getElem_mem ltp)
            obtain ⟨n', rfl⟩ := Int.eq_ofNat_of_zero_le u0
            have ltu : n' < ps[i2].length := by omega
            simp [ltu]
            refine hQ _ _ ⟨c6, r ++ [ps[i2][n']], hc6, rfl, by simp, by simp [hi5], fun z hz => ?_⟩
            rcases List.mem_append.mp hz with hz | hz
            · exact hr z hz
            · rw [List.mem_singleton.mp hz]
              exact g2 _ (List.getElem_mem ltu)
          · obtain ⟨c5, r, hc5, rfl, rfl, hi5, hr⟩ := hI
            rw [rngD_len] at hi5
            simp
            refine ⟨line_gt (by omega), FK2.nx _ _ ⟨⟨v6, v8, _, v11, rfl⟩, c5, as ++ [r], hc5, by simp, by simp [hi4], fun z hz => ?_⟩⟩
            rcases List.mem_append.mp hz with hz | hz
            · exact has z hz
            · rw [List.mem_singleton.mp hz]
              exact ⟨hi5, hr⟩
        · obtain ⟨⟨v6, v8, v10, v11, rfl⟩, c4, as, hc4, rfl, hi4, has⟩ := hI
          rw [rngD_len] at hi4
          simp
          refine ⟨⟨by decide, by decide, by decide⟩, 1000000, _, rfl, ⟨hc4.hm, by decide, by decide⟩, ?_⟩
          intro M6 u hm6 u0 u1
          obtain ⟨c6, hc6, rfl⟩ := hm6.cons
          simp
          refine ⟨line_ge (by decide), 5, _, rfl, ⟨hc6.hm, by decide, by decide⟩, ?_⟩
          intro M7 t hm7 t0 t1
          obtain ⟨c7, hc7, rfl⟩ := hm7.cons
          obtain ⟨v, hv, e⟩ := fIx_ints (L := [1, 2, 3, 6, 1 + u]) t0 t1 (c7 :: (R ++ .lst (ps.map tMs) :: .lst (ds.map (wE false)) :: (J ++ [.lst (as.map fun r => sqE false (r.map tM))])))
          have v2 : 0 < v ∧ v ≤ 1000000 := by
            simp at hv
            omega
          refine ⟨_, e, trivial, ?_⟩
          simp
          refine ⟨line_ge (by decide), line_gt (by omega), FK1.nx _ _ ⟨⟨v6, _, _, _, v11, rfl⟩, c7, ds ++ [(v, as)], J ++ [.lst (as.map fun r => sqE false (r.map tM))], hc7, ?_, by simp [hi3], fun z hz => ?_⟩⟩
          · simp [wE_eq]
          · rcases List.mem_append.mp hz with hz | hz
            · exact hds z hz
            · rw [List.mem_singleton.mp hz]
              exact ⟨v2.1, v2.2, by omega, has⟩
      · obtain ⟨⟨v6, v8, v9, v10, v11, rfl⟩, c3, ds, J, hc3, rfl, hi3, hds⟩ := hI
        rw [rngD_len] at hi3
        refine ⟨_, rfl, ?_⟩
        refine finHL hc0 hc3 (hk _ _ hc3.hm ⟨?_, by omega, hds⟩)
        intro z
        rw [z] at hi3
        simp at hi3
        omega
end
end PU

set_option maxRecDepth 100000
set_option maxHeartbeats 0
namespace PU
open PySem PySem.Spec PyProof.Rows L2 GS WU
def dG (x : Str) (i : Nat) : He.DefD := ⟨(x, none), x, x, defArgs (top i), defBody (top i), defScope (top i), [], []⟩
def dM (c m : Str) (i j : Nat) (q : Str) (ds : List He.Dv) : He.DefD := ⟨(c, some m), m, q, defArgs (inClass (top i) j), defBody (inClass (top i) j), defScope (inClass (top i) j), ds, []⟩
def fn : List He.DefD := ([dG "is_integer" 9, dG "is_number" 10, dG "is_below" 11, dG "is_positive" 12, dG "is_sequence" 13, dG "are_letters" 16, dG "is_field" 19, dG "_is_row" 31, dG "is_matrix" 26, dG "is_rising" 14, dG "members_of" 36, dG "check_places" 37, dG "_is_framed" 50, dG "is_draw" 42, dG "kept_questions" 39, dG "kept_draws" 40] : List He.DefD) ++ ([dG "weight_of" 41, dG "_are_questions" 49, dG "check_sizes" 35, dG "check_draws" 38, dG "_is_made" 51, dG "_numbered_asks" 53, dG "_questions_asked" 52, dG "draws_asking" 48, dG "_rehoused" 61, dG "_plan_like" 59, dG "is_order" 15, dG "columns_of_book" 55, dG "columns_at" 30, dG "_plan_of_books" 60, dG "reordered_plan" 57, dG "rehoused_plan" 58] : List He.DefD) ++ ([dG "_law_draws" 63, dG "_law_take" 64, dG "_law_put_in" 65, dG "_law_numbered" 66, dG "_law_question" 69, dG "_law_shape" 71, dG "_law_drawn" 70, dG "_law_told" 67, dG "_law_is_plan" 68, dG "_law_order" 72, dG "_law_no_order" 73, dG "_law_reordered" 74, dG "_law_rehoused" 75, dG "_law_back" 77, dG "_law_with_more" 76, dG "_law_refusal" 78] : List He.DefD) ++ ([dG "law" 79, dM "InvalidNumber" "__init__" 3 0 "InvalidNumber.__init__" [], dM "InvalidPlan" "__init__" 6 0 "InvalidPlan.__init__" [], dM "Plan" "__init__" 34 0 "Plan.__init__" []] : List He.DefD)
def frees : List Str := ["isinstance", "int", "bool", "str", "len", "abs", "range", "tuple", "list", "all", "any", "sum", "max", "min", "zip", "enumerate", "sorted", "repr", "set", "ValueError"]
def dMd : He5.DefA := { at_ := fun K => He5.wf K (He.ga K "Plan") "classmethod" "made", name := "made", qual := "Plan.made", params := defArgs sPlan_made, body := defBody sPlan_made, scope := defScope sPlan_made }
def globs : List Str := (["is_integer", "is_number", "is_below", "is_positive", "is_sequence", "are_letters", "is_field", "_is_row", "is_matrix", "is_rising", "members_of", "check_places", "_is_framed", "is_draw", "kept_questions", "kept_draws"] : List Str) ++ (["weight_of", "_are_questions", "check_sizes", "check_draws", "_is_made", "_numbered_asks", "_questions_asked", "draws_asking", "_rehoused", "_plan_like", "is_order", "columns_of_book", "columns_at", "_plan_of_books", "reordered_plan", "rehoused_plan"] : List Str) ++ (["_law_draws", "_law_take", "_law_put_in", "_law_numbered", "_law_question", "_law_shape", "_law_drawn", "_law_told", "_law_is_plan", "_law_order", "_law_no_order", "_law_reordered", "_law_rehoused", "_law_back", "_law_with_more", "_law_refusal"] : List Str) ++ (["law", "PRIMES", "Plan", "WishError", "InvalidNumber", "InvalidMatrix", "InvalidPlan", "Undefined"] : List Str)
def exmB (K : PySem.W.Frag) (x y : Str) (b : Bool) : Bool := isB0 (PySem.W.exmOne K (.ref (He.ga K x)) (.ref (He.ga K y))) b
def plB (K : PySem.W.Frag) : Bool := (He.Fa.cls "Plan").ok K && ((He.Fa.noat "Plan" "p").ok K && ((He.Fa.noat "Plan" "book_length").ok K && ((He.Fa.noat "Plan" "book_count").ok K && ((He.Fa.noat "Plan" "house_count").ok K && ((He.Fa.noat "Plan" "questions").ok K && ((He.Fa.noat "Plan" "draws").ok K && ((He.Fa.noat "Plan" "weight").ok K && ((He.Fa.mkr "Plan").ok K && (insB K (He.ga K "Plan") && (isB0 (PySem.W.kitOne K (.ref (He.ga K "Plan")) (.ref (He.ga K "Plan"))) true))))))))))
theorem scInvalidPlan : FnScope ["self", "part", "place"] ["self", "part", "place"] (defScope sInvalidPlan_init) := ⟨rfl, rfl, rfl, by decide +kernel, rfl, by decide +kernel, by decide +kernel⟩
theorem bodyInvalidPlan (X : Cx) (hN : X.N = (["self", "part", "place"] : List Str)) (hs : X.env.scope = defScope sInvalidPlan_init) : PSs X (defBody sInvalidPlan_init) (tSeq (tOst X.K "part" (tVar 0) (tVar 1)) (tOst X.K "place" (tVar 0) (tVar 2))) :=
  pss_cons (ps_ost (pv 0 (by rw [hN] <;> rfl) (by rw [hs]; exact .inl rfl)) (pv 1 (by rw [hN] <;> rfl) (by rw [hs]; exact .inl rfl))) (pss_one (ps_ost (pv 0 (by rw [hN] <;> rfl) (by rw [hs]; exact .inl rfl)) (pv 2 (by rw [hN] <;> rfl) (by rw [hs]; exact .inl rfl))))

def ex (K : PySem.W.Frag) : Bool := freeB K frees && (globB K globs && (exc1B K "InvalidNumber" "value" && (xfB K (He.ga K "InvalidNumber") && (exc1B K "InvalidPlan" "part" && (xfB K (He.ga K "InvalidPlan") && (exmB K "InvalidNumber" "InvalidNumber" true && (exmB K "InvalidNumber" "InvalidPlan" false && (exmB K "InvalidPlan" "InvalidNumber" false && (exmB K "InvalidPlan" "InvalidPlan" true && (He.tupB K "PRIMES" (primes.map He.Dv.int) && (plB K && (cmB K (He.ga K "Plan") "made" && (errB K "InvalidNumber" ["value"] && (errB K "InvalidPlan" ["part", "place"] && (errB K "InvalidMatrix" ["value"] && (errB K "Undefined" ["what"]))))))))))))))))
theorem getG {K : PySem.W.Frag} (c : He.SaysD [] fn K) (i : Nat) {x : Str} {j : Nat} (h : fn[i]? = some (dG x j)) : ∃ fd, FnS K x (top j) (He.ga K x) fd := c.def_ i h
theorem getM {K : PySem.W.Frag} (c : He.SaysD [] fn K) (i : Nat) {cl m q : Str} {ds : List He.Dv} {j k : Nat} (h : fn[i]? = some (dM cl m j k q ds)) :
    ∃ fd, FunD K m q (defArgs (inClass (top j) k)) (defBody (inClass (top j) k)) (defScope (inClass (top j) k)) (ds.map (He.Dv.v K)) [] (He.ma K (He.ga K cl) m) fd := c.def_ i h
theorem facts {P : Program} {w : World} {K : PySem.W.Frag} {h : Heap} {mg : Str → Option Value} {fa : Addr} (X : K.In h) (G : h.Ns mainGlobals mg) (hfa : mg "law" = some (.ref fa)) (c : He.SaysD [] fn K) (ca : He5.SaysA [] [dMd] K) (e : ex K = true) :
    ∃ fd : FuncData, (∀ (s : Shared) (v : Value), BindsTo s fd ⟨[v], []⟩ [("script", v)]) ∧ ∀ base : Heap, K.In base → base.Ns mainGlobals mg → FnOkG P w K mg base 14 fa fd ["script"] (spP K cLaw) := by
  obtain ⟨e0, e⟩ := and2 e
  obtain ⟨e1, e⟩ := and2 e
  obtain ⟨e2, e⟩ := and2 e
  obtain ⟨e3, e⟩ := and2 e
  obtain ⟨e4, e⟩ := and2 e
  obtain ⟨e5, e⟩ := and2 e
  obtain ⟨e6, e⟩ := and2 e
  obtain ⟨e7, e⟩ := and2 e
  obtain ⟨e8, e⟩ := and2 e
  obtain ⟨e9, e⟩ := and2 e
  obtain ⟨e10, e⟩ := and2 e
  obtain ⟨e11, e⟩ := and2 e
  obtain ⟨e12, e⟩ := and2 e
  obtain ⟨e13, e⟩ := and2 e
  obtain ⟨e14, e⟩ := and2 e
  obtain ⟨e15, e16⟩ := and2 e
  have fr : ∀ {x : Str}, x ∈ frees → mg x = none := fun hx => freeB_ok X G e0 hx
  have gl : ∀ {x : Str}, x ∈ globs → mg x = some (.ref (He.ga K x)) := fun hx => globB_ok X G e1 hx
  have b0 : ∀ {o : Option Bool} {b : Bool}, isB0 o b = true → o = some b := fun h => of_decide_eq_true h
  have TInvalidNumber : Exc1 K mg "InvalidNumber" "value" := exc1B_ok X G e2
  have XInvalidNumber := xfB_ok e3
  have TInvalidPlan : Exc1 K mg "InvalidPlan" "part" := exc1B_ok X G e4
  have XInvalidPlan := xfB_ok e5
  have xInvalidNumber_InvalidNumber := b0 e6
  have xInvalidNumber_InvalidPlan := b0 e7
  have xInvalidPlan_InvalidNumber := b0 e8
  have xInvalidPlan_InvalidPlan := b0 e9
  have tP : ∀ H, SqT K H (He.ga K "PRIMES") (primes.map V.int) := fun H => He.tupB_ok e10 H
  obtain ⟨p1, p⟩ := and2 e11
  obtain ⟨p2, p⟩ := and2 p
  obtain ⟨p3, p⟩ := and2 p
  obtain ⟨p4, p⟩ := and2 p
  obtain ⟨p5, p⟩ := and2 p
  obtain ⟨p6, p⟩ := and2 p
  obtain ⟨p7, p⟩ := and2 p
  obtain ⟨p8, p⟩ := and2 p
  obtain ⟨p9, p⟩ := and2 p
  obtain ⟨p10, p11⟩ := and2 p
  obtain ⟨y1, y⟩ := and2 e12
  obtain ⟨y2, y3⟩ := and2 y
  have EC_InvalidNumber := errB_ok (fs := ["value"]) e13
  have EC_InvalidPlan := errB_ok (fs := ["part", "place"]) e14
  have EC_InvalidMatrix := errB_ok (fs := ["value"]) e15
  have EC_Undefined := errB_ok (fs := ["what"]) e16
  obtain ⟨fd_is_integer, F_is_integer⟩ := getG c 0 (x := "is_integer") (j := 9) rfl
  obtain ⟨fd_is_number, F_is_number⟩ := getG c 1 (x := "is_number") (j := 10) rfl
  obtain ⟨fd_is_below, F_is_below⟩ := getG c 2 (x := "is_below") (j := 11) rfl
  obtain ⟨fd_is_positive, F_is_positive⟩ := getG c 3 (x := "is_positive") (j := 12) rfl
  obtain ⟨fd_is_sequence, F_is_sequence⟩ := getG c 4 (x := "is_sequence") (j := 13) rfl
  obtain ⟨fd_are_letters, F_are_letters⟩ := getG c 5 (x := "are_letters") (j := 16) rfl
  obtain ⟨fd_is_field, F_is_field⟩ := getG c 6 (x := "is_field") (j := 19) rfl
  obtain ⟨fd__is_row, F__is_row⟩ := getG c 7 (x := "_is_row") (j := 31) rfl
  obtain ⟨fd_is_matrix, F_is_matrix⟩ := getG c 8 (x := "is_matrix") (j := 26) rfl
  obtain ⟨fd_is_rising, F_is_rising⟩ := getG c 9 (x := "is_rising") (j := 14) rfl
  obtain ⟨fd_members_of, F_members_of⟩ := getG c 10 (x := "members_of") (j := 36) rfl
  obtain ⟨fd_check_places, F_check_places⟩ := getG c 11 (x := "check_places") (j := 37) rfl
  obtain ⟨fd__is_framed, F__is_framed⟩ := getG c 12 (x := "_is_framed") (j := 50) rfl
  obtain ⟨fd_is_draw, F_is_draw⟩ := getG c 13 (x := "is_draw") (j := 42) rfl
  obtain ⟨fd_kept_questions, F_kept_questions⟩ := getG c 14 (x := "kept_questions") (j := 39) rfl
  obtain ⟨fd_kept_draws, F_kept_draws⟩ := getG c 15 (x := "kept_draws") (j := 40) rfl
  obtain ⟨fd_weight_of, F_weight_of⟩ := getG c 16 (x := "weight_of") (j := 41) rfl
  obtain ⟨fd__are_questions, F__are_questions⟩ := getG c 17 (x := "_are_questions") (j := 49) rfl
  obtain ⟨fd_check_sizes, F_check_sizes⟩ := getG c 18 (x := "check_sizes") (j := 35) rfl
  obtain ⟨fd_check_draws, F_check_draws⟩ := getG c 19 (x := "check_draws") (j := 38) rfl
  obtain ⟨fd__is_made, F__is_made⟩ := getG c 20 (x := "_is_made") (j := 51) rfl
  obtain ⟨fd__numbered_asks, F__numbered_asks⟩ := getG c 21 (x := "_numbered_asks") (j := 53) rfl
  obtain ⟨fd__questions_asked, F__questions_asked⟩ := getG c 22 (x := "_questions_asked") (j := 52) rfl
  obtain ⟨fd_draws_asking, F_draws_asking⟩ := getG c 23 (x := "draws_asking") (j := 48) rfl
  obtain ⟨fd__rehoused, F__rehoused⟩ := getG c 24 (x := "_rehoused") (j := 61) rfl
  obtain ⟨fd__plan_like, F__plan_like⟩ := getG c 25 (x := "_plan_like") (j := 59) rfl
  obtain ⟨fd_is_order, F_is_order⟩ := getG c 26 (x := "is_order") (j := 15) rfl
  obtain ⟨fd_columns_of_book, F_columns_of_book⟩ := getG c 27 (x := "columns_of_book") (j := 55) rfl
  obtain ⟨fd_columns_at, F_columns_at⟩ := getG c 28 (x := "columns_at") (j := 30) rfl
  obtain ⟨fd__plan_of_books, F__plan_of_books⟩ := getG c 29 (x := "_plan_of_books") (j := 60) rfl
  obtain ⟨fd_reordered_plan, F_reordered_plan⟩ := getG c 30 (x := "reordered_plan") (j := 57) rfl
  obtain ⟨fd_rehoused_plan, F_rehoused_plan⟩ := getG c 31 (x := "rehoused_plan") (j := 58) rfl
  obtain ⟨fd__law_draws, F__law_draws⟩ := getG c 32 (x := "_law_draws") (j := 63) rfl
  obtain ⟨fd__law_take, F__law_take⟩ := getG c 33 (x := "_law_take") (j := 64) rfl
  obtain ⟨fd__law_put_in, F__law_put_in⟩ := getG c 34 (x := "_law_put_in") (j := 65) rfl
  obtain ⟨fd__law_numbered, F__law_numbered⟩ := getG c 35 (x := "_law_numbered") (j := 66) rfl
  obtain ⟨fd__law_question, F__law_question⟩ := getG c 36 (x := "_law_question") (j := 69) rfl
  obtain ⟨fd__law_shape, F__law_shape⟩ := getG c 37 (x := "_law_shape") (j := 71) rfl
  obtain ⟨fd__law_drawn, F__law_drawn⟩ := getG c 38 (x := "_law_drawn") (j := 70) rfl
  obtain ⟨fd__law_told, F__law_told⟩ := getG c 39 (x := "_law_told") (j := 67) rfl
  obtain ⟨fd__law_is_plan, F__law_is_plan⟩ := getG c 40 (x := "_law_is_plan") (j := 68) rfl
  obtain ⟨fd__law_order, F__law_order⟩ := getG c 41 (x := "_law_order") (j := 72) rfl
  obtain ⟨fd__law_no_order, F__law_no_order⟩ := getG c 42 (x := "_law_no_order") (j := 73) rfl
  obtain ⟨fd__law_reordered, F__law_reordered⟩ := getG c 43 (x := "_law_reordered") (j := 74) rfl
  obtain ⟨fd__law_rehoused, F__law_rehoused⟩ := getG c 44 (x := "_law_rehoused") (j := 75) rfl
  obtain ⟨fd__law_back, F__law_back⟩ := getG c 45 (x := "_law_back") (j := 77) rfl
  obtain ⟨fd__law_with_more, F__law_with_more⟩ := getG c 46 (x := "_law_with_more") (j := 76) rfl
  obtain ⟨fd__law_refusal, F__law_refusal⟩ := getG c 47 (x := "_law_refusal") (j := 78) rfl
  obtain ⟨fd_law, F_law⟩ := getG c 48 (x := "law") (j := 79) rfl
  obtain ⟨fd_Plan_made, F_Plan_made⟩ := ca.def_ 0 (d := dMd) rfl
  obtain ⟨fd_InvalidNumber___init__, F_InvalidNumber___init__⟩ := getM c 49 (cl := "InvalidNumber") (m := "__init__") (q := "InvalidNumber.__init__") (ds := []) (j := 3) (k := 0) rfl
  obtain ⟨fd_InvalidPlan___init__, F_InvalidPlan___init__⟩ := getM c 50 (cl := "InvalidPlan") (m := "__init__") (q := "InvalidPlan.__init__") (ds := []) (j := 6) (k := 0) rfl
  obtain ⟨fd_Plan___init__, F_Plan___init__⟩ := getM c 51 (cl := "Plan") (m := "__init__") (q := "Plan.__init__") (ds := []) (j := 34) (k := 0) rfl
  have efa := hfa.symm.trans (gl (x := "law") (by decide +kernel))
  cases efa
  have bl := FunD.bindsA (ps := ["script"]) F_law fun _ _ _ _ _ _ us hl => match us, hl with | [_], _ => rfl
  refine ⟨fd_law, fun s v => bl s [v] rfl, fun base _ _ => ?_⟩
  have B : BltU mg := { isi := fr (by decide +kernel), int := fr (by decide +kernel), bool := fr (by decide +kernel), str := fr (by decide +kernel), len := fr (by decide +kernel), abs := fr (by decide +kernel), range := fr (by decide +kernel), tuple := fr (by decide +kernel), lst := fr (by decide +kernel), all := fr (by decide +kernel), any := fr (by decide +kernel), sum := fr (by decide +kernel), max := fr (by decide +kernel), min := fr (by decide +kernel), zip := fr (by decide +kernel), enum := fr (by decide +kernel), sorted := fr (by decide +kernel), repr := fr (by decide +kernel), set := fr (by decide +kernel) }
  have B2 : Blt2 mg := { isi := B.isi, int := B.int, bool := B.bool, len := B.len, abs := B.abs, range := B.range, tuple := B.tuple }
  have B0 : Blt mg := B2.toBlt
  have PM0 : mg "Plan" = some (.ref (He.ga K "Plan")) := gl (by decide +kernel)
  have JP : PlK K (He.ga K "Plan") := ⟨He.cls_ok p1, He.noat_ok p2, He.noat_ok p3, He.noat_ok p4, He.noat_ok p5, He.noat_ok p6, He.noat_ok p7, He.noat_ok p8⟩
  have hA : ∀ f ∈ (["p", "book_length", "book_count", "house_count", "questions", "draws", "weight"] : List Str), NoAttr K (He.ga K "Plan") f := fun f hf => by
    simp only [List.mem_cons, List.not_mem_nil, or_false] at hf
    rcases hf with rfl | rfl | rfl | rfl | rfl | rfl | rfl
    · exact JP.p
    · exact JP.bl
    · exact JP.bc
    · exact JP.hc
    · exact JP.qs
    · exact JP.dr
    · exact JP.wt
  have MK_Plan := He.mkr_ok p9
  have iP := insB_ok JP.cl p10
  have kP := isB0_ok p11
  have EG : ErrG K mg := ⟨gl (by decide +kernel), fun x hx => by
    simp only [List.mem_cons, List.not_mem_nil, or_false] at hx
    rcases hx with rfl | rfl | rfl | rfl <;> exact gl (by decide +kernel), fr (by decide +kernel)⟩
  have XC_InvalidNumber : XC P w K mg base "InvalidNumber" ["value"] := ⟨TInvalidNumber.glob, TInvalidNumber.oex, fun f hf => EC_InvalidNumber.no f hf, TInvalidNumber.init, TInvalidNumber.tI, fd_InvalidNumber___init__, ok_ini1 F_InvalidNumber___init__ scInvalidNumber bodyInvalidNumber, FunD.bindsN F_InvalidNumber___init__ fun _ _ _ _ _ _ us hl => match us, hl with | [_, _], _ => rfl⟩
  have XC_InvalidPlan : XC P w K mg base "InvalidPlan" ["part", "place"] := ⟨TInvalidPlan.glob, TInvalidPlan.oex, fun f hf => EC_InvalidPlan.no f hf, TInvalidPlan.init, TInvalidPlan.tI, fd_InvalidPlan___init__, ok_ini2 F_InvalidPlan___init__ scInvalidPlan bodyInvalidPlan, FunD.bindsN F_InvalidPlan___init__ fun _ _ _ _ _ _ us hl => match us, hl with | [_, _, _], _ => rfl⟩
  have C_is_integer := cal_mk (P := P) (w := w) (mg := mg) (base := base) (x := "is_integer") F_is_integer (gl (by decide +kernel)) (ok_isInt F_is_integer B0) fun _ _ _ _ _ _ us hl => match us, hl with | [_], _ => rfl
  have C_is_integer_1 := cal_mk (P := P) (w := w) (mg := mg) (base := base) (x := "is_integer") F_is_integer (gl (by decide +kernel)) (ok_CI F_is_integer B) fun _ _ _ _ _ _ us hl => match us, hl with | [_], _ => rfl
  have C_is_number := cal_mk (P := P) (w := w) (mg := mg) (base := base) (x := "is_number") F_is_number (gl (by decide +kernel)) (ok_CN F_is_number B C_is_integer_1) fun _ _ _ _ _ _ us hl => match us, hl with | [_], _ => rfl
  have C_is_below := cal_mk (P := P) (w := w) (mg := mg) (base := base) (x := "is_below") F_is_below (gl (by decide +kernel)) (ok_CB F_is_below B C_is_number) fun _ _ _ _ _ _ us hl => match us, hl with | [_, _], _ => rfl
  have C_is_positive := cal_mk (P := P) (w := w) (mg := mg) (base := base) (x := "is_positive") F_is_positive (gl (by decide +kernel)) (ok_CP F_is_positive B C_is_integer_1) fun _ _ _ _ _ _ us hl => match us, hl with | [_], _ => rfl
  have C_is_sequence := cal_mk (P := P) (w := w) (mg := mg) (base := base) (x := "is_sequence") F_is_sequence (gl (by decide +kernel)) (ok_CS F_is_sequence B) fun _ _ _ _ _ _ us hl => match us, hl with | [_], _ => rfl
  have C_are_letters := cal_mk (P := P) (w := w) (mg := mg) (base := base) (x := "are_letters") F_are_letters (gl (by decide +kernel)) (ok_CL F_are_letters B C_is_sequence C_is_below) fun _ _ _ _ _ _ us hl => match us, hl with | [_, _, _], _ => rfl
  have C_is_field := cal_mk (P := P) (w := w) (mg := mg) (base := base) (x := "is_field") F_is_field (gl (by decide +kernel)) (ok_CF F_is_field C_is_integer (gl (by decide +kernel)) tP) fun _ _ _ _ _ _ us hl => match us, hl with | [_], _ => rfl
  have C__is_row := cal_mk (P := P) (w := w) (mg := mg) (base := base) (x := "_is_row") F__is_row (gl (by decide +kernel)) (ok_CRow F__is_row B C_are_letters) fun _ _ _ _ _ _ us hl => match us, hl with | [_, _, _], _ => rfl
  have C_is_matrix := cal_mk (P := P) (w := w) (mg := mg) (base := base) (x := "is_matrix") F_is_matrix (gl (by decide +kernel)) (ok_CM F_is_matrix B C__is_row) fun _ _ _ _ _ _ us hl => match us, hl with | [_, _, _], _ => rfl
  have C_is_rising := cal_mk (P := P) (w := w) (mg := mg) (base := base) (x := "is_rising") F_is_rising (gl (by decide +kernel)) (ok_CRi F_is_rising B) fun _ _ _ _ _ _ us hl => match us, hl with | [_], _ => rfl
  have C_members_of := cal_mk (P := P) (w := w) (mg := mg) (base := base) (x := "members_of") F_members_of (gl (by decide +kernel)) (ok_CMe F_members_of B C_is_sequence) fun _ _ _ _ _ _ us hl => match us, hl with | [_], _ => rfl
  have C_check_places := cal_mk (P := P) (w := w) (mg := mg) (base := base) (x := "check_places") F_check_places (gl (by decide +kernel)) (ok_CPl F_check_places B) fun _ _ _ _ _ _ us hl => match us, hl with | [_, _], _ => rfl
  have C__is_framed := cal_mk (P := P) (w := w) (mg := mg) (base := base) (x := "_is_framed") F__is_framed (gl (by decide +kernel)) (ok_CFr F__is_framed B C_is_sequence C_is_positive) fun _ _ _ _ _ _ us hl => match us, hl with | [_, _, _], _ => rfl
  have C_is_draw := cal_mk (P := P) (w := w) (mg := mg) (base := base) (x := "is_draw") F_is_draw (gl (by decide +kernel)) (ok_CDr F_is_draw B C__is_framed C_is_below) fun _ _ _ _ _ _ us hl => match us, hl with | [_, _, _], _ => rfl
  have C_kept_questions := cal_mk (P := P) (w := w) (mg := mg) (base := base) (x := "kept_questions") F_kept_questions (gl (by decide +kernel)) (ok_CKq F_kept_questions B) fun _ _ _ _ _ _ us hl => match us, hl with | [_], _ => rfl
  have C_kept_draws := cal_mk (P := P) (w := w) (mg := mg) (base := base) (x := "kept_draws") F_kept_draws (gl (by decide +kernel)) (ok_CKd F_kept_draws B) fun _ _ _ _ _ _ us hl => match us, hl with | [_], _ => rfl
  have C_weight_of := cal_mk (P := P) (w := w) (mg := mg) (base := base) (x := "weight_of") F_weight_of (gl (by decide +kernel)) (ok_CWt F_weight_of B) fun _ _ _ _ _ _ us hl => match us, hl with | [_], _ => rfl
  have C__are_questions := cal_mk (P := P) (w := w) (mg := mg) (base := base) (x := "_are_questions") F__are_questions (gl (by decide +kernel)) (ok_CAq F__are_questions B C_is_sequence C_is_matrix C_is_rising) fun _ _ _ _ _ _ us hl => match us, hl with | [_, _, _], _ => rfl
  have C_check_sizes := cal_mk (P := P) (w := w) (mg := mg) (base := base) (x := "check_sizes") F_check_sizes (gl (by decide +kernel)) (ok_CSz F_check_sizes B C_is_field C_is_positive) fun _ _ _ _ _ _ us hl => match us, hl with | [_, _, _], _ => rfl
  have C_check_draws := cal_mk (P := P) (w := w) (mg := mg) (base := base) (x := "check_draws") F_check_draws (gl (by decide +kernel)) (ok_CCD F_check_draws B C_check_places C_is_draw C_members_of) fun _ _ _ _ _ _ us hl => match us, hl with | [_, _, _], _ => rfl
  have g_Plan___init__ := ok_Ini (P := P) (w := w) (mg := mg) (base := base) F_Plan___init__ B JP.cl hA C_check_sizes C__are_questions C_members_of C_check_places C_check_draws C_kept_questions C_kept_draws C_weight_of
  have b_Plan___init__ : L2.Binds K fd_Plan___init__ ["self", "p", "book_length", "book_count", "questions", "draws"] [] := FunD.bindsN F_Plan___init__ fun _ _ _ _ _ _ us hl => match us, hl with | [_, _, _, _, _, _], _ => rfl
  have C__is_made := cal_mk (P := P) (w := w) (mg := mg) (base := base) (x := "_is_made") F__is_made (gl (by decide +kernel)) (ok_CFm F__is_made B C__is_framed C_is_matrix) fun _ _ _ _ _ _ us hl => match us, hl with | [_, _, _, _, _], _ => rfl
  have C__numbered_asks := cal_mk (P := P) (w := w) (mg := mg) (base := base) (x := "_numbered_asks") F__numbered_asks (gl (by decide +kernel)) (ok_CNa F__numbered_asks B) fun _ _ _ _ _ _ us hl => match us, hl with | [_, _], _ => rfl
  have C_is_sequence_1 := cal_mk (P := P) (w := w) (mg := mg) (base := base) (x := "is_sequence") F_is_sequence (gl (by decide +kernel)) (ok_CSW F_is_sequence B) fun _ _ _ _ _ _ us hl => match us, hl with | [_], _ => rfl
  have C_members_of_1 := cal_mk (P := P) (w := w) (mg := mg) (base := base) (x := "members_of") F_members_of (gl (by decide +kernel)) (ok_CMeW F_members_of B C_is_sequence_1) fun _ _ _ _ _ _ us hl => match us, hl with | [_], _ => rfl
  have C__questions_asked := cal_mk (P := P) (w := w) (mg := mg) (base := base) (x := "_questions_asked") F__questions_asked (gl (by decide +kernel)) (ok_CQaW F__questions_asked B) fun _ _ _ _ _ _ us hl => match us, hl with | [_, _], _ => rfl
  have g_Plan_made := ok_MadeW (P := P) (w := w) (mg := mg) (base := base) F_Plan_made B MK_Plan g_Plan___init__ b_Plan___init__ C_check_sizes C_is_positive C_check_places C_members_of_1 C__is_made C__questions_asked C__numbered_asks
  have b_Plan_made : L2.Binds K fd_Plan_made ["cls", "p", "book_length", "book_count", "house_count", "draws"] [] := FunD.bindsN F_Plan_made fun _ _ _ _ _ _ us hl => match us, hl with | [_, _, _, _, _, _], _ => rfl
  have PMW_Plan : PMW P w K mg base (He.ga K "Plan") _ _ := { gP := PM0, r := cread_new y1, c := He5.cmet_of y2 y3, F := fn_raw0 g_Plan_made b_Plan_made }
  have C_draws_asking := cal_mk (P := P) (w := w) (mg := mg) (base := base) (x := "draws_asking") F_draws_asking (gl (by decide +kernel)) (ok_CAkB F_draws_asking B JP) fun _ _ _ _ _ _ us hl => match us, hl with | [_, _], _ => rfl
  have C__rehoused := cal_mk (P := P) (w := w) (mg := mg) (base := base) (x := "_rehoused") F__rehoused (gl (by decide +kernel)) (ok_CRh F__rehoused B) fun _ _ _ _ _ _ us hl => match us, hl with | [_, _], _ => rfl
  have C__plan_like := cal_mk (P := P) (w := w) (mg := mg) (base := base) (x := "_plan_like") F__plan_like (gl (by decide +kernel)) (ok_CPlk F__plan_like B JP PMW_Plan) fun _ _ _ _ _ _ us hl => match us, hl with | [_, _], _ => rfl
  have C_is_integer_2 := cal_mk (P := P) (w := w) (mg := mg) (base := base) (x := "is_integer") F_is_integer (gl (by decide +kernel)) (ok_CIG F_is_integer B) fun _ _ _ _ _ _ us hl => match us, hl with | [_], _ => rfl
  have C_is_number_1 := cal_mk (P := P) (w := w) (mg := mg) (base := base) (x := "is_number") F_is_number (gl (by decide +kernel)) (ok_CNG F_is_number B C_is_integer_2) fun _ _ _ _ _ _ us hl => match us, hl with | [_], _ => rfl
  have C_is_below_1 := cal_mk (P := P) (w := w) (mg := mg) (base := base) (x := "is_below") F_is_below (gl (by decide +kernel)) (ok_CBG F_is_below B C_is_number_1) fun _ _ _ _ _ _ us hl => match us, hl with | [_, _], _ => rfl
  have C_is_sequence_2 := cal_mk (P := P) (w := w) (mg := mg) (base := base) (x := "is_sequence") F_is_sequence (gl (by decide +kernel)) (ok_CSG F_is_sequence B) fun _ _ _ _ _ _ us hl => match us, hl with | [_], _ => rfl
  have C_are_letters_1 := cal_mk (P := P) (w := w) (mg := mg) (base := base) (x := "are_letters") F_are_letters (gl (by decide +kernel)) (ok_CLG F_are_letters B C_is_sequence_2 C_is_below_1) fun _ _ _ _ _ _ us hl => match us, hl with | [_, _, _], _ => rfl
  have C_is_order := cal_mk (P := P) (w := w) (mg := mg) (base := base) (x := "is_order") F_is_order (gl (by decide +kernel)) (ok_COG F_is_order B C_are_letters_1) fun _ _ _ _ _ _ us hl => match us, hl with | [_, _], _ => rfl
  have C_columns_of_book := cal_mk (P := P) (w := w) (mg := mg) (base := base) (x := "columns_of_book") F_columns_of_book (gl (by decide +kernel)) (ok_CCob F_columns_of_book B JP) fun _ _ _ _ _ _ us hl => match us, hl with | [_, _], _ => rfl
  have C_columns_at := cal_mk (P := P) (w := w) (mg := mg) (base := base) (x := "columns_at") F_columns_at (gl (by decide +kernel)) (ok_CCat F_columns_at B) fun _ _ _ _ _ _ us hl => match us, hl with | [_, _], _ => rfl
  have C__plan_of_books := cal_mk (P := P) (w := w) (mg := mg) (base := base) (x := "_plan_of_books") F__plan_of_books (gl (by decide +kernel)) (ok_CPob F__plan_of_books B JP PMW_Plan C_columns_of_book C_columns_at C_draws_asking) fun _ _ _ _ _ _ us hl => match us, hl with | [_, _], _ => rfl
  have C_reordered_plan := cal_mk (P := P) (w := w) (mg := mg) (base := base) (x := "reordered_plan") F_reordered_plan (gl (by decide +kernel)) (ok_CReo F_reordered_plan B JP XC_InvalidNumber C_is_order C__plan_of_books) fun _ _ _ _ _ _ us hl => match us, hl with | [_, _], _ => rfl
  have C_rehoused_plan := cal_mk (P := P) (w := w) (mg := mg) (base := base) (x := "rehoused_plan") F_rehoused_plan (gl (by decide +kernel)) (ok_CRho F_rehoused_plan B JP XC_InvalidNumber C_is_order C_draws_asking C__rehoused C__plan_like) fun _ _ _ _ _ _ us hl => match us, hl with | [_, _], _ => rfl
  have C__law_draws := cal_mk (P := P) (w := w) (mg := mg) (base := base) (x := "_law_draws") F__law_draws (gl (by decide +kernel)) (ok_CDs F__law_draws B2) fun _ _ _ _ _ _ us hl => match us, hl with | [_, _], _ => rfl
  have C__law_take := cal_mk (P := P) (w := w) (mg := mg) (base := base) (x := "_law_take") F__law_take (gl (by decide +kernel)) (ok_CTk F__law_take B) fun _ _ _ _ _ _ us hl => match us, hl with | [_, _], _ => rfl
  have C__law_put_in := cal_mk (P := P) (w := w) (mg := mg) (base := base) (x := "_law_put_in") F__law_put_in (gl (by decide +kernel)) (ok_CPt F__law_put_in B) fun _ _ _ _ _ _ us hl => match us, hl with | [_, _], _ => rfl
  have C__law_numbered := cal_mk (P := P) (w := w) (mg := mg) (base := base) (x := "_law_numbered") F__law_numbered (gl (by decide +kernel)) (ok_CNm F__law_numbered B C__law_put_in) fun _ _ _ _ _ _ us hl => match us, hl with | [_, _], _ => rfl
  have C__law_question := cal_mk (P := P) (w := w) (mg := mg) (base := base) (x := "_law_question") F__law_question (gl (by decide +kernel)) (ok_CQu F__law_question B C__law_take) fun _ _ _ _ _ _ us hl => match us, hl with | [_, _, _], _ => rfl
  have C__law_shape := cal_mk (P := P) (w := w) (mg := mg) (base := base) (x := "_law_shape") F__law_shape (gl (by decide +kernel)) (ok_CSh F__law_shape B C__law_take) fun _ _ _ _ _ _ us hl => match us, hl with | [_], _ => rfl
  have C__law_drawn := cal_mk (P := P) (w := w) (mg := mg) (base := base) (x := "_law_drawn") F__law_drawn (gl (by decide +kernel)) (ok_CDw F__law_drawn B C__law_take C__law_question) fun _ _ _ _ _ _ us hl => match us, hl with | [_, _, _, _, _], _ => rfl
  have C__law_told : CalG P w K mg base 3 "_law_told" _ fd__law_told ["p", "length", "count", "houses", "draws"] _ := ⟨gl (by decide +kernel), F__law_told.kp, FunD.bindsN F__law_told fun _ _ _ _ _ _ us hl => match us, hl with | [_, _, _, _, _], _ => rfl, ok_CTo F__law_told B C__law_numbered⟩
  have C__law_is_plan : CalG P w K mg base 1 "_law_is_plan" _ fd__law_is_plan ["plan", "told"] _ := ⟨gl (by decide +kernel), F__law_is_plan.kp, FunD.bindsN F__law_is_plan fun _ _ _ _ _ _ us hl => match us, hl with | [_, _], _ => rfl, ok_CIp F__law_is_plan B JP iP PM0 kP⟩
  have C__law_order := cal_mk (P := P) (w := w) (mg := mg) (base := base) (x := "_law_order") F__law_order (gl (by decide +kernel)) (ok_COrd F__law_order B C__law_take) fun _ _ _ _ _ _ us hl => match us, hl with | [_, _], _ => rfl
  have C__law_no_order := cal_mk (P := P) (w := w) (mg := mg) (base := base) (x := "_law_no_order") F__law_no_order (gl (by decide +kernel)) (ok_CNoO F__law_no_order B C__law_order C__law_take) fun _ _ _ _ _ _ us hl => match us, hl with | [_, _], _ => rfl
  have C__law_reordered := cal_mk (P := P) (w := w) (mg := mg) (base := base) (x := "_law_reordered") F__law_reordered (gl (by decide +kernel)) (ok_CLRo F__law_reordered B) fun _ _ _ _ _ _ us hl => match us, hl with | [_, _, _], _ => rfl
  have C__law_rehoused := cal_mk (P := P) (w := w) (mg := mg) (base := base) (x := "_law_rehoused") F__law_rehoused (gl (by decide +kernel)) (ok_CLRh F__law_rehoused B) fun _ _ _ _ _ _ us hl => match us, hl with | [_, _], _ => rfl
  have C__law_back := cal_mk (P := P) (w := w) (mg := mg) (base := base) (x := "_law_back") F__law_back (gl (by decide +kernel)) (ok_CBck F__law_back B) fun _ _ _ _ _ _ us hl => match us, hl with | [_], _ => rfl
  have C_is_rising_1 := cal_mk (P := P) (w := w) (mg := mg) (base := base) (x := "is_rising") F_is_rising (gl (by decide +kernel)) (ok_CRiB F_is_rising B) fun _ _ _ _ _ _ us hl => match us, hl with | [_], _ => rfl
  have C__are_questions_1 := cal_mk (P := P) (w := w) (mg := mg) (base := base) (x := "_are_questions") F__are_questions (gl (by decide +kernel)) (ok_CAqB F__are_questions B C_is_sequence C_is_matrix C_is_rising_1) fun _ _ _ _ _ _ us hl => match us, hl with | [_, _, _], _ => rfl
  have C_kept_questions_1 := cal_mk (P := P) (w := w) (mg := mg) (base := base) (x := "kept_questions") F_kept_questions (gl (by decide +kernel)) (ok_CKqB F_kept_questions B) fun _ _ _ _ _ _ us hl => match us, hl with | [_], _ => rfl
  have C_kept_draws_1 := cal_mk (P := P) (w := w) (mg := mg) (base := base) (x := "kept_draws") F_kept_draws (gl (by decide +kernel)) (ok_CKdB F_kept_draws B) fun _ _ _ _ _ _ us hl => match us, hl with | [_], _ => rfl
  have C_weight_of_1 := cal_mk (P := P) (w := w) (mg := mg) (base := base) (x := "weight_of") F_weight_of (gl (by decide +kernel)) (ok_CWtB F_weight_of B) fun _ _ _ _ _ _ us hl => match us, hl with | [_], _ => rfl
  have C_check_draws_1 := cal_mk (P := P) (w := w) (mg := mg) (base := base) (x := "check_draws") F_check_draws (gl (by decide +kernel)) (ok_CCDB F_check_draws B C_check_places C_is_draw C_members_of_1) fun _ _ _ _ _ _ us hl => match us, hl with | [_, _, _], _ => rfl
  have g_Plan___init__ := ok_IniB (P := P) (w := w) (mg := mg) (base := base) F_Plan___init__ B JP.cl hA C_check_sizes C__are_questions_1 C_members_of_1 C_check_places C_check_draws_1 C_kept_questions_1 C_kept_draws_1 C_weight_of_1
  have C__law_with_more : CalG P w K mg base 11 "_law_with_more" _ fd__law_with_more ["hand", "p", "length", "count", "houses", "draws"] _ := ⟨gl (by decide +kernel), F__law_with_more.kp, FunD.bindsN F__law_with_more fun _ _ _ _ _ _ us hl => match us, hl with | [_, _, _, _, _, _], _ => rfl, ok_CWmr F__law_with_more B PMW_Plan MK_Plan g_Plan___init__ b_Plan___init__ C__law_take C__law_told C__law_numbered C__law_put_in C__law_question⟩
  have C__law_refusal : CalG P w K mg base 13 "_law_refusal" _ fd__law_refusal ["kind", "plan", "order"] _ := ⟨gl (by decide +kernel), F__law_refusal.kp, FunD.bindsN F__law_refusal fun _ _ _ _ _ _ us hl => match us, hl with | [_, _, _], _ => rfl, ok_CRfO F__law_refusal B EG EC_InvalidNumber EC_InvalidPlan EC_InvalidMatrix EC_Undefined C_reordered_plan C_rehoused_plan⟩
  exact ok_law F_law B C__law_draws C__law_shape C__law_drawn C__law_told C__law_is_plan C__law_with_more C__law_order C__law_no_order C__law_reordered C__law_rehoused C__law_back C__law_refusal C_reordered_plan C_rehoused_plan
end PU

namespace PU
open PySem PySem.Spec PyProof.Rows L2 GS WU
theorem walk {l : PySem.W.OpenLaw} {q : Program} {loose : List Str} {XP : (Str → Option Value) → Heap → Prop} {YP : World → Heap → Prop} {d : DefRec} {K : Params → PySem.W.Frag} (hn : l.most = some 63) (hdf : d.params.defaults = []) (hname : d.name = ("law" : Str))
    (hY : ∀ (w : World) (h : Heap), YP w h → (K w.params).In h) (hD : ∀ w : World, He.SaysD [] fn (K w.params)) (hA : ∀ w : World, He5.SaysA [] [dMd] (K w.params)) (hE : ∀ w : World, ex (K w.params) = true) :
    PySem.W.WalkO q loose XP YP l.row.toRowW d [] (fun f vs => PySem.call f vs) :=
  walk_ofG (n := 63) (k := 14) (x := "script") (sp := fun w => spP (K w.params) cLaw) hn (by decide) hdf ⟨rfl, by decide, by decide⟩ hY
    (fun w mg fa h KX G hmg => facts KX G (by rw [← hname]; exact hmg) (hD w) (hA w) (hE w)) fun w H a ns hl hS => ⟨H, [], [], [.d (.fl (ns.map D.int))], ⟨Le.refl, (fun _ h => nomatch h), .nil, .nil⟩, .cons (.fl hS (rep_ints2 ns)) .nil, ns, rfl, ⟨hl, rfl⟩, fun M' G' L' H' v _ _ r => by cases r; rfl⟩
end PU
open PySem PySem.W PyProof.Rows
set_option maxRecDepth 100000 in
set_option maxHeartbeats 0 in
theorem PySem.Challenge.cw_wishunseen_k45_reordered_and_rehoused_holds : PySem.Challenge.rw_wishunseen_k45_reordered_and_rehoused.Holds := by
  w_on; o_law; k_head; (case hw => w_witness2)
  k_fill
  refine PU.walk (l := PySem.Challenge.rw_wishunseen_k45_reordered_and_rehoused) rfl rfl (by rfl) (fun w h Y => PySem.W.kIn_of Y) ?D ?A ?E
  case D =>
    intro w
    show He.obsD [] PU.fn _ = He.valD PU.fn
    kernel_rfl
  case A =>
    intro w
    show He5.obsA [] [PU.dMd] _ = He5.valA [PU.dMd]
    kernel_rfl
  case E =>
    intro w
    kernel_rfl

