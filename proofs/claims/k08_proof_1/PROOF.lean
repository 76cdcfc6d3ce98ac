import PyProof.Rows.All
import Wide.All
import OpenK.AllK
import Wide.FinOn
import HandS.TupSets
import KE.KeyNested
import KE.SortData
import HandS.ForMost
import HandS.IsInst
import HandS.TupAny
import HandS.TupLe
import HandS.Wide
import HandS.Codes
import HandS.TupMul
import HandS.OwnEq
import HandS.Conv
import PyProof.InstNe
import KE.DataCmp
import HandS.Iter
import KE.GoesMore
import HandS.Style
import HandS.Strs
import KE.KDictKeyed
import KE.KDictPairs
import KE.KDictWalk
import KE.KDictList
import PyProof.Rows.SeqRoads
import HandS.ForExc
import HandS.Lambda
import HandS.Zip
import HandS.Rev
import HandS.Comp
import HandS.Walk
import HandS.Deep
import HandS.SortInts
import HandS.More
import HandS.RaiseMore
import HandS.ExcField
import KE.KExcIs
import HandS.TupLen
import HandS.WordsDict
import HandS.Dict
import HandS.RevRange
import HandS.Text
import HandS.DeepEq
import HandS.TryMany
import HandS.ExcValue
import HandS.ExcInit
import KE.GoesEnum
import HandS.HotCalls
import HandS.EndTab
import HandS.EndBits
import PySem.Challenge.RW_turnsneeded_k08_whole_spoilt_texts_of_pr
set_option Elab.async false
set_option linter.all false
set_option maxRecDepth 100000
/-! Sets of readings: a reading's key is (reader, read, step), a tuple with a tuple of whole numbers inside it. -/
namespace RS
open PySem PySem.Spec PyProof.Rows L2
abbrev RK := Int × Int × List Int
def nk (k : RK) : NestedKey := .tup [.num k.1, .num k.2.1, .tup (k.2.2.map .num)]
theorem nums_inj : ∀ {xs ys : List Int}, xs.map NestedKey.num = ys.map NestedKey.num → xs = ys
  | [], [], _ => rfl
  | [], _ :: _, h => by cases h
  | _ :: _, [], h => by cases h
  | x :: xs, y :: ys, h => by
    injection h with h1 h2
    injection h1 with h1
    rw [h1, nums_inj h2]
theorem nk_inj {j k : RK} (h : nk j = nk k) : j = k := by
  obtain ⟨a, b, c⟩ := j
  obtain ⟨a', b', c'⟩ := k
  unfold nk at h
  injection h with h
  injection h with h1 h
  injection h with h2 h
  injection h with h3 _
  injection h1 with h1
  injection h2 with h2
  injection h3 with h3
  dsimp only at h1 h2 h3
  rw [h1, h2, nums_inj h3]
theorem nums_depth : ∀ xs : List Int, NestedKey.depthAll (xs.map .num) = 0
  | [] => rfl
  | x :: xs => by
    show max (NestedKey.depth (.num x)) (NestedKey.depthAll (xs.map .num)) = 0
    rw [nums_depth xs]
    rfl
theorem nk_depth (k : RK) : (nk k).depth = 2 := by
  show max 0 (max 0 (max (NestedKey.depthAll (k.2.2.map .num) + 1) 0)) + 1 = 2
  rw [nums_depth]
  rfl
/-- the tuple at a is the reading k -/
def IsR (h : Heap) (k : RK) (a : Addr) : Prop := NestedIs h (nk k) (.ref a)
theorem IsR.inj {h : Heap} {a : Addr} {j k : RK} (x : IsR h j a) (y : IsR h k a) : j = k := nk_inj (NestedIs.inj _ _ _ x y)
theorem IsR.keep {h h' : Heap} {k : RK} {a : Addr} (x : IsR h k a) (m : ∀ c o, h.get? c = some o → h'.get? c = some o) : IsR h' k a := NestedIs.at (fun c o _ _ e _ => m c o e) _ _ x
/-- but for the object at d, which is no tuple and no list -/
theorem IsR.but {h h' : Heap} {k : RK} {a d : Addr} {o : Obj} {es ep t} (x : IsR h k a) (ho : h.get? d = some o) (hd : o.data = .set es ep t) (m : Heap.SameBut d h h') : IsR h' k a :=
  NestedIs.at (fun c u vs n e q => (m.2 c (fun z => by rw [z, ho] at e; cases e; rw [hd] at q; cases q)).trans e) _ _ x
@[irreducible] def rh (w : World) (k : RK) : Int := (nk k).hash w

section
variable {P : Program} {w : World} {A : Around} {E : Value → Shared → Prop} {s : Shared}
/-! ### questions asked of an item ahead of a search -/
abbrev NoCls (P : Program) (w : World) (n : Nat) (s : Shared) (v : Value) : Prop := ∀ (A : Around) (E : Value → Shared → Prop) (Q : Bool → Shared → Prop), Q false s → wpAny (model P w) A (ofAClassStatement n v) Q E s
abbrev ByVal (P : Program) (w : World) (n : Nat) (s : Shared) (v : Value) : Prop := ∀ (A : Around) (E : Value → Shared → Prop) (Q : Bool → Shared → Prop), Q true s → wpAny (model P w) A (hashByValue n v) Q E s
theorem noCls_plain {n : Nat} {v : Value} (hv : ∀ a, v ≠ .ref a) : NoCls P w n s v := fun A E Q q => by
  cases v with
  | ref a => exact absurd rfl (hv a)
  | _ => cases n <;> exact wpAny_pure q
theorem noCls_tup {n m : Nat} {a : Addr} {o : Obj} {vs : Array Value} (ho : s.heap.get? a = some o) (hc : o.cls = .type "tuple") (hd : o.data = .seq vs m) (hq : ∀ v ∈ vs.toList, NoCls P w n s v) : NoCls P w (n + 1) s (.ref a) := fun A E Q q => by
  have ty : s.TypeIs (.ref a) "tuple" := ⟨o, ho, hc⟩
  have tt : (("tuple" : String) == "tuple") = true := by decide
  unfold ofAClassStatement
  refine wpAny_bind (wpAny_typeOf ty ?_)
  dsimp only
  simp only [tt, if_true, Bool.not_true, Bool.false_eq_true, if_false]
  try refine wpAny_bind (wpAny_pure ?_)
  try simp only [Bool.not_true, Bool.false_eq_true, if_false]
  show wpAny _ _ (seqItems? (.ref a) >>= _) _ _ s
  refine wpAny_bind (wpAny_seqItems ho hd ?_)
  dsimp only
  refine wpAny_bind ?_
  show wpAny _ _ (forIn vs _ _) _ _ s
  rw [← Array.forIn_toList]
  refine wpAny_forIn_list _ (fun rest r s1 => r.1 = none ∧ s1 = s ∧ ∀ v ∈ rest, NoCls P w n s v) _ ?_ ?_ _ _ ⟨rfl, rfl, hq⟩
  · rintro v rest r s1 ⟨hr, rfl, hall⟩
    refine wpAny_bind (hall v List.mem_cons_self _ _ _ ?_)
    simp only [Bool.false_eq_true, if_false]
    exact wpAny_pure ⟨rfl, rfl, fun u hu => hall u (List.mem_cons_of_mem _ hu)⟩
  · rintro ⟨r1, r2⟩ s1 ⟨hr, rfl, _⟩
    simp only at hr
    subst hr
    exact wpAny_pure q
theorem byVal_tup {n m : Nat} {a : Addr} {o : Obj} {vs : Array Value} (ho : s.heap.get? a = some o) (hc : o.cls = .type "tuple") (hd : o.data = .seq vs m) (hq : ∀ v ∈ vs.toList, ByVal P w n s v) : ByVal P w (n + 1) s (.ref a) := fun A E Q q => by
  have ty : s.TypeIs (.ref a) "tuple" := ⟨o, ho, hc⟩
  unfold hashByValue
  refine wpAny_bind (wpAny_specialOf ty F.slot_tuple_hash.lookup ?_)
  show wpAny _ _ (seqItems? (.ref a) >>= _) _ _ s
  refine wpAny_bind (wpAny_seqItems ho hd ?_)
  refine wpAny_bind ?_
  show wpAny _ _ (forIn vs _ _) _ _ s
  rw [← Array.forIn_toList]
  refine wpAny_forIn_list _ (fun rest r s1 => r.1 = none ∧ s1 = s ∧ ∀ v ∈ rest, ByVal P w n s v) _ ?_ ?_ _ _ ⟨rfl, rfl, hq⟩
  · rintro v rest r s1 ⟨hr, rfl, hall⟩
    refine wpAny_bind (hall v List.mem_cons_self _ _ _ ?_)
    simp only [Bool.not_true, Bool.false_eq_true, if_false]
    exact wpAny_pure ⟨rfl, rfl, fun u hu => hall u (List.mem_cons_of_mem _ hu)⟩
  · rintro ⟨r1, r2⟩ s1 ⟨hr, rfl, _⟩
    simp only at hr
    subst hr
    exact wpAny_pure q
/-- a key without texts: numbers and tuples of such -/
def plainK : NestedKey → Bool
  | .num _ => true
  | .tup ks => plainAll ks
  | _ => false
where plainAll : List NestedKey → Bool
  | [] => true
  | k :: ks => plainK k && plainAll ks
theorem nums_plain : ∀ xs : List Int, plainK.plainAll (xs.map .num) = true
  | [] => rfl
  | x :: xs => by
    show (plainK (.num x) && plainK.plainAll (xs.map .num)) = true
    rw [nums_plain xs]
    rfl
theorem nk_plain (k : RK) : plainK (nk k) = true := by
  show (true && (true && (plainK.plainAll (k.2.2.map .num) && true))) = true
  rw [nums_plain]
  rfl
mutual
theorem asked : ∀ (k : NestedKey) (v : Value) (n : Nat) (s : Shared), NestedIs s.heap k v → plainK k = true → k.depth ≤ n → NoCls P w n s v ∧ ByVal P w n s v
  | .none, _, _, _, _, p, _ => nomatch p
  | .text _, _, _, _, _, p, _ => nomatch p
  | .num i, _, n, s, x, _, _ => by
    cases x with
    | bool e => exact ⟨noCls_plain (fun a z => by cases z), fun A E Q q => by cases n <;> exact wpAny_pure q⟩
    | int i t => exact ⟨noCls_plain (fun a z => by cases z), fun A E Q q => by cases n <;> exact wpAny_pure q⟩
  | .tup ks, _, n, s, x, p, hn => by
    cases x with
    | tup hg hc hd hk =>
      simp only [NestedKey.depth] at hn
      cases n with
      | zero => omega
      | succ n =>
        have q := asked_all ks _ n s hk p (by omega)
        exact ⟨noCls_tup hg hc hd fun v hv => (q v hv).1, byVal_tup hg hc hd fun v hv => (q v hv).2⟩
theorem asked_all : ∀ (ks : List NestedKey) (vs : List Value) (n : Nat) (s : Shared), NestedAll s.heap ks vs → plainK.plainAll ks = true → NestedKey.depthAll ks ≤ n → ∀ v ∈ vs, NoCls P w n s v ∧ ByVal P w n s v
  | [], _, _, _, x, _, _, v, hv => by cases x; cases hv
  | k :: ks, _, n, s, x, p, hn, v, hv => by
    cases x with
    | cons x1 x2 =>
      simp only [NestedKey.depthAll] at hn
      have p2 : plainK k = true ∧ plainK.plainAll ks = true := Bool.and_eq_true_iff.mp p
      rcases List.mem_cons.mp hv with e | hv
      · rw [e]; exact asked k _ n s x1 p2.1 (by omega)
      · exact asked_all ks _ n s x2 p2.2 (by omega) v hv
end
theorem IsR.noCls {k : RK} {a : Addr} (x : IsR s.heap k a) : NoCls P w 8 s (.ref a) := (asked _ _ 8 s x (nk_plain k) (by rw [nk_depth]; decide)).1
theorem IsR.byVal {k : RK} {a : Addr} (x : IsR s.heap k a) : ByVal P w 8 s (.ref a) := (asked _ _ 8 s x (nk_plain k) (by rw [nk_depth]; decide)).2
theorem IsR.quiet {k : RK} {a : Addr} (x : IsR s.heap k a) : QuietAt P w 8 s (.ref a) := quiet_key _ _ 8 s x (by rw [nk_depth]; decide)
theorem IsR.hashed {k : RK} {a : Addr} {Q : Int → Shared → Prop} (x : IsR s.heap k a) (hu : A.units + 2 < cLine) (q : Q (rh w k) { s with toks := s.toks + (nk k).draws }) : wpAny (model P w) A (pyHash (.ref a)) Q E s := by
  unfold rh at q
  exact pyHash_key _ _ _ _ _ x (by rw [nk_depth]; exact hu) q
theorem IsR.same {j k : RK} {a b : Addr} {Q : Bool → Shared → Prop} (x : IsR s.heap j a) (y : IsR s.heap k b) (hu : A.units + 2 < cLine) (q : Q (decide (j = k)) s) : wpAny (model P w) A (eqBool (.ref a) (.ref b)) Q E s := by
  refine eqAt_key _ _ A s _ _ x y (by rw [nk_depth, nk_depth]; exact hu) _ _ _ _ ?_
  rw [← NestedKey.decide_eq]
  have e : decide (nk j = nk k) = decide (j = k) := decide_eq_decide.mpr ⟨nk_inj, congrArg nk⟩
  rw [e]
  exact q
/-- looking for a reading among readings asks nobody -/
theorem unseen {k : RK} {a : Addr} (x : IsR s.heap k a) {Q : Bool → Shared → Prop} {ys : List Value} (hy : ∀ y ∈ ys, ∃ j c, y = Value.ref c ∧ IsR s.heap j c) (q : Q false s) : wpAny (model P w) A (searchCouldBeSeen (.ref a) ys) Q E s := by
  unfold searchCouldBeSeen
  refine wpAny_bind ?_
  refine wpAny_forIn_list _ (fun rest r s1 => r.1 = none ∧ s1 = s ∧ ∀ y ∈ rest, ∃ j c, y = Value.ref c ∧ IsR s.heap j c) _ ?_ ?_ _ _ ⟨rfl, rfl, hy⟩
  · rintro v rest r s1 ⟨hr, rfl, hall⟩
    obtain ⟨j, c, rfl, hc⟩ := hall v List.mem_cons_self
    have more := fun u hu => hall u (List.mem_cons_of_mem _ hu)
    dsimp only
    by_cases very : (a == c || (carriedByValue (.ref a) && carriedByValue (.ref c))) = true
    · exact wp_if_pos very (wpAny_pure ⟨rfl, rfl, more⟩)
    · refine wp_if_neg very (wpAny_bind (x.quiet _ _ _ ?_))
      simp only [Bool.not_true, Bool.false_eq_true, if_false]
      refine wpAny_bind (hc.quiet _ _ _ ?_)
      simp only [Bool.not_true, Bool.false_eq_true, if_false]
      refine wpAny_bind (x.noCls _ _ _ ?_)
      simp only [Bool.false_eq_true, if_false]
      refine wpAny_bind (hc.noCls _ _ _ ?_)
      simp only [Bool.false_eq_true, if_false]
      exact wpAny_pure ⟨rfl, rfl, more⟩
  · rintro ⟨r1, r2⟩ s1 ⟨hr, rfl, _⟩
    simp only at hr
    subst hr
    exact wpAny_pure q
end
end RS
set_option Elab.async false
set_option linter.all false
set_option maxRecDepth 100000
namespace RS
open PySem PySem.Spec PyProof.Rows L2
abbrev Ks := List (Addr × RK)
abbrev hs (w : World) (L : Ks) : List Int := L.map fun p => rh w p.2
/-- how the entries of the set stand: hash, value -/
def ents (w : World) (L : Ks) : List (Int × Value) := L.map fun p => (rh w p.2, Value.ref p.1)
theorem ents_len {w : World} {L : Ks} {es : Array (Int × Value)} (e : es.toList = ents w L) : es.size = L.length := by
  have q := congrArg List.length e
  unfold ents at q
  rwa [Array.length_toList, List.length_map] at q
theorem ents_at {w : World} {L : Ks} {es : Array (Int × Value)} (e : es.toList = ents w L) {i : Nat} {p : Addr × RK} (h : L[i]? = some p) : es[i]? = some (rh w p.2, Value.ref p.1) := by
  rw [← Array.getElem?_toList, e]
  unfold ents
  rw [List.getElem?_map, h] <;> rfl
/-- a set of readings at a: its members L, in the order of their places -/
structure SetR (w : World) (h : Heap) (a : Addr) (L : Ks) (es : Array (Int × Value)) (ep : Nat) (t : SetTable) : Prop where
  ob : ∃ o, h.get? a = some o ∧ o.ExactSet ∧ o.data = .set es ep t
  rows : es.toList = ents w L
  tab : TabOk t (hs w L)
  nd : (L.map (·.2)).Nodup
  tup : ∀ p ∈ L, IsR h p.2 p.1
  plain : t.plain = true
  led : w.params.followText "set-order" = true ∨ t.led = true
  room : L.length * 5 < t.mask * 3
  few : L.length < 64
abbrev step (t : SetTable) (h : Int) (c : Nat) : SetTable.Probe := nth t.mask (runAt t.mask (SetTable.bits h % (t.mask + 1)) (SetTable.bits h)) c
theorem step_add (t : SetTable) (h : Int) (c q : Nat) : nth t.mask (step t h c) q = step t h (c + q) := (nth_add t.mask c _ q).symm
theorem step_j (t : SetTable) (h : Int) (c q : Nat) : (nth t.mask (step t h c) q).j = way t.mask h (c + q) := by rw [step_add]
theorem step_clean (t : SetTable) (h : Int) (c : Nat) : (step t h c).dummy = none := by
  have key : ∀ (n : Nat) (p : SetTable.Probe), p.dummy = none → (nth t.mask p n).dummy = none := by
    intro n
    induction n with
    | zero => exact fun p h => h
    | succ n ih =>
      intro p h
      refine ih (adv t.mask p) ?_
      unfold adv
      split <;> exact h
  exact key c _ rfl
section
variable {P : Program} {w : World} {A : Around} {E : Value → Shared → Prop} {s : Shared} {a : Addr} {L : Ks} {es : Array (Int × Value)} {ep : Nat} {t : SetTable}
theorem SetR.size (R : SetR w s.heap a L es ep t) : es.size = L.length := ents_len R.rows
theorem SetR.placed (R : SetR w s.heap a L es ep t) : t.place.toList.length = L.length := by
  have q := R.tab.sz
  rw [List.length_map] at q
  rw [Array.length_toList, q]
theorem SetR.fits (R : SetR w s.heap a L es ep t) : t.fits es.size = true := by
  have q := R.placed
  rw [Array.length_toList] at q
  have r := R.room
  unfold SetTable.fits SetTable.fill
  rw [R.tab.dm, Bool.and_eq_true, beq_iff_eq, decide_eq_true_eq, R.size]
  show t.place.size = L.length ∧ t.place.size + 0 ≤ t.mask
  omega
theorem SetR.holds (R : SetR w s.heap a L es ep t) : ¬ t.gaveWay = true := by
  unfold SetTable.gaveWay
  rw [mask_odd R.tab.mok]
  decide
/-- from the c-th place of its way on, the search for the reading k -/
theorem look_on (R : SetR w s.heap a L es ep t) {x : Addr} {k : RK} (hx : IsR s.heap k x) (hu : A.units + 2 < cLine) {m : Nat} (hm : m < 10 * SetTable.turns t.mask)
    (free : way t.mask (rh w k) m ∉ t.place.toList) (full : ∀ c, c < m → way t.mask (rh w k) c ∈ t.place.toList) {Q : SetFound → Shared → Prop}
    (yes : k ∈ L.map (·.2) → Q (.there none) s) (no : k ∉ L.map (·.2) → Q (.free (way t.mask (rh w k) m) false) s) :
    ∀ (f c : Nat) (from? : Option SetTable.Probe), from?.getD (t.probeStart (rh w k)) = step t (rh w k) c → c ≤ m → m - c < f →
      (∀ (i : Nat) p, L[i]? = some p → p.2 = k → ∃ d, c ≤ d ∧ d < m ∧ t.place.toList[i]? = some (way t.mask (rh w k) d)) →
      wpAny (model P w) A (setSearchFrom a (.ref x) (rh w k) true f from?) Q E s := by
  obtain ⟨o, ho, hex, hd⟩ := R.ob
  intro f
  induction f with
  | zero => exact fun c from? _ _ hf _ => absurd hf (Nat.not_lt_zero _)
  | succ f ih =>
    intro c from? hst hc hf again
    rw [setSearchFrom_succ]
    refine wpAny_bind (wpAny_setState_of ho hd R.fits ?_)
    dsimp only
    refine wp_if_neg R.holds ?_
    try refine wpAny_bind (wpAny_pure ?_)
    have jj : ∀ q, (nth t.mask (step t (rh w k) c) q).j = way t.mask (rh w k) (c + q) := step_j t (rh w k) c
    have hat : ∀ (i : Nat) p, L[i]? = some p → (fun i => (es[i]?.map (·.1)).getD 0) i = rh w p.2 := fun i p hp => by
      dsimp only
      rw [ents_at R.rows hp, Option.map_some, Option.getD_some]
    rcases go_spec t R.tab.ris R.tab.dm (fun i => (es[i]?.map (·.1)).getD 0) (rh w k) (10 * SetTable.turns t.mask) (m - c) (step t (rh w k) c) (step_clean t _ c) (by omega)
      (fun q hq => by rw [jj]; exact full (c + q) (by omega)) (by rw [jj, show c + (m - c) = m by omega]; exact free) with ⟨q, i, hq, hi, _, before, pr⟩ | ⟨before, pr⟩
    · have pr' : t.probe (fun i => (es[i]?.map (·.1)).getD 0) (rh w k) (from?.getD (t.probeStart (rh w k))) = some (.candidate (way t.mask (rh w k) (c + q)) i (step t (rh w k) (c + (q + 1)))) := by
        rw [hst, ← jj, ← step_add]
        exact pr
      rw [pr']
      dsimp only
      rw [jj] at hi
      have hil : i < L.length := by
        have z : i < t.place.toList.length := (List.getElem?_eq_some_iff.mp hi).1
        rw [R.placed] at z
        exact z
      obtain ⟨p, hp⟩ : ∃ p, L[i]? = some p := ⟨_, List.getElem?_eq_getElem hil⟩
      have inL : p ∈ L := List.mem_of_getElem? hp
      have here := ents_at R.rows hp
      have live : t.slot (way t.mask (rh w k) (c + q)) = .live i := slot_live R.tab.ris hi
      have after : wpAny (model P w) A (searchRest a (.ref x) (rh w k) true f es t (way t.mask (rh w k) (c + q)) i (step t (rh w k) (c + (q + 1)))) Q E s := by
        unfold searchRest
        rw [here]
        dsimp only
        refine wpAny_bind (wpAny_holding ((R.tup p inL).same hx hu ?_))
        refine wpAny_bind (wpAny_setState_of ho hd R.fits ?_)
        dsimp only
        by_cases hk : p.2 = k
        · exact wp_if_pos (by simp [hk]) (wpAny_pure (yes (List.mem_map.mpr ⟨p, inL, hk⟩)))
        · refine wp_if_neg (by simp [hk]) ?_
          try refine wpAny_bind (wpAny_pure ?_)
          rw [sameMem]
          dsimp only
          simp only [if_true, live, here]
          refine wpAny_bind (wpAny_isSame_ref_self (wpAny_bind (wpAny_pure ?_)))
          simp only [if_true]
          refine wp_if_neg (by simp [hk]) (ih (c + (q + 1)) _ rfl (by omega) (by omega) fun j r hr hrk => ?_)
          obtain ⟨d, d1, d2, d3⟩ := again j r hr hrk
          refine ⟨d, ?_, d2, d3⟩
          apply Classical.byContradiction
          intro z
          by_cases y : d = c + q
          · rw [y] at d3
            have e := slot_live R.tab.ris d3
            rw [live] at e
            injection e with e
            rw [← e, hp] at hr
            exact hk ((congrArg Prod.snd (Option.some.inj hr)).trans hrk)
          · exact before (d - c) j (by omega) (by rw [jj, show c + (d - c) = d by omega]; exact d3) ((hat j r hr).trans (congrArg (rh w) hrk))
      by_cases hl : t.led = true
      · refine wp_if_neg (by simp [hl]) ?_
        try refine wpAny_bind (wpAny_pure ?_)
        exact after
      · refine wp_if_pos (by simp [hl]) (wpAny_bind (unseen hx (fun y hy => ?_) ?_))
        · obtain ⟨e, he, rfl⟩ := List.mem_map.mp hy
          have he1 : e ∈ es ∧ e.1 = rh w k := by simpa using he
          have he2 : e ∈ es.toList := by simpa using he1.1
          rw [R.rows] at he2
          obtain ⟨r, hr, rfl⟩ := List.mem_map.mp he2
          exact ⟨r.2, r.1, rfl, R.tup r hr⟩
        · refine wp_if_neg (by decide) ?_
          try refine wpAny_bind (wpAny_pure ?_)
          exact after
    · have pr' : t.probe (fun i => (es[i]?.map (·.1)).getD 0) (rh w k) (from?.getD (t.probeStart (rh w k))) = some (.empty (way t.mask (rh w k) m) none) := by
        have e : way t.mask (rh w k) m = (nth t.mask (step t (rh w k) c) (m - c)).j := by rw [jj, show c + (m - c) = m by omega]
        rw [hst, e]
        exact pr
      rw [pr']
      dsimp only
      refine wpAny_pure (no fun hm' => ?_)
      obtain ⟨r, hr, hrk⟩ := List.mem_map.mp hm'
      obtain ⟨j, hj, rfl⟩ := List.getElem_of_mem hr
      obtain ⟨d, d1, d2, d3⟩ := again j _ (List.getElem?_eq_getElem hj) hrk
      exact before (d - c) j (by omega) (by rw [jj, show c + (d - c) = d by omega]; exact d3) ((hat j _ (List.getElem?_eq_getElem hj)).trans (congrArg (rh w) hrk))
/-- the search, as it is asked ahead of an addition -/
theorem look (R : SetR w s.heap a L es ep t) {x : Addr} {k : RK} (hx : IsR s.heap k x) (hu : A.units + 2 < cLine) {Q : SetFound → Shared → Prop} (yes : k ∈ L.map (·.2) → Q (.there none) s)
    (no : ∀ m, k ∉ L.map (·.2) → way t.mask (rh w k) m ∉ t.place.toList → (∀ c, c < m → way t.mask (rh w k) c ∈ t.place.toList) → Q (.free (way t.mask (rh w k) m) false) s) : wpAny (model P w) A (setSearch a (.ref x) (rh w k) true) Q E s := by
  have hroom := R.room
  obtain ⟨m, hm, free, full⟩ := R.tab.first (by rw [List.length_map]; omega) (rh w k)
  have small : 10 * SetTable.turns t.mask ≤ 1420 := by
    unfold SetTable.turns
    rcases R.tab.mok with e | e | e <;> omega
  unfold setSearch
  refine look_on R hx hu hm free full yes (fun z => no m z free full) 100000 0 none rfl (Nat.zero_le _) (by omega) fun i p hp hk => ?_
  have hi : (hs w L)[i]? = some (rh w k) := by rw [List.getElem?_map, hp, ← hk] <;> rfl
  have hil : i < t.place.toList.length := by rw [R.placed]; exact (List.getElem?_eq_some_iff.mp hp).1
  obtain ⟨c, hc, e⟩ := R.tab.before free hi (List.getElem?_eq_getElem hil)
  exact ⟨c, Nat.zero_le _, hc, by rw [List.getElem?_eq_getElem hil, e]⟩
end
end RS
set_option Elab.async false
set_option linter.all false
set_option maxRecDepth 100000
namespace RS
open PySem PySem.Spec PyProof.Rows L2
section
variable {P : Program} {w : World} {A : Around} {E : Value → Shared → Prop} {s : Shared} {a : Addr} {L : Ks} {es : Array (Int × Value)} {ep : Nat} {t : SetTable}
/-- entries picked out by an order of all places -/
theorem picked (ee : es.toList = ents w L) {order : Array Nat} (hp : order.toList.Perm (List.range L.length)) :
    ∃ M : Ks, (order.filterMap (es[·]?)).toList = ents w M ∧ M.Perm L ∧ hs w M = order.toList.map fun i => (es.map (·.1)).getD i 0 := by
  have pick : ∀ l : List Nat, (∀ i ∈ l, i < L.length) → l.filterMap (fun i => es[i]?) = ents w (l.filterMap fun i => L[i]?) ∧ hs w (l.filterMap fun i => L[i]?) = l.map fun i => (es.map (·.1)).getD i 0 := by
    intro l
    induction l with
    | nil => exact fun _ => ⟨rfl, rfl⟩
    | cons i l ih =>
      intro hl
      have hi := List.getElem?_eq_getElem (hl i List.mem_cons_self)
      have he := ents_at ee hi
      obtain ⟨e1, e2⟩ := ih fun j hj => hl j (List.mem_cons_of_mem _ hj)
      have e3 : (es.map (·.1)).getD i 0 = rh w (L[i]'(hl i List.mem_cons_self)).2 := by
        have e4 : (es.map (·.1))[i]? = some (rh w (L[i]'(hl i List.mem_cons_self)).2) := by rw [Array.getElem?_map, he, Option.map_some]
        rw [Array.getD_eq_getD_getElem?, e4, Option.getD_some]
      rw [List.filterMap_cons_some he, List.filterMap_cons_some hi, e1]
      refine ⟨by unfold ents; rw [List.map_cons], ?_⟩
      rw [List.map_cons, ← e2, e3]
      unfold hs
      rw [List.map_cons]
  have all : ∀ n, n ≤ L.length → (List.range n).filterMap (fun i => L[i]?) = L.take n := by
    intro n
    induction n with
    | zero => exact fun _ => rfl
    | succ n ih =>
      intro hn
      have e := List.getElem?_eq_getElem (show n < L.length from hn)
      rw [List.range_succ, List.filterMap_append, ih (Nat.le_of_succ_le hn), List.take_succ, e, List.filterMap_cons_some e]
      rfl
  obtain ⟨e1, e2⟩ := pick order.toList fun i hi => List.mem_range.mp (hp.mem_iff.mp hi)
  refine ⟨order.toList.filterMap fun i => L[i]?, ?_, ?_, e2⟩
  · rw [Array.toList_filterMap]
    exact e1
  · have q := hp.filterMap fun i => L[i]?
    rw [all L.length (Nat.le_refl _), List.take_length] at q
    exact q
/-- the table grows: laid anew -/
theorem regrown {o : Obj} (ho : s.heap.get? a = some o) (hex : o.ExactSet) (hd : o.data = .set es ep t) (ee : es.toList = ents w L) (T : TabOk t (hs w L)) (fit : L.length ≤ t.mask)
    (nd : (L.map (·.2)).Nodup) (tup : ∀ p ∈ L, IsR s.heap p.2 p.1) (pl : t.plain = true) (ld : w.params.followText "set-order" = true ∨ t.led = true) (few : L.length < 64) {wanted m : Nat}
    (hw : SetTable.sizeAbove wanted - 1 = m) (hm : MaskOk m) (hw2 : SetTable.sizeAbove wanted ≤ 128) (room : L.length * 5 < m * 3) {Q : Unit → Shared → Prop}
    (q : ∀ h' M es' ep' t', Heap.SameBut a s.heap h' → SetR w h' a M es' ep' t' → M.Perm L → Q () { s with heap := h' }) : wpAny (model P w) A (setRelay a wanted) Q E s := by
  have sz := ents_len ee
  have pz : t.place.size = L.length := by
    have z := T.sz
    rwa [List.length_map] at z
  have fits : t.fits es.size = true := by
    unfold SetTable.fits SetTable.fill
    rw [T.dm, Bool.and_eq_true, beq_iff_eq, decide_eq_true_eq, sz]
    show t.place.size = L.length ∧ t.place.size + 0 ≤ t.mask
    omega
  obtain ⟨u, order, e, hp, U, em, el, eP, _⟩ := relaid_ok t (hs := es.map (·.1)) (wanted := wanted) hw hm (by rw [Array.size_map, sz]; omega)
  rw [Array.size_map, sz] at hp
  obtain ⟨M, m1, m2, m3⟩ := picked ee hp
  rw [← m3] at U
  have sz2 : (order.filterMap (es[·]?)).size = es.size := by rw [ents_len m1, m2.length_eq, sz]
  rw [setRelay_eq]
  refine wpAny_bind (wpAny_setState_of ho hd fits ?_)
  dsimp only
  refine wp_if_neg (by rw [sizeLine_eq]; omega) ?_
  try refine wpAny_bind (wpAny_pure ?_)
  rw [e]
  dsimp only
  refine wpAny_bind ?_
  refine wp_if_neg (by rw [sz2]; simp) ?_
  try refine wpAny_bind (wpAny_pure ?_)
  refine wpAny_pure ?_
  dsimp only
  refine wpAny_storeSet_of ho hd ?_ (by rw [sz2, sz, sizeLine_eq]; omega)
  have sb : Heap.SameBut a s.heap (s.heap.update a (Obj.putSet (order.filterMap (es[·]?)) u)) := Heap.SameBut.update ..
  exact q _ M _ (ep + 1) u sb ⟨⟨_, store_at ho hd, ⟨hex.1, hex.2.1, hex.2.2⟩, rfl⟩, m1, U, (m2.map (·.2)).nodup_iff.mpr nd, fun p hp => (tup p (m2.mem_iff.mp hp)).but ho hd sb,
    by rw [eP]; exact pl, by rw [el]; exact ld, by rw [m2.length_eq, em]; exact room, by rw [m2.length_eq]; exact few⟩ m2
/-- one reading is added -/
theorem added (R : SetR w s.heap a L es ep t) {x : Addr} {k : RK} (hx : IsR s.heap k x) (hu : A.units + 2 < cLine) (few : L.length + 1 < 64) {Q : Bool → Shared → Prop}
    (q : ∀ b h' M es' ep' t', Heap.SameBut a s.heap h' → SetR w h' a M es' ep' t' → (k ∈ L.map (·.2) → M = L) → (k ∉ L.map (·.2) → M.Perm ((x, k) :: L)) → Q b { s with heap := h' }) :
    wpAny (model P w) A (setAddHashed a (.ref x) (rh w k)) Q E s := by
  obtain ⟨o, ho, hex, hd⟩ := R.ob
  have room := R.room
  unfold setAddHashed
  refine wpAny_holding ?_
  rw [show (100000 : Nat) = 99999 + 1 from rfl, setAddHashedIn_succ]
  refine wpAny_bind (wpAny_setState_of ho hd R.fits ?_)
  dsimp only
  refine wp_if_neg (by simp [byScan, Value.scannable]) ?_
  try refine wpAny_bind (wpAny_pure ?_)
  refine wpAny_bind (look R hx hu (fun there => ?_) fun m new free full => ?_)
  · dsimp only
    exact wpAny_pure (q false s.heap L es ep t (Heap.SameBut.refl a s.heap) R (fun _ => rfl) fun z => absurd there z)
  dsimp only
  refine wpAny_bind (wpAny_setState_of ho hd R.fits ?_)
  dsimp only
  obtain ⟨z1, z2, z3, z4, z5, z6, z7, z8, z9⟩ := R.tab.put free full
  have pl : (t.put (way t.mask (rh w k) m)).1.plain = true := by rw [z6]; exact R.plain
  generalize t.put (way t.mask (rh w k) m) = both at z1 z3 z4 z5 z9 pl ⊢
  obtain ⟨u, at?⟩ := both
  dsimp only at z1 z3 z4 z5 z9 pl ⊢
  subst z1
  first
    | (refine wpAny_bind ?_; refine wp_if_pos pl ?_; refine hx.byVal _ _ _ ?_)
    | refine wp_if_pos pl (wpAny_bind (hx.byVal _ _ _ ?_))
  simp only [if_true]
  generalize SetTable.below t.place (way t.mask (rh w k) m) = i at z2 z3 ⊢
  have pm : (L.take i ++ (x, k) :: L.drop i).Perm ((x, k) :: L) := by
    have y : (L.take i ++ (x, k) :: L.drop i).Perm ((x, k) :: (L.take i ++ L.drop i)) := List.perm_middle
    rwa [List.take_append_drop] at y
  have ee : (SetTable.insertAt es i (rh w k, Value.ref x)).toList = ents w (L.take i ++ (x, k) :: L.drop i) := by
    rw [SetTable.toList_insertAt, R.rows]
    unfold ents
    rw [List.map_append, List.map_cons, List.map_take, List.map_drop]
  have eh : (hs w L).take i ++ rh w k :: (hs w L).drop i = hs w (L.take i ++ (x, k) :: L.drop i) := by
    unfold hs
    rw [List.map_append, List.map_cons, List.map_take, List.map_drop]
  rw [eh] at z3
  generalize SetTable.insertAt es i (rh w k, Value.ref x) = es1 at ee ⊢
  generalize L.take i ++ (x, k) :: L.drop i = M at pm ee z3
  have ml : M.length = L.length + 1 := pm.length_eq
  have nd : (M.map (·.2)).Nodup := (pm.map (·.2)).nodup_iff.mpr (by rw [List.map_cons]; exact List.nodup_cons.mpr ⟨new, R.nd⟩)
  have sz := ents_len ee
  refine wpAny_bind (wpAny_storeSet_of ho hd ?_ (by rw [sz, ml, sizeLine_eq]; omega))
  have sb : Heap.SameBut a s.heap (s.heap.update a (Obj.putSet es1 u)) := Heap.SameBut.update ..
  have ho1 := store_at (es' := es1) (t' := u) ho hd
  generalize s.heap.update a (Obj.putSet es1 u) = h1 at sb ho1 ⊢
  have tup : ∀ p ∈ M, IsR h1 p.2 p.1 := fun p hp => by
    rcases List.mem_cons.mp (pm.mem_iff.mp hp) with e | hp
    · rw [e]; exact hx.but ho hd sb
    · exact (R.tup p hp).but ho hd sb
  have ld : w.params.followText "set-order" = true ∨ u.led = true := by rw [z5]; exact R.led
  rw [List.length_map] at z9
  by_cases hf : u.tooFull = true
  · first
      | (refine wpAny_bind ?_; refine wp_if_pos (by simp [hf]) ?_)
      | (refine wp_if_pos (by simp [hf]) ?_; refine wpAny_bind ?_)
    have hfull := hf
    unfold SetTable.tooFull at hfull
    rw [decide_eq_true_eq, z9, z4] at hfull
    rw [R.size]
    have two : (t.mask = 7 ∧ L.length = 4) ∨ (t.mask = 31 ∧ L.length = 18) := by
      rcases R.tab.mok with e | e | e
      · rw [e] at hfull room; exact .inl ⟨e, by omega⟩
      · rw [e] at hfull room; exact .inr ⟨e, by omega⟩
      · rw [e] at hfull; omega
    have go : ∀ m', SetTable.sizeAbove (SetTable.grown (L.length + 1)) - 1 = m' → MaskOk m' → SetTable.sizeAbove (SetTable.grown (L.length + 1)) ≤ 128 → (L.length + 1) * 5 < m' * 3 →
        wpAny (model P w) A (setRelay a (SetTable.grown (L.length + 1))) (fun _ s' => wpAny (model P w) A (pure true) Q E s') E { s with heap := h1 } := fun m' y1 y2 y3 y4 =>
      regrown (s := { s with heap := h1 }) ho1 ⟨hex.1, hex.2.1, hex.2.2⟩ rfl ee z3 (by rw [z4, ml]; rcases two with ⟨e, e2⟩ | ⟨e, e2⟩ <;> omega) nd tup pl ld (by rw [ml]; exact few) y1 y2 y3 (by rw [ml]; exact y4)
        fun h2 N es2 ep2 t2 sb2 R2 pm2 => wpAny_pure (q true h2 N es2 ep2 t2 (sb.trans sb2) R2 (fun z => absurd z new) fun _ => pm2.trans pm)
    rcases two with ⟨_, e2⟩ | ⟨_, e2⟩
    · exact go 31 (by rw [e2, size_20]) (.inr (.inl rfl)) (by rw [e2, size_20]; decide) (by omega)
    · exact go 127 (by rw [e2, size_76]) (.inr (.inr rfl)) (by rw [e2, size_76]; decide) (by omega)
  · first
      | refine wp_if_neg (by simp [hf]) ?_
      | (refine wpAny_bind ?_; refine wp_if_neg (by simp [hf]) ?_; refine wpAny_pure ?_)
    have roomy := hf
    unfold SetTable.tooFull at roomy
    rw [decide_eq_true_eq, z9] at roomy
    exact wpAny_pure (q true h1 M es1 (ep + 1) u sb ⟨⟨_, ho1, ⟨hex.1, hex.2.1, hex.2.2⟩, rfl⟩, ee, z3, nd, tup, pl, ld, by rw [ml]; omega, by rw [ml]; exact few⟩ (fun z => absurd z new) fun _ => pm)
theorem SetR.keep {h h' : Heap} (R : SetR w h a L es ep t) (ha : ∀ o, h.get? a = some o → h'.get? a = some o) (ht : ∀ p ∈ L, IsR h' p.2 p.1) : SetR w h' a L es ep t := by
  obtain ⟨o, ho, r⟩ := R.ob
  exact ⟨⟨o, ha o ho, r⟩, R.rows, R.tab, R.nd, ht, R.plain, R.led, R.room, R.few⟩
theorem setR_new {h : Heap} (ho : h.get? a = some { cls := .type "set", dict := none, data := .set #[] 0 (.fresh 0 0 (!w.params.followText "set-order")) }) : SetR w h a [] #[] 0 (.fresh 0 0 (!w.params.followText "set-order")) := by
  refine ⟨⟨_, ho, ⟨rfl, rfl, rfl⟩, rfl⟩, rfl, ⟨List.Pairwise.nil, rfl, rfl, .inl rfl, fun x hx => (by cases hx), fun i h j hi => (by simp at hi)⟩, List.nodup_nil, fun p hp => (by cases hp), rfl, ?_, (by show 0 * 5 < 7 * 3; decide), (by show 0 < 64; decide)⟩
  show _ ∨ (!w.params.followText "set-order") = true
  cases w.params.followText "set-order"
  · exact .inr rfl
  · exact .inl rfl
/-- what the first i items have brought into the set -/
structure Has (ks : Ks) (i : Nat) (L : Ks) : Prop where
  sub : ∀ p ∈ L, p ∈ ks.take i
  all : ∀ p ∈ ks.take i, p.2 ∈ L.map (·.2)
  len : L.length ≤ i
theorem Has.next {ks : Ks} {i : Nat} {M : Ks} {p : Addr × RK} (g : Has ks i L) (h : ks[i]? = some p) (c1 : p.2 ∈ L.map (·.2) → M = L) (c2 : p.2 ∉ L.map (·.2) → M.Perm (p :: L)) : Has ks (i + 1) M := by
  have e : ks.take (i + 1) = ks.take i ++ [p] := by rw [List.take_succ, h]; rfl
  rcases Classical.em (p.2 ∈ L.map (·.2)) with c | c
  · rw [c1 c]
    refine ⟨fun r hr => ?_, fun r hr => ?_, Nat.le_succ_of_le g.len⟩
    · rw [e]; exact List.mem_append_left _ (g.sub r hr)
    · rw [e] at hr
      rcases List.mem_append.mp hr with z | z
      · exact g.all r z
      · rw [List.mem_singleton.mp z]; exact c
  · have pm := c2 c
    refine ⟨fun r hr => ?_, fun r hr => ?_, ?_⟩
    · rw [e]
      rcases List.mem_cons.mp (pm.mem_iff.mp hr) with z | z
      · rw [z]; exact List.mem_append_right _ List.mem_cons_self
      · exact List.mem_append_left _ (g.sub r z)
    · rw [(pm.map (·.2)).mem_iff, List.map_cons]
      rw [e] at hr
      rcases List.mem_append.mp hr with z | z
      · exact List.mem_cons_of_mem _ (g.all r z)
      · rw [List.mem_singleton.mp z]; exact List.mem_cons_self
    · rw [pm.length_eq]
      exact Nat.succ_le_succ g.len
/-- the loop that fills a set from what is walked -/
theorem filled {I : Addr} {fp wr : List Addr} {G : Array GenState → Array GenState → Prop} {n : Nat} {Pv : Nat → Value → Prop} {St : Nat → Shared → Prop} {R : Result → Shared → Prop}
    (W : WalksS P w A.in1 I fp wr G n Pv St) (S : Addr) (hSf : S ∉ fp) (ks : Ks) (hn : n = ks.length) (few : ks.length < 64) (hval : ∀ i v, Pv i v → ∃ p, ks[i]? = some p ∧ v = .ref p.1)
    (h0 : Heap) (hk : ∀ p ∈ ks, IsR h0 p.2 p.1) (hS0 : h0.get? S = none) (hw0 : ∀ b ∈ wr, h0.get? b = none) (hu : A.in1.units + 2 < cLine) :
    ∀ (k i : Nat) (s : Shared), n - i = k → i ≤ n → St i s → (∀ b o, h0.get? b = some o → s.heap.get? b = some o) → (∃ L es ep t, SetR w s.heap S L es ep t ∧ Has ks i L) →
      (∀ s' L es ep t, Moved (S :: wr) G s s' → SetR w s'.heap S L es ep t → Has ks n L → (∀ b o, h0.get? b = some o → s'.heap.get? b = some o) → R (.ok (.ret .none)) s') →
      codeAny (model P w) A (.builtin "set.update.loop" ⟨[.ref S, .ref I], []⟩) R s := by
  have hSw : S ∉ wr := fun h => hSf (W.sub _ h)
  have hsub : ∀ b ∈ wr, b ∈ S :: wr := fun b hb => List.mem_cons_of_mem _ hb
  have old : ∀ {s s' : Shared}, Moved wr G s s' → (∀ b o, h0.get? b = some o → s.heap.get? b = some o) → ∀ b o, h0.get? b = some o → s'.heap.get? b = some o := fun hm kp b o e =>
    hm.heap b o (fun hb => by rw [hw0 b hb] at e; cases e) (kp b o e)
  intro k
  induction k with
  | zero =>
    intro i s hk' hi st kp ⟨L, es, ep, t, hS, g⟩ q
    obtain rfl : i = n := by omega
    refine codeAny_builtin F.entry_set_update_loop ?_
    rw [Around.under_plainId F.plain_set_update_loop _]
    show wpAny _ A.in1 (pyNext (.ref I) >>= _) _ _ s
    refine wpAny_bind (W.done s _ _ st fun s' hm => ?_)
    show wpAny _ A.in1 (ret Value.none) _ _ s'
    exact wpAny_pure (q s' L es ep t (hm.mono hsub) (hS.keep (fun o e => hm.heap S o hSw e) fun p hp => (hk p (List.mem_of_mem_take (g.sub p hp))).keep (old hm kp)) g (old hm kp))
  | succ k ih =>
    intro i s hk' hi st kp ⟨L, es, ep, t, hS, g⟩ q
    have lt : i < n := by omega
    refine codeAny_builtin F.entry_set_update_loop ?_
    rw [Around.under_plainId F.plain_set_update_loop _]
    show wpAny _ A.in1 (pyNext (.ref I) >>= _) _ _ s
    refine wpAny_bind (W.item i s _ _ lt st fun v s' hP st' hm => ?_)
    obtain ⟨p, hp, rfl⟩ := hval i v hP
    have kp' := old hm kp
    have hS' : SetR w s'.heap S L es ep t := hS.keep (fun o e => hm.heap S o hSw e) fun r hr => (hk r (List.mem_of_mem_take (g.sub r hr))).keep kp'
    have hx : IsR s'.heap p.2 p.1 := (hk p (List.mem_of_getElem? hp)).keep kp'
    show wpAny _ A.in1 (holding [Value.ref p.1] (setAdd S (.ref p.1)) >>= _) _ _ s'
    refine wpAny_bind (wpAny_holding ?_)
    unfold setAdd
    refine wpAny_holding ?_
    refine wpAny_bind (hx.hashed hu ?_)
    refine added (s := { s' with toks := s'.toks + (nk p.2).draws }) hS' hx hu (by have := g.len; omega) fun b h' M es' ep' t' sb hM c1 c2 => ?_
    have kp2 : ∀ b o, h0.get? b = some o → h'.get? b = some o := fun b o e => (sb.2 b (fun z => by rw [z, hS0] at e; cases e)).trans (kp' b o e)
    refine wpAny_pure ⟨plainId_quiet F.plain_set_update_loop _, ih (i + 1) _ (by omega) lt (W.frame _ s' _ _ st' (Nat.le_add_right _ _) fun b hb o e => ?_) kp2 ⟨M, es', ep', t', hM, g.next hp c1 c2⟩ fun s'' N es2 ep2 t2 hm2 hN g2 kp3 => ?_⟩
    · rw [sb.2 b (fun h : b = S => hSf (by rw [← h]; exact hb))]; exact e
    · refine q s'' N es2 ep2 t2 (Moved.trans W.gtrans ((hm.mono hsub).then_heap (Nat.le_add_right _ _) fun b o hb e => ?_) hm2) hN g2 kp3
      rw [sb.2 b (fun h : b = S => hb (by rw [h]; exact List.mem_cons_self))]; exact e
end
end RS
set_option Elab.async false
set_option linter.all false
set_option maxRecDepth 100000
namespace RS
open PySem PySem.Spec PyProof.Rows L2
abbrev bareSet (w : World) : Obj := { cls := .type "set", dict := none, data := .set #[] 0 (.fresh 0 0 (!w.params.followText "set-order")) }
section
variable {P : Program} {w : World} {A : Around} {E : Value → Shared → Prop} {s : Shared}
theorem beyond {h : Heap} {b : Addr} (hb : h.objs.size ≤ b) : h.get? b = none := by
  cases q : h.get? b with
  | none => rfl
  | some o => exact absurd (Nat.lt_of_lt_of_le (Heap.lt_size q) hb) (Nat.lt_irrefl _)
set_option maxHeartbeats 3200000 in
/-- set(xs), xs a list of readings -/
theorem set_call {l : Addr} {items : Array Value} (ks : Ks) {Q : Value → Shared → Prop} (hh : A.handled = none) (hl : s.heap.IsList l items) (hit : items.toList = ks.map fun p => Value.ref p.1)
    (hk : ∀ p ∈ ks, IsR s.heap p.2 p.1) (few : ks.length < 64) (hu : A.units + 8 < cLine)
    (q : ∀ (h' : Heap) (tk : Nat) L es ep t, SetR w h' s.heap.objs.size L es ep t → Has ks ks.length L → (∀ b o, s.heap.get? b = some o → h'.get? b = some o) → Q (.ref s.heap.objs.size) { s with heap := h', toks := tk }) :
    wpAny (model P w) A (call (.type "set") [.ref l]) Q E s := by
  have many : items.size = ks.length := by
    have z := congrArg List.length hit
    rwa [Array.length_toList, List.length_map] at z
  obtain ⟨c, tl, hmro⟩ := F.called_set.mro
  have hmade := F.called_set.made
  have hsub := F.called_set.sub
  refine wpAny_call (codeAny_of_tree ?_)
  show wpAny _ _ (callAny (.type "set") _) _ _ _
  refine wpAny_pure ⟨Code.quiet_builtin _ (by decide +kernel), codeAny_builtin F.entry_type_call ?_⟩
  rw [Around.under_plain (weight_type_call_type "set" [.ref l] []) rfl]
  have h1 := F.called_set.notType
  have h2 := F.called_set.canCreate
  have hct := F.typeCall_set_1 (.ref l)
  repeat (any_goals (first | assumption | wp_step))
  refine codeAny_mono (code_set_led1 (.ref l) (E := E) (Q₁ := fun obj s1 => obj = .ref s.heap.objs.size ∧ s1 = { s with heap := s.heap.push (bareSet w) }) ⟨rfl, rfl⟩) fun r s1 hr => ?_
  cases r with
  | error e => exact hr
  | ok fl =>
    cases fl with
    | ret obj =>
      obtain ⟨rfl, rfl⟩ := hr
      have hS : (s.heap.push (bareSet w)).get? s.heap.objs.size = some (bareSet w) := Heap.get?_push_size _ rfl
      have hT : Shared.TypeIs { s with heap := s.heap.push (bareSet w) } (.ref s.heap.objs.size) "set" := ⟨_, hS, rfl⟩
      have hli := F.called_set.init.lookup
      have hbi := F.called_set.init.bind (.ref s.heap.objs.size)
      repeat (any_goals (first | assumption | wp_step))
      refine codeAny_mono (codeAny_call_builtin (R := wants (fun r s2 => r = .none ∧ ∃ h' tk L es ep t, s2 = { s with heap := h', toks := tk } ∧ SetR w h' s.heap.objs.size L es ep t ∧ Has ks ks.length L ∧
          (∀ b o, s.heap.get? b = some o → h'.get? b = some o)) E) F.called_set.init.plain F.entry_set_init (check_set_init_1 hT ?_)) fun r2 s2 hr2 => ?_
      · obtain ⟨ol, hol, hcl, nl, hdl⟩ := hl
        obtain ⟨ocls, odict, odata, oslots⟩ := ol
        simp only at hcl hdl
        subst hcl; subst hdl
        have hol' : (s.heap.push (bareSet w)).get? l = some { cls := .type "list", dict := odict, data := .seq items nl, slots := oslots } := Heap.get?_push_of_some _ hol
        have hsls := F.sub_list_set
        have hslf := F.sub_list_frozenset
        have hne : (Value.type "list" == Value.type "dict") = false := by decide
        have hl1 : (s.heap.push (bareSet w)).IsList l items := ⟨_, hol', rfl, nl, rfl⟩
        unfold Builtin.«set.__init__» noKeywords Builtin.Frozenset.updateFrom
        generalize hPI : pyIter = PI
        wp_walk
        subst hPI
        refine wpAny_pyIter_list hl1 ?_
        refine wpAny_bind (wpAny_runValue ?_)
        have lS : l < s.heap.objs.size := Heap.lt_size hol
        have hh3 : A.in1.in1.in1.handled = none := by simp [hh]
        have z1 : (s.heap.push (bareSet w)).objs.size = s.heap.objs.size + 1 := Heap.size_push ..
        have neI : l ≠ (s.heap.push (bareSet w)).objs.size := by
          rw [z1]; exact Nat.ne_of_lt (Nat.lt_succ_of_lt lS)
        have hSf : s.heap.objs.size ∉ [(s.heap.push (bareSet w)).objs.size, l] := by
          rw [z1]; simp only [List.mem_cons, List.mem_singleton, List.not_mem_nil, or_false, not_or]
          exact ⟨Nat.ne_of_lt (Nat.lt_succ_self _), Nat.ne_of_gt lS⟩
        have hval : ∀ (i : Nat) (v : Value), items[i]? = some v → ∃ p, ks[i]? = some p ∧ v = .ref p.1 := fun i v hv => by
          have z : items.toList[i]? = some v := by rw [Array.getElem?_toList]; exact hv
          rw [hit, List.getElem?_map] at z
          cases y : ks[i]? with
          | none => rw [y] at z; cases z
          | some p =>
            rw [y] at z
            exact ⟨p, rfl, (Option.some.inj z).symm⟩
        refine filled ((Walks.list hh3 _ l neI items).toS) s.heap.objs.size
          hSf ks many few hval s.heap hk (beyond (Nat.le_refl _)) (fun b hb => beyond (by
            rw [List.mem_singleton.mp hb, z1]
            exact Nat.le_succ _)) (by simp only [Around.in1_units] at *; omega) (items.size - 0) 0 _ (by omega) (Nat.zero_le _)
          ⟨⟨_, Heap.get?_push_size _ rfl, rfl, rfl⟩, (hl1.push _)⟩ (fun b o e => Heap.get?_push_of_some _ (Heap.get?_push_of_some _ e)) ?hS0 ?hR
        case hS0 =>
          exact ⟨[], #[], 0, _, setR_new (Heap.get?_push_of_some _ hS), ⟨fun p h => (by cases h), fun p h => (by simp at h), Nat.le_refl _⟩⟩
        case hR =>
          intro s' L es ep t hm hS' g' kp
          obtain ⟨h', g2, d', tk', os'⟩ := s'
          obtain rfl : g2 = s.gens := hm.gens
          obtain rfl : d' = s.drawn := hm.drawn
          obtain rfl : os' = s.os := hm.os
          show wpAny _ _ _ _ _ _
          refine wpAny_pure ?_
          show wpAny _ _ (ret Value.none) _ _ _
          rw [many] at g'
          exact wpAny_pure ⟨rfl, h', tk', L, es, ep, t, rfl, hS', g', kp⟩
      · cases r2 with
        | error e => exact hr2
        | ok fl2 =>
          cases fl2 with
          | ret r =>
            obtain ⟨rfl, h', tk, L, es, ep, t, rfl, hS', g', hk'⟩ := hr2
            repeat (any_goals (first | assumption | wp_step))
            exact q _ _ _ _ _ _ hS' g' hk'
          | _ => exact hr2.elim
    | _ => exact hr.elim
end
end RS
set_option Elab.async false
set_option linter.all false
set_option maxRecDepth 100000
namespace RS
open PySem PySem.Spec PyProof.Rows L2
/-! ### the order of readings -/
def rlt (j k : RK) : Prop := j.1 < k.1 ∨ (j.1 = k.1 ∧ (j.2.1 < k.2.1 ∨ (j.2.1 = k.2.1 ∧ j.2.2 < k.2.2)))
instance (j k : RK) : Decidable (rlt j k) := by unfold rlt; exact inferInstance
theorem rlt_irrefl (j : RK) : ¬ rlt j j := fun h => by
  rcases h with h | ⟨_, h | ⟨_, h⟩⟩
  · exact absurd h (Int.lt_irrefl _)
  · exact absurd h (Int.lt_irrefl _)
  · exact List.lt_irrefl _ h
theorem rlt_trans {i j k : RK} (x : rlt i j) (y : rlt j k) : rlt i k := by
  rcases x with x | ⟨x1, x⟩
  · rcases y with y | ⟨y1, _⟩
    · exact .inl (Int.lt_trans x y)
    · exact .inl (y1 ▸ x)
  · rcases y with y | ⟨y1, y⟩
    · exact .inl (x1 ▸ y)
    · refine .inr ⟨x1.trans y1, ?_⟩
      rcases x with x | ⟨x2, x⟩
      · rcases y with y | ⟨y2, _⟩
        · exact .inl (Int.lt_trans x y)
        · exact .inl (y2 ▸ x)
      · rcases y with y | ⟨y2, y⟩
        · exact .inl (x2 ▸ y)
        · exact .inr ⟨x2.trans y2, List.lt_trans x y⟩
theorem rlt_total (j k : RK) : rlt j k ∨ j = k ∨ rlt k j := by
  obtain ⟨a, b, c⟩ := j
  obtain ⟨a', b', c'⟩ := k
  rcases Int.lt_trichotomy a a' with h | rfl | h
  · exact .inl (.inl h)
  · rcases Int.lt_trichotomy b b' with h | rfl | h
    · exact .inl (.inr ⟨rfl, .inl h⟩)
    · by_cases h : c < c'
      · exact .inl (.inr ⟨rfl, .inr ⟨rfl, h⟩⟩)
      · by_cases h' : c' < c
        · exact .inr (.inr (.inr ⟨rfl, .inr ⟨rfl, h'⟩⟩))
        · have e : c = c' := List.le_antisymm (List.not_lt.mp h') (List.not_lt.mp h)
          exact .inr (.inl (by rw [e]))
    · exact .inr (.inr (.inr ⟨rfl, .inl h⟩))
  · exact .inr (.inr (.inl h))
theorem rlt_not {j k : RK} (h : ¬ rlt j k) : j = k ∨ rlt k j := (rlt_total j k).resolve_left h
/-- two rows without repetition, both ascending, with the same members, are one -/
theorem asc_one : ∀ {xs ys : List RK}, xs.Pairwise rlt → ys.Pairwise rlt → (∀ k, k ∈ xs ↔ k ∈ ys) → xs = ys
  | [], [], _, _, _ => rfl
  | [], y :: ys, _, _, h => absurd ((h y).mpr List.mem_cons_self) (by simp)
  | x :: xs, [], _, _, h => absurd ((h x).mp List.mem_cons_self) (by simp)
  | x :: xs, y :: ys, hx, hy, h => by
    obtain ⟨hx1, hx2⟩ := List.pairwise_cons.mp hx
    obtain ⟨hy1, hy2⟩ := List.pairwise_cons.mp hy
    have e : x = y := by
      rcases List.mem_cons.mp ((h x).mp List.mem_cons_self) with e | z
      · exact e
      · rcases List.mem_cons.mp ((h y).mpr List.mem_cons_self) with e | z'
        · exact e.symm
        · exact absurd (rlt_trans (hx1 y z') (hy1 x z)) (rlt_irrefl _)
    subst e
    rw [asc_one hx2 hy2 fun k => ⟨fun z => ?_, fun z => ?_⟩]
    · rcases List.mem_cons.mp ((h k).mp (List.mem_cons_of_mem _ z)) with e | z'
      · exact absurd (e ▸ hx1 k z) (rlt_irrefl _)
      · exact z'
    · rcases List.mem_cons.mp ((h k).mpr (List.mem_cons_of_mem _ z)) with e | z'
      · exact absurd (e ▸ hy1 k z) (rlt_irrefl _)
      · exact z'
def enc (k : RK) : PyData := .tuple [.int k.1, .int k.2.1, .tuple (k.2.2.map .int)]
theorem alike_enc (j k : RK) : PySem.W.alike (enc j) (enc k) = true := by
  unfold enc
  simp only [PySem.W.alike, PySem.W.alikeAll, PySem.W.alike_ints, Bool.and_true]
theorem lt_enc (j k : RK) : PySem.W.dataLt (enc j) (enc k) = decide (rlt j k) := by
  unfold enc
  have e0 : PyProof.Rows.lexLt itemOrd (PySem.W.keyToksAll []) (PySem.W.keyToksAll []) = false := lex_irrefl _
  have e1 : PySem.W.alike (.tuple (j.2.2.map .int)) (.tuple (k.2.2.map .int)) = true := by simp only [PySem.W.alike, PySem.W.alike_ints]
  have e2 : PySem.W.dataLt (.tuple (j.2.2.map .int)) (.tuple (k.2.2.map .int)) = decide (j.2.2 < k.2.2) := by
    rw [PySem.W.dataLt_tuple]
    exact PySem.W.dataLt_ints _ _
  have e3 : PyData.eqv (.tuple (j.2.2.map .int)) (.tuple (k.2.2.map .int)) = decide (j.2.2 = k.2.2) := by
    have key : ∀ xs ys : List Int, PyData.eqvAll (xs.map .int) (ys.map .int) = decide (xs = ys) := by
      intro xs
      induction xs with
      | nil => intro ys; cases ys <;> simp [PyData.eqvAll]
      | cons x xs ih =>
        intro ys
        cases ys with
        | nil => simp [PyData.eqvAll]
        | cons y ys =>
          simp [PyData.eqvAll, PyData.eqv, ih]
          by_cases e : x = y <;> simp [e]
    simp only [PyData.eqv, key]
  rw [PySem.W.dataLt_tuple, PySem.W.dataLt_cons (by simp only [PySem.W.alike]), PySem.W.dataLt_cons (by simp only [PySem.W.alike]), PySem.W.dataLt_cons e1, e0, e2, e3, PySem.W.dataLt_int, PySem.W.dataLt_int]
  simp only [PyData.eqv, beq_iff_eq]
  unfold rlt
  obtain ⟨a, b, c⟩ := j
  obtain ⟨a', b', c'⟩ := k
  dsimp only
  by_cases h1 : a = a'
  · by_cases h2 : b = b'
    · by_cases h3 : c = c'
      · simp [h1, h2, h3, List.lt_irrefl]
      · simp [h1, h2, h3]
    · simp [h1, h2]
  · simp [h1]
theorem depth_enc (k : RK) : (enc k).depth ≤ 2 := by
  unfold enc
  simp [PyData.depth, PyData.depthAll, PySem.W.depth_ints]
/-- the readings in their order, equal ones side by side -/
def ordered (L : Ks) : Ks := L.mergeSort (PySem.W.dataLe false fun p => enc p.2)
theorem le_enc : (PySem.W.dataLe false fun p : Addr × RK => enc p.2) = fun p q => !decide (rlt q.2 p.2) := by
  funext p q
  rw [PySem.W.dataLe_eq]
  show (!PySem.W.dataLt (enc q.2) (enc p.2)) = _
  rw [lt_enc]
theorem ordered_perm (L : Ks) : (ordered L).Perm L := List.mergeSort_perm _ _
theorem ordered_asc (L : Ks) : (ordered L).Pairwise fun p q => ¬ rlt q.2 p.2 := by
  unfold ordered
  rw [le_enc]
  refine (List.pairwise_mergeSort (fun p q r h1 h2 => ?_) (fun p q => ?_) L).imp fun {p q} h => by simpa using h
  · simp only [Bool.not_eq_true', decide_eq_false_iff_not] at h1 h2 ⊢
    intro z
    rcases rlt_not h1 with e | h1'
    · exact h2 (e ▸ z)
    · exact h2 (rlt_trans z h1')
  · simp only [Bool.or_eq_true, Bool.not_eq_true', decide_eq_false_iff_not]
    rcases rlt_total q.2 p.2 with h | h | h
    · exact .inr fun z => rlt_irrefl _ (rlt_trans h z)
    · exact .inl fun z => rlt_irrefl _ (h ▸ z)
    · exact .inl fun z => rlt_irrefl _ (rlt_trans h z)
theorem ordered_strict {L : Ks} (nd : (L.map (·.2)).Nodup) : ((ordered L).map (·.2)).Pairwise rlt := by
  have n2 : ((ordered L).map (·.2)).Nodup := ((ordered_perm L).map _).nodup_iff.mpr nd
  have q : ((ordered L).map (·.2)).Pairwise fun j k => ¬ rlt k j := List.pairwise_map.mpr (ordered_asc L)
  exact (List.Pairwise.and q n2).imp fun {j k} h => (rlt_not h.1).elim (fun e => absurd e.symm h.2) id
section
variable {P : Program} {w : World} {A : Around} {E : Value → Shared → Prop} {s : Shared}
theorem reads_ints {h : Heap} : ∀ {xs : List Int} {vs : List Value}, IntsAre vs xs → ∃ as, ReadsAll h vs (xs.map .int) as
  | _, _, .nil => ⟨_, .nil⟩
  | _, _, .cons i t r => by
    obtain ⟨as, q⟩ := reads_ints r
    exact ⟨_, .cons (.int i t) q⟩
end
end RS
set_option Elab.async false
set_option linter.all false
set_option maxRecDepth 100000
namespace RS
open PySem PySem.Spec PyProof.Rows L2
def refs (L : Ks) : List Value := L.map fun p => Value.ref p.1
section
variable {P : Program} {w : World} {A : Around} {E : Value → Shared → Prop} {s : Shared}
/-- the tuple at a reads as the reading k -/
def ReadR (h : Heap) (k : RK) (a : Addr) : Prop := Reads h (.ref a) (enc k) []
theorem isT_ref : ∀ (L : Ks), PySem.W.EachIs (fun (v : Value) (p : Addr × RK) => v = .ref p.1) (refs L) L
  | [] => .nil
  | p :: L => .cons rfl (isT_ref L)
theorem refs_of : ∀ {out : List Value} {L : Ks}, PySem.W.EachIs (fun (v : Value) (p : Addr × RK) => v = .ref p.1) out L → out = refs L
  | _, _, .nil => rfl
  | _, _, .cons h t => by rw [h, refs_of t]; rfl
theorem each_read {h : Heap} : ∀ {L : Ks}, (∀ p ∈ L, ReadR h p.2 p.1) → PySem.W.EachIs (fun (v : Value) (p : Addr × RK) => ∃ as, Reads h v (enc p.2) as) (refs L) L
  | [], _ => .nil
  | p :: L, q => .cons ⟨_, q p List.mem_cons_self⟩ (each_read fun r hr => q r (List.mem_cons_of_mem _ hr))
theorem all_alike (L : Ks) : PySem.W.AllAlike (L.map fun p => enc p.2) := PySem.W.AllAlike.of fun _ _ => alike_enc _ _
theorem sortable (L : Ks) : PySem.W.Sortable (L.map fun p => enc p.2) := PySem.W.Sortable.tuples fun p => ⟨.int p.2.1, [.int p.2.2.1, .tuple (p.2.2.2.map .int)], rfl⟩
/-- sorted(xs) of a list of readings -/
theorem sorted_rows {l : Addr} {L : Ks} {Q : Value → Shared → Prop} (hl : s.heap.IsList l (refs L).toArray) (hr : ∀ p ∈ L, ReadR s.heap p.2 p.1) (few : L.length ≤ 1000) (hu : A.units + 8 < cLine)
    (q : Q (.ref (s.heap.objs.size + 1)) { s with heap := sortedAll s.heap (refs L) (refs (ordered L)).toArray }) : wpAny (model P w) A (call (.builtin "sorted") [.ref l]) Q E s :=
  PySem.W.sorted_data (R := fun v p => v = .ref p.1) (enc := fun p : Addr × RK => enc p.2) hl (isT_ref L) (each_read hr) (all_alike L) (sortable L) (by rw [sizeLine_eq]; omega)
    (fun p _ => by have := depth_enc p.2; omega) fun out _ e => by rw [refs_of e]; exact q
/-- sorted(x) of a set of readings -/
theorem sorted_set {a : Addr} {L : Ks} {es : Array (Int × Value)} {ep : Nat} {t : SetTable} {Q : Value → Shared → Prop} (R : SetR w s.heap a L es ep t) (hr : ∀ p ∈ L, ReadR s.heap p.2 p.1) (hh : A.handled = none) (hu : A.units + 8 < cLine)
    (q : ∀ s' p (c : Nat) (M : Ks), (∀ b o, s.heap.get? b = some o → s'.heap.get? b = some o) → s'.gens = s.gens → s'.os = s.os → s.heap.objs.size ≤ p →
      s'.heap.get? p = some (seqObj "list" (refs M).toArray c) → M.Perm L → (M.map (·.2)).Pairwise rlt → Q (.ref p) s') :
    wpAny (model P w) A (call (.builtin "sorted") [.ref a]) Q E s := by
  obtain ⟨o, ho, hex, hd⟩ := R.ob
  have sz := R.size
  have few := R.few
  refine Calls.call_function_entry kind_sorted plain_sorted entry_sorted (args_sorted1 _) ?_
  unfold Builtin.«sorted»
  refine wpAny_bind (m := checkCount "sorted" 1 1 _) (wpAny_pure ?_)
  refine wpAny_bind (collect_set (A := A.in1) hh ⟨o, ho, hex.1, hd⟩ R.fits (by unfold scanBound; omega) R.tab.ris R.led fun s1 vs k1 hz g1 o1 pm => ?_)
  have vals : es.toList.map (·.2) = refs L := by
    rw [R.rows]
    unfold ents refs
    rw [List.map_map]
    rfl
  rw [vals] at pm
  have back : ∀ vs : List Value, (∀ v ∈ vs, ∃ p ∈ L, v = Value.ref p.1) → ∃ N : Ks, vs = refs N ∧ ∀ p ∈ N, p ∈ L := by
    intro vs
    induction vs with
    | nil => exact fun _ => ⟨[], rfl, fun p hp => (by cases hp)⟩
    | cons v vs ih =>
      intro hv
      obtain ⟨p, hp, e⟩ := hv v List.mem_cons_self
      obtain ⟨N, e1, hs⟩ := ih fun u hu => hv u (List.mem_cons_of_mem _ hu)
      refine ⟨p :: N, by rw [e, e1]; rfl, fun r hr => ?_⟩
      rcases List.mem_cons.mp hr with z | z
      · rw [z]; exact hp
      · exact hs r z
  obtain ⟨N, rfl, inL⟩ := back vs fun v hv => by
    obtain ⟨p, hp, e⟩ := List.mem_map.mp (pm.mem_iff.mp hv)
    exact ⟨p, hp, e.symm⟩
  have one : ∀ p ∈ L, ∀ r ∈ L, p.1 = r.1 → p = r := fun p hp r hr e => by
    have x := R.tup p hp
    rw [e] at x
    exact Prod.ext e (x.inj (R.tup r hr))
  have nL : L.Nodup := List.Pairwise.of_map (fun p : Addr × RK => p.2) (fun _ _ hne e => hne (congrArg (·.2) e)) R.nd
  have nref : (refs L).Nodup := by
    refine List.pairwise_map.mpr (List.Pairwise.imp_of_mem (fun {p r} hp hr hne e => ?_) nL)
    injection e with e
    exact hne (one p hp r hr e)
  have nN : N.Nodup := List.Pairwise.of_map (fun p : Addr × RK => Value.ref p.1) (fun _ _ hne e => hne (congrArg (fun p : Addr × RK => Value.ref p.1) e)) (pm.nodup_iff.mpr nref)
  have pN : N.Perm L := (List.perm_ext_iff_of_nodup nN nL).mpr fun p => ⟨inL p, fun hp => by
    obtain ⟨r, hr, e⟩ := List.mem_map.mp (pm.mem_iff.mpr (List.mem_map.mpr ⟨p, hp, rfl⟩))
    injection e with e
    rw [← one r (inL r hr) p hp e]
    exact hr⟩
  have len : (refs N).length = L.length := by rw [pm.length_eq]; unfold refs; rw [List.length_map]
  refine wpAny_bind (wpAny_newList ?_ (by rw [sizeLine_eq, len]; omega))
  have hoL : (s1.heap.push (seqObj "list" (refs N).toArray 0)).get? s1.heap.objs.size = some (seqObj "list" (refs N).toArray 0) := Heap.get?_push_size _ rfl
  have rd : ∀ p ∈ N, ∃ as, Reads (s1.heap.push (seqObj "list" (refs N).toArray 0)) (.ref p.1) (enc p.2) as ∧ s1.heap.objs.size ∉ as := fun p hp => by
    exact ⟨[], PyProof.Rows.Reads.keeps (fun b o e => Heap.get?_push_of_some _ (k1 b o e)) (hr p (inL p hp)), by simp⟩
  have er : PySem.W.EachIs (fun (v : Value) (p : Addr × RK) => ∃ as, Reads (s1.heap.push (seqObj "list" (refs N).toArray 0)) v (enc p.2) as ∧ s1.heap.objs.size ∉ as) (refs N) N := by
    have go : ∀ M : Ks, (∀ p ∈ M, p ∈ N) → PySem.W.EachIs (fun (v : Value) (p : Addr × RK) => ∃ as, Reads (s1.heap.push (seqObj "list" (refs N).toArray 0)) v (enc p.2) as ∧ s1.heap.objs.size ∉ as) (refs M) M := by
      intro M
      induction M with
      | nil => exact fun _ => .nil
      | cons p M ih => exact fun z => .cons (rd p (z p List.mem_cons_self)) (ih fun r hr => z r (List.mem_cons_of_mem _ hr))
    exact go N fun _ z => z
  refine wpAny_bind (wpAny_holding (PySem.W.list_sort_data (R := fun v p => v = .ref p.1) (s := { s1 with heap := s1.heap.push (seqObj "list" (refs N).toArray 0) }) (enc := fun p : Addr × RK => enc p.2) hoL (isT_ref N) er (all_alike N) (sortable N) (by
    have z := pN.length_eq
    rw [sizeLine_eq]; omega) (fun p _ => by have := depth_enc p.2; simp only [Around.in1_units]; omega) fun out _ e => ?_))
  have e' : out = refs (ordered N) := refs_of e
  subst e'
  obtain ⟨c, hc⟩ := sortedHeap_at (vs := refs N) (out := (refs (ordered N)).toArray) hoL
  refine wpAny_pure ⟨_, rfl, q _ s1.heap.objs.size c (ordered N) (fun b u e => ?_) g1 o1 hz hc ((ordered_perm N).trans pN) (ordered_strict ((pN.map _).nodup_iff.mpr R.nd))⟩
  have z := k1 b u e
  have lt := Heap.lt_size z
  show (sortedHeap (s1.heap.push (seqObj "list" (refs N).toArray 0)) s1.heap.objs.size (refs N) _).get? b = some u
  rw [sortedHeap_old (Nat.ne_of_lt lt) (by rw [size_push']; exact Nat.lt_succ_of_lt lt)]
  exact Heap.get?_push_of_some _ z
end
end RS

namespace RS
open PySem PySem.Spec PyProof.Rows L2
/-! ### the rules over the layer -/
/-- the tuple at a is the reading k -/
def RdAt (K : PySem.W.Frag) (H : Hp) (a : Addr) (k : RK) : Prop := ∃ t, SqT K H a [.int k.1, .int k.2.1, .ref t] ∧ SqT K H t (k.2.2.map V.int)
section
variable {X : Cx} {pins : List (Addr × Obj)} {σ : L2.St} {H : Hp} {s : Shared}
theorem reads_of : ∀ {xs : List Int} {us : List Value}, Vals (xs.map V.int) us → NestedAll s.heap (xs.map .num) us ∧ ReadsAll s.heap us (xs.map .int) []
  | [], _, .nil => ⟨.nil, .nil⟩
  | x :: xs, _, .cons r t => by
    obtain ⟨tk, rfl⟩ := r
    obtain ⟨a, b⟩ := reads_of t
    exact ⟨.cons (.int x tk) a, .cons (.int x tk) b⟩
theorem rd_is {a : Addr} {k : RK} (I : Inv X pins σ H s) (h : RdAt X.K H a k) : IsR s.heap k a ∧ ReadR s.heap k a := by
  obtain ⟨t, h1, h2⟩ := h
  obtain ⟨its, r, ⟨o, ho, hc, n, hd⟩, _⟩ := I.tuple h1
  obtain ⟨its2, r2, ⟨o2, ho2, hc2, n2, hd2⟩, _⟩ := I.tuple h2
  obtain ⟨a1, a2⟩ := reads_of (s := s) r2
  cases r with
  | cons x1 r =>
    cases r with
    | cons x2 r =>
      cases r with
      | cons x3 r =>
        cases r
        obtain ⟨t1, rfl⟩ := x1
        obtain ⟨t2, rfl⟩ := x2
        cases x3
        exact ⟨.tup ho hc hd (by simpa using .cons (.int _ t1) (.cons (.int _ t2) (.cons (.tup ho2 hc2 hd2 (by simpa using a1)) .nil))),
          .tuple ho hc hd (by simpa using ReadsAll.cons (Reads.int k.1 t1) (.cons (.int k.2.1 t2) (.cons (as := []) (bs := []) (.tuple ho2 hc2 hd2 (by simpa using a2)) .nil)))⟩
/-- the set at a -/
structure SetK0 (w : World) (h : Heap) (a : Addr) (L : Ks) : Prop where
  ex : ∃ (es : Array (Int × Value)) (ep : Nat) (t : SetTable), (∃ o, h.get? a = some o ∧ o.ExactSet ∧ o.data = .set es ep t) ∧ es.toList = ents w L ∧ TabOk t (hs w L) ∧ (L.map (·.2)).Nodup ∧ t.plain = true ∧
    (w.params.followText "set-order" = true ∨ t.led = true) ∧ L.length * 5 < t.mask * 3 ∧ L.length < 64
def SetRO (w : World) (a : Addr) (L : Ks) : HO := .ext fun h => SetK0 w h a L
theorem vals_refs : ∀ (L : Ks), Vals (L.map fun p => V.ref p.1) (refs L)
  | [] => .nil
  | _ :: L => .cons rfl (vals_refs L)
theorem refs_vals : ∀ {L : Ks} {us : List Value}, Vals (L.map fun p => V.ref p.1) us → us = refs L
  | [], _, .nil => rfl
  | p :: L, _, .cons r t => by
    cases r
    rw [refs_vals t]
    rfl
theorem setRO_ok {P : Program} {w : World} {H : Hp} {h : Heap} {a : Addr} {L : Ks} (R : SetK0 w h a L) : ObjOk P w H h a (SetRO w a L) := by
  have ⟨es, ep, t, ⟨o, ho, r⟩, q⟩ := R.ex
  refine ⟨R, ⟨o, ho⟩, fun h1 h2 p k => ?_⟩
  have ⟨es', ep', t', ⟨o', ho', r'⟩, q'⟩ := SetK0.ex p
  exact ⟨es', ep', t', ⟨o', k o' ho', r'⟩, q'⟩
/-- set(xs) of a list of readings: some of its items, each reading once -/
def rSetR (K : PySem.W.Frag) (w : World) : List V → Hp → VK → Prop := fun xs H Q => ∃ (l : Addr) (ks : Ks), xs = [V.ref l] ∧ SqL K H l (ks.map fun p => V.ref p.1) ∧ (∀ p ∈ ks, RdAt K H p.1 p.2) ∧ ks.length < 64 ∧
  ∀ a L, H a = none → (∀ p ∈ L, p ∈ ks) → (∀ p ∈ ks, p.2 ∈ L.map (·.2)) → Q (.ref a) (upd H a (SetRO w a L))
theorem cr_setR (hc : X.calm = true) (hu : X.A.units + 64 < cLine) : CallR X (.type "set") (rSetR X.K X.w) := by
  intro pins s σ H xs us Q I r h
  obtain ⟨l, ks, rfl, hl, hk, few, q⟩ := h
  rw [Vals.ref1 r]
  obtain ⟨its, rv, pl, hz⟩ := I.list hl
  have hn : H s.heap.objs.size = none := I.hok.fresh (Nat.le_refl _)
  refine set_call (P := X.prog) (w := X.w) ks (I.ok.hd hc) pl.isList (by have z := refs_vals rv; unfold refs at z; simpa using z) (fun p hp => (rd_is I (hk p hp)).1) few (by omega) fun h' tk L es ep t R g k => ?_
  refine ⟨.ref s.heap.objs.size, upd H s.heap.objs.size (SetRO X.w s.heap.objs.size L), I.laid (t' := tk) k (Nat.le_refl _) (setRO_ok ⟨es, ep, t, R.ob, R.rows, R.tab, R.nd, R.plain, R.led, R.room, R.few⟩), rfl, q _ L hn (fun p hp => ?_) fun p hp => ?_⟩
  · exact List.mem_of_mem_take (g.sub p hp)
  · exact g.all p (by rw [List.take_length]; exact hp)
/-- sorted(x) of such a set: the readings ascending -/
def rSortSet (K : PySem.W.Frag) (w : World) : List V → Hp → VK → Prop := fun vs H Q => ∃ (a : Addr) (L : Ks), vs = [V.ref a] ∧ H a = some (SetRO w a L) ∧ (∀ p ∈ L, RdAt K H p.1 p.2) ∧
  ∀ (M : Ks) (p : Addr), M.Perm L → (M.map (·.2)).Pairwise rlt → M.length < 64 → H p = none → Q (.ref p) (upd H p (.lst (M.map fun q => V.ref q.1)))
theorem listed {s' : Shared} {p : Addr} {M : Ks} {c : Nat} (I : Inv X pins σ H s) (k : ∀ b o, s.heap.get? b = some o → s'.heap.get? b = some o) (g : s'.gens = s.gens) (o : s'.os = s.os) (hp : s.heap.objs.size ≤ p)
    (hg : s'.heap.get? p = some (seqObj "list" (refs M).toArray c)) (few : M.length ≤ 1000) : Inv X pins σ (upd H p (.lst (M.map fun q => V.ref q.1))) s' := by
  have hlen : (M.map fun q => V.ref q.1).length ≤ sizeLine := by rw [List.length_map, sizeLine_eq]; omega
  have hn : H p = none := I.hok.fresh hp
  have J : Inv X pins σ (upd H p (.lst (M.map fun q => V.ref q.1))) { s with heap := s'.heap, gens := s'.gens, drawn := s'.drawn, toks := s'.toks } :=
    I.call (ch := []) (Un.laid k hp hn) (I.hok.laid k hp ⟨hlen, refs M, c, vals_refs M, hg⟩) (by rw [g]; exact I.bare) (fun _ z => nomatch z)
  have e : s' = { s with heap := s'.heap, gens := s'.gens, drawn := s'.drawn, toks := s'.toks } := by
    cases s'
    cases s
    cases o
    rfl
  rw [e]
  exact J
theorem cr_sortSet (hc : X.calm = true) (hu : X.A.units + 64 < cLine) : CallR X (.builtin "sorted") (rSortSet X.K X.w) := by
  intro pins s σ H vs us Q I r h
  obtain ⟨a, L, rfl, ha, hk, q⟩ := h
  have R0 : SetK0 X.w s.heap a L := (I.hok a _ ha).1
  obtain ⟨es, ep, t, b1, b2, b3, b4, b5, b6, b7, b8⟩ := R0.ex
  rw [Vals.ref1 r]
  refine sorted_set (P := X.prog) ⟨b1, b2, b3, b4, fun p hp => (rd_is I (hk p hp)).1, b5, b6, b7, b8⟩ (fun p hp => (rd_is I (hk p hp)).2) (I.ok.hd hc) (by omega) fun s' p c M k g o hp hg pm pw => ?_
  have few : M.length < 64 := by rw [pm.length_eq]; exact b8
  exact ⟨.ref p, _, listed I k g o hp hg (by omega), rfl, q M p pm pw few (I.hok.fresh hp)⟩
/-- sorted(xs) of a list of readings -/
def rSortRows (K : PySem.W.Frag) : List V → Hp → VK → Prop := fun vs H Q => ∃ (a : Addr) (L : Ks), vs = [V.ref a] ∧ SqL K H a (L.map fun p => V.ref p.1) ∧ (∀ p ∈ L, RdAt K H p.1 p.2) ∧ L.length ≤ 1000 ∧
  ∀ (p : Addr), H p = none → Q (.ref p) (upd H p (.lst ((ordered L).map fun q => V.ref q.1)))
theorem cr_sortRows (hu : X.A.units + 64 < cLine) : CallR X (.builtin "sorted") (rSortRows X.K) := by
  intro pins s σ H vs us Q I r h
  obtain ⟨a, L, rfl, hl, hk, few, q⟩ := h
  rw [Vals.ref1 r]
  obtain ⟨its, rv, pl, hz⟩ := I.list hl
  have e := refs_vals rv
  subst e
  refine sorted_rows (P := X.prog) pl.isList (fun p hp => (rd_is I (hk p hp)).2) few (by omega) ?_
  obtain ⟨c, hc⟩ := sortedHeap_at (vs := refs L) (out := (refs (ordered L)).toArray) (PySem.W.copyHeap_at s.heap (refs L))
  refine ⟨.ref (s.heap.objs.size + 1), _, listed (M := ordered L) (c := c) I (fun b o e => ?_) rfl rfl (Nat.le_succ _) hc (by rw [(ordered_perm L).length_eq]; exact few), rfl, q _ (I.hok.fresh (Nat.le_succ _))⟩
  have lt := Heap.lt_size e
  show (sortedAll s.heap (refs L) _).get? b = some o
  unfold sortedAll
  rw [sortedHeap_old (Nat.ne_of_lt (Nat.lt_succ_of_lt lt)) (by rw [size_push', Heap.size_update, size_push']; exact Nat.lt_succ_of_lt (Nat.lt_succ_of_lt lt))]
  refine Heap.get?_push_of_some _ ?_
  rw [Heap.get?_update_ne _ _ _ _ (Nat.ne_of_lt lt)]
  exact Heap.get?_push_of_some _ e
end
end RS
set_option Elab.async false
set_option linter.all false
set_option maxRecDepth 100000
/-! What all laws' texts share: the built-in names, a def by its promise, heaps that grow, the pool. -/
namespace LB
open PySem PySem.Spec PyProof.Rows L2 RS
/-- the built-in names stand as they are -/
structure Bl (mg : Str → Option Value) : Prop where
  len : mg "len" = none
  int : mg "int" = none
  bool : mg "bool" = none
  str : mg "str" = none
  isinstance : mg "isinstance" = none
  tuple : mg "tuple" = none
  list : mg "list" = none
  dict : mg "dict" = none
  set : mg "set" = none
  sorted : mg "sorted" = none
  range : mg "range" = none
  abs : mg "abs" = none
  sum : mg "sum" = none
  all : mg "all" = none
  any : mg "any" = none
  enumerate : mg "enumerate" = none
  min : mg "min" = none
  max : mg "max" = none
  zip : mg "zip" = none
/-- a def of the module under its name -/
structure Df (K : PySem.W.Frag) (mg : Str → Option Value) (x : Str) (ps : List Str) (st : Stmt) (f : Addr) (fd : FuncData) : Prop where
  fn : Fun K x x st f fd
  at_ : mg x = some (.ref f)
  bd : Binds K fd ps []
/-- .. by its promise, at a level -/
structure Ca (P : Program) (w : World) (K : PySem.W.Frag) (mg : Str → Option Value) (base : Heap) (k : Nat) (x : Str) (sp : Sp) : Prop where
  ex : ∃ (f : Addr) (fd : FuncData) (ps : List Str), FnOk P w K mg base CX0 k f fd ps sp ∧ mg x = some (.ref f) ∧ PySem.W.keepIn K (.ref f) = true ∧ Binds K fd ps []
section
variable {P : Program} {w : World} {K : PySem.W.Frag} {mg : Str → Option Value} {base : Heap}
theorem Df.ca {x : Str} {ps N : List Str} {st : Stmt} {f : Addr} {fd : FuncData} {k : Nat} {sp : Sp} (D : Df K mg x ps st f fd) (S : FnScope N ps (defScope st)) (len : ∀ vs H Q E, sp vs H Q E → vs.length = ps.length)
    (body : ∀ (cdv : Value) (A : Around) (outer : List Env) (s : Shared) (H : Hp) (vs : List V) (Q : VK) (E : XK), Room k (A.deeper (envOfC x (defScope st) s.heap.objs.size f cdv)) → sp vs H Q E →
      ∃ t, PSs (cxOf CX0 P w K mg base N x (defScope st) f cdv A outer s H E).nox (defBody st) t ∧ t { nx := fun _ H' => Q .non H', rt := Q } (start N vs) H) : Ca P w K mg base (k + 1) x sp :=
  ⟨f, fd, ps, D.fn.ok S len body, D.at_, D.fn.kp, D.bd⟩
theorem Ca.weak {x : Str} {k : Nat} {sp sp' : Sp} (c : Ca P w K mg base k x sp) (h : ∀ vs H Q E, sp' vs H Q E → sp vs H Q E) : True := trivial
end
section
variable {X : Cx} {k j : Nat} {x : Str} {sp : Sp} {p pos : Pos} {e : Expr} {es : List Expr} {t : TA}
theorem pe_k (c : Ca X.prog X.w X.K X.mg X.base k x sp) (hr : Room j X.A) (hk : k ≤ j) (hg : Gl X x) (ha : PA X (e :: es) t)
    (hdb : (x == ("__debug__" : Str)) = false := by decide) (he : starEach (e :: es) X.env = (false, eval e X.env) :: starEach es X.env := by rfl) (hpl : (backTo pos (starEach es X.env)).any (·.1) = false := by rfl) :
    PE X (.Call (.Name x p) (e :: es) [] pos) (tCall sp [] E0 t) := by
  obtain ⟨f, fd, ps, F, hm, kp, b⟩ := c.ex
  exact pe_call F (hr.mono hk) hg hm kp b .nil pass0 ha hdb he hpl
theorem pe_gc {v : V} (hg : Gl X x) (h : ∃ u, X.mg x = some u ∧ RelV v u) (hd : (x == ("__debug__" : Str)) = false := by decide) : PE X (.Name x pos) (tC v) := by
  obtain ⟨u, hm, r⟩ := h
  exact pe_glob hg hm r hd
end
/-- a class that may be made by its name; sp: its __init__ -/
structure Ma (P : Program) (w : World) (K : PySem.W.Frag) (mg : Str → Option Value) (base : Heap) (k : Nat) (x : Str) (C : Addr) (sp : Sp) : Prop where
  ex : ∃ (f : Addr) (fd : FuncData) (ps : List Str), Mk K C f ∧ FnOk P w K mg base CX0 k f fd ps sp ∧ mg x = some (.ref C) ∧ Binds K fd ps []
theorem pe_mkK {X : Cx} {k j : Nat} {x : Str} {sp : Sp} {p pos : Pos} {e : Expr} {es : List Expr} {t : TA} {C : Addr} (c : Ma X.prog X.w X.K X.mg X.base k x C sp) (hr : Room j X.A) (hk : k + 1 ≤ j) (hg : Gl X x) (ha : PA X (e :: es) t)
    (hdb : (x == ("__debug__" : Str)) = false := by decide) (he : starEach (e :: es) X.env = (false, eval e X.env) :: starEach es X.env := by rfl) (hpl : (backTo pos (starEach es X.env)).any (·.1) = false := by rfl) :
    PE X (.Call (.Name x p) (e :: es) [] pos) (tMake C sp [] E0 t) := by
  obtain ⟨f, fd, ps, M, F, hm, b⟩ := c.ex
  exact pe_make M F (hr.mono hk) hg hm b .nil pass0 ha hdb he hpl
/-! ### kinds -/
theorem ty_t {K : PySem.W.Frag} {H : Hp} {a : Addr} {xs : List V} (h : SqT K H a xs) : TyX K H (.ref a) (.type "tuple") := by
  rcases h with (h | ⟨o, h⟩) | ⟨o, its, n, h, c, _⟩
  · exact .base (.tup h)
  · exact .fTuple h
  · exact .kTuple h c
theorem ty_l {K : PySem.W.Frag} {H : Hp} {a : Addr} {xs : List V} (h : SqL K H a xs) : TyX K H (.ref a) (.type "list") := by
  rcases h with (h | ⟨o, h⟩) | ⟨o, its, n, h, c, _⟩
  · exact .base (.lst h)
  · exact .base (.frz h)
  · exact .kList h c
theorem k_ii {K : PySem.W.Frag} : PySem.W.kitOne K (.type "int") (.type "int") = some true := kit_ty (by decide +kernel)
theorem k_ib {K : PySem.W.Frag} : PySem.W.kitOne K (.type "int") (.type "bool") = some false := kit_ty (by decide +kernel)
theorem k_is {K : PySem.W.Frag} : PySem.W.kitOne K (.type "int") (.type "str") = some false := kit_ty (by decide +kernel)
theorem k_it {K : PySem.W.Frag} : PySem.W.kitOne K (.type "int") (.type "tuple") = some false := kit_ty (by decide +kernel)
theorem k_il {K : PySem.W.Frag} : PySem.W.kitOne K (.type "int") (.type "list") = some false := kit_ty (by decide +kernel)
theorem k_tt {K : PySem.W.Frag} : PySem.W.kitOne K (.type "tuple") (.type "tuple") = some true := kit_ty (by decide +kernel)
theorem k_ti {K : PySem.W.Frag} : PySem.W.kitOne K (.type "tuple") (.type "int") = some false := kit_ty (by decide +kernel)
theorem k_tb {K : PySem.W.Frag} : PySem.W.kitOne K (.type "tuple") (.type "bool") = some false := kit_ty (by decide +kernel)
theorem k_ts {K : PySem.W.Frag} : PySem.W.kitOne K (.type "tuple") (.type "str") = some false := kit_ty (by decide +kernel)
theorem k_tl {K : PySem.W.Frag} : PySem.W.kitOne K (.type "tuple") (.type "list") = some false := kit_ty (by decide +kernel)
theorem T_seq {K : PySem.W.Frag} {H H' : Hp} {a : Addr} {xs : List V} (e : Same H H') (h : SqT K H a xs) : SqT K H' a xs := by
  rcases h with (h | ⟨o, h⟩) | h
  · exact .inl (.inl (e _ _ h))
  · exact .inl (.inr ⟨o, e _ _ h⟩)
  · exact .inr h
theorem T_new {K : PySem.W.Frag} {H : Hp} {a : Addr} {xs : List V} : SqT K (upd H a (.tup xs)) a xs := .inl (.inl upd_same)
theorem L_new {K : PySem.W.Frag} {H : Hp} {a : Addr} {xs : List V} : SqL K (upd H a (.lst xs)) a xs := .inl (.inl upd_same)
theorem same_new {H : Hp} {p : Addr} {o : HO} (h : H p = none) : Same H (upd H p o) := fun b u e => by
  rw [upd_ne (ne_of_none e h)]
  exact e
theorem same_mut {H H' : Hp} {p : Addr} {o : HO} (e : Same H H') (h : H p = none) : Same H (upd H' p o) := fun b u q => by
  rw [upd_ne (ne_of_none q h)]
  exact e b u q
theorem rd_same {K : PySem.W.Frag} {H H' : Hp} {a : Addr} {k : RK} (e : Same H H') (h : RdAt K H a k) : RdAt K H' a k := by
  obtain ⟨t, h1, h2⟩ := h
  exact ⟨t, T_seq e h1, T_seq e h2⟩
/-! ### the pool: a list of a seed, a count and a list of cells -/
structure Pool (H : Hp) (p c : Addr) : Prop where
  ne : p ≠ c
  ex : ∃ (a b : Int) (ns : List Int), H p = some (.lst [.int a, .int b, .ref c]) ∧ H c = some (.lst (ns.map V.int)) ∧ 0 ≤ a ∧ a < 2147483647 ∧ ns.length ≤ 63
/-- all but the pool is as it was -/
def But (p c : Addr) (H H' : Hp) : Prop := ∀ b o, b ≠ p → b ≠ c → H b = some o → H' b = some o
theorem But.refl {p c : Addr} {H : Hp} : But p c H H := fun _ _ _ _ h => h
theorem But.trans {p c : Addr} {H H1 H2 : Hp} (x : But p c H H1) (y : But p c H1 H2) : But p c H H2 := fun b o h1 h2 h => y b o h1 h2 (x b o h1 h2 h)
theorem Same.but {p c : Addr} {H H' : Hp} (e : Same H H') : But p c H H' := fun b o _ _ h => e b o h
theorem But.l {p c : Addr} {K : PySem.W.Frag} {H H' : Hp} {a : Addr} {xs : List V} (e : But p c H H') (h1 : a ≠ p) (h2 : a ≠ c) (h : SqL K H a xs) : SqL K H' a xs := by
  rcases h with (h | ⟨o, h⟩) | h
  · exact .inl (.inl (e _ _ h1 h2 h))
  · exact .inl (.inr ⟨o, e _ _ h1 h2 h⟩)
  · exact .inr h
theorem Pool.same {p c : Addr} {H H' : Hp} (e : Same H H') (h : Pool H p c) : Pool H' p c := by
  obtain ⟨a, b, ns, h1, h2, r⟩ := h.ex
  exact ⟨h.ne, a, b, ns, e _ _ h1, e _ _ h2, r⟩
theorem Pool.t {p c : Addr} {K : PySem.W.Frag} {H H' : Hp} {a : Addr} {xs : List V} (h : Pool H p c) (e : But p c H H') (q : SqT K H a xs) : SqT K H' a xs := by
  obtain ⟨u, v, ns, h1, h2, r⟩ := h.ex
  have n1 : ∀ o, H a = some o → (∀ ys, o ≠ .lst ys) → H' a = some o := fun o g d => e a o (fun z => by rw [z, h1] at g; cases g; exact d _ rfl) (fun z => by rw [z, h2] at g; cases g; exact d _ rfl) g
  rcases q with (q | ⟨o, q⟩) | q
  · exact .inl (.inl (n1 _ q fun _ z => by cases z))
  · exact .inl (.inr ⟨o, n1 _ q fun _ z => by cases z⟩)
  · exact .inr q
theorem Pool.rd {p c : Addr} {K : PySem.W.Frag} {H H' : Hp} {a : Addr} {k : RK} (h : Pool H p c) (e : But p c H H') (q : RdAt K H a k) : RdAt K H' a k := by
  obtain ⟨t, h1, h2⟩ := q
  exact ⟨t, h.t e h1, h.t e h2⟩
theorem Pool.old {p c : Addr} {H H' : Hp} {l : Addr} (h : Pool H p c) (e : But p c H H') (n : H' l = none) (hp : Pool H' p c) : H l = none := by
  cases q : H l with
  | none => rfl
  | some o =>
    obtain ⟨a, b, ns, h1, h2, r⟩ := hp.ex
    by_cases z : l = p
    · rw [z, h1] at n; cases n
    · by_cases y : l = c
      · rw [y, h2] at n; cases n
      · rw [e l o z y q] at n; cases n
end LB
set_option Elab.async false
set_option linter.all false
set_option maxRecDepth 100000
set_option maxHeartbeats 1000000
namespace LB
open PySem PySem.Spec PyProof.Rows L2 RS
section
variable {X : Cx} {pins : List (Addr × Obj)} {σ : L2.St} {H : Hp} {s : Shared}
/-! ### a <= b of two readings -/
def rLeR (K : PySem.W.Frag) : R2 := fun x y H Q => ∃ (a b : Addr) (j k : RK), x = .ref a ∧ y = .ref b ∧ RdAt K H a j ∧ RdAt K H b k ∧ Q (.bl (!decide (rlt k j))) H
theorem op_leR (hu : X.A.units + 64 < cLine) : OpR X (compareOp .LtE) (rLeR X.K) := by
  intro pins s σ H x y u v Q I r r' h
  obtain ⟨a, b, j, k, rfl, rfl, h1, h2, q⟩ := h
  cases r
  cases r'
  have e1 := depth_enc j
  refine PySem.W.le_data (rd_is I h1).2 (rd_is I h2).2 (alike_enc j k) (fun z => by cases z) (by omega) ?_
  rw [lt_enc]
  exact ⟨.bl _, H, I, rfl, q⟩
/-! ### t * 1 is t -/
theorem int_rmul_tuple1 (a : Int) (t : Tok) (l : Addr) (items : Array Value) (n : Nat) (dd : Option Addr) (sl : Array (Option Value)) (he : items.isEmpty = false) :
    Meets (Builtin.«tuple.__mul__» ⟨[.ref l, .int 1 t], []⟩) (fun _ R s => s.heap.get? l = some { cls := .type "tuple", dict := dd, data := .seq items n, slots := sl } ∧ R (.ok (.ret (.ref l))) s) :=
  .of_wp fun prog w A R s h => by
    obtain ⟨hp, g, d, tk, os⟩ := s
    obtain ⟨hl, h⟩ := h
    have f1 := AutoSeq1.idx_int
    wp_walk using wpAny_loadPart' hl
    repeat (first
      | (refine wpAny_ite_false (by simp) ?_; wp_walk using wpAny_loadPart' hl)
      | (refine wpAny_ite_true (by simp) ?_; wp_walk using wpAny_loadPart' hl))
    exact ⟨_, rfl, h⟩
def rRep1 (K : PySem.W.Frag) : R2 := fun x y H Q => ∃ l xs, x = .ref l ∧ y = .int 1 ∧ SqT K H l xs ∧ xs ≠ [] ∧ Q (.ref l) H
theorem op_rep1 : OpR X (binaryOp .Mult) (rRep1 X.K) := by
  intro pins s σ H x y v u Q I rx ry h
  obtain ⟨l, xs, rfl, rfl, hT, hne, q⟩ := h
  cases rx
  obtain ⟨t, rfl⟩ := ry
  obtain ⟨its, r, ⟨⟨cls, dd, data, sl⟩, ho, hc, n, hd⟩, hs⟩ := I.tuple hT
  simp only at hc hd
  subst hc hd
  have hle : its.length = xs.length := r.length.symm
  have hi : its.toArray.isEmpty = false := by
    cases its with
    | nil => exact absurd (List.eq_nil_of_length_eq_zero hle.symm) hne
    | cons a b => rfl
  refine wpAny_binaryOp_repeat_ref (T := "tuple") (U := "int") (by decide) ⟨_, ho, rfl⟩ (fun s' => typeIs_int s' 1 t) noFill_tuple_mul F.fills_int_mul F.slot_int_rmul repeat_tuple F.slot_int_index.lookup
    (call_meets F.slot_int_rmul (typeIs_int s 1 t) F.entry_int_rmul (F.args_int_rmul_2 _ _) (int_rmul_tuple 1 t l its.toArray n dd sl)
      ⟨ho, rfl, ⟨_, ho, rfl⟩, call_meets F.slot_tuple_mul ⟨_, ho, rfl⟩ F.entry_tuple_mul (F.args_tuple_mul_2 _ _) (int_rmul_tuple1 1 t l its.toArray n dd sl hi) ⟨ho, ?_⟩⟩)
  exact ⟨.ref l, H, I, rfl, q⟩

/-! ### sorted(t) of a tuple of whole numbers -/
theorem collect_tup {A : Around} {E : Value → Shared → Prop} {prog : Program} {w : World} {l : Addr} {vs : List Value} {Q : List Value → Shared → Prop} (hl : IsTup s.heap l vs.toArray)
    (h : Q vs { s with heap := (s.heap.push (seqObj "list" #[] 0)).update s.heap.objs.size (Obj.mapSeq (· ++ vs.toArray)) }) (hsz : vs.length ≤ sizeLine) :
    wpAny (model prog w) A (collect (.ref l)) Q E s := by
  obtain ⟨o, ho, hc, n, hd⟩ := id hl
  unfold collect
  refine wpAny_bind (wpAny_runValue (codeAny_builtin entry_proto_collect' ?_))
  show wpAny _ _ (do again (.builtin "list.__iadd__" ⟨[← newList [], .ref l], []⟩)) _ _ s
  refine wpAny_bind (wpAny_newList (wpAny_pure ⟨Code.quiet_builtin _ (by decide +kernel), codeAny_builtin entry_list_iadd' ?_⟩))
  show wpAny _ _ (Builtin.List.listExtendWith (.ref s.heap.objs.size) (.ref l) (.ref s.heap.objs.size)) _ _ { s with heap := s.heap.push (seqObj "list" #[] 0) }
  unfold Builtin.List.listExtendWith
  have ho' : (s.heap.push (seqObj "list" #[] 0)).get? l = some o := Heap.get?_push_of_some _ ho
  refine wpAny_bind (wpAny_typeOf (T := "tuple") ⟨o, ho', hc⟩ ?_)
  have ht : (Value.type "tuple" == Value.type "tuple") = true := by rfl
  rw [if_pos (by rw [ht]; simp)]
  refine wpAny_bind (listItems_at ho' hd ?_)
  refine wpAny_bind (listItems_at (xs := #[]) (n := 0) (Heap.get?_push_size _ rfl) rfl ?_)
  rw [if_neg (by simp)]
  refine wpAny_bind (listUpdate_at (xs := #[]) (n := 0) (Heap.get?_push_size _ rfl) rfl ?_ (Nat.zero_le _) (by show (#[] ++ vs.toArray).size ≤ sizeLine + 1; simp only [Array.size_append, List.size_toArray, List.length_nil]; omega))
  refine wpAny_pure ?_
  show wpAny (model prog w) A (do
      let o ← load s.heap.objs.size
      match o.data with
      | .seq xs _ => pure xs.toList
      | _ => unsupported "internal:collect") Q E { s with heap := (s.heap.push (seqObj "list" #[] 0)).update s.heap.objs.size (Obj.mapSeq (· ++ vs.toArray)) }
  refine wpAny_bind (wpAny_load (get?_update_seq (Heap.get?_push_size _ rfl) _) ?_)
  show wpAny _ _ (pure ((#[] : Array Value) ++ vs.toArray).toList) Q E _
  rw [show ((#[] : Array Value) ++ vs.toArray).toList = vs by simp]
  exact wpAny_pure h
theorem each_ints : ∀ {xs : List Int} {us : List Value}, Vals (xs.map V.int) us → PySem.W.EachIs (fun (v : Value) (i : Int) => ∃ t, v = .int i t) us xs
  | [], _, .nil => .nil
  | _ :: _, _, .cons r t => .cons r (each_ints t)
theorem vals_each : ∀ {xs : List Int} {us : List Value}, PySem.W.EachIs (fun (v : Value) (i : Int) => ∃ t, v = .int i t) us xs → Vals (xs.map V.int) us
  | _, _, .nil => .nil
  | _, _, .cons r t => .cons r (vals_each t)
/-- whole numbers in their order -/
def upInts (ns : List Int) : List Int := ns.mergeSort (PySem.W.dataLe false fun i => .int i)
theorem upInts_perm (ns : List Int) : (upInts ns).Perm ns := List.mergeSort_perm _ _
theorem upInts_asc (ns : List Int) : (upInts ns).Pairwise (· ≤ ·) := by
  unfold upInts
  rw [show (PySem.W.dataLe false fun i : Int => PyData.int i) = fun a b => decide (a ≤ b) from PySem.W.dataLe_int id]
  refine (List.pairwise_mergeSort (fun a b c h1 h2 => ?_) (fun a b => ?_) ns).imp fun {a b} h => by simpa using h
  · simp only [decide_eq_true_eq] at *
    omega
  · simp only [Bool.or_eq_true, decide_eq_true_eq]
    omega
def rSortT (K : PySem.W.Frag) : List V → Hp → VK → Prop := fun vs H Q => ∃ (a : Addr) (ns : List Int), vs = [V.ref a] ∧ SqT K H a (ns.map V.int) ∧ ns.length ≤ 1000 ∧ ∀ p, H p = none → Q (.ref p) (upd H p (.lst ((upInts ns).map V.int)))
theorem cr_sortT1 (hu : X.A.units + 64 < cLine) : CallR X (.builtin "sorted") (rSortT X.K) := by
  intro pins s σ H vs us Q I r h
  obtain ⟨a, ns, rfl, hT, few, q⟩ := h
  rw [Vals.ref1 r]
  obtain ⟨its, rv, tp, hz⟩ := I.tuple hT
  have hle : its.length = ns.length := by rw [← rv.length, List.length_map]
  have hsz : its.length ≤ sizeLine := by rw [hle, sizeLine_eq]; omega
  refine Calls.call_function_entry kind_sorted plain_sorted entry_sorted (args_sorted1 _) ?_
  unfold Builtin.«sorted»
  refine wpAny_bind (m := checkCount "sorted" 1 1 _) (wpAny_pure ?_)
  refine wpAny_bind (collect_tup tp ?_ hsz)
  refine wpAny_bind (wpAny_newList ?_ hsz)
  have hS : ((s.heap.push (seqObj "list" #[] 0)).update s.heap.objs.size (Obj.mapSeq (· ++ its.toArray))).objs.size = s.heap.objs.size + 1 := by rw [Heap.size_update, size_push']
  show wpAny _ _ _ _ _ { s with heap := PySem.W.copyHeap s.heap its }
  rw [hS]
  have e1 := each_ints rv
  refine wpAny_bind (wpAny_holding (PySem.W.list_sort_data (R := fun v i => ∃ t, v = .int i t) (s := { s with heap := PySem.W.copyHeap s.heap its }) (enc := fun i : Int => .int i) (PySem.W.copyHeap_at s.heap its) e1 (e1.mono fun v i ⟨t, e⟩ => ⟨[], by rw [e]; exact .int i t, by simp⟩)
    (PySem.W.AllAlike.of fun a b => by simp only [PySem.W.alike]) (PySem.W.Sortable.others fun b => ⟨fun z => (by cases z), fun xs z => (by cases z)⟩) (by rw [sizeLine_eq]; omega) (fun b _ => by show _ + 0 < _; simp only [Around.in1_units]; omega) fun out _ e => ?_))
  obtain ⟨c, hc⟩ := sortedHeap_at (vs := its) (out := out.toArray) (PySem.W.copyHeap_at s.heap its)
  have len : ((upInts ns).map V.int).length ≤ sizeLine := by rw [List.length_map, (upInts_perm ns).length_eq, sizeLine_eq]; omega
  have n0 : s.heap.objs.size ≤ s.heap.objs.size + 1 := Nat.le_succ _
  refine wpAny_pure ⟨_, rfl, .ref (s.heap.objs.size + 1), upd H (s.heap.objs.size + 1) (.lst ((upInts ns).map V.int)), I.laid (t' := s.toks) (fun b o e => ?_) n0 ⟨len, out, c, vals_each e, hc⟩, rfl, q _ (I.hok.fresh n0)⟩
  have lt := Heap.lt_size e
  show (sortedHeap (PySem.W.copyHeap s.heap its) (s.heap.objs.size + 1) its _).get? b = some o
  unfold PySem.W.copyHeap
  rw [sortedHeap_old (Nat.ne_of_lt (Nat.lt_succ_of_lt lt)) (by rw [size_push', Heap.size_update, size_push']; exact Nat.lt_succ_of_lt (Nat.lt_succ_of_lt lt))]
  refine Heap.get?_push_of_some _ ?_
  rw [Heap.get?_update_ne _ _ _ _ (Nat.ne_of_lt lt)]
  exact Heap.get?_push_of_some _ e

/-! ### instances by their own ==: a flag out -/
/-- what an own == promises: whichever flag -/
def spEqB (R : Addr → Addr → Bool → Hp → Prop) : Sp := fun vs H Q _ => ∃ a b c, vs = [.ref a, .ref b] ∧ R a b c H ∧ ∀ H', Same H H' → Q (.bl c) H'
structure EqC (K : PySem.W.Frag) (C f : Addr) : Prop where
  eq : PySem.W.findIn K (.ref C) "__eq__" = some (some (.ref f))
  fn : PySem.W.isFn K (.ref f) = true
  ne : PySem.W.findIn K (.ref C) "__ne__" = some (some (.builtin "object.__ne__"))
  ob : PySem.W.subIn K (.ref C) (.type "object") = some true
variable {n : Nat} {C f : Addr} {fd : FuncData} {ps : List Str} {R : Addr → Addr → Bool → Hp → Prop}
theorem eq_called (F : FnOk X.prog X.w X.K X.mg X.base CX0 n f fd ps (spEqB R)) (hb : Binds X.K fd ps []) {A : Around} (sb : Sub X n A) (I : Inv X pins σ H s) {a b : Addr} {c : Bool} (hr : R a b c H) :
    wpAny (model X.prog X.w) A (call (.ref f) [.ref a, .ref b]) (fun v s' => v = .bool c ∧ ∃ H', Inv X pins σ H' s' ∧ Same H H') X.xe s := by
  have hsp : spEqB R [.ref a, .ref b] H (fun v H' => v = .bl c ∧ Same H H') E0 := ⟨a, b, c, rfl, hr, fun H' e => ⟨rfl, e⟩⟩
  have e0 : Env0 X.prog X.w X.K X.mg X.base A X.stack s H := by
    have e := I.env0
    exact ⟨by rw [sb.fr]; exact e.frames, e.mod, e.bs, e.bsz, e.funs, e.frf, e.hok, e.bare⟩
  have hl := F.len _ _ _ _ hsp
  have r2 : Vals [V.ref a, V.ref b] [Value.ref a, Value.ref b] := .cons rfl (.cons rfl .nil)
  refine wpAny_call (codeAny_mono (F.run A X.stack s H ⟨[.ref a, .ref b], []⟩ [.ref a, .ref b] [.ref a, .ref b] _ E0 sb.room e0 (by
    have := hb s [.ref a, .ref b] I.kIn (by simpa using hl)
    simpa using this) r2 hsp) fun r s' hq => ?_)
  cases r with
  | error e => exact (pass0 (X := X)) pins σ H s e s' I hq
  | ok fl =>
    cases fl with
    | ret w =>
      obtain ⟨z, H', I', rz, ez, ex⟩ := I.after hq
      subst ez
      cases rz
      exact ⟨rfl, H', I', ex⟩
    | next => exact False.elim hq
    | brk => exact False.elim hq
    | cont => exact False.elim hq
def rEqP (C : Addr) (R : Addr → Addr → Bool → Hp → Prop) (neg : Bool) : R2 := fun x y H Q => ∃ a b dx dy fs gs c, x = .ref a ∧ y = .ref b ∧ H a = some (.ins C dx fs) ∧ H b = some (.ins C dy gs) ∧ R a b c H ∧ ∀ H', Same H H' → Q (.bl (if neg then !c else c)) H'
theorem op_eqP (F : FnOk X.prog X.w X.K X.mg X.base CX0 n f fd ps (spEqB R)) (hb : Binds X.K fd ps []) (E : EqC X.K C f) (hr : Room n X.A) : OpR X (compareOp .Eq) (rEqP C R false) := by
  intro pins s σ H x y v u Q I rx ry h
  obtain ⟨a, b, dx, dy, fs, gs, c, rfl, rfl, ha, hb', hR, q⟩ := h
  cases rx
  cases ry
  obtain ⟨mA, J, _⟩ := ins_get I.hok ha
  obtain ⟨mB, J', _⟩ := ins_get I.hok hb'
  obtain ⟨od, J, _⟩ := J.look
  obtain ⟨od', J', _⟩ := J'.look
  obtain ⟨m, hF⟩ := I.fr
  show wpAny (model X.prog X.w) X.A (richCompare .Eq _ _) (EP X pins σ Q) X.xe s
  refine PySem.W.cmp_K (op := .Eq) (tb := .ref C) hr.units0 hF I.ok.mod.kin J J'.type (by simp [PySem.W.notFirst]) E.eq E.fn (wpAny_mono (eq_called F hb ⟨hr, rfl⟩ I hR) (fun v s' z => ?_) fun _ _ e => e)
  obtain ⟨rfl, H', I', e⟩ := z
  exact ⟨.bl c, H', I', rfl, q H' e⟩
theorem ne_bound {M : Model} {A : Around} {E' : Value → Shared → Prop} {args : List Value} {Q : Option Value → Shared → Prop} {x : Addr} {ox : Obj} {od : Option Obj} {K : PySem.W.Frag} (Y : K.In s.heap) (J : PySem.W.InstAt s.heap x ox C od) (hs : PySem.W.findIn K (.ref C) "__ne__" = some (some (.builtin "object.__ne__")))
    (h : wpAny M A (call (.builtin "object.__ne__") (.ref x :: args)) (fun v => Q (some v)) E' s) : wpAny M A (callSpecialIfBound? (.ref x) "__ne__" args) Q E' s := by
  simp only [callSpecialIfBound?, bindSpecialIfBound?]
  refine wpAny_holding (wpAny_bind (wpAny_bind (wpAny_bind (J.type.here ((PySem.W.looks_findIn Y hs).here ?_)))))
  have bd : bindSpecial (.builtin "object.__ne__") (.ref x) = pure (.builtin "object.__ne__", [.ref x]) := F.slot_object_ne.bind (.ref x)
  simp only [bd]
  refine wpAny_bind (wpAny_askSetting (wpAny_ite ?_))
  have fin : wpAny M A (call (.builtin "object.__ne__") ([.ref x] ++ args) >>= fun v => pure (some v)) Q E' s := wpAny_bind (wpAny_mono h (fun v s' h' => wpAny_pure h') fun _ _ h' => h')
  split
  · exact wpAny_bind (wpAny_pure (wpAny_pure fin))
  · exact wpAny_tryCatch (wpAny_bind (wpAny_pure (wpAny_pure fin)))
theorem op_neP (F : FnOk X.prog X.w X.K X.mg X.base CX0 n f fd ps (spEqB R)) (hb : Binds X.K fd ps []) (E : EqC X.K C f) (hr : Room (n + 1) X.A) : OpR X (compareOp .NotEq) (rEqP C R true) := by
  intro pins s σ H x y v u Q I rx ry h
  obtain ⟨a, b, dx, dy, fs, gs, c, rfl, rfl, ha, hb', hR, q⟩ := h
  cases rx
  cases ry
  obtain ⟨mA, J, _⟩ := ins_get I.hok ha
  obtain ⟨mB, J', _⟩ := ins_get I.hok hb'
  obtain ⟨od, J, _⟩ := J.look
  obtain ⟨od', J', _⟩ := J'.look
  have un := hr.un
  have Y := I.kIn
  have one : wpAny (model X.prog X.w) X.A (tryCompare (.ref a) "__ne__" (.ref b)) (fun r s' => ∃ v, r = some v ∧ EP X pins σ Q v s') X.xe s := by
    simp only [tryCompare]
    refine wpAny_bind (ne_bound Y J E.ne (wpAny_call (codeAny_call_builtin PySem.F.slot_object_ne.plain PySem.F.cmpEntry_ne
      (PySem.W.check_slot PySem.F.cmpKind_ne PySem.F.cmpSplit_ne (J.type.andThen (PySem.W.looks_subIn Y E.ob)) (PySem.F.cmpArgs_ne _ _) ?_))))
    have back : wpAny (model X.prog X.w) X.A.in1 (callSpecialIfBound? (.ref a) "__eq__" [.ref b]) (fun r s' => r = some (.bool c) ∧ ∃ H', Inv X pins σ H' s' ∧ Same H H') X.xe s :=
      PySem.W.ifBound_K Y J E.eq E.fn (wpAny_mono (eq_called F hb ⟨hr.in1, rfl⟩ I hR) (fun v s' z => by obtain ⟨rfl, z⟩ := z; exact ⟨rfl, z⟩) fun _ _ e => e)
    unfold Builtin.«object.__ne__»
    repeat (first
      | with_reducible refine wpAny_cRoomFor (by simp only [Around.in1_units]; omega) ?_
      | (refine wpAny_bind (m := callSpecialIfBound? (.ref a) (Str.ofString "__eq__") [.ref b]) (wpAny_mono back (fun r s' z => ?_) fun _ _ e => e))
      | wp_step)
    all_goals (try (obtain ⟨rfl, H', I', e⟩ := z))
    all_goals (repeat (first | (refine wpAny_bind (m := truthy (.bool _)) (wpAny_truthy_bool ?_)) | wp_step))
    all_goals (first
      | exact ⟨_, rfl, .bl (!c), H', I', rfl, q H' e⟩
      | exact ⟨_, rfl, wpAny_pure ⟨_, rfl, .bl (!c), H', I', rfl, q H' e⟩⟩
      | exact ⟨_, rfl, wpAny_pure (wpAny_pure ⟨_, rfl, .bl (!c), H', I', rfl, q H' e⟩)⟩
      | skip)
  show wpAny (model X.prog X.w) X.A (richCompare .NotEq _ _) (EP X pins σ Q) X.xe s
  unfold richCompare
  simp only [oneThing_ref]
  refine wpAny_holding ?_
  refine wpAny_bind (wpAny_cRoomFor (by omega) ?_)
  rw [cmpInfo_NotEq]
  dsimp only
  refine wpAny_bind (J.type.here ?_)
  refine wpAny_bind (J'.type.here ?_)
  rw [show (Value.ref C != Value.ref C) = false from by simp]
  simp only [Bool.false_eq_true, if_false]
  refine wpAny_bind (wpAny_pure ?_)
  simp only [Bool.false_eq_true, if_false]
  refine wpAny_bind (wpAny_mono one (fun r s' z => ?_) fun _ _ e => e)
  obtain ⟨v, rfl, z⟩ := z
  exact wpAny_pure z
end
end LB
set_option Elab.async false
set_option linter.all false
set_option maxRecDepth 100000
set_option maxHeartbeats 1000000
namespace LB
open PySem PySem.Spec PyProof.Rows L2 RS
open AutoSeq1 (wpAny_loadPart')
/-! ### enumerate(t) of a tuple -/
theorem meets_enum_tup (l : Addr) (items : Array Value) (n : Nat) (dct : Option Addr) (sl : Array (Option Value)) :
    Meets (Builtin.«enumerate.__new__» ⟨[.type "enumerate", .ref l], []⟩) (fun _ R s => s.heap.get? l = some { cls := .type "tuple", dict := dct, data := .seq items n, slots := sl } ∧
      R (.ok (.ret (.ref (s.heap.push { cls := .type "tuple_iterator", data := .fields #[.ref l, .int 0 0] }).objs.size)))
        { s with heap := (s.heap.push { cls := .type "tuple_iterator", data := .fields #[.ref l, .int 0 0] }).push { cls := .type "enumerate", data := .fields #[.none, .bool false, .ref s.heap.objs.size, rawInt 0, .none, .none] } }) :=
  .of_wp fun prog w A R s h => by
    obtain ⟨hp, g, d, tk, os⟩ := s
    obtain ⟨hl, h⟩ := h
    have hsub := sub_enumerate
    have hT : Heap.IsTuple (Shared.heap ⟨hp, g, d, tk, os⟩) l items := ⟨_, hl, rfl, n, rfl⟩
    wp_walk using wpAny_loadPart' hl
    refine wpAny_stack_any fun st => wpAny_pure ?_
    split
    · rename_i c _ _ _ _ _
      cases (c == Value.type "enumerate")
      · wp_walk using wpAny_loadPart' hl, wpAny_pyIter_tuple hT
        exact ⟨_, rfl, h⟩
      · wp_walk using wpAny_loadPart' hl, wpAny_pyIter_tuple hT
        exact ⟨_, rfl, h⟩
    · wp_walk using wpAny_loadPart' hl, wpAny_pyIter_tuple hT
      exact ⟨_, rfl, h⟩
theorem call_enum_tup {prog : Program} {w : World} {A : Around} {E : Value → Shared → Prop} {s : Shared} {l : Addr} {items : Array Value} {Q : Value → Shared → Prop} (hL : s.heap.IsTuple l items)
    (h : ∀ h', IsEnum h' (s.heap.objs.size + 1) s.heap.objs.size 0 .none → h'.IsTupleIter s.heap.objs.size l 0 → h'.objs.size = s.heap.objs.size + 2 →
      (∀ b o, s.heap.get? b = some o → h'.get? b = some o) → Q (.ref (s.heap.objs.size + 1)) { s with heap := h' }) :
    wpAny (model prog w) A (call (.type "enumerate") [.ref l]) Q E s := by
  obtain ⟨⟨c, dct, dt, sl⟩, hl, hc, n, hd⟩ := hL
  replace hc : c = .type "tuple" := hc
  replace hd : dt = .seq items n := hd
  subst hc hd
  refine callType_new F.called_enumerate (by decide) (F.typeCall_enumerate_1 _) (F.newCall_enumerate_1 _) (fun obj => F.args_object_init_2 obj _) F.entry_enumerate_new
    (meets_enum_tup l items n dct sl) ⟨hl, ?_⟩
  have hz : (s.heap.push { cls := .type "tuple_iterator", data := .fields #[.ref l, .int 0 0] }).objs.size = s.heap.objs.size + 1 := Heap.size_push ..
  show _ ∧ _
  rw [hz]
  have he : IsEnum ((s.heap.push { cls := .type "tuple_iterator", data := .fields #[.ref l, .int 0 0] }).push
      { cls := .type "enumerate", data := .fields #[.none, .bool false, .ref s.heap.objs.size, rawInt 0, .none, .none] }) (s.heap.objs.size + 1) s.heap.objs.size 0 .none := by
    have q := Heap.get?_push_size (s.heap.push { cls := .type "tuple_iterator", data := .fields #[.ref l, .int 0 0] })
      (o := { cls := .type "enumerate", data := .fields #[.none, .bool false, .ref s.heap.objs.size, rawInt 0, .none, .none] }) rfl
    rw [hz] at q
    exact q
  exact ⟨⟨_, he, rfl⟩, h _ he ⟨_, Heap.get?_push_of_some _ (Heap.get?_push_size _ rfl), rfl, rfl⟩ (by rw [Heap.size_push, hz]) fun b o x => Heap.get?_push_of_some _ (Heap.get?_push_of_some _ x)⟩
/-- the tuple at a, each item in a new pair with its number -/
def IteT (K : PySem.W.Frag) (a : Addr) : It :=
  ⟨fun i H => ∃ (xs : List V) (x : V), SqT K H a xs ∧ xs[i]? = some x, fun i H v H' => ∃ T x, v = .ref T ∧ H T = none ∧ H' = upd H T (.tup [.int (i : Nat), x]) ∧ ∀ xs, SqT K H a xs → xs[i]? = some x,
    fun i H => ∃ xs : List V, SqT K H a xs ∧ xs.length ≤ i⟩
theorem apart_iter {h : Heap} {a it : Addr} {i : Nat} {items : Array Value} (p : h.IsTuple a items) (hit : h.IsTupleIter it a i) : a ≠ it := fun z => by
  obtain ⟨o, ho, hc, _⟩ := p
  obtain ⟨o', ho', hc', _⟩ := hit
  rw [z, ho'] at ho
  cases ho
  rw [hc'] at hc
  injection hc with hc
  exact absurd hc (by decide)
theorem turn_enumT {P : Program} {w : World} {K : PySem.W.Frag} {elts : List Expr} {kk : Nat} {tpos : Pos} (a e it : Addr) :
    Turn P w K (.Tuple elts kk tpos) (IteT K a) [e, it] e (fun i h => (∃ old, IsEnum h e it ((i : Nat) : Int) old) ∧ h.IsTupleIter it a i ∧ e ≠ it) where
  mem := by simp
  obj := fun i h st b hb => by
    obtain ⟨⟨old, he⟩, ⟨o, ho, hc, hd⟩, _⟩ := st
    have e' : b = e ∨ b = it := by simpa using hb
    rcases e' with z | z
    · rw [z]; exact ⟨_, he, fun v q => nomatch q⟩
    · rw [z]; exact ⟨o, ho, fun v q => by rw [hd] at q; cases q⟩
  keep := fun i h h' st k => let ⟨⟨old, he⟩, hi, hne⟩ := st; ⟨⟨old, k e (by simp) _ he⟩, hi.at fun o q => k it (by simp) o q, hne⟩
  item := by
    intro X hP hw hK hc i pins s σ H E I hf st hg
    subst hP hw hK
    obtain ⟨⟨old, he⟩, hit, hne⟩ := st
    obtain ⟨xs, x, hq, hx⟩ := hg
    obtain ⟨its, rv, p, hz⟩ := I.tuple hq
    obtain ⟨u, hu, ru⟩ := rv.get hx
    have hel : e < s.heap.objs.size := Heap.lt_size he
    have hil : it < s.heap.objs.size := by obtain ⟨_, q, _⟩ := hit; exact Heap.lt_size q
    have p' : s.heap.IsTuple a its.toArray := p
    have ai := apart_iter p' hit
    have hi : i < its.toArray.size := by rw [List.size_toArray]; exact (List.getElem?_eq_some_iff.mp hu).1
    have ea : e ≠ a := fun z => by
      obtain ⟨o, ho, hc', _⟩ := p'
      have he' := he
      unfold IsEnum at he'
      rw [z, ho] at he'
      cases he'
      injection hc' with hc'
      exact absurd hc' (by decide)
    refine wpAny_pyNext_enum_itemD (Draws.tuple (A := X.A.in1) (I.ok.hd hc) it a ai its.toArray) he ⟨hit, p'⟩ hi hne (by simp only [List.mem_cons, List.not_mem_nil, or_false, not_or]; exact ⟨hne, ea⟩) fun x' h' tk hP' ho st' hT hsz hk => ?_
    have ex : x' = u := by
      rw [List.getElem?_toArray, hu] at hP'
      exact (Option.some.inj hP').symm
    subst ex
    refine ⟨_, rfl, wpAny_letOwnedTupleGo_enum (s := { s with heap := h', toks := tk + 1 }) ho fun h'' he' sb => ?_⟩
    have hT2 : h''.get? s.heap.objs.size = some { cls := .type "tuple", data := .seq #[.int i tk, x'] } := (sb.2 _ (Nat.ne_of_gt hel)).trans hT
    have new : ObjOk X.prog X.w (upd H s.heap.objs.size (.tup [.int (i : Nat), x])) h'' s.heap.objs.size (.tup [.int (i : Nat), x]) :=
      ⟨by show 2 ≤ sizeLine; decide, [.int i tk, x'], .cons ⟨_, rfl⟩ (.cons ru .nil), ⟨_, hT2, rfl, _, rfl⟩⟩
    have I1 : Inv X pins σ (upd H s.heap.objs.size (.tup [.int (i : Nat), x])) { s with heap := h'', toks := tk + 1 } :=
      I.turnedNew (ch := [e, it]) (fun b ob hb q => (sb.2 b (fun z => hb (by simp [z]))).trans (hk b ob (fun z => hb (by simp [z])) (fun z => hb (by simp [z])) q)) hf (Nat.le_refl _) new
    refine ⟨.ref s.heap.objs.size, _, I1, rfl, ⟨_, x, rfl, I.hok.fresh (Nat.le_refl _), rfl, fun ys hy => by rw [I.tuple_inj hy hq]; exact hx⟩, ⟨⟨x', ?_⟩, st'.1.at fun o q => (sb.2 it (Ne.symm hne)).trans q, hne⟩, fun b hb => ?_⟩
    · have e1 : ((i + 1 : Nat) : Int) = (i : Int) + 1 := by omega
      rw [e1]; exact he'
    · have hb' : b < s.heap.objs.size := by
        have e' : b = e ∨ b = it := by simpa using hb
        rcases e' with z | z
        · rw [z]; exact hel
        · rw [z]; exact hil
      rw [upd_ne (Nat.ne_of_lt hb')]
      exact (hf b hb).1
  done := by
    intro X hP hw hK hc i pins s σ H E I hf st hg
    subst hP hw hK
    obtain ⟨⟨old, he⟩, hit, hne⟩ := st
    obtain ⟨xs, hq, hx⟩ := hg
    obtain ⟨its, rv, p, hz⟩ := I.tuple hq
    obtain ⟨f0, f1, f2, f3, f4, f5⟩ := hf it (by simp)
    have p' : s.heap.IsTuple a its.toArray := p
    have hl := rv.length
    have hT : s.TypeIs (.ref e) "enumerate" := ⟨_, he, rfl⟩
    unfold pyNext
    refine wpAny_bind (wpAny_attempt (wpAny_callSpecial?_slot (name := Str.ofString "__next__") hT F.slot_enumerate_next
      (wpAny_call_entry F.slot_enumerate_next hT F.entry_enumerate_next ?_ (F.args_enumerate_next_1 _))))
    show wpAny _ _ (field (.ref e) 2 >>= _) _ _ _
    refine wpAny_bind (wpAny_field he rfl (x := .ref it) rfl ?_)
    refine wpAny_bind (wpAny_nextOf_tuple_end (A := X.A.in1) (I.ok.hd hc) hit p' (by rw [List.getElem?_toArray]; exact List.getElem?_eq_none (by omega)) fun h' x' eb hx' => ?_)
    obtain ⟨o, ho, hc'⟩ := hx'
    refine wpAny_bind (wpAny_isInstance (T := "StopIteration") (b := true) ⟨o, ho, hc'⟩ isSubtype_stop ?_)
    exact wpAny_pure ⟨rfl, I.turned (t' := s.toks) (fun b o hb q => eb b o hb q) f0 f1 f3 f4 f5⟩
  self := fun A i s Q E st h => let ⟨⟨_, he⟩, _⟩ := st; wpAny_pyIter_enum he h
def iEnumT (K : PySem.W.Frag) (ta : TA) : TI := fun σ H R => ta σ H fun vs H1 => ∃ a xs, vs = [.ref a] ∧ SqT K H1 a xs ∧ R (IteT K a) H1
theorem pi_enumT {X : Cx} {e : Expr} {ta : TA} {p pos tpos : Pos} {elts : List Expr} {kk : Nat} (hg : Gl X "enumerate") (hm : X.mg "enumerate" = none) (ha : PA X [e] ta) (hs : starEach [e] X.env = [(false, eval e X.env)] := by rfl) :
    PI X (.Tuple elts kk tpos) (.Call (.Name "enumerate" p) [e] [] pos) (iEnumT X.K ta) := by
  refine ⟨fun pins s σ H R I h => ?_⟩
  refine Call_ (ld_blt I hg hm boot_enumerate (PyProof.Rows.callWith_type1 (thn (ha.run pos pins s σ H _ I h) fun us s1 ⟨vs, H1, I1, r1, q1⟩ => ?_) hs rfl))
  obtain ⟨a, xs, ex, hq, q⟩ := q1
  subst ex
  cases r1 with
  | cons r rr =>
    cases rr
    cases r
    obtain ⟨its, rv, p', hz⟩ := I1.tuple hq
    have p2 : s1.heap.IsTuple a its.toArray := p'
    refine call_enum_tup p2 fun h' he hit hsz hk => wpAny_pyIter_enum he ?_
    have I2 : Inv X pins σ H1 { s1 with heap := h' } := I1.kept (t' := s1.toks) hk
    refine ⟨s1.heap.objs.size + 1, [s1.heap.objs.size + 1, s1.heap.objs.size], _, _, H1, rfl, I2, turn_enumT a (s1.heap.objs.size + 1) s1.heap.objs.size, ⟨⟨.none, he⟩, hit, Nat.succ_ne_self _⟩, fun b hb => ?_, q⟩
    have e' : b = s1.heap.objs.size + 1 ∨ b = s1.heap.objs.size := by simpa using hb
    have hle : s1.heap.objs.size ≤ b := by
      rcases e' with z | z
      · rw [z]; exact Nat.le_add_right _ _
      · rw [z]; exact Nat.le_refl _
    exact I1.fpOk hle (I1.hok.fresh hle)
/-- a for over it, by an invariant -/
theorem for_enumT {K : PySem.W.Frag} {a : Addr} {xs : List V} {g : TG} {tb : TS} {D : Ends} {σ : L2.St} {H : Hp} (Pv : Nat → L2.St → Hp → Prop) (h0 : Pv 0 σ H) (hq : ∀ i σ H, Pv i σ H → SqT K H a xs)
    (hs : ∀ (i : Nat) (x : V) (T : Addr) (σ : L2.St) (H : Hp), xs[i]? = some x → Pv i σ H → H T = none → g (.ref T) σ (upd H T (.tup [.int (i : Nat), x])) fun σ2 H2 => tb { D with nx := Pv (i + 1), ct := Pv (i + 1), bk := D.nx } σ2 H2) (hd : ∀ σ H, Pv xs.length σ H → D.nx σ H) :
    ∃ W : Nat → Nat → L2.St → Hp → Prop, (∃ m, W 0 m σ H) ∧ ∀ i m σ H, W i m σ H →
      ((IteT K a).stop i H ∧ D.nx σ H) ∨ ((IteT K a).go i H ∧ ∃ N : L2.St → Hp → Prop, (∀ σ' H', N σ' H' → ∃ m', m' < m ∧ W (i + 1) m' σ' H') ∧ ∀ v H', (IteT K a).yld i H v H' → g v σ H' fun σ2 H2 => tb { D with nx := N, ct := N, bk := D.nx } σ2 H2) := by
  refine ⟨fun i m σ H => m = xs.length - i ∧ i ≤ xs.length ∧ Pv i σ H, ⟨xs.length, rfl, Nat.zero_le _, h0⟩, ?_⟩
  rintro i m σ H ⟨rfl, hi, p⟩
  have q := hq i σ H p
  by_cases hlt : i < xs.length
  · have hx : xs[i]? = some xs[i] := List.getElem?_eq_getElem hlt
    refine .inr ⟨⟨xs, _, q, hx⟩, Pv (i + 1), fun σ' H' p' => ⟨xs.length - (i + 1), by omega, rfl, hlt, p'⟩, fun v H' y => ?_⟩
    obtain ⟨T, x', rfl, hT, rfl, f1⟩ := y
    exact hs i x' T σ H (f1 xs q) p hT
  · have e : i = xs.length := by omega
    subst e
    exact .inl ⟨⟨xs, q, Nat.le_refl _⟩, hd σ H p⟩
end LB
set_option Elab.async false
set_option linter.all false
set_option maxRecDepth 100000
/-! The rules whose reading names the module's own fixed part, for use within comprehensions (where it must be said). -/
namespace LB
open PySem PySem.Spec PyProof.Rows L2 RS
variable (K : PySem.W.Frag) {X : Cx}
theorem ix_tup' (h : X.K = K := by rfl) : IxR X (rIxT K) := by subst h; exact ix_tup
theorem ix_list' (h : X.K = K := by rfl) : IxR X (rIxL K) := by subst h; exact ix_list
theorem sl_tup' (h : X.K = K := by rfl) : SlR X (rSlT K) := by subst h; exact sl_tup
theorem sl_list' (h : X.K = K := by rfl) : SlR X (rSlL K) := by subst h; exact sl_list
theorem pe_fld' {e : Expr} {ta : TE} {f : Str} {pos : Pos} (he : PE X e ta) (hb : attributeBase e f X.env (eval e X.env) = eval e X.env) (h : X.K = K := by rfl) : PE X (.Attribute e f pos) (tFld K ta f) := by subst h; exact pe_fld he hb
theorem pg_tup' {es : List Expr} {k : Nat} {t : TGs} {n : Nat} {pos : Pos} (hc : X.calm = true) (h : PGs X es t)
    (hn : (assignEach es X.env).length = n := by rfl) (hst : (assignEach es X.env).findIdx? (·.1) = none := by rfl) (h : X.K = K := by rfl) : PG X (.Tuple es k pos) (gTup K n t) := by subst h; exact pg_tup hc ‹_› hn hst
theorem pi_tup' {tg l : Expr} {tl : TE} (hl : PE X l tl) (h : X.K = K := by rfl) : PI X tg l (iTup K tl) := by subst h; exact pi_tup hl
theorem pi_list' {tg l : Expr} {tl : TE} (hl : PE X l tl) (h : X.K = K := by rfl) : PI X tg l (iList K tl) := by subst h; exact pi_list hl
theorem call_tuple_of' (h : X.K = K := by rfl) : CallR X (.type "tuple") (fun xs H Q => ∃ p ys, xs = [.ref p] ∧ ((SqL K H p ys ∧ ∀ l, H l = none → Q (.ref l) (upd H l (.tup ys))) ∨ (SqT K H p ys ∧ Q (.ref p) H))) := by subst h; exact call_tuple_of
theorem call_list_of' (h : X.K = K := by rfl) : CallR X (.type "list") (fun xs H Q => ∃ p ys, xs = [.ref p] ∧ (SqL K H p ys ∨ SqT K H p ys) ∧ ∀ l, H l = none → Q (.ref l) (upd H l (.lst ys))) := by subst h; exact call_list_of
theorem call_len_seq' (h : X.K = K := by rfl) : CallR X (.builtin "len") (fun xs H Q => ∃ p ys, xs = [.ref p] ∧ (SqL K H p ys ∨ SqT K H p ys) ∧ Q (.int ys.length) H) := by subst h; exact call_len_seq
theorem call_isi' (h : X.K = K := by rfl) : CallR X (.builtin "isinstance") (rIsi K) := by subst h; exact call_isi
theorem cr_sum' (hc : X.calm = true) (h : X.K = K := by rfl) : CallR X (.builtin "sum") (rSum K) := by subst h; exact cr_sum hc
theorem cr_all' (hc : X.calm = true) (h : X.K = K := by rfl) : CallR X (.builtin "all") (rAll K) := by subst h; exact cr_all hc
theorem op_eqD' (hu : X.A.units + 64 < cLine) (h : X.K = K := by rfl) : OpR X (compareOp .Eq) (rEqD K) := by subst h; exact op_eqD hu
theorem op_neD' (hu : X.A.units + 64 < cLine) (h : X.K = K := by rfl) : OpR X (compareOp .NotEq) (rNeD K) := by subst h; exact op_neD hu
theorem op_leR' (hu : X.A.units + 64 < cLine) (h : X.K = K := by rfl) : OpR X (compareOp .LtE) (rLeR K) := by subst h; exact op_leR hu
end LB
namespace LB
open PySem PySem.Spec PyProof.Rows L2 RS
theorem lookup_relabeled {env : Env} {k : NameKind → Bool} : ∀ {names : List (Str × NameKind)} {x : Str} {c : NameKind}, names.lookup x = some c →
    (names.map fun (n, k) => if (k == NameKind.free && env.scope.kind == .function && env.kindOf n == some .cell) then (n, NameKind.cell) else (n, k)).lookup x = some c ∨
    (names.map fun (n, k) => if (k == NameKind.free && env.scope.kind == .function && env.kindOf n == some .cell) then (n, NameKind.cell) else (n, k)).lookup x = some .cell
  | [], _, _, h => by simp at h
  | (n, k) :: r, x, c, h => by
    have ih := @lookup_relabeled env (fun _ => true) r x c
    show List.lookup x ((if (k == NameKind.free && env.scope.kind == .function && env.kindOf n == some .cell) = true then (n, NameKind.cell) else (n, k)) :: _) = _ ∨ List.lookup x ((if (k == NameKind.free && env.scope.kind == .function && env.kindOf n == some .cell) = true then (n, NameKind.cell) else (n, k)) :: _) = _
    cases hx : x == n with
    | true =>
      simp only [List.lookup_cons, hx] at h
      cases h
      by_cases hc : (k == NameKind.free && env.scope.kind == .function && env.kindOf n == some .cell) = true
      · rw [if_pos hc]; right; simp only [List.lookup_cons, hx]
      · rw [if_neg hc]; left; simp only [List.lookup_cons, hx]
    | false =>
      simp only [List.lookup_cons, hx] at h
      by_cases hc : (k == NameKind.free && env.scope.kind == .function && env.kindOf n == some .cell) = true
      · rw [if_pos hc]; simp only [List.lookup_cons, hx]; exact ih h
      · rw [if_neg hc]; simp only [List.lookup_cons, hx]; exact ih h
/-- a comprehension within a comprehension -/
theorem blkOk_in {Y : Cx} {s : Shared} {H : Hp} {sc scope : Scope} {cl : List (Str × Addr)} {C : Addr} {env : Env} {fp : List Addr} {N : List Str} {own : List (Str × Nat)} (h : blkC N sc scope own = true) :
    BlkOk N (Y.blk s H sc (compEnvC sc cl C env) fp).env.scope scope own := by
  have b := blkOk_by h
  refine ⟨b.kind, b.uniq, b.ix, fun y hy e => ?_, b.own⟩
  show (relabel sc env).names.lookup y.1 = _ ∨ (relabel sc env).names.lookup y.1 = _
  rcases b.free y hy e with z | z
  · rcases lookup_relabeled (env := env) (k := fun _ => true) z with q | q
    · exact .inl q
    · exact .inl q
  · rcases lookup_relabeled (env := env) (k := fun _ => true) z with q | q
    · exact .inr q
    · exact .inl q
end LB
namespace LB
open PySem PySem.Spec PyProof.Rows L2 RS
variable (K : PySem.W.Frag) {X : Cx}
theorem pe_bm0' {o : Expr} {to : TE} {name : Str} {apos cpos : Pos} {T id : String} {r : V → List V → Hp → VK → Prop} (pa : PlainAttrs T) (slot : Slot T name id) (hty : typeOf (.builtin id) = pure (.type "method_descriptor")) (hm : MtR X id r) (ho : PE X o to)
    (hbase : attributeBase o name X.env (eval o X.env) = eval o X.env := by rfl) (hline : (apos.endLine == cpos.line) = true := by rfl) (h : X.K = K := by rfl) : PE X (.Call (.Attribute o name apos) [] [] cpos) (tBM0 K T r to) := by
  subst h; exact pe_bm0 pa slot hty hm ho hbase hline
theorem pe_bm' {o e : Expr} {es : List Expr} {to : TE} {t : TA} {name : Str} {apos cpos : Pos} {T id : String} {r : V → List V → Hp → VK → Prop} (pa : PlainAttrs T) (slot : Slot T name id) (hty : typeOf (.builtin id) = pure (.type "method_descriptor")) (hm : MtR X id r) (ho : PE X o to) (ha : PA X (e :: es) t)
    (hbase : attributeBase o name X.env (eval o X.env) = eval o X.env := by rfl)
    (hfew : ((backTo cpos (starEach (e :: es) X.env)).all (fun x => !x.1) && (backToKw cpos (keywordEach [] X.env)).all (fun x => x.1.isSome)
      && decide ((e :: es).length + ([] : List Keyword).length + (if ([] : List Keyword).isEmpty then 0 else 1) < 30)) = true := by rfl)
    (hline : (apos.endLine == cpos.line) = true := by rfl) (hs : starEach (e :: es) X.env = (false, eval e X.env) :: starEach es X.env := by rfl) (hplain : (backTo cpos (starEach es X.env)).any (·.1) = false := by rfl) (h : X.K = K := by rfl) :
    PE X (.Call (.Attribute o name apos) (e :: es) [] cpos) (tBM K T r to t) := by
  subst h; exact pe_bm pa slot hty hm ho ha hbase hfew hline hs hplain
end LB
namespace LB
open PySem PySem.Spec PyProof.Rows L2 RS
variable {X : Cx}
/-- t * n, n at least 1 -/
theorem op_repAny : OpR X (binaryOp .Mult) (fun x y H Q => rRep1 X.K x y H Q ∨ rRepT X.K x y H Q) := by
  intro pins s σ H x y v u Q I rx ry h
  rcases h with h | h
  · exact op_rep1 pins s σ H x y v u Q I rx ry h
  · exact op_repT pins s σ H x y v u Q I rx ry h
end LB
namespace LB
open PySem PySem.Spec PyProof.Rows L2 RS
/-- a class with an own ==, by its promise -/
structure Eq1 (P : Program) (w : World) (K : PySem.W.Frag) (mg : Str → Option Value) (base : Heap) (n : Nat) (C : Addr) (R : Addr → Addr → Bool → Hp → Prop) : Prop where
  ex : ∃ (f : Addr) (fd : FuncData) (ps : List Str), FnOk P w K mg base CX0 n f fd ps (spEqB R) ∧ Binds K fd ps [] ∧ EqC K C f
theorem op_neK {X : Cx} {n j : Nat} {C : Addr} {R : Addr → Addr → Bool → Hp → Prop} (c : Eq1 X.prog X.w X.K X.mg X.base n C R) (hr : Room j X.A) (hk : n + 1 ≤ j) : OpR X (compareOp .NotEq) (rEqP C R true) := by
  obtain ⟨f, fd, ps, F, hb, E⟩ := c.ex
  exact op_neP F hb E (hr.mono hk)
theorem op_eqK {X : Cx} {n j : Nat} {C : Addr} {R : Addr → Addr → Bool → Hp → Prop} (c : Eq1 X.prog X.w X.K X.mg X.base n C R) (hr : Room j X.A) (hk : n ≤ j) : OpR X (compareOp .Eq) (rEqP C R false) := by
  obtain ⟨f, fd, ps, F, hb, E⟩ := c.ex
  exact op_eqP F hb E (hr.mono hk)
end LB
namespace LB
open PySem PySem.Spec PyProof.Rows L2 RS
/-- a + b of two tuples, whichever are empty -/
def rCatS (K : PySem.W.Frag) : R2 := fun x y H Q => ∃ a b xs ys, x = .ref a ∧ y = .ref b ∧ SqT K H a xs ∧ SqT K H b ys ∧ xs.length + ys.length ≤ sizeLine ∧ ∀ H' r, Same H H' → SqT K H' r (xs ++ ys) → Q (.ref r) H'
theorem op_catS {X : Cx} : OpR X (binaryOp .Add) (rCatS X.K) := by
  intro pins s σ H x y v u Q I rx ry h
  obtain ⟨a, b, xs, ys, rfl, rfl, h1, h2, le, q⟩ := h
  refine op_catA pins s σ H _ _ v u Q I rx ry ⟨a, b, xs, ys, rfl, rfl, h1, h2, le, fun e => q _ _ (Same.refl _) (by subst e; exact h2), fun _ e => q _ _ (Same.refl _) (by subst e; rw [List.append_nil]; exact h1), fun _ _ p np => q _ _ (same_new np) T_new⟩
theorem op_catS' (K : PySem.W.Frag) {X : Cx} (h : X.K = K := by rfl) : OpR X (binaryOp .Add) (rCatS K) := by subst h; exact op_catS
end LB
set_option Elab.async false
set_option linter.all false
set_option maxRecDepth 100000
/-! What the top has written, found once: a def, a method, a class, a number. -/
namespace LB
open PySem PySem.Spec PyProof.Rows L2 RS
def TopF (K : PySem.W.Frag) (x : Str) (st : Stmt) : Prop := ∃ (f : Addr) (od an : Option Addr) (sl : Array (Option Value)) (oc kV dc pm cd ct : Value), PySem.W.nsIn K mainGlobals x = some (some (.ref f)) ∧
  K.lookup f = some ⟨oc, od, .func (PySem.W.fnOf x x (defArgs st) (defBody st) (defScope st) .none kV dc pm an cd ct), sl⟩ ∧ PySem.W.codeIn K cd x = true ∧ PySem.W.keepIn K (.ref f) = true
def TopM (K : PySem.W.Frag) (C : Addr) (m q : Str) (st : Stmt) : Prop := ∃ (f : Addr) (od an : Option Addr) (sl : Array (Option Value)) (oc kV dc pm cd ct : Value), PySem.W.findIn K (.ref C) m = some (some (.ref f)) ∧ PySem.W.isFn K (.ref f) = true ∧
  K.lookup f = some ⟨oc, od, .func (PySem.W.fnOf m q (defArgs st) (defBody st) (defScope st) .none kV dc pm an cd ct), sl⟩ ∧ PySem.W.codeIn K cd q = true ∧ PySem.W.keepIn K (.ref f) = true
def BindsF (x q : Str) (st : Stmt) (ps : List Str) : Prop := ∀ (kV doc pm : Value) (an : Option Addr) (cdv ct : Value) (us : List Value), us.length = ps.length → bindArgs (PySem.W.fnOf x q (defArgs st) (defBody st) (defScope st) .none kV doc pm an cdv ct) ⟨us, []⟩ = pure (ps.zip us)
structure ClsTop (K : PySem.W.Frag) (C : Addr) : Prop where
  pg : PySem.W.plainGet K C Str.empty = true
  hd : PySem.W.hasDictIn K C = true
  po : PySem.W.plainOver K C = true
  sa : PySem.W.findIn K (.ref C) "__setattr__" = some (some (.builtin "object.__setattr__"))
  makes : PySem.W.makesIn K C = true
  kc : PySem.W.keepIn K (.ref C) = true
  ha : PySem.W.findIn K (.ref C) "__class__" = some (some (.builtin "object.__class__"))
  hn : PySem.W.specialIn K (.builtin "object.__class__") "__get__" = some (some (.builtin "getset_descriptor.__get__"))
  htk : PySem.W.takesIn K (.builtin "object.__class__") = some true
  hm : PySem.W.mroIn K C (.type "object") = some true
theorem ClsTop.cls {K : PySem.W.Frag} {C : Addr} (c : ClsTop K C) : Cls K C := ⟨c.pg, c.hd, c.po, c.sa⟩
theorem ClsTop.ins {K : PySem.W.Frag} {C : Addr} (c : ClsTop K C) : C8.InsC K C := ⟨c.cls, c.ha, c.hn, c.htk, c.hm, if_pos (by simp)⟩
theorem TopF.df {K : PySem.W.Frag} {mg : Str → Option Value} {h : Heap} {x : Str} {st : Stmt} {ps : List Str} (t : TopF K x st) (X : K.In h) (G : h.Ns mainGlobals mg) (hb : BindsF x x st ps) :
    ∃ (f : Addr) (fd : FuncData), Df K mg x ps st f fd := by
  obtain ⟨f, od, an, sl, oc, kV, dc, pm, cd, ct, a, l, c, k⟩ := t
  have F := L2.fun_mk (st := st) l c k
  exact ⟨f, _, F, PySem.W.mg_of X G a, L2.Fun.binds F hb⟩
theorem TopM.fn {K : PySem.W.Frag} {C : Addr} {m q : Str} {st : Stmt} {ps : List Str} (t : TopM K C m q st) (hb : BindsF m q st ps) :
    ∃ (f : Addr) (fd : FuncData), PySem.W.findIn K (.ref C) m = some (some (.ref f)) ∧ PySem.W.isFn K (.ref f) = true ∧ Fun K m q st f fd ∧ Binds K fd ps [] := by
  obtain ⟨f, od, an, sl, oc, kV, dc, pm, cd, ct, a, i, l, c, k⟩ := t
  have F := L2.fun_mk (st := st) l c k
  exact ⟨f, _, a, i, F, L2.Fun.binds F hb⟩
/-- the law's own def: its frame too -/
theorem TopF.law {K : PySem.W.Frag} {mg : Str → Option Value} {h : Heap} {x y : Str} {st : Stmt} {fa : Addr} (t : TopF K x st) (X : K.In h) (G : h.Ns mainGlobals mg) (hfa : mg x = some (.ref fa)) (hb : BindsF x x st [y]) :
    ∃ (fd : FuncData), Df K mg x [y] st fa fd ∧ ∀ (s : Shared) (v : Value), BindsTo s fd ⟨[v], []⟩ [(y, v)] := by
  obtain ⟨f, od, an, sl, oc, kV, dc, pm, cd, ct, a, l, c, k⟩ := t
  have e := hfa.symm.trans (PySem.W.mg_of X G a)
  cases e
  have F := L2.fun_mk (st := st) l c k
  exact ⟨_, ⟨F, PySem.W.mg_of X G a, L2.Fun.binds F hb⟩, fun s v => .of_eq (hb kV dc pm an cd ct [v] rfl)⟩
end LB
namespace LB
open PySem PySem.Spec PyProof.Rows L2 RS
theorem TopF.of {K : PySem.W.Frag} {x : Str} {st : Stmt} {f : Addr} {od an : Option Addr} {sl : Array (Option Value)} {oc kV dc pm cd ct : Value} (a : PySem.W.nsIn K mainGlobals x = some (some (.ref f)))
    (l : K.lookup f = some ⟨oc, od, .func (PySem.W.fnOf x x (defArgs st) (defBody st) (defScope st) .none kV dc pm an cd ct), sl⟩) (c : PySem.W.codeIn K cd x = true) (k : PySem.W.keepIn K (.ref f) = true) : TopF K x st := ⟨f, od, an, sl, oc, kV, dc, pm, cd, ct, a, l, c, k⟩
theorem TopM.of {K : PySem.W.Frag} {C : Addr} {m q : Str} {st : Stmt} {f : Addr} {od an : Option Addr} {sl : Array (Option Value)} {oc kV dc pm cd ct : Value} (a : PySem.W.findIn K (.ref C) m = some (some (.ref f))) (i : PySem.W.isFn K (.ref f) = true)
    (l : K.lookup f = some ⟨oc, od, .func (PySem.W.fnOf m q (defArgs st) (defBody st) (defScope st) .none kV dc pm an cd ct), sl⟩) (c : PySem.W.codeIn K cd q = true) (k : PySem.W.keepIn K (.ref f) = true) : TopM K C m q st := ⟨f, od, an, sl, oc, kV, dc, pm, cd, ct, a, i, l, c, k⟩
end LB
set_option Elab.async false
set_option linter.all false
set_option maxRecDepth 100000
set_option maxHeartbeats 1000000
/-! A reading in a tuple of readings: in, not in, index; a comprehension over enumerate of a tuple. -/
namespace LB
open PySem PySem.Spec PyProof.Rows L2 RS
theorem lay_is : ∀ xs : List Int, PyData.canLayAll0 (xs.map PyData.int) = true
  | [] => rfl
  | x :: xs => by
    show (true && PyData.canLayAll0 (xs.map PyData.int)) = true
    rw [lay_is xs]
    rfl
theorem lay_k (k : RK) : (enc k).canLay0 = true := by
  show (true && (true && (PyData.canLayAll0 (k.2.2.map PyData.int) && true))) = true
  rw [lay_is]
  rfl
theorem lay_ks : ∀ L : Ks, PyData.canLayAll0 (L.map fun p => enc p.2) = true
  | [] => rfl
  | k :: L => by
    show ((enc k.2).canLay0 && PyData.canLayAll0 (L.map fun p => enc p.2)) = true
    rw [lay_ks L, lay_k]
    rfl
theorem depth_ks : ∀ L : Ks, PyData.depthAll (L.map fun p => enc p.2) ≤ 2
  | [] => Nat.zero_le _
  | k :: L => by
    have h1 := depth_enc k.2
    have h2 := depth_ks L
    show Nat.max (enc k.2).depth (PyData.depthAll (L.map fun p => enc p.2)) ≤ 2
    exact Nat.max_le.mpr ⟨h1, h2⟩
theorem eqv_is : ∀ xs ys : List Int, PyData.eqvAll (xs.map .int) (ys.map .int) = decide (xs = ys)
  | [], [] => by simp [PyData.eqvAll]
  | [], _ :: _ => by simp [PyData.eqvAll]
  | _ :: _, [] => by simp [PyData.eqvAll]
  | x :: xs, y :: ys => by
    simp [PyData.eqvAll, PyData.eqv, eqv_is xs ys]
    by_cases e : x = y <;> simp [e]
theorem eqv_k (j k : RK) : PyData.eqv (enc j) (enc k) = decide (j = k) := by
  unfold enc
  simp only [PyData.eqv, PyData.eqvAll, eqv_is, Bool.and_true]
  obtain ⟨a, b, c⟩ := j
  obtain ⟨a', b', c'⟩ := k
  by_cases h1 : a = a' <;> by_cases h2 : b = b' <;> by_cases h3 : c = c' <;> simp [h1, h2, h3]
section
variable {X : Cx} {pins : List (Addr × Obj)} {σ : L2.St} {H : Hp} {s : Shared}
theorem reads_ks {h : Heap} : ∀ {L : Ks}, (∀ p ∈ L, ReadR h p.2 p.1) → ReadsAll h (refs L) (L.map fun p => enc p.2) []
  | [], _ => .nil
  | p :: L, q => .cons (as := []) (bs := []) (q p List.mem_cons_self) (reads_ks fun r hr => q r (List.mem_cons_of_mem _ hr))
def rInR (K : PySem.W.Frag) (neg : Bool) : R2 := fun x y H Q => ∃ (b a : Addr) (ks : Ks) (k : RK), x = .ref b ∧ y = .ref a ∧ RdAt K H b k ∧ SqT K H a (ks.map fun p => V.ref p.1) ∧ (∀ p ∈ ks, RdAt K H p.1 p.2) ∧
  Q (.bl (if neg then !decide (k ∈ ks.map (·.2)) else decide (k ∈ ks.map (·.2)))) H
theorem any_k (ks : Ks) (k : RK) : ((ks.map fun p => enc p.2).any fun y => PyData.eqv y (enc k)) = decide (k ∈ ks.map (·.2)) := by
  rw [List.any_map, Bool.eq_iff_iff, List.any_eq_true, decide_eq_true_eq, List.mem_map]
  constructor
  · rintro ⟨p, hp, e⟩
    have e : PyData.eqv (enc p.2) (enc k) = true := e
    rw [eqv_k] at e
    exact ⟨p, hp, of_decide_eq_true e⟩
  · rintro ⟨p, hp, e⟩
    refine ⟨p, hp, ?_⟩
    show PyData.eqv (enc p.2) (enc k) = true
    rw [eqv_k]
    exact decide_eq_true e
theorem op_notInR (hu : X.A.units + 64 < cLine) : OpR X (compareOp .NotIn) (rInR X.K true) := by
  intro pins s σ H x y v u Q I rx ry h
  obtain ⟨b, a, ks, k, rfl, rfl, hb, ha, hk, q⟩ := h
  obtain ⟨its, r, ⟨o, ho, hc, n, hd⟩, _⟩ := I.tuple ha
  have ei := refs_vals r
  subst ei
  cases rx
  cases ry
  have e1 := depth_enc k
  refine SeqAt.notIn_tuple_reads (as := []) (bs := []) (xs := ks.map fun p => enc p.2) (d := enc k) (.tuple ho hc hd (by simpa using reads_ks fun p hp => (rd_is I (hk p hp)).2)) (rd_is I hb).2 (lay_ks ks) (lay_k k) (by omega) ?_
  rw [any_k]
  exact ⟨.bl _, H, I, rfl, q⟩
def rIndexR (K : PySem.W.Frag) : V → List V → Hp → VK → Prop := fun x vs H Q => ∃ (a b : Addr) (ks : Ks) (k : RK) (j : Nat), x = .ref a ∧ vs = [.ref b] ∧ SqT K H a (ks.map fun p => V.ref p.1) ∧ (∀ p ∈ ks, RdAt K H p.1 p.2) ∧ RdAt K H b k ∧ (ks.map (·.2))[j]? = some k ∧
  (∀ m, m < j → (ks.map (·.2))[m]? ≠ some k) ∧ Q (.int (j : Nat)) H
theorem mt_indexR (hu : X.A.units + 64 < cLine) : MtR X "tuple.index" (rIndexR X.K) := by
  intro pins s σ H x vs v us Q I rx rs h
  obtain ⟨a, b, ks, k, j, rfl, rfl, ha, hk, hb, hj, hno, q⟩ := h
  cases rx
  rw [Vals.ref1 rs]
  obtain ⟨its, r, ⟨⟨cls, dd, dt, sl⟩, ho, hc, n, hd⟩, _⟩ := I.tuple ha
  have ei := refs_vals r
  subst ei
  simp only at hc hd
  subst hc hd
  have e1 := depth_enc k
  have lj : j < ks.length := by have := (List.getElem?_eq_some_iff.mp hj).1; rwa [List.length_map] at this
  have lr : (refs ks).length = ks.length := by unfold refs; rw [List.length_map]
  have at_ : ∀ (m : Nat) (hm : m < (refs ks).toArray.size), ∃ p, ks[m]? = some p ∧ SeqAt.readOf s.heap (refs ks).toArray[m] = enc p.2 := fun m hm => by
    have hm' : m < ks.length := by rw [← lr]; simpa using hm
    refine ⟨ks[m], List.getElem?_eq_getElem hm', ?_⟩
    have e2 : (refs ks).toArray[m] = Value.ref ks[m].1 := by
      show (refs ks)[m]'(by simpa using hm) = _
      unfold refs
      rw [List.getElem_map]
    rw [e2]
    exact SeqAt.readOf_eq (lay_k _) (rd_is I (hk _ (List.getElem_mem hm'))).2
  have jz : j < (refs ks).toArray.size := by simpa [lr] using lj
  refine call_meets PySem.F.slot_tuple_index ⟨_, ho, rfl⟩ PySem.F.entry_tuple_index (PySem.F.args_tuple_index_2 _ _) (TI.tuple_indexAt a (refs ks).toArray n dd sl (.ref b) (fun u => PyData.eqv (SeqAt.readOf s.heap u) (enc k)) j jz ?_ ?_)
    ⟨ho, SeqAt.items_eqAt (as := []) (bs := []) (xs := ks.map fun p => enc p.2) (by simpa using reads_ks fun p hp => (rd_is I (hk p hp)).2) (rd_is I hb).2 (lay_ks ks) (lay_k k) (by omega), ⟨.int (j : Nat), H, I.tok _, ⟨_, rfl⟩, q⟩⟩
  · obtain ⟨p, hp, e⟩ := at_ j jz
    show PyData.eqv (SeqAt.readOf s.heap (refs ks).toArray[j]) (enc k) = true
    rw [e, eqv_k]
    rw [List.getElem?_map, hp] at hj
    exact decide_eq_true (Option.some.inj hj)
  · intro m hm hmj
    obtain ⟨p, hp, e⟩ := at_ m hm
    show PyData.eqv (SeqAt.readOf s.heap (refs ks).toArray[m]) (enc k) = false
    rw [e, eqv_k]
    refine decide_eq_false fun z => hno m hmj ?_
    rw [List.getElem?_map, hp]
    exact congrArg some z
end
/-- a comprehension over enumerate of a tuple -/
theorem lc_enumT {K : PySem.W.Frag} {a : Addr} {xs : List V} {g : TG} {tt : TT} {te : TE} {vs : List Nat} {σ : L2.St} {H1 : Hp} {D : Addr} {Qd : Hp → Prop} (Pv : Nat → Hp → Prop) (h0 : Pv 0 (upd H1 D (.lst []))) (hq : ∀ i H, Pv i H → SqT K H a xs)
    (hs : ∀ (i : Nat) (x : V) (T : Addr) (H : Hp), xs[i]? = some x → Pv i H → H T = none → g (.ref T) (wipe σ vs) (upd H T (.tup [.int (i : Nat), x])) fun σ2 H2 => wipe σ2 vs = wipe σ vs ∧ tt σ2 H2 fun b H3 =>
      if b = true then te σ2 H3 fun y H4 => ∃ acc, H4 D = some (.lst acc) ∧ acc.length < sizeLine ∧ Pv (i + 1) (upd H4 D (.lst (acc ++ [y]))) else Pv (i + 1) H3) (hd : ∀ H, Pv xs.length H → Qd H) :
    ∃ W : Nat → Nat → Hp → Prop, (∃ m, W 0 m (upd H1 D (.lst []))) ∧ ∀ i m H, W i m H →
      ((IteT K a).stop i H ∧ Qd H) ∨ ((IteT K a).go i H ∧ ∃ Nx : Hp → Prop, (∀ H', Nx H' → ∃ m', m' < m ∧ W (i + 1) m' H') ∧ ∀ x H', (IteT K a).yld i H x H' → g x (wipe σ vs) H' fun σ2 H2 => wipe σ2 vs = wipe σ vs ∧ tt σ2 H2 fun b H3 =>
        if b = true then te σ2 H3 fun y H4 => ∃ acc, H4 D = some (.lst acc) ∧ acc.length < sizeLine ∧ Nx (upd H4 D (.lst (acc ++ [y]))) else Nx H3) := by
  refine ⟨fun i m H => m = xs.length - i ∧ i ≤ xs.length ∧ Pv i H, ⟨xs.length, rfl, Nat.zero_le _, h0⟩, ?_⟩
  rintro i m H ⟨rfl, hi, p⟩
  have q := hq i H p
  by_cases hlt : i < xs.length
  · have hx : xs[i]? = some xs[i] := List.getElem?_eq_getElem hlt
    refine .inr ⟨⟨xs, _, q, hx⟩, Pv (i + 1), fun H' p' => ⟨xs.length - (i + 1), by omega, rfl, hlt, p'⟩, fun v H' y => ?_⟩
    obtain ⟨T, x', rfl, hT, rfl, f1⟩ := y
    exact hs i x' T H (f1 xs q) p hT
  · have e : i = xs.length := by omega
    subst e
    exact .inl ⟨⟨xs, q, Nat.le_refl _⟩, hd H p⟩
end LB
namespace LB
open PySem PySem.Spec PyProof.Rows L2 RS
theorem op_notInR' (K : PySem.W.Frag) {X : Cx} (hu : X.A.units + 64 < cLine) (h : X.K = K := by rfl) : OpR X (compareOp .NotIn) (rInR K true) := by subst h; exact op_notInR hu
theorem op_notIn_seq' (K : PySem.W.Frag) {X : Cx} (h : X.K = K := by rfl) : OpR X (compareOp .NotIn) (rIn K true) := by subst h; exact op_notIn_seq
theorem sl_tupA' (K : PySem.W.Frag) {X : Cx} (h : X.K = K := by rfl) : SlR X (rSlA K) := by subst h; exact sl_tupA
theorem op_repT' (K : PySem.W.Frag) {X : Cx} (h : X.K = K := by rfl) : OpR X (binaryOp .Mult) (rRepT K) := by subst h; exact op_repT
theorem op_neRd {X : Cx} (hu : X.A.units + 64 < cLine) : OpR X (compareOp .NotEq) (fun x y H Q => ∃ (a b : Addr) (j k : RK), x = .ref a ∧ y = .ref b ∧ RdAt X.K H a j ∧ RdAt X.K H b k ∧ Q (.bl (!decide (j = k))) H) := by
  intro pins s σ H x y v u Q I rx ry h
  obtain ⟨a, b, j, k, rfl, rfl, h1, h2, q⟩ := h
  cases rx
  cases ry
  have e1 := depth_enc j
  have sh : ∀ k : RK, SeqAt.shaped (enc k) = true := fun k => by
    unfold SeqAt.shaped
    rw [Bool.and_eq_true]
    have := depth_enc k
    exact ⟨lay_k k, decide_eq_true (by omega)⟩
  refine SeqAt.compareNe_shaped (rd_is I h1).2 (rd_is I h2).2 (sh j) (sh k) hu ?_
  rw [eqv_k]
  exact ⟨.bl _, H, I, rfl, q⟩
def rNeRd (K : PySem.W.Frag) : R2 := fun x y H Q => ∃ (a b : Addr) (j k : RK), x = .ref a ∧ y = .ref b ∧ RdAt K H a j ∧ RdAt K H b k ∧ Q (.bl (!decide (j = k))) H
theorem op_neRd' (K : PySem.W.Frag) {X : Cx} (hu : X.A.units + 64 < cLine) (h : X.K = K := by rfl) : OpR X (compareOp .NotEq) (rNeRd K) := by subst h; exact op_neRd hu
end LB
namespace LB
open PySem PySem.Spec PyProof.Rows L2 RS
/-- tuple(xs) of a list, known to hold no names of its own -/
theorem call_tupF {X : Cx} : CallR X (.type "tuple") (fun xs H Q => ∃ p ys, xs = [.ref p] ∧ SqL X.K H p ys ∧ ∀ l o, o.dict = none → H l = none → Q (.ref l) (upd H l (.frz o (.tup ys)))) := by
  intro pins s σ H xs us Q I r h
  obtain ⟨p, ys, rfl, hq, q⟩ := h
  rw [Vals.ref1 r]
  obtain ⟨its, r', pl, hz⟩ := I.list hq
  refine call_tuple_list pl.isList (fun h' kp => ?_) (by rw [List.size_toArray, ← r'.length]; exact hz)
  have I1 : Inv X pins σ H { s with heap := h' } := I.kept (t' := s.toks) kp
  have hn := I1.hok.fresh (Nat.le_refl _)
  refine ⟨.ref h'.objs.size, upd H h'.objs.size (.frz { cls := .type "tuple", data := .seq its.toArray } (.tup ys)), ?_, rfl, q _ _ rfl hn⟩
  exact I1.laid (t' := s.toks) (fun b o e => Heap.get?_push_of_some _ e) (Nat.le_refl _) ⟨Heap.get?_push_size _ rfl, hz, its, r', IsTup.new _ _⟩
/-- a method of such a tuple -/
def tBMT (r : V → List V → Hp → VK → Prop) (to : TE) (t : TA) : TE := fun σ H Q => to σ H fun x H1 => (∃ p o xs, x = .ref p ∧ H1 p = some (.frz o (.tup xs)) ∧ o.dict = none) ∧ t σ H1 fun xs H2 => r x xs H2 Q
theorem pe_bmT {X : Cx} {o e : Expr} {es : List Expr} {to : TE} {t : TA} {name : Str} {apos cpos : Pos} {id : String} {r : V → List V → Hp → VK → Prop} (pa : PlainAttrs "tuple") (slot : Slot "tuple" name id) (hty : typeOf (.builtin id) = pure (.type "method_descriptor")) (hm : MtR X id r) (ho : PE X o to) (ha : PA X (e :: es) t)
    (hbase : attributeBase o name X.env (eval o X.env) = eval o X.env := by rfl)
    (hfew : ((backTo cpos (starEach (e :: es) X.env)).all (fun x => !x.1) && (backToKw cpos (keywordEach [] X.env)).all (fun x => x.1.isSome)
      && decide ((e :: es).length + ([] : List Keyword).length + (if ([] : List Keyword).isEmpty then 0 else 1) < 30)) = true := by rfl)
    (hline : (apos.endLine == cpos.line) = true := by rfl) (hs : starEach (e :: es) X.env = (false, eval e X.env) :: starEach es X.env := by rfl) (hplain : (backTo cpos (starEach es X.env)).any (·.1) = false := by rfl) :
    PE X (.Call (.Attribute o name apos) (e :: es) [] cpos) (tBMT r to t) := by
  refine ⟨fun pins s σ H Q I h => ?_⟩
  refine wpAny_Call_method_late hbase hfew hline rfl (thn (ho.run pins s σ H _ I h) fun v s1 ⟨x, H1, I1, r1, ⟨p, ob, ys, ex, hp, hd⟩, q1⟩ => ?_)
  subst ex
  cases r1
  obtain ⟨g1, _, _, _, g2⟩ := I1.hok p _ hp
  have h1 : s1.TypeIs (.ref p) "tuple" := by
    obtain ⟨o', a1, a2, _⟩ := g2
    exact ⟨o', a1, a2⟩
  refine ⟨"tuple", id, pa, slot, hty, h1, fun a e => by cases e; exact ⟨ob, g1, hd⟩, ?_⟩
  have hA := ha.run cpos pins s1 σ H1 _ I1 q1
  rw [hs] at hA ⊢
  refine Calls.callWith_builtin (by show (false || (backTo cpos (starEach es X.env)).any (·.1)) = false; rw [hplain] <;> rfl) (Calls.evalArgs_plain ?_)
  exact thn hA fun us s2 ⟨vs, H2, I2, r2, q2⟩ => hm pins s2 σ H2 (.ref p) vs _ us Q I2 rfl r2 q2
end LB
set_option Elab.async false
set_option linter.all false
set_option maxRecDepth 100000
set_option maxHeartbeats 400000
/-! Dicts whose keys are nested tuples. -/
namespace LB
open PySem PySem.Spec PyProof.Rows L2 RS
/-- the key of a pair: a table and a place -/
def pkey (t : Int) (p : List Int) : NestedKey := .tup [.num t, .tup (p.map .num)]
def pairHash (t : Int) (p : List Int) : Int := reduceHash (Builtin.Tuple.tupleHashOf [hashInt t, reduceHash (Builtin.Tuple.tupleHashOf (p.map hashInt))])
theorem hashes_num (w : World) : ∀ p : List Int, NestedKey.hashes w (p.map .num) = p.map hashInt
  | [] => NestedKey.hashes.eq_1 w
  | x :: p => by rw [List.map_cons, NestedKey.hashes.eq_2, hashes_num w p, NestedKey.hash.eq_2]; rfl
theorem hash_pkey (w : World) (t : Int) (p : List Int) : NestedKey.hash w (pkey t p) = pairHash t p := by
  unfold pkey pairHash
  rw [NestedKey.hash.eq_4, NestedKey.hashes.eq_2, NestedKey.hashes.eq_2, NestedKey.hashes.eq_1, NestedKey.hash.eq_2, NestedKey.hash.eq_4, hashes_num]
/-- a pair: a table and a place -/
abbrev PK := Int × List Int
def pk (q : PK) : NestedKey := pkey q.1 q.2
theorem nums_inj : ∀ {a b : List Int}, a.map NestedKey.num = b.map NestedKey.num → a = b
  | [], [], _ => rfl
  | [], _ :: _, h => by cases h
  | _ :: _, [], h => by cases h
  | x :: a, y :: b, h => by
    rw [List.map_cons, List.map_cons] at h
    injection h with h1 h2
    injection h1 with h1
    rw [h1, nums_inj h2]
theorem pk_inj {q r : PK} : pk q = pk r ↔ q = r := by
  refine ⟨fun h => ?_, fun h => by rw [h]⟩
  obtain ⟨a, b⟩ := q
  obtain ⟨c, d⟩ := r
  unfold pk pkey at h
  injection h with h
  injection h with h1 h
  injection h1 with h1
  injection h with h2 _
  injection h2 with h2
  simp only at h1 h2
  rw [h1, nums_inj h2]
theorem ent_w {P P' : Program} {w w' : World} {q : PK} {a : Addr} {u : Value} : entryOfKey (nestedKind P w) (pk q, a, u) = entryOfKey (nestedKind P' w') (pk q, a, u) := by
  show DictEntry.mk (NestedKey.hash w (pkey q.1 q.2)) _ _ = DictEntry.mk (NestedKey.hash w' (pkey q.1 q.2)) _ _
  rw [hash_pkey, hash_pkey]
/-- an entry: the key, the address of its tuple, the value -/
abbrev NE := PK × Addr × V
def nrow (p : NE) (u : Value) : NestedKey × Addr × Value := (pk p.1, p.2.1, u)
def nrows (L : List NE) (us : List Value) : List (NestedKey × Addr × Value) := List.zipWith nrow L us
def DctP (a : Addr) (L : List NE) : HO := .ext fun h => L.length ≤ sizeLine ∧ (a == sysModules) = false ∧ ∃ us o es ep, Vals (L.map (·.2.2)) us ∧ h.get? a = some o ∧ o.ExactDict ∧ o.data = .dict es ep ∧
  (∀ (P : Program) (w : World), es.toList = (nrows L us).map (entryOfKey (nestedKind P w))) ∧ (L.map (·.1)).Nodup
mutual
/-- a value as a key -/
inductive NkV (K : PySem.W.Frag) (H : Hp) : V → NestedKey → Prop
  | int (i : Int) : NkV K H (.int i) (.num i)
  | tup {a : Addr} {vs : List V} {ks : List NestedKey} : SqT K H a vs → NkVs K H vs ks → NkV K H (.ref a) (.tup ks)
inductive NkVs (K : PySem.W.Frag) (H : Hp) : List V → List NestedKey → Prop
  | nil : NkVs K H [] []
  | cons {v : V} {k : NestedKey} {vs : List V} {ks : List NestedKey} : NkV K H v k → NkVs K H vs ks → NkVs K H (v :: vs) (k :: ks)
end
section
variable {X : Cx} {pins : List (Addr × Obj)} {σ : L2.St} {H : Hp} {s : Shared}
mutual
theorem nk_is (I : L2.Inv X pins σ H s) : ∀ {v : V} {k : NestedKey} {u : Value}, NkV X.K H v k → RelV v u → NestedIs s.heap k u
  | _, _, _, .int i, r => by obtain ⟨t, rfl⟩ := r; exact .int i t
  | _, _, _, .tup h hs, r => by
    cases r
    obtain ⟨its, rv, ⟨o, ho, hc, n, hd⟩, _⟩ := I.tuple h
    exact .tup ho hc hd (by simpa using nks_is I hs rv)
theorem nks_is (I : L2.Inv X pins σ H s) : ∀ {vs : List V} {ks : List NestedKey} {us : List Value}, NkVs X.K H vs ks → Vals vs us → NestedAll s.heap ks us
  | _, _, _, .nil, .nil => .nil
  | _, _, _, .cons h hs, .cons r rs => .cons (nk_is I h r) (nks_is I hs rs)
end
/-- the keys of a dict, as H holds them -/
def NkAt (K : PySem.W.Frag) (H : Hp) (b : Addr) (q : PK) : Prop := ∃ c, SqT K H b [.int q.1, .ref c] ∧ SqT K H c (q.2.map V.int)
theorem nkv_ints {K : PySem.W.Frag} {H : Hp} : ∀ p : List Int, NkVs K H (p.map V.int) (p.map NestedKey.num)
  | [] => .nil
  | x :: p => .cons (.int x) (nkv_ints p)
theorem depth_nums : ∀ p : List Int, NestedKey.depthAll (p.map NestedKey.num) ≤ 1
  | [] => by simp [NestedKey.depthAll]
  | x :: p => by
    have := depth_nums p
    simp only [List.map_cons, NestedKey.depthAll, NestedKey.depth]
    omega
theorem depth_pk (q : PK) : (pk q).depth ≤ 8 := by
  have := depth_nums q.2
  unfold pk pkey
  simp only [NestedKey.depth, NestedKey.depthAll]
  omega
theorem nkat_is (I : L2.Inv X pins σ H s) {b : Addr} {q : PK} (h : NkAt X.K H b q) : (nestedKind X.prog X.w).is s.heap (pk q) b := by
  obtain ⟨c, h1, h2⟩ := h
  exact ⟨nk_is I (.tup h1 (.cons (.int _) (.cons (.tup h2 (nkv_ints _)) .nil))) rfl, depth_pk q⟩
theorem nd_pk : ∀ {l : List PK}, l.Nodup → (l.map pk).Nodup
  | [], _ => List.nodup_nil
  | q :: l, h => by
    rw [List.nodup_cons] at h
    rw [List.map_cons, List.nodup_cons]
    refine ⟨fun m => ?_, nd_pk h.2⟩
    obtain ⟨r, hr, e⟩ := List.mem_map.mp m
    rw [pk_inj.mp e] at hr
    exact h.1 hr
theorem nrows_mem : ∀ {L : List NE} {us : List Value} {x : NestedKey × Addr × Value}, x ∈ nrows L us → ∃ p ∈ L, x.1 = pk p.1 ∧ x.2.1 = p.2.1
  | [], us, x, h => by cases us <;> cases h
  | p :: L, [], x, h => by cases h
  | p :: L, u :: us, x, h => by
    rcases List.mem_cons.mp h with rfl | h
    · exact ⟨p, List.mem_cons_self, rfl, rfl⟩
    · obtain ⟨q, hq, e⟩ := nrows_mem h
      exact ⟨q, List.mem_cons_of_mem _ hq, e⟩
theorem nrows_keys : ∀ {L : List NE} {us : List Value}, L.length = us.length → (nrows L us).map (·.1) = (L.map (·.1)).map pk
  | [], [], _ => rfl
  | [], _ :: _, h => by cases h
  | _ :: _, [], h => by cases h
  | p :: L, u :: us, h => by
    show pk p.1 :: (nrows L us).map (·.1) = pk p.1 :: (L.map (·.1)).map pk
    rw [nrows_keys (by simpa using h)]
theorem dN_of (I : L2.Inv X pins σ H s) {a : Addr} {L : List NE} (ha : H a = some (DctP a L)) (hk : ∀ p ∈ L, NkAt X.K H p.2.1 p.1) :
    L.length ≤ sizeLine ∧ (a == sysModules) = false ∧ ∃ us, Vals (L.map (·.2.2)) us ∧ Heap.DictOfH (nestedKind X.prog X.w) s.heap a (nrows L us) := by
  obtain ⟨⟨h1, h2, us, o, es, ep, rv, ho, he, hd, hl, hn⟩, _⟩ := I.hok a _ ha
  have hlen : L.length = us.length := by have := rv.length; simpa using this
  refine ⟨h1, h2, us, rv, o, es, ep, ho, he, hd, hl _ _, fun x hx => ?_, by rw [nrows_keys hlen]; exact nd_pk hn⟩
  obtain ⟨p, hp, e1, e2⟩ := nrows_mem hx
  rw [e1, e2]
  exact nkat_is I (hk p hp)
/-- what the dict holds at a key -/
def lookN (L : List NE) (k : PK) : Option V := match L with
  | [] => none
  | p :: L => if p.1 = k then some p.2.2 else lookN L k
theorem look_at : ∀ {L : List NE} {us : List Value} (k : PK), Vals (L.map (·.2.2)) us → match lookN L k with
    | some v => ∃ p, atKey (nrows L us) (pk k) = some p ∧ RelV v p.2
    | none => atKey (nrows L us) (pk k) = none
  | [], _, k, .nil => rfl
  | p :: L, _, k, .cons (b := u) (l₂ := us) r rs => by
    unfold lookN
    have ih := look_at k rs
    by_cases e : p.1 = k
    · rw [if_pos e]
      exact ⟨(p.2.1, u), by simp [atKey, nrows, nrow, e], r⟩
    · rw [if_neg e]
      have : atKey (nrows (p :: L) (u :: us)) (pk k) = atKey (nrows L us) (pk k) := by simp [atKey, nrows, nrow, pk_inj, e]
      rw [this]
      exact ih
theorem look_some {L : List NE} {us : List Value} (k : PK) (h : Vals (L.map (·.2.2)) us) : (atKey (nrows L us) (pk k)).isSome = (lookN L k).isSome := by
  have := look_at k h
  cases e : lookN L k with
  | none => rw [e] at this; simp only at this; rw [this]; rfl
  | some v => rw [e] at this; obtain ⟨p, hp, _⟩ := this; rw [hp]; rfl
def rInN (P : Program) (w : World) (K : PySem.W.Frag) (neg : Bool) : R2 := fun x y H Q => ∃ (b a : Addr) (k : PK) (L : List NE), x = .ref b ∧ y = .ref a ∧ NkAt K H b k ∧ H a = some (DctP a L) ∧ (∀ p ∈ L, NkAt K H p.2.1 p.1) ∧
  Q (.bl (if neg then !(lookN L k).isSome else (lookN L k).isSome)) H
theorem nroom (hu : X.A.units + 64 < cLine) : (nestedKind X.prog X.w).room X.A.in1 := by
  show X.A.units + 1 + 8 < cLine
  omega
theorem op_inN (hu : X.A.units + 64 < cLine) : OpR X (compareOp .In) (rInN X.prog X.w X.K false) := by
  intro pins s σ H x y v u Q I rx ry h
  obtain ⟨b, a, k, L, rfl, rfl, hb, ha, hk, q⟩ := h
  cases rx
  cases ry
  obtain ⟨h1, h2, us, rv, hd⟩ := dN_of I ha hk
  refine wpAny_in_heap (nroom hu) (nkat_is I hb) h2 hd ?_
  rw [look_some k rv]
  exact ⟨.bl _, H, I.tok _, rfl, q⟩
theorem op_notInN (hu : X.A.units + 64 < cLine) : OpR X (compareOp .NotIn) (rInN X.prog X.w X.K true) := by
  intro pins s σ H x y v u Q I rx ry h
  obtain ⟨b, a, k, L, rfl, rfl, hb, ha, hk, q⟩ := h
  cases rx
  cases ry
  obtain ⟨h1, h2, us, rv, hd⟩ := dN_of I ha hk
  refine wpAny_notIn_heap (nroom hu) (nkat_is I hb) h2 hd ?_
  rw [look_some k rv]
  exact ⟨.bl _, H, I.tok _, rfl, q⟩
/-- d[k], there -/
def rIxN (P : Program) (w : World) (K : PySem.W.Frag) : R2 := fun x y H Q => ∃ (b a : Addr) (k : PK) (L : List NE) (v : V), x = .ref a ∧ y = .ref b ∧ NkAt K H b k ∧ H a = some (DctP a L) ∧ (∀ p ∈ L, NkAt K H p.2.1 p.1) ∧ lookN L k = some v ∧ Q v H
theorem ix_N (hu : X.A.units + 64 < cLine) : IxR X (rIxN X.prog X.w X.K) := by
  intro value slice pins s σ H x y v u Q I rx ry h hsub
  obtain ⟨b, a, k, L, z, rfl, rfl, hb, ha, hk, hz, q⟩ := h
  cases rx
  cases ry
  obtain ⟨h1, h2, us, rv, hd⟩ := dN_of I ha hk
  have e := look_at k rv
  rw [hz] at e
  obtain ⟨p, hp, rp⟩ := e
  exact tail_any (T := "dict") (id := "dict.__getitem__") hd.typeIs (by rfl) (wpAny_getItem_heap (nroom hu) (nkat_is I hb) hd hp ⟨z, H, I.tok _, rp, q⟩) hsub
/-- what d[k] = v leaves -/
def putN (L : List NE) (k : PK) (b : Addr) (v : V) : List NE := if (lookN L k).isSome then L.map (fun p => if p.1 = k then (p.1, p.2.1, v) else p) else L ++ [(k, b, v)]
theorem put_rows {L : List NE} {us : List Value} {k : PK} {b : Addr} {v : V} {u : Value} (h : Vals (L.map (·.2.2)) us) (r : RelV v u) : ∃ us', Vals ((putN L k b v).map (·.2.2)) us' ∧ nrows (putN L k b v) us' = storedH (nrows L us) (pk k) b u := by
  unfold putN storedH
  rw [look_some k h]
  by_cases e : (lookN L k).isSome = true
  · rw [if_pos e, if_pos e]
    clear e
    induction L generalizing us with
    | nil => cases h; exact ⟨[], .nil, rfl⟩
    | cons p L ih =>
      cases h with
      | cons r0 rs =>
        rename_i u0 us0
        obtain ⟨us', h1, h2⟩ := ih rs
        by_cases e : p.1 = k
        · refine ⟨u :: us', ?_, ?_⟩
          · simp only [List.map_cons, if_pos e]
            exact .cons r h1
          · simp only [nrows, List.map_cons, List.zipWith_cons_cons, nrow, putAt, if_pos e, if_pos (pk_inj.mpr e)] at h2 ⊢
            rw [h2]
        · refine ⟨u0 :: us', ?_, ?_⟩
          · simp only [List.map_cons, if_neg e]
            exact .cons r0 h1
          · simp only [nrows, List.map_cons, List.zipWith_cons_cons, nrow, putAt, if_neg e, if_neg (fun z => e (pk_inj.mp z))] at h2 ⊢
            rw [h2]
  · rw [if_neg e, if_neg e]
    clear e
    induction L generalizing us with
    | nil => cases h; exact ⟨[u], .cons r .nil, rfl⟩
    | cons p L ih =>
      cases h with
      | cons r0 rs =>
        rename_i u0 us0
        obtain ⟨us', h1, h2⟩ := ih rs
        refine ⟨u0 :: us', .cons r0 h1, ?_⟩
        show nrow p u0 :: nrows (L ++ [(k, b, v)]) us' = nrow p u0 :: (nrows L us0 ++ [(pk k, b, u)])
        rw [h2]
theorem putN_mem {L : List NE} {k : PK} {b : Addr} {v : V} {p : NE} (h : p ∈ putN L k b v) : (∃ q ∈ L, p.1 = q.1 ∧ p.2.1 = q.2.1) ∨ p = (k, b, v) := by
  unfold putN at h
  split at h
  · obtain ⟨q, hq, rfl⟩ := List.mem_map.mp h
    exact .inl ⟨q, hq, by split <;> rfl, by split <;> rfl⟩
  · rcases List.mem_append.mp h with h | h
    · exact .inl ⟨p, h, rfl, rfl⟩
    · exact .inr (List.mem_singleton.mp h)
theorem putN_len {L : List NE} {k : PK} {b : Addr} {v : V} : (putN L k b v).length ≤ L.length + 1 := by
  unfold putN
  split <;> simp
theorem ents_w {P P' : Program} {w w' : World} : ∀ (L : List NE) (us : List Value), (nrows L us).map (entryOfKey (nestedKind P w)) = (nrows L us).map (entryOfKey (nestedKind P' w'))
  | [], us => by cases us <;> rfl
  | p :: L, [] => rfl
  | p :: L, u :: us => by
    show entryOfKey (nestedKind P w) (pk p.1, p.2.1, u) :: (nrows L us).map _ = entryOfKey (nestedKind P' w') (pk p.1, p.2.1, u) :: (nrows L us).map _
    rw [ents_w L us, ent_w (P := P) (w := w) (P' := P') (w' := w')]
theorem pk_nd : ∀ {l : List PK}, (l.map pk).Nodup → l.Nodup
  | [], _ => List.nodup_nil
  | q :: l, h => by
    rw [List.map_cons, List.nodup_cons] at h
    rw [List.nodup_cons]
    exact ⟨fun m => h.1 (List.mem_map_of_mem m), pk_nd h.2⟩
/-- the object that a heap's dict is -/
theorem dN_ok {h : Heap} {a : Addr} {L : List NE} {us : List Value} (hl : L.length ≤ sizeLine) (hs : (a == sysModules) = false) (rv : Vals (L.map (·.2.2)) us) (hd : Heap.DictOfH (nestedKind X.prog X.w) h a (nrows L us)) : ObjOk X.prog X.w H h a (DctP a L) := by
  have hlen : L.length = us.length := by have := rv.length; simpa using this
  obtain ⟨o, es, ep, ho, he, hdd, hes, _, hn⟩ := hd
  rw [nrows_keys hlen] at hn
  refine ⟨⟨hl, hs, us, o, es, ep, rv, ho, he, hdd, fun P w => hes.trans (ents_w L us), pk_nd hn⟩, ⟨o, ho⟩, fun h1 h2 p k => ?_⟩
  obtain ⟨g1, g2, us', o', es', ep', rv', ho', q'⟩ := p
  exact ⟨g1, g2, us', o', es', ep', rv', k o' ho', q'⟩
def sDPutN (P : Program) (w : World) (K : PySem.W.Frag) (td ty tv : TE) : TS := fun D σ H => tv σ H fun v H1 => td σ H1 fun x H2 => ty σ H2 fun y H3 => ∃ (a b : Addr) (k : PK) (L : List NE), x = .ref a ∧ y = .ref b ∧ NkAt K H3 b k ∧
  H3 a = some (DctP a L) ∧ (∀ p ∈ L, NkAt K H3 p.2.1 p.1) ∧ L.length < sizeLine ∧ D.nx σ (upd H3 a (DctP a (putN L k b v)))
theorem ps_dputN {o i value : Expr} {pos pos' : Pos} {td ty tv : TE} (hu : X.A.units + 64 < cLine) (ho : PE X o td) (hi : PE X i ty) (hv : PE X value tv) (hs : swapsWith value (some (o.Subscript i pos')) pos.line X.env = pure false) : PS X (.Assign [.Subscript o i pos'] value pos) (sDPutN X.prog X.w X.K td ty tv) := by
  refine ⟨fun pins s σ H D I h => wpAny_Assign_Subscript ?_ hs⟩
  refine thn (hv.run pins s σ H _ I h) fun u s1 ⟨v, H1, I1, r1, q1⟩ => ?_
  refine thn (ho.run pins s1 σ H1 _ I1 q1) fun ov s2 ⟨x, H2, I2, r2, q2⟩ => ?_
  refine thn (hi.run pins s2 σ H2 _ I2 q2) fun iv s3 ⟨y, H3, I3, r3, a, b, k, L, ex, ey, hb, ha, hk, hl, q3⟩ => ?_
  subst ex ey
  cases r2
  cases r3
  obtain ⟨h1, h2, us, rv, hd⟩ := dN_of I3 ha hk
  have hlen : L.length = us.length := by have := rv.length; simpa using this
  obtain ⟨us', rv', e⟩ := put_rows (k := k) (b := b) rv r1
  refine wpAny_setItem_heap (nroom hu) (nkat_is I3 hb) hd (fun h' hd' sb => ?_) (by
    unfold nrows
    rw [List.length_zipWith]
    omega)
  rw [← e] at hd'
  refine ⟨σ, _, d_write I3 (by rw [ha]; trivial) sb ?_ (dN_ok (Nat.le_trans putN_len hl) h2 rv' hd'), q3⟩
  obtain ⟨ob, _, _, hob, _⟩ := hd'
  exact ⟨ob, hob⟩
/-- {} -/
def tDNewN (P : Program) (w : World) : TE := fun _ H Q => ∀ p, H p = none → Q (.ref p) (upd H p (DctP p []))
theorem pe_dnewN {pos : Pos} : PE X (.Dict [] [] pos) (tDNewN X.prog X.w) := by
  refine ⟨fun pins s σ H Q I h => ?_⟩
  refine thn (pe_dnewT.run pins s σ H (fun v H' => ∃ p, v = .ref p ∧ H p = none ∧ H' = upd H p (.dT [])) I (fun p hp => ⟨p, rfl, hp, rfl⟩)) fun u s1 ⟨v, H1, I1, r1, p, ev, hp, eH⟩ => ?_
  subst ev eH
  obtain ⟨h1, h2, xs, kt, hd⟩ := dt_of I1.hok (upd_same (H := H) (o := .dT []))
  obtain ⟨o, es, ep, ho, he, hdd, hes, _, _⟩ := hd
  have ex : xs = [] := by cases kt; rfl
  subst ex
  have hd2 : Heap.DictOfH (nestedKind X.prog X.w) s1.heap p (nrows [] []) := ⟨o, es, ep, ho, he, hdd, hes, fun x hx => (by cases hx), List.nodup_nil⟩
  have I2 := d_write (t' := s1.toks) (ob := DctP p []) I1 (by rw [upd_same]; trivial) ⟨rfl, fun _ _ => rfl⟩ ⟨o, ho⟩ (dN_ok (Nat.zero_le _) h2 .nil hd2)
  refine ⟨.ref p, _, I2, r1, ?_⟩
  have e : upd (upd H p (.dT [])) p (DctP p []) = upd H p (DctP p []) := by
    funext z
    unfold upd
    split <;> rfl
  rw [e]
  exact h p hp
/-- len(d) -/
def rLenN (P : Program) (w : World) : List V → Hp → VK → Prop := fun xs H Q => ∃ (a : Addr) (L : List NE), xs = [.ref a] ∧ H a = some (DctP a L) ∧ Q (.int ((L.length : Nat) : Int)) H
theorem raw_of {h : Heap} {a : Addr} {L : List NE} {us : List Value} {o : Obj} {es : Array DictEntry} {ep : Nat} (rv : Vals (L.map (·.2.2)) us) (ho : h.get? a = some o) (he : o.ExactDict) (hd : o.data = .dict es ep) {P : Program} {w : World} (hes : ∀ (P : Program) (w : World), es.toList = (nrows L us).map (entryOfKey (nestedKind P w))) : h.DictRaw a es ep ∧ es.size = L.length := by
  have hlen : L.length = us.length := by have := rv.length; simpa using this
  refine ⟨⟨o, ho, he, hd⟩, ?_⟩
  rw [← Array.length_toList, hes P w]
  simp [nrows, hlen]
theorem call_lenN : CallR X (.builtin "len") (rLenN X.prog X.w) := by
  intro pins s σ H xs us Q I r h
  obtain ⟨a, L, rfl, ha, q⟩ := h
  rw [Vals.ref1 r]
  obtain ⟨⟨h1, h2, us, o, es, ep, rv, ho, he, hdd, hes, hn⟩, _⟩ := I.hok a _ ha
  obtain ⟨raw, hsz⟩ := raw_of (P := X.prog) (w := X.w) rv ho he hdd hes
  rw [sizeLine_eq] at h1
  refine call_len_slot (n := ((L.length : Nat) : Int)) ⟨o, ho, he.1⟩ F.slot_dict_len (fun Q' hq => call_len_raw h2 raw (by rw [hsz]; exact hq)) (by omega) (by omega) ?_
  exact ⟨.int _, H, I.tok _, ⟨_, rfl⟩, q⟩
theorem ents_at {L : List NE} {us : List Value} {P : Program} {w : World} {i : Nat} {p : NE} (hlen : L.length = us.length) (hp : L[i]? = some p) : ∃ e, ((nrows L us).map (entryOfKey (nestedKind P w)))[i]? = some e ∧ e.key = .ref p.2.1 := by
  have hi := (List.getElem?_eq_some_iff.mp hp).1
  have hu : us[i]? = some us[i] := List.getElem?_eq_getElem (by omega)
  refine ⟨entryOfKey (nestedKind P w) (nrow p us[i]), ?_, rfl⟩
  rw [List.getElem?_map]
  unfold nrows
  rw [List.getElem?_zipWith, hp, hu]
  rfl
theorem vals_map_ref : ∀ L : List NE, Vals (L.map fun e => V.ref e.2.1) (L.map fun e => Value.ref e.2.1)
  | [] => .nil
  | _ :: L => .cons rfl (vals_map_ref L)
/-- list(d): the keys -/
def rListN (P : Program) (w : World) : List V → Hp → VK → Prop := fun xs H Q => ∃ (a : Addr) (L : List NE), xs = [.ref a] ∧ H a = some (DctP a L) ∧ ∀ p, H p = none → Q (.ref p) (upd H p (.lst (L.map fun e => V.ref e.2.1)))
theorem call_listN (hc : X.calm = true) : CallR X (.type "list") (rListN X.prog X.w) := by
  intro pins s σ H xs us Q I r h
  obtain ⟨a, L, rfl, ha, q⟩ := h
  rw [Vals.ref1 r]
  obtain ⟨⟨h1, h2, us, o, es, ep, rv, ho, he, hdd, hes, hn⟩, _⟩ := I.hok a _ ha
  have hlen : L.length = us.length := by have := rv.length; simpa using this
  obtain ⟨raw, hsz⟩ := raw_of (P := X.prog) (w := X.w) rv ho he hdd hes
  have hnew : H s.heap.objs.size = none := I.hok.fresh (Nat.le_refl _)
  refine W.kdl_call (KdlSrc.rawDict h2) (I.ok.hd hc) raw (by omega) fun h' tk acc' c' keep hg its => ?_
  have ea : acc'.toList = L.map fun e => Value.ref e.2.1 := by
    obtain ⟨g1, g2⟩ := its
    refine List.ext_getElem? fun i => ?_
    rw [List.getElem?_map]
    cases hp : L[i]? with
    | none =>
      have := List.getElem?_eq_none_iff.mp hp
      rw [Option.map_none, List.getElem?_eq_none_iff, Array.length_toList]
      omega
    | some p =>
      have hi := (List.getElem?_eq_some_iff.mp hp).1
      have hv : acc'[i]? = some acc'[i] := Array.getElem?_eq_getElem (by omega)
      obtain ⟨hi2, e2⟩ := g2 i _ hv
      obtain ⟨e, he1, he2⟩ := ents_at (P := X.prog) (w := X.w) hlen hp
      rw [← hes X.prog X.w, Array.getElem?_toList, Array.getElem?_eq_getElem hi2] at he1
      cases he1
      rw [Array.getElem?_toList, hv, e2, he2]
      rfl
  refine ⟨.ref s.heap.objs.size, upd H s.heap.objs.size (.lst (L.map fun e => V.ref e.2.1)), I.laid (t' := tk) keep (Nat.le_refl _) ⟨by rw [List.length_map]; exact h1, L.map fun e => Value.ref e.2.1, c', ?_, by rw [hg, ← ea]⟩, rfl, q _ hnew⟩
  exact vals_map_ref L
theorem vals_refs0 : ∀ {ts : List Addr} {us : List Value}, Vals (ts.map V.ref) us → us = ts.map Value.ref
  | [], _, .nil => rfl
  | t :: ts, _, .cons r rs => by
    cases r
    rw [vals_refs0 rs]
    rfl
/-- pairs of key and value, as tuples -/
inductive PrsN (K : PySem.W.Frag) (H : Hp) : List Addr → List NE → Prop
  | nil : PrsN K H [] []
  | cons {t b : Addr} {k : PK} {v : V} {ts : List Addr} {L : List NE} : SqT K H t [.ref b, v] → NkAt K H b k → PrsN K H ts L → PrsN K H (t :: ts) ((k, b, v) :: L)
def putAllN (acc L : List NE) : List NE := L.foldl (fun acc p => putN acc p.1 p.2.1 p.2.2) acc
theorem putAll_rows : ∀ {L acc : List NE} {us ua : List Value}, Vals (L.map (·.2.2)) us → Vals (acc.map (·.2.2)) ua → ∃ us', Vals ((putAllN acc L).map (·.2.2)) us' ∧ nrows (putAllN acc L) us' = storedAllH (nrows acc ua) (nrows L us)
  | [], acc, _, ua, .nil, ra => ⟨ua, ra, rfl⟩
  | p :: L, acc, _, ua, .cons (b := u) (l₂ := us) r rs, ra => by
    obtain ⟨ub, rb, e⟩ := put_rows (k := p.1) (b := p.2.1) ra r
    obtain ⟨us', h1, h2⟩ := putAll_rows (L := L) (acc := putN acc p.1 p.2.1 p.2.2) rs rb
    refine ⟨us', h1, ?_⟩
    show nrows (putAllN (putN acc p.1 p.2.1 p.2.2) L) us' = storedAllH (storedH (nrows acc ua) (pk p.1) p.2.1 u) (nrows L us)
    rw [h2, e]
theorem putAll_len : ∀ {L acc : List NE}, (putAllN acc L).length ≤ acc.length + L.length
  | [], acc => Nat.le_refl _
  | p :: L, acc => by
    have := putAll_len (L := L) (acc := putN acc p.1 p.2.1 p.2.2)
    have h2 := putN_len (L := acc) (k := p.1) (b := p.2.1) (v := p.2.2)
    show (putAllN (putN acc p.1 p.2.1 p.2.2) L).length ≤ _
    rw [List.length_cons]
    omega
theorem PrsN.len {K : PySem.W.Frag} {ts : List Addr} {L : List NE} (h : PrsN K H ts L) : ts.length = L.length := by
  induction h with
  | nil => rfl
  | cons _ _ _ ih => simp [ih]
theorem PrsN.keys {K : PySem.W.Frag} {ts : List Addr} {L : List NE} (h : PrsN K H ts L) : ∀ p ∈ L, NkAt K H p.2.1 p.1 := by
  induction h with
  | nil => exact fun p h => by cases h
  | cons _ h2 _ ih =>
    intro p hp
    rcases List.mem_cons.mp hp with rfl | hp
    · exact h2
    · exact ih p hp
/-- the pairs' values, and the pairs in the heap -/
theorem prs_at (I : L2.Inv X pins σ H s) {ts : List Addr} {L : List NE} (h : PrsN X.K H ts L) : ∃ us, Vals (L.map (·.2.2)) us ∧ ∀ (j : Nat) (p : NE) (u : Value), L[j]? = some p → us[j]? = some u → ∃ t, ts[j]? = some t ∧ PairAt s.heap t (.ref p.2.1) u := by
  induction h with
  | nil => exact ⟨[], .nil, fun j p u h => by cases h⟩
  | @cons t b k v ts L h1 h2 _ ih =>
    obtain ⟨us, rv, hp⟩ := ih
    obtain ⟨its, r, tup, _⟩ := I.tuple h1
    cases r with
    | cons r1 r =>
      cases r with
      | cons r2 r =>
        cases r
        cases r1
        rename_i u
        refine ⟨u :: us, .cons r2 rv, fun j p u' e1 e2 => ?_⟩
        cases j with
        | zero =>
          cases e1
          cases e2
          exact ⟨t, rfl, .inl tup⟩
        | succ j => exact hp j p u' e1 e2
def rDictN (P : Program) (w : World) (K : PySem.W.Frag) : List V → Hp → VK → Prop := fun xs H Q => ∃ (l : Addr) (ts : List Addr) (L : List NE), xs = [.ref l] ∧ SqL K H l (ts.map V.ref) ∧ PrsN K H ts L ∧ ∀ p, H p = none → Q (.ref p) (upd H p (DctP p (putAllN [] L)))
def prsV (L : List NE) (us : List Value) : List (Value × Value) := List.zipWith (fun p u => (Value.ref p.2.1, u)) L us
theorem nroom2 (hu : X.A.units + 64 < cLine) : (nestedKind X.prog X.w).room X.A.in1.in1 := by
  show X.A.units + 1 + 1 + 8 < cLine
  omega
theorem call_dictN (hc : X.calm = true) (hu : X.A.units + 64 < cLine) : CallR X (.type "dict") (rDictN X.prog X.w X.K) := by
  intro pins s σ H xs us0 Q I r h
  obtain ⟨l, ts, L, rfl, hl, hp, q⟩ := h
  rw [Vals.ref1 r]
  obtain ⟨its, rv0, pl, hz⟩ := I.list hl
  obtain ⟨us, rv, pa⟩ := prs_at I hp
  have hlen : L.length = us.length := by have := rv.length; simpa using this
  have tl := hp.len
  have hn : (prsV L us).length = L.length := by simp [prsV, hlen]
  have big := I.big
  have hnew : H s.heap.objs.size = none := I.hok.fresh (Nat.le_refl _)
  have keys : ∀ x ∈ nrows L us, (nestedKind X.prog X.w).is s.heap x.1 x.2.1 := fun x hx => by
    obtain ⟨p, hp', e1, e2⟩ := nrows_mem hx
    rw [e1, e2]
    exact nkat_is I (hp.keys p hp')
  have at_ : ∀ {i : Nat} {key v : Value}, (prsV L us)[i]? = some (key, v) → ∃ p, L[i]? = some p ∧ us[i]? = some v ∧ key = .ref p.2.1 := fun {i key v} e => by
    unfold prsV at e
    rw [List.getElem?_zipWith] at e
    cases e1 : L[i]? with
    | none => rw [e1] at e; cases e
    | some p =>
      cases e2 : us[i]? with
      | none => rw [e1, e2] at e; cases e
      | some u => rw [e1, e2] at e; cases e; exact ⟨p, rfl, rfl, rfl⟩
  refine call_dict_pairsH (knd := nestedKind X.prog X.w) (ps := nrows L us) (PairArg.list l its.toArray (fun j => ts.getD j 0) (prsV L us)) (I.ok.hd hc) (nroom2 hu) ?_ ?_ ?_ ?_ fun h' tk hd k => ?_
  · refine ⟨pl, ?_, fun j k v e => ?_⟩
    · have := rv0.length
      rw [List.size_toArray, ← rv0.length, List.length_map, hn]
      exact tl
    · obtain ⟨p, e1, e2, rfl⟩ := at_ e
      obtain ⟨t, ht, pt⟩ := pa j p v e1 e2
      have : ts.getD j 0 = t := by rw [List.getD_eq_getElem?_getD, ht]; rfl
      show its.toArray[j]? = some (Value.ref (ts.getD j 0)) ∧ PairAt s.heap (ts.getD j 0) _ _
      rw [this]
      refine ⟨?_, pt⟩
      rw [vals_refs0 rv0, List.getElem?_toArray, List.getElem?_map, ht]
      rfl
  · refine ⟨by simp [nrows, prsV], fun i key v e => ?_⟩
    obtain ⟨p, e1, e2, rfl⟩ := at_ e
    refine ⟨pk p.1, p.2.1, ?_, rfl⟩
    unfold nrows
    rw [List.getElem?_zipWith, e1, e2]
    rfl
  · intro h' kp x hx
    exact nestedKind_stays.stays (fun b o vs n hb _ => kp b o (Nat.ne_of_lt (Heap.lt_size hb)) (by simp) hb) (keys x hx)
  · rw [hn, ← tl]
    rw [List.length_map] at hz
    exact hz
  · obtain ⟨us', rv', e⟩ := putAll_rows (acc := []) rv .nil
    rw [show storedAllH [] (nrows L us) = storedAllH (nrows [] []) (nrows L us) from rfl, ← e] at hd
    have sm : (s.heap.objs.size == sysModules) = false := by
      rw [beq_eq_false_iff_ne]
      exact Nat.ne_of_gt big
    have ll : (putAllN [] L).length ≤ sizeLine := Nat.le_trans putAll_len (by rw [List.length_map] at hz; simp; omega)
    exact ⟨.ref s.heap.objs.size, upd H s.heap.objs.size (DctP s.heap.objs.size (putAllN [] L)), I.laid (t' := tk) (fun b o hb => k b o (by simp) hb) (Nat.le_refl _) (dN_ok ll sm rv' hd), rfl, q _ hnew⟩
theorem hash_rows {P : Program} {w : World} : ∀ {L : List NE} {us : List Value}, L.length = us.length → (nrows L us).map (fun x => (nestedKind P w).hash x.1) = L.map fun p => pairHash p.1.1 p.1.2
  | [], [], _ => rfl
  | [], _ :: _, h => by cases h
  | _ :: _, [], h => by cases h
  | p :: L, u :: us, h => by
    have e := hash_rows (P := P) (w := w) (L := L) (us := us) (by simpa using h)
    have e2 : (nestedKind P w).hash (nrow p u).1 = pairHash p.1.1 p.1.2 := hash_pkey w p.1.1 p.1.2
    unfold nrows at e ⊢
    rw [List.zipWith_cons_cons, List.map_cons, List.map_cons, e, e2]
/-- d.update(e), both with nested keys; into an empty dict only where the keys' hashes differ -/
def rUpdN (P : Program) (w : World) (K : PySem.W.Frag) : V → List V → Hp → VK → Prop := fun x xs H Q => ∃ (a b : Addr) (L M : List NE), x = .ref a ∧ xs = [.ref b] ∧ a ≠ b ∧ H a = some (DctP a L) ∧ H b = some (DctP b M) ∧ (∀ p ∈ L, NkAt K H p.2.1 p.1) ∧ (∀ p ∈ M, NkAt K H p.2.1 p.1) ∧
  (L ≠ [] ∨ (M.map fun p => pairHash p.1.1 p.1.2).Nodup) ∧ L.length + M.length ≤ sizeLine ∧ Q .non (upd H a (DctP a (putAllN L M)))
theorem mt_updN (hu : X.A.units + 64 < cLine) : MtR X "dict.update" (rUpdN X.prog X.w X.K) := by
  intro pins s σ H x xs v us0 Q I rx r h
  obtain ⟨a, b, L, M, rfl, rfl, ab, ha, hb, kL, kM, hh, hz, q⟩ := h
  cases rx
  rw [Vals.ref1 r]
  obtain ⟨h1, h2, us, rv, hd⟩ := dN_of I ha kL
  obtain ⟨g1, g2, um, rm, hm⟩ := dN_of I hb kM
  have hlen : L.length = us.length := by have := rv.length; simpa using this
  have glen : M.length = um.length := by have := rm.length; simpa using this
  have nl : (nrows L us).length = L.length := by simp [nrows, hlen]
  have nm : (nrows M um).length = M.length := by simp [nrows, glen]
  refine call_update_dictH (nroom hu) ab g2 hd hm ?_ (by omega) fun h' hd' _ sb => ?_
  · rcases hh with hh | hh
    · refine .inl fun z => hh ?_
      have : (nrows L us).length = 0 := by rw [z]; rfl
      exact List.length_eq_zero_iff.mp (by omega)
    · refine .inr ⟨fun x hx => ?_, ?_⟩
      · obtain ⟨p, hp, e1, e2⟩ := nrows_mem hx
        rw [e2]
        exact nestedKind_stays.tuple (nkat_is I (kM p hp))
      · rw [hash_rows glen]
        exact hh
  · obtain ⟨us', rv', e⟩ := putAll_rows (acc := L) rm rv
    rw [← e] at hd'
    have hob : ∃ q, h'.get? a = some q := by
      obtain ⟨ob, _, _, hob, _⟩ := hd'
      exact ⟨ob, hob⟩
    exact ⟨.non, _, d_write I (by rw [ha]; trivial) sb hob (dN_ok (Nat.le_trans putAll_len hz) h2 rv' hd'), rfl, q⟩
end
end LB
set_option Elab.async false
set_option linter.all false
set_option maxRecDepth 100000
/-! The layer of data: values without a heap, a store of what is changed in place, what a text's pieces do with them. -/
namespace DL
set_option autoImplicit false
open PySem PySem.Spec L2
open PyProof.Rows hiding St
/-- a value: a number, a text, a tuple, a list or an instance that nobody changes; what is changed in place is named by its number in the store -/
inductive D : Type
  | non | bl (b : Bool) | int (i : Int) | str (s : Str)
  | tup (xs : List D) | lst (xs : List D) | fls (xs : List D) | ins (C : Addr) (ns : List Str) (xs : List D) | dct (ks : List D) (xs : List D)
  /-- an exception that was caught, by its class and what it holds -/
  | exn (C : Addr) (ns : List Str) (xs : List D)
  /-- a dict whose keys are pairs of a number and a row of numbers -/
  | dcn (ks : List LB.PK) (xs : List D)
  /-- a tuple; where b: known to hold no names of its own -/
  | tupF (b : Bool) (xs : List D)
  | ref (n : Nat) | opq (v : V)
instance : Inhabited D := ⟨.non⟩
mutual
def D.beq : D → D → Bool
  | .non, .non => true
  | .bl a, .bl b => a == b
  | .int a, .int b => a == b
  | .str a, .str b => a == b
  | .tup a, .tup b => D.beqL a b
  | .lst a, .lst b => D.beqL a b
  | .fls a, .fls b => D.beqL a b
  | .ins a n x, .ins b m y => a == b && (n == m && D.beqL x y)
  | .dct a x, .dct b y => D.beqL a b && D.beqL x y
  | .exn a n x, .exn b m y => a == b && (n == m && D.beqL x y)
  | .dcn a x, .dcn b y => decide (a = b) && D.beqL x y
  | .tupF a x, .tupF b y => a == b && D.beqL x y
  | .ref a, .ref b => a == b
  | .opq a, .opq b => decide (a = b)
  | _, _ => false
def D.beqL : List D → List D → Bool
  | [], [] => true
  | a :: x, b :: y => D.beq a b && D.beqL x y
  | _, _ => false
end
mutual
theorem D.beq_iff : ∀ a b : D, D.beq a b = true ↔ a = b
  | .non, b => by cases b <;> simp [D.beq]
  | .bl a, b => by cases b <;> simp [D.beq]
  | .int a, b => by cases b <;> simp [D.beq]
  | .str a, b => by cases b <;> simp [D.beq]
  | .tup a, b => by cases b <;> simp [D.beq, D.beqL_iff a]
  | .lst a, b => by cases b <;> simp [D.beq, D.beqL_iff a]
  | .fls a, b => by cases b <;> simp [D.beq, D.beqL_iff a]
  | .ins a n x, b => by cases b <;> simp [D.beq, D.beqL_iff x]
  | .dct a x, b => by cases b <;> simp [D.beq, D.beqL_iff a, D.beqL_iff x]
  | .exn a n x, b => by cases b <;> simp [D.beq, D.beqL_iff x]
  | .dcn a x, b => by cases b <;> simp [D.beq, D.beqL_iff x]
  | .tupF a x, b => by cases b <;> simp [D.beq, D.beqL_iff x]
  | .ref a, b => by cases b <;> simp [D.beq]
  | .opq a, b => by cases b <;> simp [D.beq]
theorem D.beqL_iff : ∀ a b : List D, D.beqL a b = true ↔ a = b
  | [], b => by cases b <;> simp [D.beqL]
  | a :: x, b => by cases b <;> simp [D.beqL, D.beq_iff a, D.beqL_iff x]
end
instance : DecidableEq D := fun a b => decidable_of_iff _ (D.beq_iff a b)
/-- a thing in the store -/
inductive Ob : Type
  | lst (xs : List D) | ins (C : Addr) (ns : List Str) (xs : List D) | dct (ks : List D) (xs : List D) | dcn (ks : List LB.PK) (xs : List D)
  /-- the table at P of the code objects that bear the name q -/
  | tbl (P : Addr) (q : Str)
  deriving DecidableEq
abbrev St0 := List Ob
abbrev Env0 := List (Option D)
/-- what comes of an expression -/
inductive R : Type
  | val (d : D) (S : St0) | exc (C : Addr) (fs : List (Str × D)) (S : St0) | stuck
abbrev ME := Env0 → St0 → R
/-- what comes of a statement -/
inductive RS : Type
  | nx (ρ : Env0) (S : St0) | rt (d : D) (S : St0) | bk (ρ : Env0) (S : St0) | ct (ρ : Env0) (S : St0) | exc (C : Addr) (fs : List (Str × D)) (ρ : Env0) (S : St0) | stuck
abbrev MS := Env0 → St0 → RS
/-! ### what stands for what -/
/-- the addresses of the store's things; those of lists that a comprehension is just making -/
structure Ad where
  ix : List Addr
  gh : List Addr
def Ad.up (θ : Ad) (new : List Addr) : Ad := ⟨θ.ix ++ new, θ.gh⟩
@[simp] theorem Ad.up_ix (θ : Ad) (n : List Addr) : (θ.up n).ix = θ.ix ++ n := rfl
@[simp] theorem Ad.up_gh (θ : Ad) (n : List Addr) : (θ.up n).gh = θ.gh := rfl
@[simp] theorem Ad.up_nil (θ : Ad) : θ.up [] = θ := by cases θ; simp [Ad.up]
theorem Ad.up_up (θ : Ad) (n m : List Addr) : (θ.up n).up m = θ.up (n ++ m) := by simp [Ad.up]
def Ad.ups (θ : Ad) (new gs : List Addr) : Ad := ⟨θ.ix ++ new, gs ++ θ.gh⟩
abbrev Ad.av (θ : Ad) : List Addr := θ.ix ++ θ.gh
inductive RKey : Key → D → Prop
  | int (i : Int) : RKey (Sum.inl i) (.int i)
  | str (s : Str) : RKey (Sum.inr s) (.str s)
inductive RKeys : List Key → List D → Prop
  | nil : RKeys [] []
  | cons {k : Key} {ks : List Key} {d : D} {ds : List D} : RKey k d → RKeys ks ds → RKeys (k :: ks) (d :: ds)
inductive RTKeys : List (List Key) → List D → Prop
  | nil : RTKeys [] []
  | cons {k : List Key} {ks : List (List Key)} {d ds : List D} : RKeys k d → RTKeys ks ds → RTKeys (k :: ks) (.tup d :: ds)
/-- a list that the top has written -/
def KL (K : PySem.W.Frag) (a : Addr) (xs : List V) : Prop := ∃ (o : Obj) (its : Array Value) (n : Nat), K.lookup a = some o ∧ o.cls = .type "list" ∧ o.dict = none ∧ o.data = .seq its n ∧ its.size ≤ sizeLine ∧ Vals xs its.toList
/-- a list that nobody can change: the script, or one that the top has written -/
def FL (K : PySem.W.Frag) (H : Hp) (a : Addr) (xs : List V) : Prop := (∃ o, H a = some (.frz o (.lst xs))) ∨ KL K a xs
theorem FL.sq {K : PySem.W.Frag} {H : Hp} {a : Addr} {xs : List V} (h : FL K H a xs) : SqL K H a xs := by
  rcases h with ⟨o, h⟩ | h
  · exact .inl (.inr ⟨o, h⟩)
  · exact .inr h
/-- the object of an exception that was caught -/
def exh (a C : Addr) (d : Option Addr) : HO := .ext fun h => ∃ oe vs, h.get? a = some oe ∧ Zc (.ref C) d oe ∧ oe.data = .fields vs
def FzT (H : Hp) (a : Addr) (vs : List V) : Prop := ∃ o, H a = some (.frz o (.tup vs)) ∧ o.dict = none
mutual
inductive RV (K : PySem.W.Frag) (θ : Ad) (H : Hp) : V → D → Prop
  | non : RV K θ H .non .non
  | bl (b : Bool) : RV K θ H (.bl b) (.bl b)
  | int (i : Int) : RV K θ H (.int i) (.int i)
  | str (s : Str) : RV K θ H (.str s) (.str s)
  | tup {a : Addr} {vs : List V} {ds : List D} : SqT K H a vs → RVs K θ H vs ds → RV K θ H (.ref a) (.tup ds)
  | lst {a : Addr} {vs : List V} {ds : List D} : a ∉ θ.av → H a = some (.lst vs) → RVs K θ H vs ds → RV K θ H (.ref a) (.lst ds)
  | fls {a : Addr} {vs : List V} {ds : List D} : FL K H a vs → RVs K θ H vs ds → RV K θ H (.ref a) (.fls ds)
  | ins {a C dx : Addr} {fs : List (Str × V)} {ns : List Str} {ds : List D} : a ∉ θ.av → H a = some (.ins C dx fs) → fs.map (·.1) = ns → RVs K θ H (fs.map (·.2)) ds → RV K θ H (.ref a) (.ins C ns ds)
  | dctK {a : Addr} {kvs : List (Key × V)} {ks ds : List D} : a ∉ θ.av → H a = some (.dK kvs) → RKeys (kvs.map (·.1)) ks → RVs K θ H (kvs.map (·.2)) ds → RV K θ H (.ref a) (.dct ks ds)
  | dcn {a : Addr} {L : List LB.NE} {ks : List LB.PK} {ds : List D} : a ∉ θ.av → H a = some (LB.DctP a L) → L.map (·.1) = ks → (∀ p ∈ L, LB.NkAt K H p.2.1 p.1) → RVs K θ H (L.map (·.2.2)) ds → RV K θ H (.ref a) (.dcn ks ds)
  | tupF {b : Bool} {a : Addr} {vs : List V} {ds : List D} : SqT K H a vs → (b = true → FzT H a vs) → RVs K θ H vs ds → RV K θ H (.ref a) (.tupF b ds)
  | exn0 {a C : Addr} : a ∉ θ.av → H a = some (exh a C none) → RV K θ H (.ref a) (.exn C [] [])
  | exn {a C d : Addr} {ws : List (Str × V)} {ns : List Str} {ds : List D} : a ∉ θ.av → d ∉ θ.av → H a = some (exh a C (some d)) → H d = some (.xd ws) → ws.map (·.1) = ns → RVs K θ H (ws.map (·.2)) ds → RV K θ H (.ref a) (.exn C ns ds)
  | ref {a : Addr} {n : Nat} : θ.ix[n]? = some a → RV K θ H (.ref a) (.ref n)
  | opq (v : V) : RV K θ H v (.opq v)
inductive RVs (K : PySem.W.Frag) (θ : Ad) (H : Hp) : List V → List D → Prop
  | nil : RVs K θ H [] []
  | cons {v : V} {vs : List V} {d : D} {ds : List D} : RV K θ H v d → RVs K θ H vs ds → RVs K θ H (v :: vs) (d :: ds)
end
/-- a thing of the store -/
inductive RO (K : PySem.W.Frag) (θ : Ad) (H : Hp) (a : Addr) : Ob → Prop
  | lst {vs : List V} {ds : List D} : H a = some (.lst vs) → RVs K θ H vs ds → RO K θ H a (.lst ds)
  | ins {C dx : Addr} {fs : List (Str × V)} {ns : List Str} {ds : List D} : H a = some (.ins C dx fs) → fs.map (·.1) = ns → RVs K θ H (fs.map (·.2)) ds → RO K θ H a (.ins C ns ds)
  | dctK {kvs : List (Key × V)} {ks ds : List D} : H a = some (.dK kvs) → RKeys (kvs.map (·.1)) ks → RVs K θ H (kvs.map (·.2)) ds → RO K θ H a (.dct ks ds)
  | dcn {L : List LB.NE} {ks : List LB.PK} {ds : List D} : H a = some (LB.DctP a L) → L.map (·.1) = ks → (∀ p ∈ L, LB.NkAt K H p.2.1 p.1) → RVs K θ H (L.map (·.2.2)) ds → RO K θ H a (.dcn ks ds)
  | tbl {q : Str} : LamX.TabS H a q → RO K θ H a (.tbl a q)
/-- what a ghost may be -/
inductive GhO : HO → Prop
  | lst (vs : List V) : GhO (.lst vs)
  | dK (kvs : List (Key × V)) : GhO (.dK kvs)
/-- the store -/
structure RSt (K : PySem.W.Frag) (θ : Ad) (S : St0) (H : Hp) : Prop where
  len : θ.ix.length = S.length
  nd : θ.ix.Nodup
  gh : ∀ a ∈ θ.gh, (∃ o, H a = some o ∧ GhO o) ∧ a ∉ θ.ix
  ob : ∀ (n : Nat) (a : Addr) (o : Ob), θ.ix[n]? = some a → S[n]? = some o → RO K θ H a o
/-- the slots -/
structure REn (K : PySem.W.Frag) (θ : Ad) (H : Hp) (σ : St) (ρ : Env0) : Prop where
  len : σ.length = ρ.length
  at_ : ∀ (i : Nat) (d : D), ρ[i]? = some (some d) → ∃ v, σ[i]? = some (some v) ∧ RV K θ H v d
/-- the heap went on: what the store doesn't name stands as it was; new is new -/
structure Ext (θ : Ad) (new : List Addr) (H H' : Hp) : Prop where
  keep : ∀ a o, H a = some o → a ∉ θ.ix → H' a = some o
  dom : ∀ a, H' a = none → H a = none
  new : ∀ a ∈ new, H a = none
theorem Ext.refl (θ : Ad) (H : Hp) : Ext θ [] H H := ⟨fun _ _ h _ => h, fun _ h => h, fun _ h => by cases h⟩
theorem Ext.trans {θ : Ad} {n1 n2 : List Addr} {H H1 H2 : Hp} (e : Ext θ n1 H H1) (g : Ext (θ.up n1) n2 H1 H2) : Ext θ (n1 ++ n2) H H2 := by
  refine ⟨fun a o h n => g.keep a o (e.keep a o h n) fun m => ?_, fun a h => e.dom a (g.dom a h), fun a m => ?_⟩
  · rcases List.mem_append.mp m with m | m
    · exact n m
    · rw [e.new a m] at h; cases h
  · rcases List.mem_append.mp m with m | m
    · exact e.new a m
    · exact e.dom a (g.new a m)
theorem RSt.kind {K : PySem.W.Frag} {θ : Ad} {S : St0} {H : Hp} (r : RSt K θ S H) {a : Addr} (m : a ∈ θ.av) : (∃ vs, H a = some (.lst vs)) ∨ (∃ C dx fs, H a = some (.ins C dx fs)) ∨ (∃ kvs, H a = some (.dK kvs)) ∨ (∃ ps, H a = some (.tbl ps)) ∨ ∃ L, H a = some (LB.DctP a L) := by
  rcases List.mem_append.mp m with m | m
  rotate_left
  · obtain ⟨⟨o, h, g⟩, _⟩ := r.gh a m
    cases g with
    | lst vs => exact .inl ⟨vs, h⟩
    | dK kvs => exact .inr (.inr (.inl ⟨kvs, h⟩))
  obtain ⟨n, hn, rfl⟩ := List.mem_iff_getElem.mp m
  have hs : n < S.length := by rw [← r.len]; exact hn
  have := r.ob n θ.ix[n] S[n] (List.getElem?_eq_getElem hn) (List.getElem?_eq_getElem hs)
  generalize S[n] = o at this
  cases this with
  | lst h _ => exact .inl ⟨_, h⟩
  | ins h _ _ => exact .inr (.inl ⟨_, _, _, h⟩)
  | dctK h _ _ => exact .inr (.inr (.inl ⟨_, h⟩))
  | tbl h => exact .inr (.inr (.inr (.inl (by obtain ⟨ps, h1, _⟩ := h; exact ⟨ps, h1⟩))))
  | dcn h _ _ _ => exact .inr (.inr (.inr (.inr ⟨_, h⟩)))
theorem RSt.nn {K : PySem.W.Frag} {θ : Ad} {S : St0} {H : Hp} (r : RSt K θ S H) {a : Addr} (m : a ∈ θ.av) : H a ≠ none := by
  rcases r.kind m with ⟨_, h⟩ | ⟨_, _, _, h⟩ | ⟨_, h⟩ | ⟨_, h⟩ | ⟨_, h⟩ <;> (intro z; rw [h] at z; cases z)
theorem dct_ne_code {a c : Addr} {L : List LB.NE} {q : Str} : LB.DctP a L ≠ LamX.CodeO c q := by
  intro h
  unfold LB.DctP LamX.CodeO at h
  injection h with h
  have e := congrFun h ⟨Array.replicate (c + 1) { cls := .none, data := .fields #[.str q 0, .str q 0] }, {}⟩
  have g : ∀ b o, Heap.get? ⟨Array.replicate (c + 1) { cls := .none, data := .fields #[.str q 0, .str q 0] }, {}⟩ b = some o → o.data = .fields #[.str q 0, .str q 0] := by
    intro b o hb
    unfold Heap.get? at hb
    simp only [Array.getElem?_replicate] at hb
    split at hb
    · cases hb
    · split at hb
      · cases hb; rfl
      · cases hb
  have k := e.mpr ⟨{ cls := .none, data := .fields #[.str q 0, .str q 0] }, #[.str q 0, .str q 0], 0, by unfold Heap.get?; simp [Array.getElem?_replicate], rfl, rfl⟩
  obtain ⟨_, _, us, o, es, ep, _, ho, _, hd, _⟩ := k
  rw [g _ _ ho] at hd
  cases hd
theorem nk_kp {K : PySem.W.Frag} {H H' : Hp} {L : List LB.NE} (f : ∀ a vs, SqT K H a vs → SqT K H' a vs) (h : ∀ p ∈ L, LB.NkAt K H p.2.1 p.1) : ∀ p ∈ L, LB.NkAt K H' p.2.1 p.1 := fun p m => by
  obtain ⟨c, h1, h2⟩ := h p m
  exact ⟨c, f _ _ h1, f _ _ h2⟩
theorem RSt.codeN {K : PySem.W.Frag} {θ : Ad} {S : St0} {H : Hp} (r : RSt K θ S H) {c : Addr} {q : Str} (h : H c = some (LamX.CodeO c q)) : c ∉ θ.av := fun m => by
  rcases r.kind m with ⟨_, g⟩ | ⟨_, _, _, g⟩ | ⟨_, g⟩ | ⟨_, g⟩ | ⟨L, g⟩
  rotate_right
  · rw [h] at g
    exact dct_ne_code (Option.some.inj g).symm
  all_goals (rw [h] at g; cases g)
theorem tab_kp {H H' : Hp} {P : Addr} {q : Str} (t : LamX.TabS H P q) (h : ∀ o, H P = some o → H' P = some o) (k : ∀ c, H c = some (LamX.CodeO c q) → H' c = some (LamX.CodeO c q)) : LamX.TabS H' P q := by
  obtain ⟨ps, h1, h2, h3⟩ := t
  exact ⟨ps, h _ h1, h2, fun pos cv hc => by obtain ⟨c, e1, e2⟩ := h3 pos cv hc; exact ⟨c, e1, k c e2⟩⟩
theorem sqT_ext {K : PySem.W.Frag} {θ : Ad} {new : List Addr} {S : St0} {H H' : Hp} {a : Addr} {vs : List V} (e : Ext θ new H H') (r : RSt K θ S H) (h : SqT K H a vs) : SqT K H' a vs := by
  rcases h with (h | ⟨o, h⟩) | h
  · refine .inl (.inl (e.keep a _ h fun m => ?_))
    rcases r.kind (List.mem_append_left _ m) with ⟨_, g⟩ | ⟨_, _, _, g⟩ | ⟨_, g⟩ | ⟨_, g⟩ | ⟨_, g⟩ <;> (rw [h] at g; cases g)
  · refine .inl (.inr ⟨o, e.keep a _ h fun m => ?_⟩)
    rcases r.kind (List.mem_append_left _ m) with ⟨_, g⟩ | ⟨_, _, _, g⟩ | ⟨_, g⟩ | ⟨_, g⟩ | ⟨_, g⟩ <;> (rw [h] at g; cases g)
  · exact .inr h
theorem fz_ext {K : PySem.W.Frag} {θ : Ad} {new : List Addr} {S : St0} {H H' : Hp} {a : Addr} {vs : List V} (e : Ext θ new H H') (r : RSt K θ S H) (h : FzT H a vs) : FzT H' a vs := by
  obtain ⟨o, h, d⟩ := h
  refine ⟨o, e.keep a _ h fun m => ?_, d⟩
  rcases r.kind (List.mem_append_left _ m) with ⟨_, g⟩ | ⟨_, _, _, g⟩ | ⟨_, g⟩ | ⟨_, g⟩ | ⟨_, g⟩ <;> (rw [h] at g; cases g)
theorem fl_ext {K : PySem.W.Frag} {θ : Ad} {new : List Addr} {S : St0} {H H' : Hp} {a : Addr} {vs : List V} (e : Ext θ new H H') (r : RSt K θ S H) (h : FL K H a vs) : FL K H' a vs := by
  rcases h with ⟨o, h⟩ | h
  · refine .inl ⟨o, e.keep a _ h fun m => ?_⟩
    rcases r.kind (List.mem_append_left _ m) with ⟨_, g⟩ | ⟨_, _, _, g⟩ | ⟨_, g⟩ | ⟨_, g⟩ | ⟨_, g⟩ <;> (rw [h] at g; cases g)
  · exact .inr h
theorem rd_ext {θ : Ad} {new gs : List Addr} {H H' : Hp} {a : Addr} {u : HO} (e : Ext θ new H H') (g : ∀ b ∈ gs, H b = none) (n : a ∉ θ.av) (h : Rd H a u) : Rd H' a u ∧ a ∉ (θ.ups new gs).av := by
  have n' : a ∉ θ.ix := fun m => n (List.mem_append_left _ m)
  have out : ∀ o, H a = some o → a ∉ (θ.ups new gs).av := fun o h m => by
    rcases List.mem_append.mp m with m | m
    · rcases List.mem_append.mp m with m | m
      · exact n' m
      · rw [e.new a m] at h; cases h
    · rcases List.mem_append.mp m with m | m
      · rw [g a m] at h; cases h
      · exact n (List.mem_append_right _ m)
  rcases h with h | ⟨o, h⟩
  · exact ⟨.inl (e.keep _ _ h n'), out _ h⟩
  · exact ⟨.inr ⟨o, e.keep _ _ h n'⟩, out _ h⟩
section
variable {K : PySem.W.Frag} {θ : Ad} {new gs : List Addr} {S : St0} {H H' : Hp}
mutual
theorem RV.exts (e : Ext θ new H H') (r : RSt K θ S H) (g : ∀ b ∈ gs, H b = none) : ∀ {v : V} {d : D}, RV K θ H v d → RV K (θ.ups new gs) H' v d
  | _, _, .non => .non
  | _, _, .bl b => .bl b
  | _, _, .int i => .int i
  | _, _, .str s => .str s
  | _, _, .tup h hs => .tup (sqT_ext e r h) (RVs.exts e r g hs)
  | _, _, .lst n h hs => .lst (rd_ext e g n (.inl h)).2 (e.keep _ _ h fun m => n (List.mem_append_left _ m)) (RVs.exts e r g hs)
  | _, _, .fls h hs => .fls (fl_ext e r h) (RVs.exts e r g hs)
  | _, _, .ins n h q hs => .ins (rd_ext e g n (.inl h)).2 (e.keep _ _ h fun m => n (List.mem_append_left _ m)) q (RVs.exts e r g hs)
  | _, _, .dctK n h q hs => .dctK (rd_ext e g n (.inl h)).2 (e.keep _ _ h fun m => n (List.mem_append_left _ m)) q (RVs.exts e r g hs)
  | _, _, .dcn n h q nk hs => .dcn (rd_ext e g n (.inl h)).2 (e.keep _ _ h fun m => n (List.mem_append_left _ m)) q (nk_kp (fun _ _ => sqT_ext e r) nk) (RVs.exts e r g hs)
  | _, _, .tupF h z hs => .tupF (sqT_ext e r h) (fun b => fz_ext e r (z b)) (RVs.exts e r g hs)
  | _, _, .exn0 n h => .exn0 (rd_ext e g n (.inl h)).2 (e.keep _ _ h fun m => n (List.mem_append_left _ m))
  | _, _, .exn n n2 h h2 q hs => .exn (rd_ext e g n (.inl h)).2 (rd_ext e g n2 (.inl h2)).2 (e.keep _ _ h fun m => n (List.mem_append_left _ m)) (e.keep _ _ h2 fun m => n2 (List.mem_append_left _ m)) q (RVs.exts e r g hs)
  | _, _, .ref h => .ref (by show (θ.ix ++ new)[_]? = _; rw [List.getElem?_append_left (List.getElem?_eq_some_iff.mp h).1]; exact h)
  | _, _, .opq v => .opq v
theorem RVs.exts (e : Ext θ new H H') (r : RSt K θ S H) (g : ∀ b ∈ gs, H b = none) : ∀ {vs : List V} {ds : List D}, RVs K θ H vs ds → RVs K (θ.ups new gs) H' vs ds
  | _, _, .nil => .nil
  | _, _, .cons h hs => .cons (RV.exts e r g h) (RVs.exts e r g hs)
end
theorem RV.ext (e : Ext θ new H H') (r : RSt K θ S H) {v : V} {d : D} (h : RV K θ H v d) : RV K (θ.up new) H' v d := h.exts (gs := []) e r fun _ m => by cases m
theorem RVs.ext (e : Ext θ new H H') (r : RSt K θ S H) {vs : List V} {ds : List D} (h : RVs K θ H vs ds) : RVs K (θ.up new) H' vs ds := h.exts (gs := []) e r fun _ m => by cases m
/-! fewer ghosts -/
mutual
theorem RV.drop : ∀ {v : V} {d : D}, RV K ⟨θ.ix, gs ++ θ.gh⟩ H v d → RV K θ H v d
  | _, _, .non => .non
  | _, _, .bl b => .bl b
  | _, _, .int i => .int i
  | _, _, .str s => .str s
  | _, _, .tup h hs => .tup h (RVs.drop hs)
  | _, _, .lst n h hs => .lst (fun m => n (by rcases List.mem_append.mp m with m | m; exact List.mem_append_left _ m; exact List.mem_append_right _ (List.mem_append_right _ m))) h (RVs.drop hs)
  | _, _, .fls h hs => .fls h (RVs.drop hs)
  | _, _, .ins n h q hs => .ins (fun m => n (by rcases List.mem_append.mp m with m | m; exact List.mem_append_left _ m; exact List.mem_append_right _ (List.mem_append_right _ m))) h q (RVs.drop hs)
  | _, _, .dctK n h q hs => .dctK (fun m => n (by rcases List.mem_append.mp m with m | m; exact List.mem_append_left _ m; exact List.mem_append_right _ (List.mem_append_right _ m))) h q (RVs.drop hs)
  | _, _, .dcn n h q nk hs => .dcn (fun m => n (by rcases List.mem_append.mp m with m | m; exact List.mem_append_left _ m; exact List.mem_append_right _ (List.mem_append_right _ m))) h q nk (RVs.drop hs)
  | _, _, .tupF h z hs => .tupF h z (RVs.drop hs)
  | _, _, .exn0 n h => .exn0 (fun m => n (by rcases List.mem_append.mp m with m | m; exact List.mem_append_left _ m; exact List.mem_append_right _ (List.mem_append_right _ m))) h
  | _, _, .exn n n2 h h2 q hs => .exn (fun m => n (by rcases List.mem_append.mp m with m | m; exact List.mem_append_left _ m; exact List.mem_append_right _ (List.mem_append_right _ m))) (fun m => n2 (by rcases List.mem_append.mp m with m | m; exact List.mem_append_left _ m; exact List.mem_append_right _ (List.mem_append_right _ m))) h h2 q (RVs.drop hs)
  | _, _, .ref h => .ref h
  | _, _, .opq v => .opq v
theorem RVs.drop : ∀ {vs : List V} {ds : List D}, RVs K ⟨θ.ix, gs ++ θ.gh⟩ H vs ds → RVs K θ H vs ds
  | _, _, .nil => .nil
  | _, _, .cons h hs => .cons (RV.drop h) (RVs.drop hs)
end
theorem RSt.drop (s : RSt K ⟨θ.ix, gs ++ θ.gh⟩ S H) : RSt K θ S H := by
  refine ⟨s.len, s.nd, fun a m => s.gh a (List.mem_append_right _ m), fun n a o h1 h2 => ?_⟩
  cases s.ob n a o h1 h2 with
  | lst h hs => exact .lst h hs.drop
  | ins h q hs => exact .ins h q hs.drop
  | dctK h q hs => exact .dctK h q hs.drop
  | dcn h q nk hs => exact .dcn h q nk hs.drop
  | tbl h => exact .tbl h
theorem REn.drop {σ : L2.St} {ρ : Env0} (h : REn K ⟨θ.ix, gs ++ θ.gh⟩ H σ ρ) : REn K θ H σ ρ := ⟨h.len, fun i d z => by obtain ⟨v, h1, h2⟩ := h.at_ i d z; exact ⟨v, h1, h2.drop⟩⟩
theorem REn.exts {σ : L2.St} {ρ : Env0} (e : Ext θ new H H') (r : RSt K θ S H) (g : ∀ b ∈ gs, H b = none) (h : REn K θ H σ ρ) : REn K (θ.ups new gs) H' σ ρ := ⟨h.len, fun i d z => by obtain ⟨v, h1, h2⟩ := h.at_ i d z; exact ⟨v, h1, h2.exts e r g⟩⟩
end
section
variable {K : PySem.W.Frag} {θ : Ad} {new : List Addr} {S : St0} {H H' : Hp}
theorem REn.ext {σ : St} {ρ : Env0} (e : Ext θ new H H') (r : RSt K θ S H) (h : REn K θ H σ ρ) : REn K (θ.up new) H' σ ρ :=
  ⟨h.len, fun i d z => by obtain ⟨v, h1, h2⟩ := h.at_ i d z; exact ⟨v, h1, h2.ext e r⟩⟩
theorem RVs.len : ∀ {vs : List V} {ds : List D}, RVs K θ H vs ds → vs.length = ds.length
  | _, _, .nil => rfl
  | _, _, .cons _ hs => congrArg (· + 1) hs.len
theorem RVs.at : ∀ {vs : List V} {ds : List D} {n : Nat} {d : D}, RVs K θ H vs ds → ds[n]? = some d → ∃ v, vs[n]? = some v ∧ RV K θ H v d
  | _, _, _, _, .nil, e => by cases e
  | _, _, 0, _, .cons h _, e => by cases e; exact ⟨_, rfl, h⟩
  | _, _, n + 1, _, .cons _ hs, e => hs.at (n := n) e
theorem RVs.of : ∀ {vs : List V} {ds : List D} {n : Nat} {v : V}, RVs K θ H vs ds → vs[n]? = some v → ∃ d, ds[n]? = some d ∧ RV K θ H v d
  | _, _, _, _, .nil, e => by cases e
  | _, _, 0, _, .cons h _, e => by cases e; exact ⟨_, rfl, h⟩
  | _, _, n + 1, _, .cons _ hs, e => hs.of (n := n) e
theorem RVs.app : ∀ {vs ws : List V} {ds es : List D}, RVs K θ H vs ds → RVs K θ H ws es → RVs K θ H (vs ++ ws) (ds ++ es)
  | _, _, _, _, .nil, g => g
  | _, _, _, _, .cons h hs, g => .cons h (hs.app g)
theorem RVs.one {v : V} {d : D} (h : RV K θ H v d) : RVs K θ H [v] [d] := .cons h .nil
theorem RVs.take : ∀ {vs : List V} {ds : List D} (n : Nat), RVs K θ H vs ds → RVs K θ H (vs.take n) (ds.take n)
  | _, _, 0, _ => by simp; exact .nil
  | _, _, n + 1, .nil => by simp; exact .nil
  | _, _, n + 1, .cons h hs => .cons h (hs.take n)
theorem RVs.dropN : ∀ {vs : List V} {ds : List D} (n : Nat), RVs K θ H vs ds → RVs K θ H (vs.drop n) (ds.drop n)
  | _, _, 0, h => h
  | _, _, n + 1, .nil => .nil
  | _, _, n + 1, .cons h hs => hs.dropN n
theorem RVs.set : ∀ {vs : List V} {ds : List D} {v : V} {d : D} (n : Nat), RVs K θ H vs ds → RV K θ H v d → RVs K θ H (vs.set n v) (ds.set n d)
  | _, _, _, _, _, .nil, _ => .nil
  | _, _, _, _, 0, .cons h hs, g => .cons g hs
  | _, _, _, _, n + 1, .cons h hs, g => .cons h (hs.set n g)
theorem RVs.rev : ∀ {vs : List V} {ds : List D}, RVs K θ H vs ds → RVs K θ H vs.reverse ds.reverse
  | _, _, .nil => .nil
  | _, _, .cons h hs => by rw [List.reverse_cons, List.reverse_cons]; exact hs.rev.app (.one h)
theorem RVs.erase : ∀ {vs : List V} {ds : List D} (n : Nat), RVs K θ H vs ds → RVs K θ H (vs.eraseIdx n) (ds.eraseIdx n)
  | _, _, _, .nil => .nil
  | _, _, 0, .cons h hs => hs
  | _, _, n + 1, .cons h hs => .cons h (hs.erase n)
theorem RVs.rep {v : V} {d : D} (h : RV K θ H v d) : ∀ n, RVs K θ H (List.replicate n v) (List.replicate n d)
  | 0 => .nil
  | n + 1 => .cons h (RVs.rep h n)
theorem RVs.flat {vs : List V} {ds : List D} (h : RVs K θ H vs ds) : ∀ n, RVs K θ H (List.replicate n vs).flatten (List.replicate n ds).flatten
  | 0 => .nil
  | n + 1 => by rw [List.replicate_succ, List.replicate_succ, List.flatten_cons, List.flatten_cons]; exact h.app (h.flat n)
theorem RVs.ints : ∀ ns : List Int, RVs K θ H (ns.map V.int) (ns.map D.int)
  | [] => .nil
  | n :: ns => .cons (.int n) (RVs.ints ns)
/-- numbers alone -/
def ints? : List D → Option (List Int)
  | [] => some []
  | .int i :: r => (ints? r).map (i :: ·)
  | _ => none
theorem RVs.ofInts : ∀ {vs : List V} {ds : List D} {ns : List Int}, RVs K θ H vs ds → ints? ds = some ns → vs = ns.map V.int
  | _, _, _, .nil, e => by cases e; rfl
  | _, _, ns, .cons (d := d) (ds := ds) h hs, e => by
    cases d <;> simp only [ints?] at e <;> try cases e
    rename_i i
    cases q : ints? ds with
    | none => rw [q] at e; cases e
    | some ms =>
      rw [q] at e; cases e
      cases h
      rw [hs.ofInts q]; rfl
theorem ints_map : ∀ ns : List Int, ints? (ns.map D.int) = some ns
  | [] => rfl
  | n :: ns => by simp [ints?, ints_map ns]
end
end DL
set_option Elab.async false
set_option linter.all false
set_option maxRecDepth 100000
set_option autoImplicit false
/-! The layer of data: what is wanted behind an expression, and the rules of expressions. -/
namespace DL
open PySem PySem.Spec L2
open PyProof.Rows hiding St
/-- an exception's own dict -/
inductive RX (K : PySem.W.Frag) (θ : Ad) (H : Hp) : Option Addr → List (Str × D) → Prop
  | none : RX K θ H none []
  | some {d : Addr} {ws : List (Str × V)} {fs : List (Str × D)} : H d = some (.xd ws) → ws.map (·.1) = fs.map (·.1) → RVs K θ H (ws.map (·.2)) (fs.map (·.2)) → RX K θ H (some d) fs
def PostV (K : PySem.W.Frag) (θ : Ad) (H : Hp) (r : R) (Q : VK) (E : XK) : Prop :=
  match r with
  | .val d S' => ∀ new H' v, Ext θ new H H' → RSt K (θ.up new) S' H' → RV K (θ.up new) H' v d → Q v H'
  | .exc C fs S' => ∀ new H' dx, Ext θ new H H' → RSt K (θ.up new) S' H' → RX K (θ.up new) H' dx fs → E (.ref C) dx H'
  | .stuck => False
/-- the heap and the names of the store, later -/
def Up (K : PySem.W.Frag) (θ : Ad) (H : Hp) (θ1 : Ad) (H1 : Hp) : Prop := ∃ new gs S, θ1 = θ.ups new gs ∧ Ext θ new H H1 ∧ RSt K θ S H ∧ ∀ b ∈ gs, H b = none
section
variable {K : PySem.W.Frag} {θ θ1 θ2 : Ad} {H H1 H2 : Hp} {S : St0} {r : R} {Q Q' : VK} {E E' : XK} {v : V} {d : D} {vs : List V} {ds : List D} {σ : L2.St} {ρ : Env0}
theorem Up.of {new : List Addr} (e : Ext θ new H H1) (s : RSt K θ S H) : Up K θ H (θ.up new) H1 := ⟨new, [], S, rfl, e, s, fun _ m => by cases m⟩
theorem Up.refl (s : RSt K θ S H) : Up K θ H θ H := by have := Up.of (Ext.refl θ H) s; rwa [Ad.up_nil] at this
theorem Up.of_nil (e : Ext θ [] H H1) (s : RSt K θ S H) : Up K θ H θ H1 := by have := Up.of e s; rwa [Ad.up_nil] at this
theorem Up.rv (u : Up K θ H θ1 H1) (h : RV K θ H v d) : RV K θ1 H1 v d := by obtain ⟨new, gs, S, rfl, e, s, g⟩ := u; exact h.exts e s g
theorem Up.rvs (u : Up K θ H θ1 H1) (h : RVs K θ H vs ds) : RVs K θ1 H1 vs ds := by obtain ⟨new, gs, S, rfl, e, s, g⟩ := u; exact h.exts e s g
theorem Up.ren (u : Up K θ H θ1 H1) (h : REn K θ H σ ρ) : REn K θ1 H1 σ ρ := by obtain ⟨new, gs, S, rfl, e, s, g⟩ := u; exact h.exts e s g
theorem Up.trans (u : Up K θ H θ1 H1) (w : Up K θ1 H1 θ2 H2) : Up K θ H θ2 H2 := by
  obtain ⟨n1, g1, S1, rfl, e1, s1, f1⟩ := u
  obtain ⟨n2, g2, S2, rfl, e2, s2, f2⟩ := w
  refine ⟨n1 ++ n2, g2 ++ g1, S1, by simp [Ad.ups], e1.trans ⟨e2.keep, e2.dom, e2.new⟩, s1, fun b m => ?_⟩
  rcases List.mem_append.mp m with m | m
  · exact e1.dom b (f2 b m)
  · exact f1 b m
theorem Up.keep (u : Up K θ H θ1 H1) {a : Addr} {o : HO} (n : a ∉ θ.ix) (h : H a = some o) : H1 a = some o := by obtain ⟨new, gs, S, rfl, e, s, g⟩ := u; exact e.keep a o h n
theorem Up.sqT (u : Up K θ H θ1 H1) {a : Addr} {vs : List V} (h : SqT K H a vs) : SqT K H1 a vs := by obtain ⟨new, gs, S, rfl, e, s, g⟩ := u; exact sqT_ext e s h
theorem Up.fl (u : Up K θ H θ1 H1) {a : Addr} {vs : List V} (h : FL K H a vs) : FL K H1 a vs := by obtain ⟨new, gs, S, rfl, e, s, g⟩ := u; exact fl_ext e s h
theorem Up.rd (u : Up K θ H θ1 H1) {a : Addr} {o : HO} (n : a ∉ θ.av) (h : Rd H a o) : Rd H1 a o := by obtain ⟨new, gs, S, rfl, e, s, g⟩ := u; exact (rd_ext e g n h).1
theorem Up.at (u : Up K θ H θ1 H1) {a : Addr} {n : Nat} (h : θ.ix[n]? = some a) : θ1.ix[n]? = some a := by
  obtain ⟨new, gs, S, rfl, e, s, g⟩ := u
  show (θ.ix ++ new)[n]? = _
  rw [List.getElem?_append_left (List.getElem?_eq_some_iff.mp h).1]; exact h
/-- all that a value is made of stands as it did; ghosts may have turned -/
structure UpG (K : PySem.W.Frag) (θ : Ad) (H : Hp) (θ1 : Ad) (H1 : Hp) : Prop where
  rvs : ∀ {vs : List V} {ds : List D}, RVs K θ H vs ds → RVs K θ1 H1 vs ds
  sqT : ∀ {a : Addr} {vs : List V}, SqT K H a vs → SqT K H1 a vs
  fl : ∀ {a : Addr} {vs : List V}, FL K H a vs → FL K H1 a vs
  rd2 : ∀ {a : Addr} {o : HO}, a ∉ θ.av → Rd H a o → Rd H1 a o ∧ a ∉ θ1.av
  at2 : ∀ {a : Addr} {n : Nat}, θ.ix[n]? = some a → θ1.ix[n]? = some a
theorem UpG.at (u : UpG K θ H θ1 H1) {a : Addr} {n : Nat} (h : θ.ix[n]? = some a) : θ1.ix[n]? = some a := u.at2 h
theorem UpG.rd (u : UpG K θ H θ1 H1) {a : Addr} {o : HO} (n : a ∉ θ.av) (h : Rd H a o) : Rd H1 a o := (u.rd2 n h).1
theorem Up.g (u : Up K θ H θ1 H1) : UpG K θ H θ1 H1 := ⟨u.rvs, u.sqT, u.fl, fun n h => by obtain ⟨new, gs, S, rfl, e, s, g⟩ := u; exact rd_ext e g n h, u.at⟩
instance : Coe (Up K θ H θ1 H1) (UpG K θ H θ1 H1) := ⟨Up.g⟩
theorem UpG.trans (u : UpG K θ H θ1 H1) (w : UpG K θ1 H1 θ2 H2) : UpG K θ H θ2 H2 := ⟨fun h => w.rvs (u.rvs h), fun h => w.sqT (u.sqT h), fun h => w.fl (u.fl h), fun n h => w.rd2 (u.rd2 n h).2 (u.rd2 n h).1, fun h => w.at2 (u.at2 h)⟩
theorem Up.back (u : Up K θ H θ1 H1) {new : List Addr} {H' : Hp} (x : Ext θ1 new H1 H') : ∃ n, Ext θ n H H' ∧ (∀ S, RSt K (θ1.up new) S H' → RSt K (θ.up n) S H') ∧ (∀ v d, RV K (θ1.up new) H' v d → RV K (θ.up n) H' v d) ∧ (∀ v d, RVs K (θ1.up new) H' v d → RVs K (θ.up n) H' v d) ∧ ∀ σ ρ, REn K (θ1.up new) H' σ ρ → REn K (θ.up n) H' σ ρ := by
  obtain ⟨n1, g1, S1, rfl, e1, s1, f1⟩ := u
  have eq : (θ.ups n1 g1).up new = ⟨(θ.up (n1 ++ new)).ix, g1 ++ (θ.up (n1 ++ new)).gh⟩ := by simp [Ad.ups, Ad.up]
  rw [eq]
  exact ⟨n1 ++ new, e1.trans ⟨x.keep, x.dom, x.new⟩, fun S h => h.drop, fun v d h => h.drop, fun v d h => h.drop, fun σ ρ h => h.drop⟩
theorem RX.back (u : Up K θ H θ1 H1) {H' : Hp} {n m : List Addr} {dx : Option Addr} {fs : List (Str × DL.D)} (b : ∀ v d, RVs K (θ1.up n) H' v d → RVs K (θ.up m) H' v d) (h : RX K (θ1.up n) H' dx fs) : RX K (θ.up m) H' dx fs := by
  cases h with
  | none => exact .none
  | some h1 h2 h3 => exact .some h1 h2 (b _ _ h3)
theorem PostV.imp (p : PostV K θ H r Q E) (q : ∀ v H', Q v H' → Q' v H') (e : ∀ c dx H', E c dx H' → E' c dx H') : PostV K θ H r Q' E' := by
  cases r with
  | val d S' => exact fun new H' v x s rv => q _ _ (p new H' v x s rv)
  | exc C fs S' => exact fun new H' v x s rv => e _ _ _ (p new H' v x s rv)
  | stuck => exact p
theorem PostV.up (u : Up K θ H θ1 H1) (p : PostV K θ H r Q E) : PostV K θ1 H1 r Q E := by
  cases r with
  | val d S' => exact fun new H' v x s rv => by obtain ⟨n, e, b1, b2, b3, b4⟩ := u.back x; exact p n H' v e (b1 _ s) (b2 _ _ rv)
  | exc C fs S' => exact fun new H' v x s rv => by obtain ⟨n, e, b1, b2, b3, b4⟩ := u.back x; exact p n H' v e (b1 _ s) (RX.back u b3 rv)
  | stuck => exact p
/-- nothing new -/
theorem PostV.here {S' : St0} (p : PostV K θ H (.val d S') Q E) (s : RSt K θ S' H) (h : RV K θ H v d) : Q v H :=
  p [] H v (Ext.refl _ _) (by rw [Ad.up_nil]; exact s) (by rw [Ad.up_nil]; exact h)
theorem Ext.laid {p : Addr} {o : HO} (θ : Ad) (h : H p = none) : Ext θ [] H (upd H p o) :=
  ⟨fun a o' e _ => by rw [upd_ne (fun z => by rw [z, h] at e; cases e)]; exact e, fun a e => by
    by_cases z : a = p
    · rw [z]; exact h
    · rwa [upd_ne z] at e, fun a m => by cases m⟩
theorem RSt.ext {H' : Hp} (s : RSt K θ S H) (e : Ext θ [] H H') (k : ∀ a ∈ θ.av, ∀ o, H a = some o → H' a = some o) : RSt K θ S H' := by
  refine ⟨s.len, s.nd, fun a m => ⟨(s.gh a m).1.elim fun vs h => ⟨vs, k a (List.mem_append_right _ m) _ h.1, h.2⟩, (s.gh a m).2⟩, fun n a o h1 h2 => ?_⟩
  have m := List.mem_append_left θ.gh (List.mem_of_getElem? h1)
  have vv : ∀ {vs : List V} {ds : List D}, RVs K θ H vs ds → RVs K θ H' vs ds := fun h => by have := h.ext e s; rwa [Ad.up_nil] at this
  cases s.ob n a o h1 h2 with
  | lst h hs => exact .lst (k a m _ h) (vv hs)
  | ins h q hs => exact .ins (k a m _ h) q (vv hs)
  | dctK h q hs => exact .dctK (k a m _ h) q (vv hs)
  | dcn h q nk hs => exact .dcn (k a m _ h) q (nk_kp (fun _ _ => sqT_ext e s) nk) (vv hs)
  | tbl h => exact .tbl (tab_kp h (k a m) fun c hc => e.keep c _ hc fun z => s.codeN hc (List.mem_append_left _ z))
theorem RSt.laid {p : Addr} {o : HO} (s : RSt K θ S H) (h : H p = none) : RSt K θ S (upd H p o) :=
  s.ext (Ext.laid θ h) fun a m o' e => by rw [upd_ne (fun z => by rw [z, h] at e; cases e)]; exact e
theorem RV.laid {p : Addr} {o : HO} (s : RSt K θ S H) (h : H p = none) (r : RV K θ H v d) : RV K θ (upd H p o) v d := by have := r.ext (Ext.laid (o := o) θ h) s; rwa [Ad.up_nil] at this
theorem RVs.laid {p : Addr} {o : HO} (s : RSt K θ S H) (h : H p = none) (r : RVs K θ H vs ds) : RVs K θ (upd H p o) vs ds := by have := r.ext (Ext.laid (o := o) θ h) s; rwa [Ad.up_nil] at this
/-- a new object that nobody will change -/
theorem PostV.new {S' : St0} {p : Addr} {o : HO} (P : PostV K θ H (.val d S') Q E) (s : RSt K θ S' H) (h : H p = none) (r : RV K θ (upd H p o) v d) : Q v (upd H p o) :=
  P [] _ v (Ext.laid θ h) (by rw [Ad.up_nil]; exact s.laid h) (by rw [Ad.up_nil]; exact r)
theorem RSt.notin (s : RSt K θ S H) {p : Addr} (h : H p = none) : p ∉ θ.av := fun m => s.nn m h
theorem PostV.newTup {S' : St0} {p : Addr} (P : PostV K θ H (.val (.tup ds) S') Q E) (s : RSt K θ S' H) (h : H p = none) (r : RVs K θ H vs ds) : Q (.ref p) (upd H p (.tup vs)) :=
  P.new s h (.tup (.inl (.inl upd_same)) (r.laid s h))
theorem PostV.newLst {S' : St0} {p : Addr} (P : PostV K θ H (.val (.lst ds) S') Q E) (s : RSt K θ S' H) (h : H p = none) (r : RVs K θ H vs ds) : Q (.ref p) (upd H p (.lst vs)) :=
  P.new s h (.lst (s.notin h) upd_same (r.laid s h))
/-- a new object in the store -/
theorem RSt.add {p : Addr} {o : HO} {ob : Ob} (s : RSt K θ S H) (h : H p = none) (r : RO K (θ.up [p]) (upd H p o) p ob) : RSt K (θ.up [p]) (S ++ [ob]) (upd H p o) := by
  have e : Ext θ [p] H (upd H p o) := ⟨(Ext.laid θ h).keep, (Ext.laid θ h).dom, fun a m => by rw [List.mem_singleton.mp m]; exact h⟩
  refine ⟨by simp [s.len], List.nodup_append.mpr ⟨s.nd, by simp, fun a ha b hb => ?_⟩, fun a m => ?_, fun n a o' h1 h2 => ?_⟩
  · rw [List.mem_singleton.mp hb]
    intro z
    exact s.notin h (by rw [← z]; exact List.mem_append_left _ ha)
  · obtain ⟨⟨vs, g1, g3⟩, g2⟩ := s.gh a m
    have ne : a ≠ p := fun z => by rw [z, h] at g1; cases g1
    refine ⟨⟨vs, by rw [upd_ne ne]; exact g1, g3⟩, fun k => ?_⟩
    rcases List.mem_append.mp k with k | k
    · exact g2 k
    · exact ne (List.mem_singleton.mp k)
  · rw [Ad.up_ix] at h1
    by_cases l : n < θ.ix.length
    · rw [List.getElem?_append_left l] at h1
      rw [List.getElem?_append_left (by rw [← s.len]; exact l)] at h2
      have ne : a ≠ p := fun z => s.notin h (by rw [← z]; exact List.mem_append_left _ (List.mem_of_getElem? h1))
      cases s.ob n a o' h1 h2 with
      | lst h hs => exact .lst (by rw [upd_ne ne]; exact h) (hs.ext e s)
      | ins h q hs => exact .ins (by rw [upd_ne ne]; exact h) q (hs.ext e s)
      | dctK h q hs => exact .dctK (by rw [upd_ne ne]; exact h) q (hs.ext e s)
      | dcn h q nk hs => exact .dcn (by rw [upd_ne ne]; exact h) q (nk_kp (fun _ _ => sqT_ext e s) nk) (hs.ext e s)
      | tbl hT => exact .tbl (tab_kp hT (fun o e => by rw [upd_ne ne]; exact e) fun c hc => by rw [upd_ne (fun z => by rw [z, h] at hc; cases hc)]; exact hc)
    · have len : n = θ.ix.length := by
        have := (List.getElem?_eq_some_iff.mp h1).1
        rw [List.length_append] at this
        simp at this; omega
      subst len
      rw [List.getElem?_append_right (Nat.le_refl _), Nat.sub_self] at h1
      rw [List.getElem?_append_right (by rw [s.len]; exact Nat.le_refl _), s.len, Nat.sub_self] at h2
      cases h1; cases h2
      exact r
theorem Ext.laid1 {p : Addr} {o : HO} (θ : Ad) (h : H p = none) : Ext θ [p] H (upd H p o) := ⟨(Ext.laid θ h).keep, (Ext.laid θ h).dom, fun a m => by rw [List.mem_singleton.mp m]; exact h⟩
theorem PostV.add {S' : St0} {p : Addr} {o : HO} {ob : Ob} (P : PostV K θ H (.val (.ref S'.length) (S' ++ [ob])) Q E) (s : RSt K θ S' H) (h : H p = none) (r : RO K (θ.up [p]) (upd H p o) p ob) : Q (.ref p) (upd H p o) :=
  P [p] _ _ (Ext.laid1 θ h) (s.add h r) (.ref (by rw [Ad.up_ix, List.getElem?_append_right (by rw [s.len]; exact Nat.le_refl _), s.len, Nat.sub_self]; rfl))
/-- an object of the store is changed -/
theorem Ext.put {p : Addr} {o : HO} (m : p ∈ θ.ix) (n : H p ≠ none) : Ext θ [] H (upd H p o) :=
  ⟨fun a o' e k => by rw [upd_ne (fun z => k (by rw [z]; exact m))]; exact e, fun a e => by
    by_cases z : a = p
    · rw [z, upd_same] at e; cases e
    · rwa [upd_ne z] at e, fun a m => by cases m⟩
theorem RSt.put {p : Addr} {o : HO} {ob : Ob} {n : Nat} (s : RSt K θ S H) (m : θ.ix[n]? = some p) (r : RO K θ (upd H p o) p ob) : RSt K θ (S.set n ob) (upd H p o) := by
  have mm := List.mem_of_getElem? m
  have e : Ext θ [] H (upd H p o) := Ext.put mm (s.nn (List.mem_append_left _ mm))
  have vv : ∀ {vs : List V} {ds : List D}, RVs K θ H vs ds → RVs K θ (upd H p o) vs ds := fun h => by have := h.ext e s; rwa [Ad.up_nil] at this
  refine ⟨by rw [List.length_set]; exact s.len, s.nd, fun a k => ⟨(s.gh a k).1.elim fun vs g => ⟨vs, by rw [upd_ne (fun z => (s.gh a k).2 (by rw [z]; exact mm))]; exact g.1, g.2⟩, (s.gh a k).2⟩, fun k a o' h1 h2 => ?_⟩
  by_cases z : n = k
  · subst z
    rw [m] at h1; cases h1
    have : n < S.length := by
      have := (List.getElem?_eq_some_iff.mp h2).1
      rwa [List.length_set] at this
    rw [List.getElem?_set_self this] at h2
    cases h2
    exact r
  · rw [List.getElem?_set_ne z] at h2
    have ne : a ≠ p := fun w => by
      subst w
      obtain ⟨l1, e1⟩ := List.getElem?_eq_some_iff.mp m
      obtain ⟨l2, e2⟩ := List.getElem?_eq_some_iff.mp h1
      exact z ((List.getElem_inj s.nd).mp (e1.trans e2.symm))
    cases s.ob k a o' h1 h2 with
    | lst h hs => exact .lst (by rw [upd_ne ne]; exact h) (vv hs)
    | ins h q hs => exact .ins (by rw [upd_ne ne]; exact h) q (vv hs)
    | dctK h q hs => exact .dctK (by rw [upd_ne ne]; exact h) q (vv hs)
    | dcn h q nk hs => exact .dcn (by rw [upd_ne ne]; exact h) q (nk_kp (fun _ _ => sqT_ext e s) nk) (vv hs)
    | tbl h => exact .tbl (tab_kp h (fun o e => by rw [upd_ne ne]; exact e) fun c hc => by rw [upd_ne (fun z => s.codeN hc (List.mem_append_left _ (by rw [z]; exact mm)))]; exact hc)
end
def R.bind : R → (D → St0 → R) → R
  | .val d S, k => k d S
  | .exc C fs S, _ => .exc C fs S
  | .stuck, _ => .stuck
@[simp] theorem R.bind_val {d : D} {S : St0} {k : D → St0 → R} : (R.val d S).bind k = k d S := rfl
@[simp] theorem R.bind_exc {C : Addr} {fs : List (Str × D)} {S : St0} {k : D → St0 → R} : (R.exc C fs S).bind k = .exc C fs S := rfl
@[simp] theorem R.bind_stuck {k : D → St0 → R} : R.stuck.bind k = .stuck := rfl
section
variable {K : PySem.W.Frag} {θ : Ad} {H : Hp} {S : St0} {r : R} {Q : VK} {E : XK}
theorem PostV.bind {k : D → St0 → R} (s : RSt K θ S H) (p : PostV K θ H (r.bind k) Q E) :
    PostV K θ H r (fun v H1 => ∃ θ1 S1 d, Up K θ H θ1 H1 ∧ RSt K θ1 S1 H1 ∧ RV K θ1 H1 v d ∧ PostV K θ1 H1 (k d S1) Q E) E := by
  cases r with
  | val d S' => exact fun new H' v x s' rv => ⟨θ.up new, S', d, (Up.of x s), s', rv, PostV.up (Up.of x s) p⟩
  | exc C fs S' => exact p
  | stuck => exact p
end
/-! ### expressions -/
def tOf (K : PySem.W.Frag) (W : WX) (m : ME) : TE := fun σ H Q => ∃ θ ρ S, REn K θ H σ ρ ∧ RSt K θ S H ∧ PostV K θ H (m ρ S) Q (fun c d H' => W c d σ H')
def ttOf (K : PySem.W.Frag) (W : WX) (m : ME) : TT := fun σ H Q => ∃ θ ρ S, REn K θ H σ ρ ∧ RSt K θ S H ∧ PostV K θ H (m ρ S) (fun v H' => ∃ b, v = .bl b ∧ Q b H') (fun c d H' => W c d σ H')
def DE (X : Cx) (W : WX) (e : Expr) (m : ME) : Prop := PE X e (tOf X.K W m)
def DT (X : Cx) (W : WX) (e : Expr) (m : ME) : Prop := PT X e (ttOf X.K W m)
def DW (X : Cx) (W : WX) (e : Expr) (m : ME) : Prop := PW X e (ttOf X.K W m)
theorem PE.imp {X : Cx} {e : Expr} {t t' : TE} (h : PE X e t) (i : ∀ σ H Q, t' σ H Q → t σ H Q) : PE X e t' := ⟨fun pins s σ H Q I q => h.run pins s σ H Q I (i σ H Q q)⟩
theorem PT.imp {X : Cx} {e : Expr} {t t' : TT} (h : PT X e t) (i : ∀ σ H Q, t' σ H Q → t σ H Q) : PT X e t' := ⟨fun pins s σ H Q I q => h.run pins s σ H Q I (i σ H Q q)⟩
theorem PW.imp {X : Cx} {e : Expr} {t t' : TT} (h : PW X e t) (i : ∀ σ H Q, t' σ H Q → t σ H Q) : PW X e t' := ⟨fun w pins s σ H Q I q => h.run w pins s σ H Q I (i σ H Q q)⟩
/-- what a row of arguments comes to -/
inductive RA : Type
  | vals (ds : List D) (S : St0) | exc (C : Addr) (fs : List (Str × D)) (S : St0) | stuck
abbrev MA := Env0 → St0 → RA
def PostA (K : PySem.W.Frag) (θ : Ad) (H : Hp) (r : RA) (Q : List V → Hp → Prop) (E : XK) : Prop :=
  match r with
  | .vals d S' => ∀ new H' v, Ext θ new H H' → RSt K (θ.up new) S' H' → RVs K (θ.up new) H' v d → Q v H'
  | .exc C fs S' => ∀ new H' dx, Ext θ new H H' → RSt K (θ.up new) S' H' → RX K (θ.up new) H' dx fs → E (.ref C) dx H'
  | .stuck => False
def taOf (K : PySem.W.Frag) (W : WX) (m : MA) : TA := fun σ H Q => ∃ θ ρ S, REn K θ H σ ρ ∧ RSt K θ S H ∧ PostA K θ H (m ρ S) Q (fun c d H' => W c d σ H')
def DAs (X : Cx) (W : WX) (es : List Expr) (m : MA) : Prop := PA X es (taOf X.K W m)
theorem PA.imp {X : Cx} {e : List Expr} {t t' : TA} (h : PA X e t) (i : ∀ σ H Q, t' σ H Q → t σ H Q) : PA X e t' := ⟨fun pos pins s σ H Q I q => h.run pos pins s σ H Q I (i σ H Q q)⟩
def RA.bind : RA → (List D → St0 → R) → R
  | .vals d S, k => k d S
  | .exc C fs S, _ => .exc C fs S
  | .stuck, _ => .stuck
def R.bindA : R → (D → St0 → RA) → RA
  | .val d S, k => k d S
  | .exc C fs S, _ => .exc C fs S
  | .stuck, _ => .stuck
def RA.map (f : List D → List D) : RA → RA
  | .vals d S => .vals (f d) S
  | .exc C fs S => .exc C fs S
  | .stuck => .stuck
@[simp] theorem RA.bind_vals {d : List D} {S : St0} {k : List D → St0 → R} : (RA.vals d S).bind k = k d S := rfl
@[simp] theorem RA.bind_exc {C : Addr} {fs : List (Str × D)} {S : St0} {k : List D → St0 → R} : (RA.exc C fs S).bind k = .exc C fs S := rfl
@[simp] theorem RA.bind_stuck {k : List D → St0 → R} : RA.stuck.bind k = .stuck := rfl
@[simp] theorem R.bindA_val {d : D} {S : St0} {k : D → St0 → RA} : (R.val d S).bindA k = k d S := rfl
@[simp] theorem R.bindA_exc {C : Addr} {fs : List (Str × D)} {S : St0} {k : D → St0 → RA} : (R.exc C fs S).bindA k = .exc C fs S := rfl
@[simp] theorem R.bindA_stuck {k : D → St0 → RA} : R.stuck.bindA k = .stuck := rfl
@[simp] theorem RA.map_vals {f : List D → List D} {d : List D} {S : St0} : (RA.vals d S).map f = .vals (f d) S := rfl
def mNil : MA := fun _ S => .vals [] S
def mCons (a : ME) (b : MA) : MA := fun ρ S => (a ρ S).bindA fun x S1 => (b ρ S1).map (x :: ·)
def mVar (i : Nat) : ME := fun ρ S => match ρ[i]? with
  | some (some d) => .val d S
  | _ => .stuck
def mC (d : D) : ME := fun _ S => .val d S
def mUn (o : D → St0 → R) (a : ME) : ME := fun ρ S => (a ρ S).bind o
def mBin (o : D → D → St0 → R) (a b : ME) : ME := fun ρ S => (a ρ S).bind fun x S1 => (b ρ S1).bind fun y S2 => o x y S2
def mOn (o : List D → St0 → R) (a : MA) : ME := fun ρ S => (a ρ S).bind o
/-- a test by its value -/
def R.test (r : R) (k : Bool → St0 → R) : R := r.bind fun x S => match x with
  | .bl b => k b S
  | _ => .stuck
def mAnd (a b : ME) : ME := fun ρ S => (a ρ S).test fun c S1 => if c then b ρ S1 else .val (.bl false) S1
def mOr (a b : ME) : ME := fun ρ S => (a ρ S).test fun c S1 => if c then .val (.bl true) S1 else b ρ S1
def mNot (a : ME) : ME := fun ρ S => (a ρ S).test fun c S1 => .val (.bl (!c)) S1
def mIfE (c a b : ME) : ME := fun ρ S => (c ρ S).test fun k S1 => if k then a ρ S1 else b ρ S1
section
variable {X : Cx} {W : WX} {pos p : Pos} {a b c e : Expr} {es : List Expr} {ma mb mc : ME} {m : ME} {ms : MA}
theorem PostV.binde {K : PySem.W.Frag} {θ : Ad} {H : Hp} {S : St0} {r : R} {Q : VK} {E : XK} {k : D → St0 → R} {Q' : VK} (s : RSt K θ S H) (p : PostV K θ H (r.bind k) Q E)
    (q : ∀ v H1 θ1 S1 d, Up K θ H θ1 H1 → RSt K θ1 S1 H1 → RV K θ1 H1 v d → PostV K θ1 H1 (k d S1) Q E → Q' v H1) : PostV K θ H r Q' E :=
  (p.bind s).imp (fun v H1 ⟨θ1, S1, d, u, s1, rv, p1⟩ => q v H1 θ1 S1 d u s1 rv p1) fun _ _ _ h => h
theorem PostA.up {K : PySem.W.Frag} {θ θ1 : Ad} {H H1 : Hp} {r : RA} {Q : List V → Hp → Prop} {E : XK} (u : Up K θ H θ1 H1) (p : PostA K θ H r Q E) : PostA K θ1 H1 r Q E := by
  cases r with
  | vals d S' => exact fun new H' v x s rv => by obtain ⟨n, e, b1, b2, b3, b4⟩ := u.back x; exact p n H' v e (b1 _ s) (b3 _ _ rv)
  | exc C fs S' => exact fun new H' v x s rv => by obtain ⟨n, e, b1, b2, b3, b4⟩ := u.back x; exact p n H' v e (b1 _ s) (RX.back u b3 rv)
  | stuck => exact p
theorem PostV.bindA {K : PySem.W.Frag} {θ : Ad} {H : Hp} {S : St0} {r : R} {Q : List V → Hp → Prop} {E : XK} {k : D → St0 → RA} {Q' : VK} (s : RSt K θ S H) (p : PostA K θ H (r.bindA k) Q E)
    (q : ∀ v H1 θ1 S1 d, Up K θ H θ1 H1 → RSt K θ1 S1 H1 → RV K θ1 H1 v d → PostA K θ1 H1 (k d S1) Q E → Q' v H1) : PostV K θ H r Q' E := by
  cases r with
  | val d S' =>
    refine fun new H' v x s' rv => q v H' (θ.up new) S' d (Up.of x s) s' rv ?_
    simp only [R.bindA_val] at p
    exact PostA.up (Up.of x s) p
  | exc C fs S' => exact p
  | stuck => exact p
theorem PostA.bind {K : PySem.W.Frag} {θ : Ad} {H : Hp} {S : St0} {r : RA} {Q : VK} {E : XK} {k : List D → St0 → R} {Q' : List V → Hp → Prop} (s : RSt K θ S H) (p : PostV K θ H (r.bind k) Q E)
    (q : ∀ vs H1 θ1 S1 ds, Up K θ H θ1 H1 → RSt K θ1 S1 H1 → RVs K θ1 H1 vs ds → PostV K θ1 H1 (k ds S1) Q E → Q' vs H1) : PostA K θ H r Q' E := by
  cases r with
  | vals d S' => exact fun new H' v x s' rv => q v H' (θ.up new) S' d (Up.of x s) s' rv (PostV.up (Up.of x s) p)
  | exc C fs S' => exact p
  | stuck => exact p
theorem PostA.map {K : PySem.W.Frag} {θ : Ad} {H : Hp} {S : St0} {r : RA} {Q : List V → Hp → Prop} {E : XK} {f : List D → List D} {Q' : List V → Hp → Prop} (s : RSt K θ S H) (p : PostA K θ H (r.map f) Q E)
    (q : ∀ vs H1 θ1 S1 ds, Up K θ H θ1 H1 → RSt K θ1 S1 H1 → RVs K θ1 H1 vs ds → (∀ ws, RVs K θ1 H1 ws (f ds) → Q ws H1) → Q' vs H1) : PostA K θ H r Q' E := by
  cases r with
  | vals d S' => exact fun new H' v x s' rv => q v H' (θ.up new) S' d (Up.of x s) s' rv fun ws h => p new H' ws x s' h
  | exc C fs S' => exact p
  | stuck => exact p
theorem de_var {i : Nat} {x : Str} (hN : X.N[i]? = some x) (hv : Vis X.env.scope x) (hd : (x == ("__debug__" : Str)) = false := by decide) (hcd : (x == ("__classdict__" : Str)) = false := by decide) : DE X W (.Name x pos) (mVar i) := by
  refine PE.imp (pe_var hN hv hd hcd) fun σ H Q ⟨θ, ρ, S, n, s, p⟩ => ?_
  unfold mVar at p
  split at p
  · rename_i d e
    obtain ⟨v, h1, h2⟩ := n.at_ i d e
    exact ⟨v, h1, p.here s h2⟩
  · exact p.elim
theorem de_const {v : V} {d : D} (h : PE X e (tC v)) (hv : ∀ θ H, RV X.K θ H v d) : DE X W e (mC d) := PE.imp h fun σ H Q ⟨θ, ρ, S, n, s, p⟩ => PostV.here p s (hv θ H)
theorem de_int {i : Int} {j} : DE X W (.Constant (.int i) j pos) (mC (.int i)) := de_const pe_int fun _ _ => .int i
theorem de_bl {i : Bool} {j} : DE X W (.Constant (.bool i) j pos) (mC (.bl i)) := de_const pe_bl fun _ _ => .bl i
theorem de_non {j} : DE X W (.Constant .none j pos) (mC .non) := de_const pe_non fun _ _ => .non
theorem de_str {x : Str} {j} : DE X W (.Constant (.str x) j pos) (mC (.str x)) := de_const pe_str fun _ _ => .str x
/-- an operation by its values -/
def OpD (X : Cx) (f : Value → Value → Sem Value) (o : D → D → St0 → R) : Prop := OpR X f fun x y H Q => ∃ θ S d e, RSt X.K θ S H ∧ RV X.K θ H x d ∧ RV X.K θ H y e ∧ PostV X.K θ H (o d e S) Q (fun _ _ _ => False)
def UnD (X : Cx) (f : Value → Sem Value) (o : D → St0 → R) : Prop := UnR X f fun x H Q => ∃ θ S d, RSt X.K θ S H ∧ RV X.K θ H x d ∧ PostV X.K θ H (o d S) Q (fun _ _ _ => False)
def CallD (X : Cx) (f : Value) (o : List D → St0 → R) : Prop := CallR X f fun xs H Q => ∃ θ S ds, RSt X.K θ S H ∧ RVs X.K θ H xs ds ∧ PostV X.K θ H (o ds S) Q (fun _ _ _ => False)
def IxD (X : Cx) (o : D → D → St0 → R) : Prop := IxR X fun x y H Q => ∃ θ S d e, RSt X.K θ S H ∧ RV X.K θ H x d ∧ RV X.K θ H y e ∧ PostV X.K θ H (o d e S) Q (fun _ _ _ => False)
/-- what raises nothing -/
def NoX (r : R) : Prop := ∀ C fs S, r ≠ .exc C fs S
theorem PostV.nox {K : PySem.W.Frag} {θ : Ad} {H : Hp} {r : R} {Q : VK} {E E' : XK} (n : NoX r) (p : PostV K θ H r Q E) : PostV K θ H r Q E' := by
  cases r with
  | val d S' => exact p
  | exc C fs S' => exact absurd rfl (n C fs S')
  | stuck => exact p
theorem de_bin {op : Operator} {o : D → D → St0 → R} (ho : OpD X (binaryOp op) o) (hx : ∀ x y S, NoX (o x y S)) (ha : DE X W a ma) (hb : DE X W b mb) : DE X W (.BinOp a op b pos) (mBin o ma mb) := by
  refine PE.imp (pe_op ho ha hb) fun σ H Q ⟨θ, ρ, S, n, s, p⟩ => ⟨θ, ρ, S, n, s, p.binde s fun x H1 θ1 S1 d u s1 rx p1 => ⟨θ1, ρ, S1, u.ren n, s1, p1.binde s1 fun y H2 θ2 S2 e u2 s2 ry p2 => ⟨θ2, S2, d, e, s2, u2.rv rx, ry, p2.nox (hx _ _ _)⟩⟩⟩
theorem de_un {op : UnaryOp} {o : D → St0 → R} (ho : UnD X (unaryOp op) o) (hx : ∀ x S, NoX (o x S)) (ha : DE X W a ma) : DE X W (.UnaryOp op a pos) (mUn o ma) := by
  refine PE.imp (pe_un ho ha) fun σ H Q ⟨θ, ρ, S, n, s, p⟩ => ⟨θ, ρ, S, n, s, p.binde s fun x H1 θ1 S1 d u s1 rx p1 => ⟨θ1, S1, d, s1, rx, p1.nox (hx _ _)⟩⟩
theorem de_cmp {op : CmpOp} {o : D → D → St0 → R} (ho : OpD X (compareOp op) o) (hx : ∀ x y S, NoX (o x y S)) (ha : DE X W a ma) (hb : DE X W b mb) (hm : behindInMarks op b = false) : DE X W (.Compare a [op] [b] pos) (mBin o ma mb) := by
  refine PE.imp (pe_cmpR ho ha hb hm) fun σ H Q ⟨θ, ρ, S, n, s, p⟩ => ⟨θ, ρ, S, n, s, p.binde s fun x H1 θ1 S1 d u s1 rx p1 => ⟨θ1, ρ, S1, u.ren n, s1, p1.binde s1 fun y H2 θ2 S2 e u2 s2 ry p2 => ⟨θ2, S2, d, e, s2, u2.rv rx, ry, p2.nox (hx _ _ _)⟩⟩⟩
theorem dt_cmp {op : CmpOp} {o : D → D → St0 → R} (ho : OpD X (compareOp op) o) (hx : ∀ x y S, NoX (o x y S)) (ha : DE X W a ma) (hb : DE X W b mb) (hm : behindInMarks op b = false) : DT X W (.Compare a [op] [b] pos) (mBin o ma mb) := by
  refine PT.imp (pt_cmpR ho ha hb hm) fun σ H Q ⟨θ, ρ, S, n, s, p⟩ => ⟨θ, ρ, S, n, s, p.binde s fun x H1 θ1 S1 d u s1 rx p1 => ⟨θ1, ρ, S1, u.ren n, s1, p1.binde s1 fun y H2 θ2 S2 e u2 s2 ry p2 => ⟨θ2, S2, d, e, s2, u2.rv rx, ry, p2.nox (hx _ _ _)⟩⟩⟩
theorem de_ix {o : D → D → St0 → R} (ho : IxD X o) (hx : ∀ x y S, NoX (o x y S)) (ha : DE X W a ma) (hb : DE X W b mb) (hs : PlainIx b) : DE X W (.Subscript a b pos) (mBin o ma mb) := by
  refine PE.imp (pe_ix ho ha hb hs) fun σ H Q ⟨θ, ρ, S, n, s, p⟩ => ⟨θ, ρ, S, n, s, p.binde s fun x H1 θ1 S1 d u s1 rx p1 => ⟨θ1, ρ, S1, u.ren n, s1, p1.binde s1 fun y H2 θ2 S2 e u2 s2 ry p2 => ⟨θ2, S2, d, e, s2, u2.rv rx, ry, p2.nox (hx _ _ _)⟩⟩⟩
theorem das_nil : DAs X W [] mNil := PA.imp pa_nil fun σ H Q ⟨θ, ρ, S, n, s, p⟩ => p [] H [] (Ext.refl _ _) (by rw [Ad.up_nil]; exact s) .nil
theorem das_cons (ha : DE X W e m) (hr : DAs X W es ms) (hs : starEach (e :: es) X.env = (false, eval e X.env) :: starEach es X.env := by rfl) : DAs X W (e :: es) (mCons m ms) := by
  refine PA.imp (pa_cons ha hr hs) fun σ H Q ⟨θ, ρ, S, n, s, p⟩ => ⟨θ, ρ, S, n, s, PostV.bindA s p fun x H1 θ1 S1 d u s1 rx p1 => ⟨θ1, ρ, S1, u.ren n, s1, p1.map s1 fun vs H2 θ2 S2 ds u2 s2 rs q => q _ (.cons (u2.rv rx) rs)⟩⟩
theorem de_callB {id : String} {x : Str} {o : List D → St0 → R} (ho : CallD X (.builtin id) o) (hx : ∀ x S, NoX (o x S)) (hg : Gl X x) (hm : X.mg x = none) (hv : bootBuiltins x = some (.builtin id)) (ha : DAs X W (e :: es) ms) (hn : x ≠ "__name__" := by decide) (hdb : (x == ("__debug__" : Str)) = false := by decide)
    (he : starEach (e :: es) X.env = (false, eval e X.env) :: starEach es X.env := by rfl) (hpl : (backTo pos (starEach es X.env)).any (·.1) = false := by rfl) : DE X W (.Call (.Name x p) (e :: es) [] pos) (mOn o ms) := by
  refine PE.imp (pe_callB ho hg hm hv ha hn hdb he hpl) fun σ H Q ⟨θ, ρ, S, n, s, p⟩ => ⟨θ, ρ, S, n, s, PostA.bind s p fun vs H1 θ1 S1 ds u s1 rs p1 => ⟨θ1, S1, ds, s1, rs, p1.nox (hx _ _)⟩⟩
theorem de_callTy {T : String} {x : Str} {o : List D → St0 → R} (ho : CallD X (.type T) o) (hx : ∀ x S, NoX (o x S)) (hg : Gl X x) (hm : X.mg x = none) (hv : bootBuiltins x = some (.type T)) (ha : DAs X W (e :: es) ms) (hn : x ≠ "__name__" := by decide) (hdb : (x == ("__debug__" : Str)) = false := by decide)
    (he : starEach (e :: es) X.env = (false, eval e X.env) :: starEach es X.env := by rfl) (hpl : (backTo pos (starEach es X.env)).any (·.1) = false := by rfl) : DE X W (.Call (.Name x p) (e :: es) [] pos) (mOn o ms) := by
  refine PE.imp (pe_callTy ho hg hm hv ha hn hdb he hpl) fun σ H Q ⟨θ, ρ, S, n, s, p⟩ => ⟨θ, ρ, S, n, s, PostA.bind s p fun vs H1 θ1 S1 ds u s1 rs p1 => ⟨θ1, S1, ds, s1, rs, p1.nox (hx _ _)⟩⟩
/-! tests -/
theorem PostV.test {K : PySem.W.Frag} {θ : Ad} {H : Hp} {S : St0} {r : R} {Q : VK} {E : XK} {k : Bool → St0 → R} {Q' : VK} (s : RSt K θ S H) (p : PostV K θ H (r.test k) Q E)
    (q : ∀ b H1 θ1 S1, Up K θ H θ1 H1 → RSt K θ1 S1 H1 → PostV K θ1 H1 (k b S1) Q E → Q' (.bl b) H1) : PostV K θ H r Q' E := by
  refine PostV.binde s p fun v H1 θ1 S1 d u s1 rv p1 => ?_
  cases d <;> try exact p1.elim
  cases rv
  exact q _ H1 θ1 S1 u s1 p1
theorem dt_val (h : DE X W e m) (he : ∀ whole, isTrue e X.env whole = (do let v ← whole; standAt e.pos; holding [v] (truthy v)) := by intro _; rfl) : DT X W e m :=
  PT.imp (pt_val h he) fun σ H Q ⟨θ, ρ, S, n, s, p⟩ => ⟨θ, ρ, S, n, s, p⟩
theorem dt_not (h : DT X W a ma) : DT X W (.UnaryOp .Not a pos) (mNot ma) := by
  refine PT.imp (pt_not h) fun σ H Q ⟨θ, ρ, S, n, s, p⟩ => ⟨θ, ρ, S, n, s, p.test s fun b H1 θ1 S1 u s1 p1 => ⟨b, rfl, ?_⟩⟩
  obtain ⟨b', e, q⟩ := p1.here s1 (.bl _)
  cases e
  exact q
theorem dt_w (h : DW X W e m) : DT X W e m := PT.imp (PW.pt h) fun _ _ _ h => h
theorem de_and {rest : List Expr} (ha : DE X W a ma) (hb : DE X W (.BoolOp .And (b :: rest) pos) mb) : DE X W (.BoolOp .And (a :: b :: rest) pos) (mAnd ma mb) := by
  refine PE.imp (pe_and ha hb) fun σ H Q ⟨θ, ρ, S, n, s, p⟩ => ⟨θ, ρ, S, n, s, p.test s fun c H1 θ1 S1 u s1 p1 => ⟨c, rfl, ?_⟩⟩
  cases c with
  | true => exact iteT ⟨θ1, ρ, S1, u.ren n, s1, p1⟩
  | false => exact iteF (p1.here s1 (.bl _))
theorem de_or {rest : List Expr} (ha : DE X W a ma) (hb : DE X W (.BoolOp .Or (b :: rest) pos) mb) : DE X W (.BoolOp .Or (a :: b :: rest) pos) (mOr ma mb) := by
  refine PE.imp (pe_or ha hb) fun σ H Q ⟨θ, ρ, S, n, s, p⟩ => ⟨θ, ρ, S, n, s, p.test s fun c H1 θ1 S1 u s1 p1 => ⟨c, rfl, ?_⟩⟩
  cases c with
  | true => exact iteT (p1.here s1 (.bl _))
  | false => exact iteF ⟨θ1, ρ, S1, u.ren n, s1, p1⟩
theorem de_one {op} (h : DE X W a ma) : DE X W (.BoolOp op [a] pos) ma := pe_one h
theorem de_not (ha : DE X W a ma) (hn : ∀ {t : TE}, PE X a t → PE X (.UnaryOp .Not a pos) (tNotV t) := by exact fun h => pe_not h) : DE X W (.UnaryOp .Not a pos) (mNot ma) := by
  refine PE.imp (hn ha) fun σ H Q ⟨θ, ρ, S, n, s, p⟩ => ⟨θ, ρ, S, n, s, p.test s fun c H1 θ1 S1 u s1 p1 => ⟨c, rfl, p1.here s1 (.bl _)⟩⟩
theorem de_ifE (hc : DT X W c mc) (ha : DE X W a ma) (hb : DE X W b mb) : DE X W (.IfExp c a b pos) (mIfE mc ma mb) := by
  refine PE.imp (pe_ifExp hc ha hb) fun σ H Q ⟨θ, ρ, S, n, s, p⟩ => ⟨θ, ρ, S, n, s, p.test s fun k H1 θ1 S1 u s1 p1 => ⟨k, rfl, ?_⟩⟩
  cases k with
  | true => exact iteT ⟨θ1, ρ, S1, u.ren n, s1, p1⟩
  | false => exact iteF ⟨θ1, ρ, S1, u.ren n, s1, p1⟩
end
end DL
set_option Elab.async false
set_option linter.all false
set_option maxRecDepth 100000
set_option autoImplicit false
/-! The layer of data: statements, targets, loops. -/
namespace DL
open PySem PySem.Spec L2
open PyProof.Rows hiding St
def PostS (K : PySem.W.Frag) (θ : Ad) (H : Hp) (r : RS) (W : WX) (D : Ends) : Prop :=
  match r with
  | .nx ρ S' => ∀ new H' σ', Ext θ new H H' → RSt K (θ.up new) S' H' → REn K (θ.up new) H' σ' ρ → D.nx σ' H'
  | .rt d S' => ∀ new H' v, Ext θ new H H' → RSt K (θ.up new) S' H' → RV K (θ.up new) H' v d → D.rt v H'
  | .bk ρ S' => ∀ new H' σ', Ext θ new H H' → RSt K (θ.up new) S' H' → REn K (θ.up new) H' σ' ρ → D.bk σ' H'
  | .ct ρ S' => ∀ new H' σ', Ext θ new H H' → RSt K (θ.up new) S' H' → REn K (θ.up new) H' σ' ρ → D.ct σ' H'
  | .exc C fs ρ S' => ∀ new H' σ' dx, Ext θ new H H' → RSt K (θ.up new) S' H' → REn K (θ.up new) H' σ' ρ → RX K (θ.up new) H' dx fs → W (.ref C) dx σ' H'
  | .stuck => False
def sOf (K : PySem.W.Frag) (W : WX) (m : MS) : TS := fun D σ H => ∃ θ ρ S, REn K θ H σ ρ ∧ RSt K θ S H ∧ PostS K θ H (m ρ S) W D
def DS (X : Cx) (W : WX) (st : Stmt) (m : MS) : Prop := PS X st (sOf X.K W m)
def DSs (X : Cx) (W : WX) (st : List Stmt) (m : MS) : Prop := PSs X st (sOf X.K W m)
theorem PS.imp {X : Cx} {e : Stmt} {t t' : TS} (h : PS X e t) (i : ∀ D σ H, t' D σ H → t D σ H) : PS X e t' := ⟨fun pins s σ H Q I q => h.run pins s σ H Q I (i Q σ H q)⟩
theorem PSs.imp {X : Cx} {e : List Stmt} {t t' : TS} (h : PSs X e t) (i : ∀ D σ H, t' D σ H → t D σ H) : PSs X e t' := ⟨fun pins s σ H Q I q => h.run pins s σ H Q I (i Q σ H q)⟩
section
variable {K : PySem.W.Frag} {θ θ1 : Ad} {H H1 : Hp} {S S' : St0} {r : RS} {W : WX} {D : Ends} {σ : L2.St} {ρ : Env0}
theorem PostS.up (u : Up K θ H θ1 H1) (p : PostS K θ H r W D) : PostS K θ1 H1 r W D := by
  cases r with
  | nx ρ S' => exact fun new H' v x s rv => by obtain ⟨n, e, b1, b2, b3, b4⟩ := u.back x; exact p n H' v e (b1 _ s) (b4 _ _ rv)
  | rt d S' => exact fun new H' v x s rv => by obtain ⟨n, e, b1, b2, b3, b4⟩ := u.back x; exact p n H' v e (b1 _ s) (b2 _ _ rv)
  | bk ρ S' => exact fun new H' v x s rv => by obtain ⟨n, e, b1, b2, b3, b4⟩ := u.back x; exact p n H' v e (b1 _ s) (b4 _ _ rv)
  | ct ρ S' => exact fun new H' v x s rv => by obtain ⟨n, e, b1, b2, b3, b4⟩ := u.back x; exact p n H' v e (b1 _ s) (b4 _ _ rv)
  | exc C fs ρ S' => exact fun new H' v dx x s rn rv => by obtain ⟨n, e, b1, b2, b3, b4⟩ := u.back x; exact p n H' v dx e (b1 _ s) (b4 _ _ rn) (RX.back u b3 rv)
  | stuck => exact p
theorem PostS.next (p : PostS K θ H (.nx ρ S') W D) (s : RSt K θ S' H) (n : REn K θ H σ ρ) : D.nx σ H := p [] H σ (Ext.refl _ _) (by rw [Ad.up_nil]; exact s) (by rw [Ad.up_nil]; exact n)
theorem PostS.ret {d : DL.D} {v : V} (p : PostS K θ H (.rt d S') W D) (s : RSt K θ S' H) (n : RV K θ H v d) : D.rt v H := p [] H v (Ext.refl _ _) (by rw [Ad.up_nil]; exact s) (by rw [Ad.up_nil]; exact n)
/-- other ends, so far as they are asked -/
theorem PostS.ends {D' : Ends} (p : PostS K θ H r W D) (h1 : ∀ σ' H', D.nx σ' H' → D'.nx σ' H') (h2 : ∀ v H', D.rt v H' → D'.rt v H') (h3 : ∀ σ' H', D.bk σ' H' → D'.bk σ' H') (h4 : ∀ σ' H', D.ct σ' H' → D'.ct σ' H') : PostS K θ H r W D' := by
  cases r with
  | nx ρ S' => exact fun new H' v x s rv => h1 _ _ (p new H' v x s rv)
  | rt d S' => exact fun new H' v x s rv => h2 _ _ (p new H' v x s rv)
  | bk ρ S' => exact fun new H' v x s rv => h3 _ _ (p new H' v x s rv)
  | ct ρ S' => exact fun new H' v x s rv => h4 _ _ (p new H' v x s rv)
  | exc C fs ρ S' => exact p
  | stuck => exact p
end
/-- an expression's outcome in a statement -/
def R.stm (r : R) (ρ : Env0) (k : DL.D → St0 → RS) : RS := match r with
  | .val d S => k d S
  | .exc C fs S => .exc C fs ρ S
  | .stuck => .stuck
@[simp] theorem R.stm_val {ρ : Env0} {d : DL.D} {S : St0} {k : DL.D → St0 → RS} : (R.val d S).stm ρ k = k d S := rfl
@[simp] theorem R.stm_exc {ρ : Env0} {C : Addr} {fs : List (Str × DL.D)} {S : St0} {k : DL.D → St0 → RS} : (R.exc C fs S).stm ρ k = .exc C fs ρ S := rfl
@[simp] theorem R.stm_stuck {ρ : Env0} {k : DL.D → St0 → RS} : R.stuck.stm ρ k = .stuck := rfl
theorem PostS.stm {K : PySem.W.Frag} {θ : Ad} {H : Hp} {S : St0} {r : R} {W : WX} {D : Ends} {σ : L2.St} {ρ : Env0} {k : DL.D → St0 → RS} {Q' : VK} (n : REn K θ H σ ρ) (s : RSt K θ S H) (p : PostS K θ H (r.stm ρ k) W D)
    (q : ∀ v H1 θ1 S1 d, Up K θ H θ1 H1 → RSt K θ1 S1 H1 → RV K θ1 H1 v d → PostS K θ1 H1 (k d S1) W D → Q' v H1) : PostV K θ H r Q' (fun c d H' => W c d σ H') := by
  cases r with
  | val d S' => exact fun new H' v x s' rv => q v H' (θ.up new) S' d (Up.of x s) s' rv (PostS.up (Up.of x s) p)
  | exc C fs S' => exact fun new H' dx x s' rx => p new H' σ dx x s' (n.ext x s) rx
  | stuck => exact p
def RS.seq (r : RS) (k : Env0 → St0 → RS) : RS := match r with
  | .nx ρ S => k ρ S
  | .rt d S => .rt d S
  | .bk ρ S => .bk ρ S
  | .ct ρ S => .ct ρ S
  | .exc C fs ρ S => .exc C fs ρ S
  | .stuck => .stuck
@[simp] theorem RS.seq_nx {ρ : Env0} {S : St0} {k : Env0 → St0 → RS} : (RS.nx ρ S).seq k = k ρ S := rfl
@[simp] theorem RS.seq_rt {d : DL.D} {S : St0} {k : Env0 → St0 → RS} : (RS.rt d S).seq k = .rt d S := rfl
@[simp] theorem RS.seq_bk {ρ : Env0} {S : St0} {k : Env0 → St0 → RS} : (RS.bk ρ S).seq k = .bk ρ S := rfl
@[simp] theorem RS.seq_ct {ρ : Env0} {S : St0} {k : Env0 → St0 → RS} : (RS.ct ρ S).seq k = .ct ρ S := rfl
@[simp] theorem RS.seq_exc {C : Addr} {fs : List (Str × DL.D)} {ρ : Env0} {S : St0} {k : Env0 → St0 → RS} : (RS.exc C fs ρ S).seq k = .exc C fs ρ S := rfl
@[simp] theorem RS.seq_stuck {k : Env0 → St0 → RS} : RS.stuck.seq k = .stuck := rfl
def mNext : MS := fun ρ S => .nx ρ S
def mSeq (a b : MS) : MS := fun ρ S => (a ρ S).seq b
def mDrop (e : ME) : MS := fun ρ S => (e ρ S).stm ρ fun _ S1 => .nx ρ S1
def mRet (e : ME) : MS := fun ρ S => (e ρ S).stm ρ fun d S1 => .rt d S1
def mRetN : MS := fun _ S => .rt .non S
def mBreak : MS := fun ρ S => .bk ρ S
def mCont : MS := fun ρ S => .ct ρ S
/-- a test's outcome in a statement -/
def R.stmT (r : R) (ρ : Env0) (k : Bool → St0 → RS) : RS := r.stm ρ fun x S => match x with
  | .bl b => k b S
  | _ => .stuck
def mIf (c : ME) (a b : MS) : MS := fun ρ S => (c ρ S).stmT ρ fun k S1 => if k then a ρ S1 else b ρ S1
def mSet (i : Nat) (e : ME) : MS := fun ρ S => (e ρ S).stm ρ fun d S1 => .nx (ρ.set i (some d)) S1
/-! ### targets -/
inductive Pat : Type
  | nm (i : Nat) | tp (ps : List Pat)
mutual
def Pat.put : Pat → DL.D → Env0 → Option Env0
  | .nm i, d, ρ => some (ρ.set i (some d))
  | .tp ps, .tup ds, ρ => Pat.puts ps ds ρ
  | .tp _, _, _ => none
def Pat.puts : List Pat → List DL.D → Env0 → Option Env0
  | [], [], ρ => some ρ
  | p :: ps, d :: ds, ρ => match Pat.put p d ρ with
    | some ρ1 => Pat.puts ps ds ρ1
    | none => none
  | _, _, _ => none
end
mutual
def Pat.vars : Pat → List Nat
  | .nm i => [i]
  | .tp ps => Pat.varss ps
def Pat.varss : List Pat → List Nat
  | [] => []
  | p :: ps => p.vars ++ Pat.varss ps
end
/-- the slots but for some are as they were -/
def But (l : List Nat) (σ σ' : L2.St) : Prop := σ'.length = σ.length ∧ ∀ j, j ∉ l → σ'[j]? = σ[j]?
def pOf (K : PySem.W.Frag) (p : Pat) : TG := fun v σ H Q => ∃ θ ρ S d, REn K θ H σ ρ ∧ RSt K θ S H ∧ RV K θ H v d ∧ match p.put d ρ with
  | some ρ' => ∀ σ', REn K θ H σ' ρ' → But p.vars σ σ' → Q σ' H
  | none => False
def psOf (K : PySem.W.Frag) (p : List Pat) : TGs := fun vs σ H Q => ∃ θ ρ S ds, REn K θ H σ ρ ∧ RSt K θ S H ∧ RVs K θ H vs ds ∧ match Pat.puts p ds ρ with
  | some ρ' => ∀ σ', REn K θ H σ' ρ' → But (Pat.varss p) σ σ' → Q σ' H
  | none => False
def DP (X : Cx) (tg : Expr) (p : Pat) : Prop := PG X tg (pOf X.K p)
def DPs (X : Cx) (tg : List Expr) (p : List Pat) : Prop := PGs X tg (psOf X.K p)
theorem PG.imp {X : Cx} {e : Expr} {t t' : TG} (h : PG X e t) (i : ∀ v σ H Q, t' v σ H Q → t v σ H Q) : PG X e t' := ⟨fun pins s σ H v u Q I r q => h.run pins s σ H v u Q I r (i v σ H Q q)⟩
theorem PGs.imp {X : Cx} {e : List Expr} {t t' : TGs} (h : PGs X e t) (i : ∀ v σ H Q, t' v σ H Q → t v σ H Q) : PGs X e t' := ⟨fun pins s σ H v u Q I r q => h.run pins s σ H v u Q I r (i v σ H Q q)⟩
theorem REn.set {K : PySem.W.Frag} {θ : Ad} {H : Hp} {σ : L2.St} {ρ : Env0} {v : V} {d : DL.D} (n : REn K θ H σ ρ) (i : Nat) (r : RV K θ H v d) : REn K θ H (σ.set i (some v)) (ρ.set i (some d)) := by
  refine ⟨by rw [List.length_set, List.length_set]; exact n.len, fun j e h => ?_⟩
  by_cases z : i = j
  · subst z
    by_cases l : i < ρ.length
    · rw [List.getElem?_set_self l] at h
      cases h
      exact ⟨v, List.getElem?_set_self (by rw [n.len]; exact l), r⟩
    · rw [List.getElem?_eq_none (by rw [List.length_set]; omega)] at h
      cases h
  · rw [List.getElem?_set_ne z] at h
    rw [List.getElem?_set_ne z]
    exact n.at_ j e h
section
variable {X : Cx} {W : WX} {pos p : Pos} {a b c e : Expr} {es : List Expr} {ma mb mc : ME} {m : ME} {ms : MA}
theorem dp_nm {i : Nat} {x : Str} (hN : X.N.Nodup) (hi : X.N[i]? = some x) (hx : Loc X.env.scope x) (hf : X.fn x = true ∨ X.env.scope.names.lookup x = some .local := by first | exact .inl rfl | exact .inr rfl | assumption) : DP X (.Name x pos) (.nm i) := by
  refine PG.imp (pg_name hN hi hx hf) fun v σ H Q ⟨θ, ρ, S, d, n, s, r, q⟩ => ?_
  exact q _ (n.set i r) ⟨List.length_set, fun j hj => List.getElem?_set_ne fun z => hj (by simp [Pat.vars, z])⟩
theorem dps_nil : DPs X [] [] := by
  refine PGs.imp pgs_nil fun vs σ H Q ⟨θ, ρ, S, d, n, s, r, q⟩ => ?_
  cases r with
  | nil => exact ⟨rfl, q σ n ⟨rfl, fun _ _ => rfl⟩⟩
  | cons => exact q.elim
theorem dps_cons {t : Expr} {ts : List Expr} {g : Pat} {gs : List Pat} (h1 : DP X t g) (h2 : DPs X ts gs) (hp : ∀ {t1 : TG} {t2 : TGs}, PG X t t1 → PGs X ts t2 → PGs X (t :: ts) (gCons t1 t2) := by exact fun a b => pgs_cons a b) : DPs X (t :: ts) (g :: gs) := by
  refine PGs.imp (hp h1 h2) fun vs σ H Q ⟨θ, ρ, S, d, n, s, r, q⟩ => ?_
  cases r with
  | nil => exact q.elim
  | @cons v vs d ds r rs =>
    refine ⟨_, _, rfl, θ, ρ, S, d, n, s, r, ?_⟩
    unfold Pat.puts at q
    cases e1 : g.put d ρ with
    | none => rw [e1] at q; exact q
    | some ρ1 =>
      rw [e1] at q
      refine fun σ1 n1 b1 => ⟨θ, ρ1, S, ds, n1, s, rs, ?_⟩
      cases e2 : Pat.puts gs ds ρ1 with
      | none => simp only [e2] at q
      | some ρ2 =>
        simp only [e2] at q
        refine fun σ2 n2 b2 => q σ2 n2 ⟨b2.1.trans b1.1, fun j hj => ?_⟩
        simp only [Pat.varss, List.mem_append, not_or] at hj
        exact (b2.2 j hj.2).trans (b1.2 j hj.1)
theorem dp_tup {ts : List Expr} {k : Nat} {gs : List Pat} (hc : X.calm = true) (h : DPs X ts gs) (hn : (assignEach ts X.env).length = gs.length := by rfl) (hst : (assignEach ts X.env).findIdx? (·.1) = none := by rfl) : DP X (.Tuple ts k pos) (.tp gs) := by
  refine PG.imp (pg_tup hc h hn hst) fun v σ H Q ⟨θ, ρ, S, d, n, s, r, q⟩ => ?_
  cases d <;> try exact q.elim
  cases r with
  | tup ht rs =>
    have len : ∀ (ps : List Pat) (ds : List DL.D) (ρ ρ' : Env0), Pat.puts ps ds ρ = some ρ' → ds.length = ps.length := by
      intro ps
      induction ps with
      | nil => intro ds ρ ρ' h; cases ds with | nil => rfl | cons => cases h
      | cons p ps ih =>
        intro ds ρ ρ' h
        cases ds with
        | nil => cases h
        | cons d ds =>
          simp only [Pat.puts] at h
          split at h
          · exact congrArg (· + 1) (ih _ _ _ h)
          · cases h
    simp only [Pat.put] at q
    refine ⟨_, _, rfl, ht, ?_, θ, ρ, S, _, n, s, rs, q⟩
    split at q
    · rename_i ρ' e'
      rw [rs.len]
      exact len _ _ _ _ e'
    · exact q.elim
/-! ### statements -/
variable {st : Stmt} {sts sts' : List Stmt} {k k1 k2 : MS}
theorem dss_nil : DSs X W [] mNext := PSs.imp pss_nil fun D σ H ⟨θ, ρ, S, n, s, p⟩ => p.next s n
theorem PostS.seq {K : PySem.W.Frag} {θ : Ad} {H : Hp} {S : St0} {r : RS} {W : WX} {D : Ends} {k : Env0 → St0 → RS} (s : RSt K θ S H) (p : PostS K θ H (r.seq k) W D) :
    PostS K θ H r W { D with nx := fun σ H1 => ∃ θ1 ρ1 S1, Up K θ H θ1 H1 ∧ REn K θ1 H1 σ ρ1 ∧ RSt K θ1 S1 H1 ∧ PostS K θ1 H1 (k ρ1 S1) W D } := by
  cases r with
  | nx ρ S' => exact fun new H' v x s' rv => ⟨θ.up new, ρ, S', (Up.of x s), rv, s', PostS.up (Up.of x s) p⟩
  | rt d S' => exact p
  | bk ρ S' => exact p
  | ct ρ S' => exact p
  | exc C fs ρ S' => exact p
  | stuck => exact p
theorem dss_cons (h1 : DS X W st k1) (h2 : DSs X W sts k2) : DSs X W (st :: sts) (mSeq k1 k2) := by
  refine PSs.imp (pss_cons h1 h2) fun D σ H ⟨θ, ρ, S, n, s, p⟩ => ⟨θ, ρ, S, n, s, (PostS.seq s p).ends (fun σ' H' ⟨θ1, ρ1, S1, u, n1, s1, p1⟩ => ⟨θ1, ρ1, S1, n1, s1, p1⟩) (fun _ _ h => h) (fun _ _ h => h) fun _ _ h => h⟩
theorem dss_one (h1 : DS X W st k) : DSs X W [st] k := pss_one h1
theorem ds_expr (he : DE X W e m) (hs : swapsWith e none pos.line X.env = pure false := by rfl) : DS X W (.Expr e pos) (mDrop m) :=
  PS.imp (ps_expr he hs) fun D σ H ⟨θ, ρ, S, n, s, p⟩ => ⟨θ, ρ, S, n, s, PostS.stm n s p fun v H1 θ1 S1 d u s1 rv p1 => p1.next s1 (u.ren n)⟩
theorem ds_ret (he : DE X W e m) : DS X W (.Return (some e) pos) (mRet m) :=
  PS.imp (ps_ret he) fun D σ H ⟨θ, ρ, S, n, s, p⟩ => ⟨θ, ρ, S, n, s, PostS.stm n s p fun v H1 θ1 S1 d u s1 rv p1 => p1.ret s1 rv⟩
theorem ds_retN : DS X W (.Return none pos) mRetN := PS.imp ps_retN fun D σ H ⟨θ, ρ, S, n, s, p⟩ => p.ret s .non
theorem ds_pass : DS X W (.Pass pos) mNext := PS.imp ps_pass fun D σ H ⟨θ, ρ, S, n, s, p⟩ => p.next s n
theorem ds_break : DS X W (.Break pos) mBreak := PS.imp ps_break fun D σ H ⟨θ, ρ, S, n, s, p⟩ => p [] H σ (Ext.refl _ _) (by rw [Ad.up_nil]; exact s) (by rw [Ad.up_nil]; exact n)
theorem ds_continue : DS X W (.Continue pos) mCont := PS.imp ps_continue fun D σ H ⟨θ, ρ, S, n, s, p⟩ => p [] H σ (Ext.refl _ _) (by rw [Ad.up_nil]; exact s) (by rw [Ad.up_nil]; exact n)
theorem PostS.stmT {K : PySem.W.Frag} {θ : Ad} {H : Hp} {S : St0} {r : R} {W : WX} {D : Ends} {σ : L2.St} {ρ : Env0} {k : Bool → St0 → RS} {Q' : VK} (n : REn K θ H σ ρ) (s : RSt K θ S H) (p : PostS K θ H (r.stmT ρ k) W D)
    (q : ∀ b H1 θ1 S1, Up K θ H θ1 H1 → RSt K θ1 S1 H1 → PostS K θ1 H1 (k b S1) W D → Q' (.bl b) H1) : PostV K θ H r Q' (fun c d H' => W c d σ H') := by
  refine PostS.stm n s p fun v H1 θ1 S1 d u s1 rv p1 => ?_
  cases d <;> try exact p1.elim
  cases rv
  exact q _ H1 θ1 S1 u s1 p1
theorem ds_if (hc : DT X W c mc) (ha : DSs X W sts k1) (hb : DSs X W sts' k2) : DS X W (.If c sts sts' pos) (mIf mc k1 k2) := by
  refine PS.imp (ps_if hc ha hb) fun D σ H ⟨θ, ρ, S, n, s, p⟩ => ⟨θ, ρ, S, n, s, PostS.stmT n s p fun k H1 θ1 S1 u s1 p1 => ⟨k, rfl, ?_⟩⟩
  cases k with
  | true => exact iteT ⟨θ1, ρ, S1, u.ren n, s1, p1⟩
  | false => exact iteF ⟨θ1, ρ, S1, u.ren n, s1, p1⟩
theorem ds_set {i : Nat} {x : Str} {pos' : Pos} (hN : X.N.Nodup) (hi : X.N[i]? = some x) (hx : Loc X.env.scope x) (he : DE X W e m) (hs : swapsWith e (some (.Name x pos')) pos.line X.env = pure false := by rfl) (hf : X.fn x = true ∨ X.env.scope.names.lookup x = some .local := by first | exact .inl rfl | exact .inr rfl | assumption) :
    DS X W (.Assign [.Name x pos'] e pos) (mSet i m) :=
  PS.imp (ps_set hN hi hx he hs hf) fun D σ H ⟨θ, ρ, S, n, s, p⟩ => ⟨θ, ρ, S, n, s, PostS.stm n s p fun v H1 θ1 S1 d u s1 rv p1 => p1.next s1 ((u.ren n).set i rv)⟩
/-- a, b = e -/
def mAsg (e : ME) (g : Pat) : MS := fun ρ S => (e ρ S).stm ρ fun d S1 => match g.put d ρ with
  | some ρ' => .nx ρ' S1
  | none => .stuck
theorem ds_asg {tg : Expr} {g : Pat} (he : DE X W e m) (hg : DP X tg g) (hs : swapsWithSole [tg] e pos.line X.env = pure false := by rfl) (hw : swappedStores [tg] e X.env = pure none := by rfl)
    (h1 : (assignEach [tg] X.env).map (·.2) = [assign tg X.env] := by rfl) : DS X W (.Assign [tg] e pos) (mAsg m g) := by
  refine PS.imp (ps_asg he hg hs hw h1) fun D σ H ⟨θ, ρ, S, n, s, p⟩ => ⟨θ, ρ, S, n, s, PostS.stm n s p fun v H1 θ1 S1 d u s1 rv p1 => ⟨θ1, ρ, S1, d, u.ren n, s1, rv, ?_⟩⟩
  split at p1
  · exact fun σ' n' _ => p1.next s1 n'
  · exact p1.elim
/-- a, b = x, y -/
def RA.stm (r : RA) (ρ : Env0) (k : List DL.D → St0 → RS) : RS := match r with
  | .vals d S => k d S
  | .exc C fs S => .exc C fs ρ S
  | .stuck => .stuck
@[simp] theorem RA.stm_vals {ρ : Env0} {d : List DL.D} {S : St0} {k : List DL.D → St0 → RS} : (RA.vals d S).stm ρ k = k d S := rfl
@[simp] theorem RA.stm_exc {ρ : Env0} {C : Addr} {fs : List (Str × DL.D)} {S : St0} {k : List DL.D → St0 → RS} : (RA.exc C fs S).stm ρ k = .exc C fs ρ S := rfl
@[simp] theorem RA.stm_stuck {ρ : Env0} {k : List DL.D → St0 → RS} : RA.stuck.stm ρ k = .stuck := rfl
def mPar (i j : Nat) (a : MA) : MS := fun ρ S => (a ρ S).stm ρ fun ds S1 => match ds with
  | [x, y] => .nx ((ρ.set i (some x)).set j (some y)) S1
  | _ => .stuck
theorem PostA.stm {K : PySem.W.Frag} {θ : Ad} {H : Hp} {S : St0} {r : RA} {W : WX} {D : Ends} {σ : L2.St} {ρ : Env0} {k : List DL.D → St0 → RS} {Q' : List V → Hp → Prop} (n : REn K θ H σ ρ) (s : RSt K θ S H) (p : PostS K θ H (r.stm ρ k) W D)
    (q : ∀ v H1 θ1 S1 d, Up K θ H θ1 H1 → RSt K θ1 S1 H1 → RVs K θ1 H1 v d → PostS K θ1 H1 (k d S1) W D → Q' v H1) : PostA K θ H r Q' (fun c d H' => W c d σ H') := by
  cases r with
  | vals d S' => exact fun new H' v x s' rv => q v H' (θ.up new) S' d (Up.of x s) s' rv (PostS.up (Up.of x s) p)
  | exc C fs S' => exact fun new H' dx x s' rx => p new H' σ dx x s' (n.ext x s) rx
  | stuck => exact p
theorem ds_par {i j : Nat} {x y : Str} {px py pt : Pos} {kt k2 pt2} (hc : X.calm = true) (hN : X.N.Nodup) (hi : X.N[i]? = some x) (hj : X.N[j]? = some y) (hij : i ≠ j)
    (hx : X.env.scope.names.lookup x = some .local) (hy : X.env.scope.names.lookup y = some .local) (ha : DAs X W [a, b] ms)
    (hw : swappedStores [.Tuple [.Name x px, .Name y py] kt pt] (.Tuple [a, b] k2 pt2) X.env = pure (some [x, y]))
    (hs : swapsWithSole [.Tuple [.Name x px, .Name y py] kt pt] (.Tuple [a, b] k2 pt2) pos.line X.env = pure false := by rfl) :
    DS X W (.Assign [.Tuple [.Name x px, .Name y py] kt pt] (.Tuple [a, b] k2 pt2) pos) (mPar i j ms) := by
  refine PS.imp (ps_par hc hN hi hj hij hx hy ha hw hs) fun D σ H ⟨θ, ρ, S, n, s, p⟩ => ⟨θ, ρ, S, n, s, PostA.stm n s p fun v H1 θ1 S1 d u s1 rv p1 => ?_⟩
  cases rv with
  | nil => exact p1.elim
  | cons r1 rv =>
    cases rv with
    | nil => exact p1.elim
    | cons r2 rv =>
      cases rv with
      | nil => exact ⟨_, _, rfl, p1.next s1 (((u.ren n).set i r1).set j r2)⟩
      | cons => exact p1.elim
end
/-! ### what a loop walks -/
/-- the lists of the store that are walked stand still -/
def chk (S : St0) (src : List (Nat × List DL.D)) : Bool := src.all fun p => decide (S[p.1]? = some (.lst p.2))
structure Feeds (K : PySem.W.Frag) (J : It) (src : List (Nat × List DL.D)) (ds : List DL.D) (θ0 : Ad) (H0 : Hp) : Prop where
  stop : ∀ θ H S i, UpG K θ0 H0 θ H → RSt K θ S H → chk S src = true → ds.length ≤ i → J.stop i H
  go : ∀ θ H S i d, UpG K θ0 H0 θ H → RSt K θ S H → chk S src = true → ds[i]? = some d → J.go i H ∧ ∀ x H', J.yld i H x H' → Ext θ [] H H' ∧ RSt K θ S H' ∧ RV K θ H' x d
inductive RI : Type
  | it (src : List (Nat × List DL.D)) (ds : List DL.D) (S : St0) | exc (C : Addr) (fs : List (Str × DL.D)) (S : St0) | stuck
abbrev MI := Env0 → St0 → RI
def PostI (K : PySem.W.Frag) (θ : Ad) (H : Hp) (r : RI) (Q : It → Hp → Prop) (E : XK) : Prop :=
  match r with
  | .it src ds S' => ∀ new H' J, Ext θ new H H' → RSt K (θ.up new) S' H' → Feeds K J src ds (θ.up new) H' → Q J H'
  | .exc C fs S' => ∀ new H' dx, Ext θ new H H' → RSt K (θ.up new) S' H' → RX K (θ.up new) H' dx fs → E (.ref C) dx H'
  | .stuck => False
def iOf (K : PySem.W.Frag) (W : WX) (m : MI) : TI := fun σ H Q => ∃ θ ρ S, REn K θ H σ ρ ∧ RSt K θ S H ∧ PostI K θ H (m ρ S) Q (fun c d H' => W c d σ H')
def DI (X : Cx) (W : WX) (tg iter : Expr) (m : MI) : Prop := PI X tg iter (iOf X.K W m)
theorem PI.imp {X : Cx} {tg e : Expr} {t t' : TI} (h : PI X tg e t) (i : ∀ σ H Q, t' σ H Q → t σ H Q) : PI X tg e t' := ⟨fun pins s σ H Q I q => h.run pins s σ H Q I (i σ H Q q)⟩
def loop (src : List (Nat × List DL.D)) (g : Pat) (body : MS) : List DL.D → Env0 → St0 → RS
  | [], ρ, S => if chk S src then .nx ρ S else .stuck
  | d :: ds, ρ, S => if chk S src then match g.put d ρ with
    | none => .stuck
    | some ρ1 => match body ρ1 S with
      | .nx ρ2 S2 => loop src g body ds ρ2 S2
      | .ct ρ2 S2 => loop src g body ds ρ2 S2
      | .bk ρ2 S2 => .nx ρ2 S2
      | .rt v S2 => .rt v S2
      | .exc C fs ρ2 S2 => .exc C fs ρ2 S2
      | .stuck => .stuck
    else .stuck
def RI.stm (r : RI) (ρ : Env0) (k : List (Nat × List DL.D) → List DL.D → St0 → RS) : RS := match r with
  | .it src ds S => k src ds S
  | .exc C fs S => .exc C fs ρ S
  | .stuck => .stuck
@[simp] theorem RI.stm_it {ρ : Env0} {src ds} {S : St0} {k} : (RI.it src ds S).stm ρ k = k src ds S := rfl
def mFor (i : MI) (g : Pat) (body : MS) : MS := fun ρ S => (i ρ S).stm ρ fun src ds S1 => loop src g body ds ρ S1
theorem ds_for {X : Cx} {W : WX} {tg iter : Expr} {body : List Stmt} {mi : MI} {g : Pat} {mb : MS} {pos : Pos} (hp : PassesOwn (model X.prog X.w) X.A X.env X.xe) (hc : X.calm = true) (hi : DI X W tg iter mi) (hg : DP X tg g) (hb : DSs X W body mb)
    (hs : ∀ x, foldedSetIterable iter X.env x = pure x := by intro _; rfl) : DS X W (.For tg iter body [] pos) (mFor mi g mb) := by
  refine PS.imp (ps_for hp hc hi hg hb hs) fun D σ H ⟨θ, ρ, S, n, s, p⟩ => ⟨θ, ρ, S, n, s, ?_⟩
  unfold mFor RI.stm at p
  cases hr : mi ρ S with
  | stuck => rw [hr] at p; exact p
  | exc C fs S' => rw [hr] at p; exact fun new H' dx x s' rx => p new H' σ dx x s' (n.ext x s) rx
  | it src ds S0 =>
    rw [hr] at p
    refine fun new H0 J x s0 F => ?_
    have u0 : Up X.K θ H (θ.up new) H0 := (Up.of x s)
    have n0 := u0.ren n
    replace p := PostS.up u0 p
    simp only at p
    generalize θ.up new = θ0 at *
    refine ⟨fun i m σ1 H1 => ∃ θ1 ρ1 S1, Up X.K θ0 H0 θ1 H1 ∧ REn X.K θ1 H1 σ1 ρ1 ∧ RSt X.K θ1 S1 H1 ∧ i + m = ds.length ∧ PostS X.K θ1 H1 (loop src g mb (ds.drop i) ρ1 S1) W D,
      ⟨ds.length, θ0, ρ, S0, Up.refl s0, n0, s0, Nat.zero_add _, p⟩, ?_⟩
    rintro i m σ1 H1 ⟨θ1, ρ1, S1, u1, n1, s1, le, p1⟩
    cases m with
    | zero =>
      rw [List.drop_eq_nil_of_le (by omega)] at p1
      unfold loop at p1
      split at p1
      · rename_i ck
        exact .inl ⟨F.stop θ1 H1 S1 i u1 s1 ck (by omega), p1.next s1 n1⟩
      · exact p1.elim
    | succ m =>
      have il : i < ds.length := by omega
      rw [List.drop_eq_getElem_cons il] at p1
      unfold loop at p1
      split at p1
      · rename_i ck
        obtain ⟨go, yl⟩ := F.go θ1 H1 S1 i ds[i] u1 s1 ck (List.getElem?_eq_getElem il)
        refine .inr ⟨go, fun σ2 H2 => ∃ θ2 ρ2 S2, Up X.K θ0 H0 θ2 H2 ∧ REn X.K θ2 H2 σ2 ρ2 ∧ RSt X.K θ2 S2 H2 ∧ PostS X.K θ2 H2 (loop src g mb (ds.drop (i + 1)) ρ2 S2) W D, fun σ2 H2 ⟨θ2, ρ2, S2, u2, n2, s2, p2⟩ => ⟨m, Nat.lt_succ_self _, θ2, ρ2, S2, u2, n2, s2, by omega, p2⟩, fun v H2 y => ?_⟩
        obtain ⟨e2, s2, r2⟩ := yl v H2 y
        have u2 : Up X.K θ1 H1 θ1 H2 := Up.of_nil e2 s1
        replace p1 := PostS.up u2 p1
        refine ⟨θ1, ρ1, S1, ds[i], u2.ren n1, s2, r2, ?_⟩
        split at p1
        · exact p1.elim
        · rename_i ρ2 e'
          rw [e']
          refine fun σ3 n3 _ => ⟨θ1, ρ2, S1, n3, s2, ?_⟩
          have U : ∀ θ3 H3, Up X.K θ1 H2 θ3 H3 → Up X.K θ0 H0 θ3 H3 := fun θ3 H3 u => (u1.trans u2).trans u
          split at p1
          · rename_i ρ4 S4 eb
            rw [eb]
            exact fun n4 H4 σ4 x4 s4 rn4 => ⟨_, ρ4, S4, U _ _ (Up.of x4 s2), rn4, s4, PostS.up (Up.of x4 s2) p1⟩
          · rename_i ρ4 S4 eb
            rw [eb]
            exact fun n4 H4 σ4 x4 s4 rn4 => ⟨_, ρ4, S4, U _ _ (Up.of x4 s2), rn4, s4, PostS.up (Up.of x4 s2) p1⟩
          · rename_i ρ4 S4 eb
            rw [eb]
            exact p1
          · rename_i v4 S4 eb
            rw [eb]
            exact p1
          · rename_i C4 fs4 ρ4 S4 eb
            rw [eb]
            exact p1
          · exact p1.elim
      · exact p1.elim
/-! ### while -/
def whileN (c : ME) (body : MS) : Nat → Env0 → St0 → RS
  | 0, _, _ => .stuck
  | f + 1, ρ, S => (c ρ S).stmT ρ fun k S1 => if k then match body ρ S1 with
      | .nx ρ2 S2 => whileN c body f ρ2 S2
      | .ct ρ2 S2 => whileN c body f ρ2 S2
      | .bk ρ2 S2 => .nx ρ2 S2
      | .rt v S2 => .rt v S2
      | .exc C fs ρ2 S2 => .exc C fs ρ2 S2
      | .stuck => .stuck
    else .nx ρ S1
/-- f: how often at most -/
def mWhile (f : Nat) (c : ME) (body : MS) : MS := whileN c body f
theorem ds_while {X : Cx} {W : WX} {c : Expr} {body : List Stmt} {mc : ME} {mb : MS} {pos : Pos} (f : Nat) (hp : PassesOwn (model X.prog X.w) X.A X.env X.xe) (hc : DT X W c mc) (hb : DSs X W body mb) : DS X W (.While c body [] pos) (mWhile f mc mb) := by
  refine PS.imp (ps_while hp hc hb) fun D σ H ⟨θ, ρ, S, n, s, p⟩ => ?_
  refine ⟨fun m σ1 H1 => ∃ θ1 ρ1 S1, REn X.K θ1 H1 σ1 ρ1 ∧ RSt X.K θ1 S1 H1 ∧ PostS X.K θ1 H1 (whileN mc mb m ρ1 S1) W D, ⟨f, θ, ρ, S, n, s, p⟩, ?_⟩
  rintro m σ1 H1 ⟨θ1, ρ1, S1, n1, s1, p1⟩
  cases m with
  | zero => exact p1.elim
  | succ m =>
    unfold whileN at p1
    refine ⟨θ1, ρ1, S1, n1, s1, PostS.stmT n1 s1 p1 fun b H2 θ2 S2 u s2 p2 => ⟨b, rfl, ?_⟩⟩
    cases b with
    | false =>
      rw [if_neg Bool.false_ne_true] at p2 ⊢
      exact p2.next s2 (u.ren n1)
    | true =>
      rw [if_pos rfl] at p2 ⊢
      refine ⟨fun σ3 H3 => ∃ θ3 ρ3 S3, REn X.K θ3 H3 σ3 ρ3 ∧ RSt X.K θ3 S3 H3 ∧ PostS X.K θ3 H3 (whileN mc mb m ρ3 S3) W D, fun σ3 H3 ⟨θ3, ρ3, S3, n3, s3, p3⟩ => ⟨m, Nat.lt_succ_self _, θ3, ρ3, S3, n3, s3, p3⟩, θ2, ρ1, S2, u.ren n1, s2, ?_⟩
      cases eb : mb ρ1 S2 with
      | nx ρ4 S4 => rw [eb] at p2; exact fun n4 H4 σ4 x4 s4 rn4 => ⟨_, ρ4, S4, rn4, s4, PostS.up (Up.of x4 s2) p2⟩
      | ct ρ4 S4 => rw [eb] at p2; exact fun n4 H4 σ4 x4 s4 rn4 => ⟨_, ρ4, S4, rn4, s4, PostS.up (Up.of x4 s2) p2⟩
      | bk ρ4 S4 => rw [eb] at p2; exact p2
      | rt v4 S4 => rw [eb] at p2; exact p2
      | exc C4 f4 ρ4 S4 => rw [eb] at p2; exact p2
      | stuck => rw [eb] at p2; exact p2.elim
end DL
set_option Elab.async false
set_option linter.all false
set_option maxRecDepth 100000
set_option autoImplicit false
/-! The layer of data: what a for walks. -/
namespace DL
open PySem PySem.Spec L2
open PyProof.Rows hiding St
/-- a list's or a tuple's items; the lists of the store among what is walked -/
def seqOf (S : St0) : DL.D → Option (List (Nat × List DL.D) × List DL.D)
  | .tup ds => some ([], ds)
  | .lst ds => some ([], ds)
  | .fls ds => some ([], ds)
  | .ref n => match S[n]? with
    | some (.lst ds) => some ([(n, ds)], ds)
    | _ => none
  | _ => none
section
variable {K : PySem.W.Frag} {θ θ1 : Ad} {H H1 : Hp} {S S1 : St0}
theorem RSt.lst {n : Nat} {a : Addr} {ds : List DL.D} (s : RSt K θ S H) (h : θ.ix[n]? = some a) (e : S[n]? = some (.lst ds)) : ∃ vs, H a = some (.lst vs) ∧ RVs K θ H vs ds := by
  cases s.ob n a _ h e with
  | lst h hs => exact ⟨_, h, hs⟩
/-- a list (of the store or not) or a tuple, by its items; it stands so as long as the store's lists stand -/
structure SeqAt (K : PySem.W.Frag) (θ0 : Ad) (H0 : Hp) (a : Addr) (src : List (Nat × List DL.D)) (ds : List DL.D) (tup : Bool) : Prop where
  at_ : ∀ θ H S, UpG K θ0 H0 θ H → RSt K θ S H → chk S src = true → ∃ vs, RVs K θ H vs ds ∧ if tup = true then SqT K H a vs else SqL K H a vs
/-- a list or a tuple by its kind -/
def isTup : DL.D → Bool
  | .tup _ => true
  | _ => false
theorem seq_tup {d : DL.D} {v : V} {src : List (Nat × List DL.D)} {ds : List DL.D} (s : RSt K θ S H) (r : RV K θ H v d) (e : seqOf S d = some (src, ds)) : ∃ a, v = .ref a ∧ SeqAt K θ H a src ds (isTup d) ∧ chk S src = true := by
  cases d <;> simp only [seqOf] at e <;> try cases e
  · cases r with
    | tup h hs => exact ⟨_, rfl, ⟨fun θ1 H1 S1 u s1 _ => ⟨_, u.rvs hs, by simp only [isTup, if_true]; exact u.sqT h⟩⟩, rfl⟩
  · cases r with
    | lst n h hs =>
      refine ⟨_, rfl, ⟨fun θ1 H1 S1 u s1 _ => ⟨_, u.rvs hs, ?_⟩⟩, rfl⟩
      rw [if_neg (by simp [isTup])]
      exact .inl (u.rd n (.inl h))
  · cases r with
    | fls h hs => exact ⟨_, rfl, ⟨fun θ1 H1 S1 u s1 _ => ⟨_, u.rvs hs, by rw [if_neg (by simp [isTup])]; exact (u.fl h).sq⟩⟩, rfl⟩
  · rename_i n
    cases r with
    | @ref a _ hn =>
      split at e
      · rename_i ds' hs
        cases e
        refine ⟨_, rfl, ⟨fun θ1 H1 S1 u s1 c => ?_⟩, by simp [chk, hs]⟩
        have c1 : S1[n]? = some (.lst ds) := by simpa [chk] using c
        have hn1 := u.at hn
        obtain ⟨vs, h1, h2⟩ := s1.lst hn1 c1
        exact ⟨vs, h2, by rw [if_neg (by simp [isTup])]; exact SqL.of h1⟩
      · cases e
theorem seq_at {d : DL.D} {v : V} {src : List (Nat × List DL.D)} {ds : List DL.D} (s : RSt K θ S H) (r : RV K θ H v d) (e : seqOf S d = some (src, ds)) : ∃ a t, v = .ref a ∧ SeqAt K θ H a src ds t ∧ chk S src = true := by
  obtain ⟨a, h1, h2, h3⟩ := seq_tup s r e
  exact ⟨a, _, h1, h2, h3⟩
theorem Up.chk_of (u : Up K θ H θ1 H1) : True := trivial
theorem Ext.same : Ext θ [] H H := Ext.refl _ _
theorem feeds_l {a : Addr} {src : List (Nat × List DL.D)} {ds : List DL.D} (q : SeqAt K θ H a src ds false) : Feeds K (Itl K a) src ds θ H := by
  refine ⟨fun θ1 H1 S1 i u s c l => ?_, fun θ1 H1 S1 i d u s c e => ?_⟩
  · obtain ⟨vs, r, h⟩ := q.at_ θ1 H1 S1 u s c
    rw [if_neg Bool.false_ne_true] at h
    exact ⟨vs, h, by rw [r.len]; exact l⟩
  · obtain ⟨vs, r, h⟩ := q.at_ θ1 H1 S1 u s c
    rw [if_neg Bool.false_ne_true] at h
    obtain ⟨v, e1, r1⟩ := r.at e
    refine ⟨⟨vs, v, h, e1⟩, fun x H' y => ?_⟩
    obtain ⟨rfl, y⟩ := y
    rw [y vs h] at e1; cases e1
    exact ⟨Ext.refl _ _, s, r1⟩
theorem feeds_t {a : Addr} {src : List (Nat × List DL.D)} {ds : List DL.D} (q : SeqAt K θ H a src ds true) : Feeds K (Itt K a) src ds θ H := by
  refine ⟨fun θ1 H1 S1 i u s c l => ?_, fun θ1 H1 S1 i d u s c e => ?_⟩
  · obtain ⟨vs, r, h⟩ := q.at_ θ1 H1 S1 u s c
    rw [if_pos rfl] at h
    exact ⟨vs, h, by rw [r.len]; exact l⟩
  · obtain ⟨vs, r, h⟩ := q.at_ θ1 H1 S1 u s c
    rw [if_pos rfl] at h
    obtain ⟨v, e1, r1⟩ := r.at e
    refine ⟨⟨vs, v, h, e1⟩, fun x H' y => ?_⟩
    obtain ⟨rfl, y⟩ := y
    rw [y vs h] at e1; cases e1
    exact ⟨Ext.refl _ _, s, r1⟩
end
def R.it (r : R) (k : DL.D → St0 → RI) : RI := match r with
  | .val d S => k d S
  | .exc C fs S => .exc C fs S
  | .stuck => .stuck
@[simp] theorem R.it_val {d : DL.D} {S : St0} {k : DL.D → St0 → RI} : (R.val d S).it k = k d S := rfl
@[simp] theorem R.it_exc {C : Addr} {fs : List (Str × DL.D)} {S : St0} {k : DL.D → St0 → RI} : (R.exc C fs S).it k = .exc C fs S := rfl
@[simp] theorem R.it_stuck {k : DL.D → St0 → RI} : R.stuck.it k = .stuck := rfl
def RA.it (r : RA) (k : List DL.D → St0 → RI) : RI := match r with
  | .vals d S => k d S
  | .exc C fs S => .exc C fs S
  | .stuck => .stuck
@[simp] theorem RA.it_vals {d : List DL.D} {S : St0} {k : List DL.D → St0 → RI} : (RA.vals d S).it k = k d S := rfl
theorem PostI.ext {K : PySem.W.Frag} {θ : Ad} {n1 : List Addr} {H H1 : Hp} {r : RI} {Q : It → Hp → Prop} {E : XK} (e1 : Ext θ n1 H H1) (p : PostI K θ H r Q E) : PostI K (θ.up n1) H1 r Q E := by
  cases r with
  | it src ds S' => exact fun new H' v x s rv => p (n1 ++ new) H' v (e1.trans x) (by rw [← Ad.up_up]; exact s) (by rw [← Ad.up_up]; exact rv)
  | exc C fs S' => exact fun new H' v x s rv => p (n1 ++ new) H' v (e1.trans x) (by rw [← Ad.up_up]; exact s) (by rw [← Ad.up_up]; exact rv)
  | stuck => exact p
theorem PostI.here {K : PySem.W.Frag} {θ : Ad} {H : Hp} {S' : St0} {src ds} {Q : It → Hp → Prop} {E : XK} {J : It} (p : PostI K θ H (.it src ds S') Q E) (s : RSt K θ S' H) (h : Feeds K J src ds θ H) : Q J H :=
  p [] H J (Ext.refl _ _) (by rw [Ad.up_nil]; exact s) (by rw [Ad.up_nil]; exact h)
theorem PostV.it {K : PySem.W.Frag} {θ : Ad} {H : Hp} {S : St0} {r : R} {Q : It → Hp → Prop} {E : XK} {k : DL.D → St0 → RI} {Q' : VK} (s : RSt K θ S H) (p : PostI K θ H (r.it k) Q E)
    (q : ∀ v H1 θ1 S1 d, Up K θ H θ1 H1 → RSt K θ1 S1 H1 → RV K θ1 H1 v d → PostI K θ1 H1 (k d S1) Q E → Q' v H1) : PostV K θ H r Q' E := by
  cases r with
  | val d S' => exact fun new H' v x s' rv => q v H' (θ.up new) S' d (Up.of x s) s' rv (PostI.ext x p)
  | exc C fs S' => exact p
  | stuck => exact p
theorem PostA.it {K : PySem.W.Frag} {θ : Ad} {H : Hp} {S : St0} {r : RA} {Q : It → Hp → Prop} {E : XK} {k : List DL.D → St0 → RI} {Q' : List V → Hp → Prop} (s : RSt K θ S H) (p : PostI K θ H (r.it k) Q E)
    (q : ∀ v H1 θ1 S1 d, Up K θ H θ1 H1 → RSt K θ1 S1 H1 → RVs K θ1 H1 v d → PostI K θ1 H1 (k d S1) Q E → Q' v H1) : PostA K θ H r Q' E := by
  cases r with
  | vals d S' => exact fun new H' v x s' rv => q v H' (θ.up new) S' d (Up.of x s) s' rv (PostI.ext x p)
  | exc C fs S' => exact p
  | stuck => exact p
/-! ### a list or a tuple -/
def iSeq (K : PySem.W.Frag) (tl : TE) : TI := fun σ H R => tl σ H fun x H1 => ∃ a, x = .ref a ∧ (((∃ xs, SqL K H1 a xs) ∧ R (Itl K a) H1) ∨ ((∃ xs, SqT K H1 a xs) ∧ R (Itt K a) H1))
theorem pi_seq {X : Cx} {tg l : Expr} {tl : TE} (hl : PE X l tl) : PI X tg l (iSeq X.K tl) := by
  refine ⟨fun pins s σ H R I h => ?_⟩
  refine thn (hl.run pins s σ H _ I h) fun v s1 ⟨x, H1, I1, r1, q1⟩ => ?_
  obtain ⟨a, e, q1⟩ := q1
  subst e
  cases r1
  have fr : ∀ b ∈ [s1.heap.objs.size], FpOk X pins H1 b := fun b hb => by
    have e : b = s1.heap.objs.size := by simpa using hb
    subst e
    exact I1.fpOk (Nat.le_refl _) (I1.hok.fresh (Nat.le_refl _))
  rcases q1 with ⟨⟨xs, hq⟩, q⟩ | ⟨⟨xs, hq⟩, q⟩
  · obtain ⟨its, rv, p, hz⟩ := I1.list hq
    refine wpAny_pyIter_list p.isList ?_
    exact ⟨s1.heap.objs.size, [s1.heap.objs.size], _, _, H1, rfl, I1.kept (t' := s1.toks) fun b o e => Heap.get?_push_of_some _ e, turn_list a _, ⟨_, Heap.get?_push_size _ rfl, rfl, rfl⟩, fr, q⟩
  · obtain ⟨its, rv, p, hz⟩ := I1.tuple hq
    refine wpAny_pyIter_tuple (show s1.heap.IsTuple a its.toArray from p) ?_
    exact ⟨s1.heap.objs.size, [s1.heap.objs.size], _, _, H1, rfl, I1.kept (t' := s1.toks) fun b o e => Heap.get?_push_of_some _ e, turn_tuple a _, ⟨_, Heap.get?_push_size _ rfl, rfl, rfl⟩, fr, q⟩
def mIt (m : ME) : MI := fun ρ S => (m ρ S).it fun d S1 => match seqOf S1 d with
  | some (src, ds) => .it src ds S1
  | none => .stuck
section
variable {X : Cx} {W : WX} {tg e e2 : Expr} {es : List Expr} {m : ME} {ms : MA} {p pos tpos : Pos} {elts : List Expr} {kk : Nat}
theorem di_seq (h : DE X W e m) : DI X W tg e (mIt m) := by
  refine PI.imp (pi_seq h) fun σ H Q ⟨θ, ρ, S, n, s, p⟩ => ⟨θ, ρ, S, n, s, PostV.it s p fun v H1 θ1 S1 d u s1 rv p1 => ?_⟩
  split at p1
  · rename_i src ds e'
    obtain ⟨a, t, rfl, q, c⟩ := seq_at s1 rv e'
    refine ⟨a, rfl, ?_⟩
    obtain ⟨vs, r, h⟩ := q.at_ θ1 H1 S1 (Up.refl s1) s1 c
    cases t with
    | true => exact .inr ⟨⟨vs, by rwa [if_pos rfl] at h⟩, p1.here s1 (feeds_t q)⟩
    | false => exact .inl ⟨⟨vs, by rwa [if_neg Bool.false_ne_true] at h⟩, p1.here s1 (feeds_l q)⟩
  · exact p1.elim
/-! ### a range -/
def rng (lo : Int) (n : Nat) : List DL.D := (List.range n).map fun k => .int (lo + (k : Nat))
theorem rng_at {lo : Int} {n i : Nat} {d : DL.D} (h : (rng lo n)[i]? = some d) : i < n ∧ d = .int (lo + (i : Nat)) := by
  unfold rng at h
  rw [List.getElem?_map] at h
  by_cases l : i < n
  · rw [List.getElem?_range l] at h
    cases h
    exact ⟨l, rfl⟩
  · rw [List.getElem?_eq_none (by rw [List.length_range]; omega)] at h
    cases h
theorem rng_len (lo : Int) (n : Nat) : (rng lo n).length = n := by simp [rng]
theorem feeds_r {K : PySem.W.Frag} {θ : Ad} {H : Hp} {lo : Int} {n : Nat} : Feeds K (Itr lo n) [] (rng lo n) θ H := by
  refine ⟨fun θ1 H1 S1 i u s c l => ?_, fun θ1 H1 S1 i d u s c e => ?_⟩
  · rw [rng_len] at l; exact l
  · obtain ⟨l, rfl⟩ := rng_at e
    refine ⟨l, fun x H' y => ?_⟩
    obtain ⟨rfl, rfl⟩ := y
    exact ⟨Ext.refl _ _, s, .int _⟩
def rngOk (a b : Int) : Bool := decide (-(2 ^ 62) ≤ a) && (decide (a < 2 ^ 62) && (decide (-(2 ^ 62) ≤ b) && decide (b < 2 ^ 62)))
theorem rngOk_of {a b : Int} (h : rngOk a b = true) : -(2 ^ 62) ≤ a ∧ a < 2 ^ 62 ∧ -(2 ^ 62) ≤ b ∧ b < 2 ^ 62 := by simpa [rngOk] using h
def mRng1 (m : ME) : MI := fun ρ S => (m ρ S).it fun d S1 => match d with
  | .int b => if rngOk 0 b then .it [] (rng 0 b.toNat) S1 else .stuck
  | _ => .stuck
def mRng2 (m m2 : ME) : MI := fun ρ S => (m ρ S).it fun d S1 => (m2 ρ S1).it fun d2 S2 => match d, d2 with
  | .int a, .int b => if rngOk a b then .it [] (rng a (b - a).toNat) S2 else .stuck
  | _, _ => .stuck
theorem di_range1 (hg : Gl X "range") (hm : X.mg "range" = none) (ha : DE X W e m) (h1 : starEach (e :: []) X.env = (false, eval e X.env) :: starEach [] X.env := by rfl) (hs : starEach [e] X.env = [(false, eval e X.env)] := by rfl) : DI X W tg (.Call (.Name "range" p) [e] [] pos) (mRng1 m) := by
  refine PI.imp (pi_range1 hg hm (pa_cons ha pa_nil h1) hs) fun σ H Q ⟨θ, ρ, S, n, s, p⟩ => ⟨θ, ρ, S, n, s, PostV.it s p fun v H1 θ1 S1 d u s1 r p1 => ?_⟩
  cases d <;> try exact p1.elim
  cases r
  simp only at p1
  split at p1
  · rename_i b ok
    have := rngOk_of ok
    exact ⟨b, rfl, this.2.2.1, this.2.2.2, p1.here s1 feeds_r⟩
  · exact p1.elim
theorem di_range2 {m2 : ME} (hg : Gl X "range") (hm : X.mg "range" = none) (ha : DE X W e m) (hb : DE X W e2 m2) (h1 : starEach (e :: [e2]) X.env = (false, eval e X.env) :: starEach [e2] X.env := by rfl) (h2 : starEach (e2 :: []) X.env = (false, eval e2 X.env) :: starEach [] X.env := by rfl)
    (hs : starEach [e, e2] X.env = [(false, eval e X.env), (false, eval e2 X.env)] := by rfl) (hs2 : starEach [e2] X.env = [(false, eval e2 X.env)] := by rfl) :
    DI X W tg (.Call (.Name "range" p) [e, e2] [] pos) (mRng2 m m2) := by
  refine PI.imp (pi_range2 hg hm (pa_cons ha (pa_cons hb pa_nil h2) h1) hs hs2) fun σ H Q ⟨θ, ρ, S, n, s, p⟩ => ⟨θ, ρ, S, n, s, PostV.it s p fun v H1 θ1 S1 d u s1 r p1 => ⟨θ1, ρ, S1, u.ren n, s1, PostV.it s1 p1 fun v2 H2 θ2 S2 d2 u2 s2 r2 p2 => ?_⟩⟩
  cases d <;> cases d2 <;> try exact p2.elim
  cases r; cases r2
  simp only at p2
  split at p2
  · rename_i a b ok
    exact ⟨a, b, rfl, rngOk_of ok, p2.here s2 feeds_r⟩
  · exact p2.elim
/-! ### enumerate -/
def iEnumA (K : PySem.W.Frag) (ta : TA) : TI := fun σ H R => ta σ H fun vs H1 => ∃ a, vs = [.ref a] ∧ (((∃ xs, SqL K H1 a xs) ∧ R (Ite K a) H1) ∨ ((∃ xs, SqT K H1 a xs) ∧ R (LB.IteT K a) H1))
theorem pi_enumA {ta : TA} (hg : Gl X "enumerate") (hm : X.mg "enumerate" = none) (ha : PA X [e] ta) (hs : starEach [e] X.env = [(false, eval e X.env)] := by rfl) :
    PI X (.Tuple elts kk tpos) (.Call (.Name "enumerate" p) [e] [] pos) (iEnumA X.K ta) := by
  refine ⟨fun pins s σ H R I h => ?_⟩
  refine Call_ (ld_blt I hg hm boot_enumerate (PyProof.Rows.callWith_type1 (thn (ha.run pos pins s σ H _ I h) fun us s1 ⟨vs, H1, I1, r1, q1⟩ => ?_) hs rfl))
  obtain ⟨a, ex, q1⟩ := q1
  subst ex
  cases r1 with
  | cons r rr =>
    cases rr
    cases r
    have fr : ∀ b ∈ [s1.heap.objs.size + 1, s1.heap.objs.size], FpOk X pins H1 b := fun b hb => by
      have e' : b = s1.heap.objs.size + 1 ∨ b = s1.heap.objs.size := by simpa using hb
      have hle : s1.heap.objs.size ≤ b := by
        rcases e' with z | z
        · rw [z]; exact Nat.le_add_right _ _
        · rw [z]; exact Nat.le_refl _
      exact I1.fpOk hle (I1.hok.fresh hle)
    rcases q1 with ⟨⟨xs, hq⟩, q⟩ | ⟨⟨xs, hq⟩, q⟩
    · obtain ⟨its, rv, p', hz⟩ := I1.list hq
      refine call_enumerate_list p'.isList fun h' he hit hsz hk => wpAny_pyIter_enum he ?_
      have I2 : Inv X pins σ H1 { s1 with heap := h' } := I1.kept (t' := s1.toks) hk
      exact ⟨s1.heap.objs.size + 1, [s1.heap.objs.size + 1, s1.heap.objs.size], _, _, H1, rfl, I2, turn_enum a (s1.heap.objs.size + 1) s1.heap.objs.size, ⟨⟨.none, he⟩, hit, Nat.succ_ne_self _⟩, fr, q⟩
    · obtain ⟨its, rv, p', hz⟩ := I1.tuple hq
      have p2 : s1.heap.IsTuple a its.toArray := p'
      refine LB.call_enum_tup p2 fun h' he hit hsz hk => wpAny_pyIter_enum he ?_
      have I2 : Inv X pins σ H1 { s1 with heap := h' } := I1.kept (t' := s1.toks) hk
      exact ⟨s1.heap.objs.size + 1, [s1.heap.objs.size + 1, s1.heap.objs.size], _, _, H1, rfl, I2, LB.turn_enumT a (s1.heap.objs.size + 1) s1.heap.objs.size, ⟨⟨.none, he⟩, hit, Nat.succ_ne_self _⟩, fr, q⟩
def enums : Nat → List DL.D → List DL.D
  | _, [] => []
  | k, d :: ds => .tup [.int (k : Nat), d] :: enums (k + 1) ds
theorem enums_at : ∀ {k i : Nat} {ds : List DL.D} {d : DL.D}, (enums k ds)[i]? = some d → ∃ e, ds[i]? = some e ∧ d = .tup [.int ((k + i : Nat) : Int), e]
  | _, _, [], _, h => by simp [enums] at h
  | k, 0, e :: ds, d, h => by simp only [enums, List.getElem?_cons_zero, Option.some.injEq] at h; exact ⟨e, rfl, h.symm⟩
  | k, i + 1, e :: ds, d, h => by
    simp only [enums, List.getElem?_cons_succ] at h
    obtain ⟨e', h1, h2⟩ := enums_at h
    exact ⟨e', by simpa using h1, by rw [h2, show k + 1 + i = k + (i + 1) by omega]⟩
theorem enums_len : ∀ (k : Nat) (ds : List DL.D), (enums k ds).length = ds.length
  | _, [] => rfl
  | k, d :: ds => by simp [enums, enums_len (k + 1) ds]
theorem feeds_e {K : PySem.W.Frag} {θ : Ad} {H : Hp} {a : Addr} {src : List (Nat × List DL.D)} {ds : List DL.D} (q : SeqAt K θ H a src ds false) : Feeds K (Ite K a) src (enums 0 ds) θ H := by
  refine ⟨fun θ1 H1 S1 i u s c l => ?_, fun θ1 H1 S1 i d u s c e => ?_⟩
  · obtain ⟨vs, r, h⟩ := q.at_ θ1 H1 S1 u s c
    rw [if_neg Bool.false_ne_true] at h
    rw [enums_len] at l
    exact ⟨vs, h, by rw [r.len]; exact l⟩
  · obtain ⟨vs, r, h⟩ := q.at_ θ1 H1 S1 u s c
    rw [if_neg Bool.false_ne_true] at h
    obtain ⟨e', h1, rfl⟩ := enums_at e
    obtain ⟨v, e1, r1⟩ := r.at h1
    refine ⟨⟨vs, v, h, e1⟩, fun x H' y => ?_⟩
    obtain ⟨T, x', rfl, hT, rfl, y⟩ := y
    have := y vs h
    rw [this] at e1; cases e1
    rw [Nat.zero_add]
    exact ⟨Ext.laid _ hT, s.laid hT, .tup (.inl (.inl upd_same)) (.cons (.int _) (.cons (r1.laid s hT) .nil))⟩
theorem feeds_eT {K : PySem.W.Frag} {θ : Ad} {H : Hp} {a : Addr} {src : List (Nat × List DL.D)} {ds : List DL.D} (q : SeqAt K θ H a src ds true) : Feeds K (LB.IteT K a) src (enums 0 ds) θ H := by
  refine ⟨fun θ1 H1 S1 i u s c l => ?_, fun θ1 H1 S1 i d u s c e => ?_⟩
  · obtain ⟨vs, r, h⟩ := q.at_ θ1 H1 S1 u s c
    rw [if_pos rfl] at h
    rw [enums_len] at l
    exact ⟨vs, h, by rw [r.len]; exact l⟩
  · obtain ⟨vs, r, h⟩ := q.at_ θ1 H1 S1 u s c
    rw [if_pos rfl] at h
    obtain ⟨e', h1, rfl⟩ := enums_at e
    obtain ⟨v, e1, r1⟩ := r.at h1
    refine ⟨⟨vs, v, h, e1⟩, fun x H' y => ?_⟩
    obtain ⟨T, x', rfl, hT, rfl, y⟩ := y
    have := y vs h
    rw [this] at e1; cases e1
    rw [Nat.zero_add]
    exact ⟨Ext.laid _ hT, s.laid hT, .tup (.inl (.inl upd_same)) (.cons (.int _) (.cons (r1.laid s hT) .nil))⟩
def mEnum (m : ME) : MI := fun ρ S => (m ρ S).it fun d S1 => match seqOf S1 d with
  | some (src, ds) => .it src (enums 0 ds) S1
  | none => .stuck
theorem di_enum (hg : Gl X "enumerate") (hm : X.mg "enumerate" = none) (ha : DE X W e m) (h1 : starEach (e :: []) X.env = (false, eval e X.env) :: starEach [] X.env := by rfl) (hs : starEach [e] X.env = [(false, eval e X.env)] := by rfl) :
    DI X W (.Tuple elts kk tpos) (.Call (.Name "enumerate" p) [e] [] pos) (mEnum m) := by
  refine PI.imp (pi_enumA hg hm (pa_cons ha pa_nil h1) hs) fun σ H Q ⟨θ, ρ, S, n, s, p⟩ => ⟨θ, ρ, S, n, s, PostV.it s p fun v H1 θ1 S1 d u s1 rv p1 => ?_⟩
  split at p1
  · rename_i src ds e'
    obtain ⟨a, t, rfl, q, c⟩ := seq_at s1 rv e'
    refine ⟨a, rfl, ?_⟩
    obtain ⟨vs, r, h⟩ := q.at_ θ1 H1 S1 (Up.refl s1) s1 c
    cases t with
    | true => exact .inr ⟨⟨vs, by rwa [if_pos rfl] at h⟩, p1.here s1 (feeds_eT q)⟩
    | false => exact .inl ⟨⟨vs, by rwa [if_neg Bool.false_ne_true] at h⟩, p1.here s1 (feeds_e q)⟩
  · exact p1.elim
/-! ### zip -/
def zips : List DL.D → List DL.D → List DL.D
  | d :: ds, e :: es => .tup [d, e] :: zips ds es
  | _, _ => []
theorem zips_at : ∀ {i : Nat} {ds es : List DL.D} {d : DL.D}, (zips ds es)[i]? = some d → ∃ x y, ds[i]? = some x ∧ es[i]? = some y ∧ d = .tup [x, y]
  | _, [], _, _, h => by simp [zips] at h
  | _, _ :: _, [], _, h => by simp [zips] at h
  | 0, x :: ds, y :: es, d, h => by simp only [zips, List.getElem?_cons_zero, Option.some.injEq] at h; exact ⟨x, y, rfl, rfl, h.symm⟩
  | i + 1, x :: ds, y :: es, d, h => by
    simp only [zips, List.getElem?_cons_succ] at h
    obtain ⟨a, b, h1, h2, h3⟩ := zips_at h
    exact ⟨a, b, by simpa using h1, by simpa using h2, h3⟩
theorem zips_len : ∀ (ds es : List DL.D), (zips ds es).length = min ds.length es.length
  | [], _ => by simp [zips]
  | _ :: _, [] => by simp [zips]
  | x :: ds, y :: es => by simp only [zips, List.length_cons, zips_len ds es]; omega
theorem chk_app {S : St0} {a b : List (Nat × List DL.D)} : chk S (a ++ b) = (chk S a && chk S b) := by simp [chk]
theorem feeds_z {K : PySem.W.Frag} {θ : Ad} {H : Hp} {a b : Addr} {src src2 : List (Nat × List DL.D)} {ds es : List DL.D} (q : SeqAt K θ H a src ds false) (q2 : SeqAt K θ H b src2 es false) : Feeds K (Itz K a b) (src ++ src2) (zips ds es) θ H := by
  refine ⟨fun θ1 H1 S1 i u s c l => ?_, fun θ1 H1 S1 i d u s c e => ?_⟩
  all_goals
    rw [chk_app, Bool.and_eq_true] at c
    obtain ⟨vs, r, h⟩ := q.at_ θ1 H1 S1 u s c.1
    obtain ⟨ws, r2, h2⟩ := q2.at_ θ1 H1 S1 u s c.2
    rw [if_neg Bool.false_ne_true] at h h2
  · rw [zips_len] at l
    exact ⟨vs, ws, h, h2, by rw [r.len, r2.len]; omega⟩
  · obtain ⟨x, y, h3, h4, rfl⟩ := zips_at e
    obtain ⟨v, e1, r3⟩ := r.at h3
    obtain ⟨w, e2, r4⟩ := r2.at h4
    refine ⟨⟨vs, ws, v, w, h, h2, e1, e2⟩, fun x H' y => ?_⟩
    obtain ⟨T, x', y', rfl, hT, rfl, y1, y2⟩ := y
    rw [y1 vs h] at e1; cases e1
    rw [y2 ws h2] at e2; cases e2
    exact ⟨Ext.laid _ hT, s.laid hT, .tup (.inl (.inl upd_same)) (.cons (r3.laid s hT) (.cons (r4.laid s hT) .nil))⟩
theorem feeds_zT {K : PySem.W.Frag} {θ : Ad} {H : Hp} {a b : Addr} {src src2 : List (Nat × List DL.D)} {ds es : List DL.D} (q : SeqAt K θ H a src ds true) (q2 : SeqAt K θ H b src2 es true) : Feeds K (RZ.ItzT K a b) (src ++ src2) (zips ds es) θ H := by
  refine ⟨fun θ1 H1 S1 i u s c l => ?_, fun θ1 H1 S1 i d u s c e => ?_⟩
  all_goals
    rw [chk_app, Bool.and_eq_true] at c
    obtain ⟨vs, r, h⟩ := q.at_ θ1 H1 S1 u s c.1
    obtain ⟨ws, r2, h2⟩ := q2.at_ θ1 H1 S1 u s c.2
    rw [if_pos rfl] at h h2
  · rw [zips_len] at l
    exact ⟨vs, ws, h, h2, by rw [r.len, r2.len]; omega⟩
  · obtain ⟨x, y, h3, h4, rfl⟩ := zips_at e
    obtain ⟨v, e1, r3⟩ := r.at h3
    obtain ⟨w, e2, r4⟩ := r2.at h4
    refine ⟨⟨vs, ws, v, w, h, h2, e1, e2⟩, fun x H' y => ?_⟩
    obtain ⟨T, x', y', rfl, hT, rfl, y1, y2⟩ := y
    rw [y1 vs h] at e1; cases e1
    rw [y2 ws h2] at e2; cases e2
    exact ⟨Ext.laid _ hT, s.laid hT, .tup (.inl (.inl upd_same)) (.cons (r3.laid s hT) (.cons (r4.laid s hT) .nil))⟩
def mZip (m m2 : ME) : MI := fun ρ S => (m ρ S).it fun d S1 => (m2 ρ S1).it fun d2 S2 => if isTup d == isTup d2 then match seqOf S2 d, seqOf S2 d2 with
  | some (src, ds), some (src2, es) => .it (src ++ src2) (zips ds es) S2
  | _, _ => .stuck
  else .stuck
theorem di_zip {m2 : ME} (hg : Gl X "zip") (hm : X.mg "zip" = none) (ha : DE X W e m) (hb : DE X W e2 m2) (h1 : starEach (e :: [e2]) X.env = (false, eval e X.env) :: starEach [e2] X.env := by rfl) (h2 : starEach (e2 :: []) X.env = (false, eval e2 X.env) :: starEach [] X.env := by rfl)
    (hs : starEach [e, e2] X.env = (false, eval e X.env) :: starEach [e2] X.env := by rfl) (hpl : (backTo pos (starEach [e2] X.env)).any (·.1) = false := by rfl) :
    DI X W (.Tuple elts kk tpos) (.Call (.Name "zip" p) [e, e2] [] pos) (mZip m m2) := by
  refine PI.imp (RZ.pi_zipA hg hm (pa_cons ha (pa_cons hb pa_nil h2) h1) hs hpl) fun σ H Q ⟨θ, ρ, S, n, s, p⟩ => ⟨θ, ρ, S, n, s, PostV.it s p fun v H1 θ1 S1 d u s1 r p1 => ⟨θ1, ρ, S1, u.ren n, s1, PostV.it s1 p1 fun v2 H2 θ2 S2 d2 u2 s2 r2 p2 => ?_⟩⟩
  split at p2
  · rename_i same
    split at p2
    · rename_i src ds src2 es e1 e2
      obtain ⟨a, rfl, q, c⟩ := seq_tup s2 (u2.rv r) e1
      obtain ⟨b, rfl, q', c'⟩ := seq_tup s2 r2 e2
      obtain ⟨vs, rr, h⟩ := q.at_ θ2 H2 S2 (Up.refl s2) s2 c
      obtain ⟨ws, rr2, h'⟩ := q'.at_ θ2 H2 S2 (Up.refl s2) s2 c'
      rw [beq_iff_eq] at same
      rw [← same] at q' h'
      refine ⟨a, b, vs, ws, rfl, ?_⟩
      cases t : isTup d with
      | true => rw [t] at h h' q q'; rw [if_pos rfl] at h h'; exact .inr ⟨h, h', p2.here s2 (feeds_zT q q')⟩
      | false => rw [t] at h h' q q'; rw [if_neg Bool.false_ne_true] at h h'; exact .inl ⟨h, h', p2.here s2 (feeds_z q q')⟩
    · exact p2.elim
  · exact p2.elim
/-! ### reversed -/
theorem feeds_v {K : PySem.W.Frag} {θ : Ad} {H : Hp} {a : Addr} {src : List (Nat × List DL.D)} {ds : List DL.D} (q : SeqAt K θ H a src ds false) : Feeds K (Itv K a ds.length) src ds.reverse θ H := by
  refine ⟨fun θ1 H1 S1 i u s c l => by rw [List.length_reverse] at l; exact l, fun θ1 H1 S1 i d u s c e => ?_⟩
  obtain ⟨vs, r, h⟩ := q.at_ θ1 H1 S1 u s c
  rw [if_neg Bool.false_ne_true] at h
  have il : i < ds.length := by have := (List.getElem?_eq_some_iff.mp e).1; rwa [List.length_reverse] at this
  rw [List.getElem?_reverse il] at e
  obtain ⟨v, e1, r1⟩ := r.at e
  refine ⟨⟨il, vs, v, h, e1⟩, fun x H' y => ?_⟩
  obtain ⟨rfl, y⟩ := y
  rw [y vs h] at e1; cases e1
  exact ⟨Ext.refl _ _, s, r1⟩
theorem feeds_vT {K : PySem.W.Frag} {θ : Ad} {H : Hp} {a : Addr} {src : List (Nat × List DL.D)} {ds : List DL.D} (q : SeqAt K θ H a src ds true) : Feeds K (RT.ItvT K a ds.length) src ds.reverse θ H := by
  refine ⟨fun θ1 H1 S1 i u s c l => by rw [List.length_reverse] at l; exact l, fun θ1 H1 S1 i d u s c e => ?_⟩
  obtain ⟨vs, r, h⟩ := q.at_ θ1 H1 S1 u s c
  rw [if_pos rfl] at h
  have il : i < ds.length := by have := (List.getElem?_eq_some_iff.mp e).1; rwa [List.length_reverse] at this
  rw [List.getElem?_reverse il] at e
  obtain ⟨v, e1, r1⟩ := r.at e
  refine ⟨⟨il, vs, v, h, e1⟩, fun x H' y => ?_⟩
  obtain ⟨rfl, y⟩ := y
  rw [y vs h] at e1; cases e1
  exact ⟨Ext.refl _ _, s, r1⟩
def mRev (m : ME) : MI := fun ρ S => (m ρ S).it fun d S1 => match seqOf S1 d with
  | some (src, ds) => .it src ds.reverse S1
  | none => .stuck
theorem di_rev (hg : Gl X "reversed") (hm : X.mg "reversed" = none) (h : DE X W e m) (hs : starEach [e] X.env = (false, eval e X.env) :: starEach [] X.env := by rfl) : DI X W tg (.Call (.Name "reversed" p) [e] [] pos) (mRev m) := by
  refine PI.imp (RT.pi_revA hg hm h hs) fun σ H Q ⟨θ, ρ, S, n, s, p⟩ => ⟨θ, ρ, S, n, s, PostV.it s p fun v H1 θ1 S1 d u s1 rv p1 => ?_⟩
  split at p1
  · rename_i src ds e'
    obtain ⟨a, t, rfl, q, c⟩ := seq_at s1 rv e'
    obtain ⟨vs, r, h⟩ := q.at_ θ1 H1 S1 (Up.refl s1) s1 c
    refine ⟨a, vs, rfl, ?_⟩
    rw [r.len]
    cases t with
    | true => exact .inr ⟨by rwa [if_pos rfl] at h, p1.here s1 (feeds_vT q)⟩
    | false => exact .inl ⟨by rwa [if_neg Bool.false_ne_true] at h, p1.here s1 (feeds_v q)⟩
  · exact p1.elim
/-! ### the signs of a text -/
def signs (x : Str) : List DL.D := x.cps.toList.map fun c => .str ⟨#[c]⟩
theorem feeds_s {K : PySem.W.Frag} {θ : Ad} {H : Hp} {x : Str} : Feeds K (Its x) [] (signs x) θ H := by
  have len : (signs x).length = x.cps.size := by simp [signs]
  refine ⟨fun θ1 H1 S1 i u s c l => by rw [len] at l; exact l, fun θ1 H1 S1 i d u s c e => ?_⟩
  have il : i < x.cps.size := by rw [← len]; exact (List.getElem?_eq_some_iff.mp e).1
  refine ⟨il, fun v H' y => ?_⟩
  obtain ⟨rfl, c, h1, rfl⟩ := y
  unfold signs at e
  rw [List.getElem?_map, Array.getElem?_toList, h1] at e
  cases e
  exact ⟨Ext.refl _ _, s, .str _⟩
def mSigns (m : ME) : MI := fun ρ S => (m ρ S).it fun d S1 => match d with
  | .str x => .it [] (signs x) S1
  | _ => .stuck
theorem di_str (h : DE X W e m) : DI X W tg e (mSigns m) := by
  refine PI.imp (pi_str h) fun σ H Q ⟨θ, ρ, S, n, s, p⟩ => ⟨θ, ρ, S, n, s, PostV.it s p fun v H1 θ1 S1 d u s1 rv p1 => ?_⟩
  cases d <;> try exact p1.elim
  cases rv
  exact ⟨_, rfl, p1.here s1 feeds_s⟩
end
end DL
set_option Elab.async false
set_option linter.all false
set_option maxRecDepth 100000
set_option autoImplicit false
/-! The layer of data: comprehensions. -/
namespace DL
open PySem PySem.Spec L2
open PyProof.Rows hiding St
/-- what raises nothing, or nothing at all -/
def R.bind0 (r : R) (k : DL.D → St0 → R) : R := match r with
  | .val d S => k d S
  | .exc _ _ _ => .stuck
  | .stuck => .stuck
@[simp] theorem R.bind0_val {d : DL.D} {S : St0} {k : DL.D → St0 → R} : (R.val d S).bind0 k = k d S := rfl
@[simp] theorem R.bind0_exc {C : Addr} {fs : List (Str × DL.D)} {S : St0} {k : DL.D → St0 → R} : (R.exc C fs S).bind0 k = .stuck := rfl
@[simp] theorem R.bind0_stuck {k : DL.D → St0 → R} : R.stuck.bind0 k = .stuck := rfl
def R.test0 (r : R) (k : Bool → St0 → R) : R := r.bind0 fun x S => match x with
  | .bl b => k b S
  | _ => .stuck
/-- the list that was made; al: in the store -/
def finL (al : Bool) (acc : List DL.D) (S : St0) : R := if al then .val (.ref S.length) (S ++ [.lst acc]) else .val (.lst acc) S
def loopC (al : Bool) (src : List (Nat × List DL.D)) (g : Pat) (mt me : ME) (ρ : Env0) : List DL.D → List DL.D → St0 → R
  | [], acc, S => if chk S src then finL al acc S else .stuck
  | d :: ds, acc, S => if chk S src then match g.put d ρ with
    | none => .stuck
    | some ρ1 => (mt ρ1 S).test0 fun b S2 => if b then (me ρ1 S2).bind0 fun v S3 => if acc.length < sizeLine then loopC al src g mt me ρ ds (acc ++ [v]) S3 else .stuck
      else loopC al src g mt me ρ ds acc S2
    else .stuck
def wipeE (ρ : Env0) : List Nat → Env0
  | [] => ρ
  | v :: vs => (wipeE ρ vs).set v none
def RI.ev (r : RI) (k : List (Nat × List DL.D) → List DL.D → St0 → R) : R := match r with
  | .it src ds S => k src ds S
  | .exc C fs S => .exc C fs S
  | .stuck => .stuck
@[simp] theorem RI.ev_it {src ds} {S : St0} {k} : (RI.it src ds S).ev k = k src ds S := rfl
def mLc (al : Bool) (mi : MI) (g : Pat) (own : List Nat) (mt me : ME) : ME := fun ρ S => (mi ρ S).ev fun src ds S1 => loopC al src g mt me (wipeE ρ own) ds [] S1
section
variable {K : PySem.W.Frag} {θ θ1 θ2 : Ad} {H H1 H2 : Hp} {S : St0} {r : R} {Q Q' : VK} {E E' : XK} {v : V} {d : D} {vs : List V} {ds : List D} {σ : L2.St} {ρ : Env0}
theorem PostV.bind0x {θ0 : Ad} {H0 : Hp} {k : DL.D → St0 → R} {E0 : XK} (p : PostV K θ0 H0 (r.bind0 k) Q E)
    (q : ∀ v H1 n S1 d, Ext θ n H H1 → RSt K (θ.up n) S1 H1 → RV K (θ.up n) H1 v d → PostV K θ0 H0 (k d S1) Q E → Q' v H1) : PostV K θ H r Q' E0 := by
  cases r with
  | val d S' => exact fun new H' v x s' rv => q v H' new S' d x s' rv p
  | exc C fs S' => exact p.elim
  | stuck => exact p
theorem wipe_len : ∀ (σ : L2.St) (vs : List Nat), (wipe σ vs).length = σ.length := wipe_length
theorem wipe_get : ∀ (σ : L2.St) (vs : List Nat) (j : Nat), (wipe σ vs)[j]? = if j ∈ vs then (if j < σ.length then some none else none) else σ[j]?
  | σ, [], j => by simp [wipe]
  | σ, v :: vs, j => by
    show ((wipe σ vs).set v none)[j]? = _
    by_cases z : v = j
    · subst z
      rw [if_pos List.mem_cons_self]
      by_cases l : v < σ.length
      · rw [if_pos l, List.getElem?_set_self (by rw [wipe_len]; exact l)]
      · rw [if_neg l, List.getElem?_eq_none (by rw [List.length_set, wipe_len]; omega)]
    · rw [List.getElem?_set_ne z, wipe_get σ vs j]
      by_cases m : j ∈ vs
      · rw [if_pos m, if_pos (List.mem_cons_of_mem _ m)]
      · rw [if_neg m, if_neg (fun h => by rcases List.mem_cons.mp h with h | h; exact z h.symm; exact m h)]
theorem wipe_but {l vs : List Nat} {σ σ2 : L2.St} (b : But l (wipe σ vs) σ2) (h : ∀ i ∈ l, i ∈ vs) : wipe σ2 vs = wipe σ vs := by
  refine List.ext_getElem? fun j => ?_
  rw [wipe_get, wipe_get]
  have len : σ2.length = σ.length := b.1.trans (wipe_len _ _)
  by_cases m : j ∈ vs
  · rw [if_pos m, if_pos m, len]
  · rw [if_neg m, if_neg m, b.2 j (fun k => m (h j k)), wipe_get, if_neg m]
theorem REn.wipe (n : REn K θ H σ ρ) : ∀ vs, REn K θ H (L2.wipe σ vs) (wipeE ρ vs)
  | [] => n
  | v :: vs => by
    have ih := REn.wipe n vs
    refine ⟨by show ((L2.wipe σ vs).set v none).length = ((wipeE ρ vs).set v none).length; rw [List.length_set, List.length_set]; exact ih.len, fun i d h => ?_⟩
    have h' : ((wipeE ρ vs).set v none)[i]? = some (some d) := h
    by_cases z : v = i
    · subst z
      by_cases l : v < (wipeE ρ vs).length
      · rw [List.getElem?_set_self l] at h'; cases h'
      · rw [List.getElem?_eq_none (by rw [List.length_set]; omega)] at h'; cases h'
    · rw [List.getElem?_set_ne z] at h'
      obtain ⟨w, h1, h2⟩ := ih.at_ i d h'
      exact ⟨w, by show ((L2.wipe σ vs).set v none)[i]? = _; rw [List.getElem?_set_ne z]; exact h1, h2⟩
/-- a list that is being made becomes a ghost -/
theorem RSt.gho {p : Addr} {w : HO} (s : RSt K θ S H) (h : H p = none) (gw : GhO w := by constructor) : RSt K (θ.ups [] [p]) S (upd H p w) := by
  have e : Ext θ [] H (upd H p w) := Ext.laid θ h
  have g : ∀ b ∈ [p], H b = none := fun b m => by rw [List.mem_singleton.mp m]; exact h
  refine ⟨by show (θ.ix ++ []).length = _; rw [List.append_nil]; exact s.len, by show (θ.ix ++ []).Nodup; rw [List.append_nil]; exact s.nd, fun a m => ?_, fun n a o h1 h2 => ?_⟩
  · rcases List.mem_append.mp m with m | m
    · rw [List.mem_singleton.mp m]
      exact ⟨⟨w, upd_same, gw⟩, fun k => s.notin h (List.mem_append_left _ (by simpa [Ad.ups] using k))⟩
    · obtain ⟨⟨us, g1, g3⟩, g2⟩ := s.gh a m
      exact ⟨⟨us, by rw [upd_ne (fun z => by rw [z, h] at g1; cases g1)]; exact g1, g3⟩, fun k => g2 (by simpa [Ad.ups] using k)⟩
  · have h1' : θ.ix[n]? = some a := by simpa [Ad.ups] using h1
    have ne : a ≠ p := fun z => s.notin h (by rw [← z]; exact List.mem_append_left _ (List.mem_of_getElem? h1'))
    cases s.ob n a o h1' h2 with
    | lst h hs => exact .lst (by rw [upd_ne ne]; exact h) (hs.exts e s g)
    | ins h q hs => exact .ins (by rw [upd_ne ne]; exact h) q (hs.exts e s g)
    | dctK h q hs => exact .dctK (by rw [upd_ne ne]; exact h) q (hs.exts e s g)
    | dcn h q nk hs => exact .dcn (by rw [upd_ne ne]; exact h) q (nk_kp (fun _ _ => sqT_ext e s) nk) (hs.exts e s g)
    | tbl hT => exact .tbl (tab_kp hT (fun o e => by rw [upd_ne ne]; exact e) fun c hc => by rw [upd_ne (fun z => by rw [z, h] at hc; cases hc)]; exact hc)
/-- a ghost turns -/
theorem sqT_turn {p a : Addr} {us : List V} {w : HO} (hp : ∃ o, H p = some o ∧ GhO o) (h : SqT K H a us) : SqT K (upd H p w) a us := by
  obtain ⟨o', hp, g'⟩ := hp
  rcases h with (h | ⟨o, h⟩) | h
  · exact .inl (.inl (by rw [upd_ne (fun z => by rw [z, hp] at h; cases h; cases g')]; exact h))
  · exact .inl (.inr ⟨o, by rw [upd_ne (fun z => by rw [z, hp] at h; cases h; cases g')]; exact h⟩)
  · exact .inr h
theorem fz_turn {p a : Addr} {us : List V} {w : HO} (hp : ∃ o, H p = some o ∧ GhO o) (h : FzT H a us) : FzT (upd H p w) a us := by
  obtain ⟨o', hp, g'⟩ := hp
  obtain ⟨o, h, d⟩ := h
  exact ⟨o, by rw [upd_ne (fun z => by rw [z, hp] at h; cases h; cases g')]; exact h, d⟩
theorem fl_turn {p a : Addr} {us : List V} {w : HO} (hp : ∃ o, H p = some o ∧ GhO o) (h : FL K H a us) : FL K (upd H p w) a us := by
  obtain ⟨o', hp, g'⟩ := hp
  rcases h with ⟨o, h⟩ | h
  · exact .inl ⟨o, by rw [upd_ne (fun z => by rw [z, hp] at h; cases h; cases g')]; exact h⟩
  · exact .inr h
theorem rd_turn {p a : Addr} {w : HO} {u : HO} (m : p ∈ θ.gh) (n : a ∉ θ.av) (h : Rd H a u) : Rd (upd H p w) a u := by
  have ne : a ≠ p := fun z => n (by rw [z]; exact List.mem_append_right _ m)
  rcases h with h | ⟨o, h⟩
  · exact .inl (by rw [upd_ne ne]; exact h)
  · exact .inr ⟨o, by rw [upd_ne ne]; exact h⟩
mutual
theorem RV.turn {p : Addr} {w : HO} (m : p ∈ θ.gh) (hp : ∃ o, H p = some o ∧ GhO o) : ∀ {v : V} {d : D}, RV K θ H v d → RV K θ (upd H p w) v d
  | _, _, .non => .non
  | _, _, .bl b => .bl b
  | _, _, .int i => .int i
  | _, _, .str s => .str s
  | _, _, .tup h hs => .tup (sqT_turn hp h) (RVs.turn m hp hs)
  | _, _, .lst n h hs => .lst n (by rw [upd_ne (fun z => n (by rw [z]; exact List.mem_append_right _ m))]; exact h) (RVs.turn m hp hs)
  | _, _, .fls h hs => .fls (fl_turn hp h) (RVs.turn m hp hs)
  | _, _, .ins n h q hs => .ins n (by rw [upd_ne (fun z => n (by rw [z]; exact List.mem_append_right _ m))]; exact h) q (RVs.turn m hp hs)
  | _, _, .dctK n h q hs => .dctK n (by rw [upd_ne (fun z => n (by rw [z]; exact List.mem_append_right _ m))]; exact h) q (RVs.turn m hp hs)
  | _, _, .dcn n h q nk hs => .dcn n (by rw [upd_ne (fun z => n (by rw [z]; exact List.mem_append_right _ m))]; exact h) q (nk_kp (fun _ _ => sqT_turn hp) nk) (RVs.turn m hp hs)
  | _, _, .tupF h z hs => .tupF (sqT_turn hp h) (fun b => fz_turn hp (z b)) (RVs.turn m hp hs)
  | _, _, .exn0 n h => .exn0 n (by rw [upd_ne (fun z => n (by rw [z]; exact List.mem_append_right _ m))]; exact h)
  | _, _, .exn n n2 h h2 q hs => .exn n n2 (by rw [upd_ne (fun z => n (by rw [z]; exact List.mem_append_right _ m))]; exact h) (by rw [upd_ne (fun z => n2 (by rw [z]; exact List.mem_append_right _ m))]; exact h2) q (RVs.turn m hp hs)
  | _, _, .ref h => .ref h
  | _, _, .opq v => .opq v
theorem RVs.turn {p : Addr} {w : HO} (m : p ∈ θ.gh) (hp : ∃ o, H p = some o ∧ GhO o) : ∀ {vs : List V} {ds : List D}, RVs K θ H vs ds → RVs K θ (upd H p w) vs ds
  | _, _, .nil => .nil
  | _, _, .cons h hs => .cons (RV.turn m hp h) (RVs.turn m hp hs)
end
/-- .. also when a ghost turns -/
theorem UpG.turn {p : Addr} {w : HO} (m : p ∈ θ.gh) (m1 : p ∈ θ1.gh) (hp : ∃ o, H1 p = some o ∧ GhO o) (u : UpG K θ H θ1 H1) : UpG K θ H θ1 (upd H1 p w) :=
  ⟨fun h => (u.rvs h).turn m1 hp, fun h => sqT_turn hp (u.sqT h), fun h => fl_turn hp (u.fl h), fun {a o} n h => ⟨by
    obtain ⟨h1, n1⟩ := u.rd2 n h
    exact rd_turn m1 n1 h1, (u.rd2 n h).2⟩, u.at2⟩
theorem RSt.turn {p : Addr} {w : HO} (m : p ∈ θ.gh) (s : RSt K θ S H) (gw : GhO w := by constructor) : RSt K θ S (upd H p w) := by
  obtain ⟨hp, np⟩ := s.gh p m
  refine ⟨s.len, s.nd, fun a k => ⟨?_, (s.gh a k).2⟩, fun n a o h1 h2 => ?_⟩
  · by_cases z : a = p
    · rw [z]; exact ⟨w, upd_same, gw⟩
    · rw [upd_ne z]; exact (s.gh a k).1
  · have ne : a ≠ p := fun z => np (by rw [← z]; exact List.mem_of_getElem? h1)
    cases s.ob n a o h1 h2 with
    | lst h hs => exact .lst (by rw [upd_ne ne]; exact h) (hs.turn m hp)
    | ins h q hs => exact .ins (by rw [upd_ne ne]; exact h) q (hs.turn m hp)
    | dctK h q hs => exact .dctK (by rw [upd_ne ne]; exact h) q (hs.turn m hp)
    | dcn h q nk hs => exact .dcn (by rw [upd_ne ne]; exact h) q (nk_kp (fun _ _ => sqT_turn hp) nk) (hs.turn m hp)
    | tbl h => exact .tbl (tab_kp h (fun o e => by rw [upd_ne ne]; exact e) fun c hc => by rw [upd_ne (fun z => s.codeN hc (List.mem_append_right _ (by rw [z]; exact m)))]; exact hc)
theorem REn.turn {p : Addr} {w : HO} (m : p ∈ θ.gh) (hp : ∃ o, H p = some o ∧ GhO o) (n : REn K θ H σ ρ) : REn K θ (upd H p w) σ ρ := ⟨n.len, fun i d z => by obtain ⟨v, h1, h2⟩ := n.at_ i d z; exact ⟨v, h1, h2.turn m hp⟩⟩
theorem Ext.turn {n : List Addr} {p : Addr} {o : HO} (h : H p = none) (e : Ext θ n H H1) (k : H1 p ≠ none) : Ext θ n H (upd H1 p o) :=
  ⟨fun a o' e1 m => by rw [upd_ne (fun z => by rw [z, h] at e1; cases e1)]; exact e.keep a o' e1 m, fun a e1 => by
    by_cases z : a = p
    · rw [z]; exact h
    · rw [upd_ne z] at e1; exact e.dom a e1, e.new⟩
/-- a ghost becomes a thing of the store -/
theorem av_named {new : List Addr} {p a : Addr} (n : a ∉ (θ.ups new [p]).av) : a ∉ (θ.up (new ++ [p])).av := fun m => n (by
  simp only [Ad.av, Ad.up, Ad.ups, List.mem_append, List.mem_singleton] at m ⊢
  rcases m with (m | m | m) | m
  · exact .inl (.inl m)
  · exact .inl (.inr m)
  · exact .inr (.inl m)
  · exact .inr (.inr m))
mutual
theorem RV.named {new : List Addr} {p : Addr} : ∀ {v : V} {d : D}, RV K (θ.ups new [p]) H v d → RV K (θ.up (new ++ [p])) H v d
  | _, _, .non => .non
  | _, _, .bl b => .bl b
  | _, _, .int i => .int i
  | _, _, .str s => .str s
  | _, _, .tup h hs => .tup h (RVs.named hs)
  | _, _, .lst n h hs => .lst (av_named n) h (RVs.named hs)
  | _, _, .fls h hs => .fls h (RVs.named hs)
  | _, _, .ins n h q hs => .ins (av_named n) h q (RVs.named hs)
  | _, _, .dctK n h q hs => .dctK (av_named n) h q (RVs.named hs)
  | _, _, .dcn n h q nk hs => .dcn (av_named n) h q nk (RVs.named hs)
  | _, _, .tupF h z hs => .tupF h z (RVs.named hs)
  | _, _, .exn0 n h => .exn0 (av_named n) h
  | _, _, .exn n n2 h h2 q hs => .exn (av_named n) (av_named n2) h h2 q (RVs.named hs)
  | _, _, .ref h => .ref (by
    show (θ.ix ++ (new ++ [p]))[_]? = _
    have h' : (θ.ix ++ new)[_]? = some _ := h
    rw [← List.append_assoc, List.getElem?_append_left (List.getElem?_eq_some_iff.mp h').1]
    exact h')
  | _, _, .opq v => .opq v
theorem RVs.named {new : List Addr} {p : Addr} : ∀ {vs : List V} {ds : List D}, RVs K (θ.ups new [p]) H vs ds → RVs K (θ.up (new ++ [p])) H vs ds
  | _, _, .nil => .nil
  | _, _, .cons h hs => .cons (RV.named h) (RVs.named hs)
end
theorem RSt.named {new : List Addr} {p : Addr} {ob : Ob} (s : RSt K (θ.ups new [p]) S H) (r : RO K (θ.up (new ++ [p])) H p ob) (np2 : p ∉ θ.gh) : RSt K (θ.up (new ++ [p])) (S ++ [ob]) H := by
  have len : (θ.ix ++ new).length = S.length := s.len
  have np : p ∉ θ.ix ++ new := (s.gh p List.mem_cons_self).2
  refine ⟨by show (θ.ix ++ (new ++ [p])).length = _; rw [← List.append_assoc, List.length_append, len]; simp, ?_, fun a m => ?_, fun n a o h1 h2 => ?_⟩
  · show (θ.ix ++ (new ++ [p])).Nodup
    rw [← List.append_assoc]
    refine List.nodup_append.mpr ⟨s.nd, by simp, fun a ha b hb => ?_⟩
    rw [List.mem_singleton.mp hb]
    exact fun z => np (by rw [← z]; exact ha)
  · obtain ⟨g1, g2⟩ := s.gh a (List.mem_cons_of_mem _ m)
    refine ⟨g1, fun k => ?_⟩
    have k' : a ∈ (θ.ix ++ new) ++ [p] := by rw [List.append_assoc]; exact k
    rcases List.mem_append.mp k' with k | k
    · exact g2 k
    · exact np2 (by rw [← List.mem_singleton.mp k]; exact m)
  · have h1' : ((θ.ix ++ new) ++ [p])[n]? = some a := by rw [List.append_assoc]; exact h1
    by_cases l : n < (θ.ix ++ new).length
    · rw [List.getElem?_append_left l] at h1'
      rw [List.getElem?_append_left (by rw [← len]; exact l)] at h2
      cases s.ob n a o h1' h2 with
      | lst h hs => exact .lst h hs.named
      | ins h q hs => exact .ins h q hs.named
      | dctK h q hs => exact .dctK h q hs.named
      | dcn h q nk hs => exact .dcn h q nk hs.named
      | tbl h => exact .tbl h
    · have e : n = (θ.ix ++ new).length := by
        have := (List.getElem?_eq_some_iff.mp h1').1
        rw [List.length_append (bs := [p]), List.length_singleton] at this
        omega
      subst e
      rw [List.getElem?_append_right (Nat.le_refl _), Nat.sub_self] at h1'
      rw [List.getElem?_append_right (by rw [len]; exact Nat.le_refl _), len, Nat.sub_self] at h2
      cases h1'; cases h2
      exact r
end
section
variable {X : Cx} {W : WX} {elt tg iter : Expr} {ifs : List Expr} {scope : Scope} {own : List (Str × Nat)} {pos : Pos} {mi : MI} {g : Pat} {mt me : ME}
def DTs (X : Cx) (W : WX) (ifs : List Expr) (m : ME) : Prop := PTs X ifs (ttOf X.K W m)
theorem PTs.imp {X : Cx} {e : List Expr} {t t' : TT} (h : PTs X e t) (i : ∀ σ H Q, t' σ H Q → t σ H Q) : PTs X e t' := ⟨fun pins s σ H Q I q => h.run pins s σ H Q I (i σ H Q q)⟩
theorem dts_nil {W : WX} : DTs X W [] (mC (.bl true)) := PTs.imp pts_nil fun σ H Q ⟨θ, ρ, S, n, s, p⟩ => by
  obtain ⟨b, e, q⟩ := PostV.here p s (.bl true)
  cases e
  exact q
theorem dts_one {W : WX} {c : Expr} {m : ME} (h : DT X W c m) : DTs X W [c] m := pts_one h
abbrev W0 : WX := fun _ _ _ _ => False
theorem lc_reading {al : Bool} {K : PySem.W.Frag} {σ : L2.St} {H : Hp} {Q : VK} {θ : Ad} {ρ : Env0} {S : St0} {vs : List Nat} {mi : MI} {g : Pat} {mt me : ME} {W : WX} (hv : ∀ i ∈ g.vars, i ∈ vs) (n : REn K θ H σ ρ) (s : RSt K θ S H)
    (p : PostV K θ H (mLc al mi g vs mt me ρ S) Q (fun c d H' => W c d σ H')) : tLc (iOf K W mi) (pOf K g) (ttOf K W0 mt) (tOf K W0 me) vs σ H Q := by
  refine ⟨θ, ρ, S, n, s, ?_⟩
  unfold mLc RI.ev at p
  cases hr : mi ρ S with
  | stuck => rw [hr] at p; exact p
  | exc C fs S' => rw [hr] at p; exact p
  | it src ds S0 =>
    rw [hr] at p
    refine fun new H0 J x s0 F Dd hD => ?_
    have n0 := (Up.of x s).ren n
    replace p := PostV.up (Up.of x s) p
    simp only at p
    generalize θ.up new = θ0 at *
    have g0 : ∀ b ∈ [Dd], H0 b = none := fun b m => by rw [List.mem_singleton.mp m]; exact hD
    refine ⟨fun i m H1 => ∃ new S1 acc ws, Ext θ0 new H0 H1 ∧ RSt K (θ0.ups new [Dd]) S1 H1 ∧ H1 Dd = some (.lst ws) ∧ RVs K (θ0.ups new [Dd]) H1 ws acc ∧ REn K (θ0.ups new [Dd]) H1 (wipe σ vs) (wipeE ρ vs) ∧ i + m = ds.length ∧ PostV K θ0 H0 (loopC al src g mt me (wipeE ρ vs) (ds.drop i) acc S1) Q (fun c d H' => W c d σ H'),
      ⟨ds.length, [], S0, [], [], Ext.laid θ0 hD, s0.gho hD, upd_same, .nil, (n0.wipe vs).exts (Ext.laid θ0 hD) s0 g0, Nat.zero_add _, p⟩, ?_⟩
    rintro i m H1 ⟨new, S1, acc, ws, e1, s1, hw, rw1, n1, le, p1⟩
    have u1 : Up K θ0 H0 (θ0.ups new [Dd]) H1 := ⟨new, [Dd], S0, rfl, e1, s0, g0⟩
    have mD : ∀ n, Dd ∈ (θ0.ups n [Dd]).gh := fun n => List.mem_cons_self
    have nD := (s1.gh Dd (mD _)).2
    cases m with
    | zero =>
      rw [List.drop_eq_nil_of_le (by omega)] at p1
      unfold loopC at p1
      split at p1
      · rename_i ck
        refine .inl ⟨F.stop _ H1 S1 i u1 s1 ck (by omega), ?_⟩
        unfold finL at p1
        cases al with
        | false =>
          refine p1 new H1 (.ref Dd) e1 s1.drop ?_
          refine .lst (fun k => ?_) hw rw1.drop
          rcases List.mem_append.mp k with k | k
          · exact nD k
          · exact s0.notin hD (List.mem_append_right _ k)
        | true =>
          refine p1 (new ++ [Dd]) H1 (.ref Dd) ⟨e1.keep, e1.dom, fun a m => ?_⟩ (s1.named (.lst hw rw1.named) fun k => s0.notin hD (List.mem_append_right _ k)) (.ref ?_)
          · rcases List.mem_append.mp m with m | m
            · exact e1.new a m
            · rw [List.mem_singleton.mp m]; exact hD
          · show (θ0.ix ++ (new ++ [Dd]))[S1.length]? = _
            have len : (θ0.ix ++ new).length = S1.length := s1.len
            rw [← List.append_assoc, List.getElem?_append_right (by rw [len]; exact Nat.le_refl _), len, Nat.sub_self]
            rfl
      · exact p1.elim
    | succ m =>
      have il : i < ds.length := by omega
      rw [List.drop_eq_getElem_cons il] at p1
      unfold loopC at p1
      split at p1
      · rename_i ck
        obtain ⟨go, yl⟩ := F.go _ H1 S1 i ds[i] u1 s1 ck (List.getElem?_eq_getElem il)
        refine .inr ⟨go, fun H5 => ∃ new S1 acc ws, Ext θ0 new H0 H5 ∧ RSt K (θ0.ups new [Dd]) S1 H5 ∧ H5 Dd = some (.lst ws) ∧ RVs K (θ0.ups new [Dd]) H5 ws acc ∧ REn K (θ0.ups new [Dd]) H5 (wipe σ vs) (wipeE ρ vs) ∧ PostV K θ0 H0 (loopC al src g mt me (wipeE ρ vs) (ds.drop (i + 1)) acc S1) Q (fun c d H' => W c d σ H'),
          fun H5 ⟨n5, S5, a5, w5, x1, x2, x3, x4, x5, x6⟩ => ⟨m, Nat.lt_succ_self _, n5, S5, a5, w5, x1, x2, x3, x4, x5, by omega, x6⟩, fun v H2 y => ?_⟩
        obtain ⟨e2, s2, r2⟩ := yl v H2 y
        have u2 : Up K (θ0.ups new [Dd]) H1 (θ0.ups new [Dd]) H2 := Up.of_nil e2 s1
        have U := u1.trans u2
        have hw2 := e2.keep Dd _ hw nD
        have E2 : Ext θ0 new H0 H2 := by have := e1.trans (n2 := []) ⟨e2.keep, e2.dom, e2.new⟩; rwa [List.append_nil] at this
        refine ⟨_, wipeE ρ vs, S1, ds[i], u2.ren n1, s2, r2, ?_⟩
        split at p1
        · exact p1.elim
        · rename_i ρ2 e'
          rw [e']
          refine fun σ3 n3 b3 => ⟨wipe_but b3 hv, _, ρ2, S1, n3, s2, PostV.bind0x p1 fun w H3 n3' S3 d3 x3 s3 r3 p3 => ?_⟩
          have eq : ∀ k l : List Addr, (θ0.ups k [Dd]).up l = θ0.ups (k ++ l) [Dd] := fun k l => by simp [Ad.ups, Ad.up]
          have u3 : Up K (θ0.ups new [Dd]) H2 _ H3 := Up.of x3 s2
          have E3 : Ext θ0 (new ++ n3') H0 H3 := E2.trans ⟨x3.keep, x3.dom, x3.new⟩
          have hw3 := x3.keep Dd _ hw2 nD
          cases d3 <;> try exact p3.elim
          rename_i b
          cases r3
          refine ⟨b, rfl, ?_⟩
          cases b with
          | false =>
            refine iteF ⟨new ++ n3', S3, acc, ws, E3, by rw [← eq]; exact s3, hw3, by rw [← eq]; exact u3.rvs (u2.rvs rw1), by rw [← eq]; exact u3.ren (u2.ren n1), ?_⟩
            simpa using p3
          | true =>
            refine iteT ⟨_, ρ2, S3, u3.ren n3, s3, PostV.bind0x (by simpa using p3) fun y H4 n4' S4 d4 x4 s4 r4 p4 => ?_⟩
            have nD3 := (s3.gh Dd List.mem_cons_self).2
            have u4 : Up K _ H3 _ H4 := Up.of x4 s3
            have hw4 := x4.keep Dd _ hw3 nD3
            have rw4 := u4.rvs (u3.rvs (u2.rvs rw1))
            have rn4 := u4.ren (u3.ren (u2.ren n1))
            rw [eq] at x4
            have E4 : Ext θ0 ((new ++ n3') ++ n4') H0 H4 := E3.trans ⟨x4.keep, x4.dom, x4.new⟩
            rw [eq, eq] at s4 r4 rw4 rn4
            split at p4
            · rename_i small
              have hp : ∃ o, H4 Dd = some o ∧ GhO o := ⟨_, hw4, .lst _⟩
              refine ⟨ws, hw4, by rw [rw4.len]; exact small, _, S4, acc ++ [d4], ws ++ [y], E4.turn hD (by rw [hw4]; exact fun z => by cases z), s4.turn (mD _), upd_same, (rw4.turn (mD _) hp).app (.one (r4.turn (mD _) hp)), rn4.turn (mD _) hp, p4⟩
            · exact p4.elim
      · exact p1.elim
theorem de_lc {al : Bool} (hc : X.calm = true) (hN : X.N.Nodup) (hi : DI X W tg iter mi) (ok : BlkOk X.N X.env.scope scope own)
    (hg : ∀ (s : Shared) (H : Hp) (C : Addr) (cl : List (Str × Addr)) (fp : List Addr), DP (X.blk s H scope (compEnvC scope cl C X.env) fp) tg g) (ht : ∀ (s : Shared) (H : Hp) (C : Addr) (cl : List (Str × Addr)) (fp : List Addr), DTs (X.blk s H scope (compEnvC scope cl C X.env) fp) W0 ifs mt)
    (he : ∀ (s : Shared) (H : Hp) (C : Addr) (cl : List (Str × Addr)) (fp : List Addr), DE (X.blk s H scope (compEnvC scope cl C X.env) fp) W0 elt me) (hv : ∀ i ∈ g.vars, i ∈ own.map (·.2)) (hs : ∀ x, foldedSetIterable iter X.env x = pure x := by intro _; rfl) :
    DE X W (.ListComp elt [⟨tg, iter, ifs, 0⟩] scope pos) (mLc al mi g (own.map (·.2)) mt me) :=
  PE.imp (pe_lc (g := pOf X.K g) (tt := ttOf X.K W0 mt) (te := tOf X.K W0 me) hc hN hi ok (fun s H C cl fp => hg s H C cl fp) (fun s H C cl fp => ht s H C cl fp) (fun s H C cl fp => he s H C cl fp) hs) fun σ H Q ⟨θ, ρ, S, n, s, p⟩ => lc_reading hv n s p
theorem ds_setLc {al : Bool} {i : Nat} {y : Str} {py spos : Pos} (hc : X.calm = true) (hN : X.N.Nodup) (hy : X.N[i]? = some y) (hyl : X.env.scope.names.lookup y = some .local)
    (hsw : swapsWith (.ListComp elt [⟨tg, iter, ifs, 0⟩] scope pos) (some (.Name y py)) spos.line X.env = pure true) (hi : DI X W tg iter mi) (ok : BlkOk X.N X.env.scope scope own)
    (hg : ∀ (s : Shared) (H : Hp) (C : Addr) (cl : List (Str × Addr)) (fp : List Addr), DP (X.blk s H scope (compEnvC scope cl C X.env) fp) tg g) (ht : ∀ (s : Shared) (H : Hp) (C : Addr) (cl : List (Str × Addr)) (fp : List Addr), DTs (X.blk s H scope (compEnvC scope cl C X.env) fp) W0 ifs mt)
    (he : ∀ (s : Shared) (H : Hp) (C : Addr) (cl : List (Str × Addr)) (fp : List Addr), DE (X.blk s H scope (compEnvC scope cl C X.env) fp) W0 elt me) (hv : ∀ i ∈ g.vars, i ∈ own.map (·.2)) (hs : ∀ x, foldedSetIterable iter X.env x = pure x := by intro _; rfl) :
    DS X W (.Assign [.Name y py] (.ListComp elt [⟨tg, iter, ifs, 0⟩] scope pos) spos) (mSet i (mLc al mi g (own.map (·.2)) mt me)) := by
  refine PS.imp (ps_setLc (g := pOf X.K g) (tt := ttOf X.K W0 mt) (te := tOf X.K W0 me) hc hN hy hyl hsw hi ok (fun s H C cl fp => hg s H C cl fp) (fun s H C cl fp => ht s H C cl fp) (fun s H C cl fp => he s H C cl fp) hs) fun D σ H ⟨θ, ρ, S, n, s, p⟩ => ?_
  show tLc _ _ _ _ _ σ H (fun v H1 => D.nx (σ.set i (some v)) H1)
  exact lc_reading hv n s (PostS.stm n s p fun v H1 θ1 S1 d u s1 rv p1 => p1.next s1 ((u.ren n).set i rv))
end
end DL
set_option Elab.async false
set_option linter.all false
set_option maxRecDepth 100000
set_option autoImplicit false
/-! The layer of data: defs, their promises, calls. -/
namespace DL
open PySem PySem.Spec L2
open PyProof.Rows hiding St
/-! ### what names no thing of the store from n on -/
mutual
def D.clo (n : Nat) : D → Bool
  | .tup xs => D.clos n xs
  | .lst xs => D.clos n xs
  | .fls xs => D.clos n xs
  | .ins _ _ xs => D.clos n xs
  | .dct _ xs => D.clos n xs
  | .dcn _ xs => D.clos n xs
  | .tupF _ xs => D.clos n xs
  | .exn _ _ xs => D.clos n xs
  | .ref k => decide (k < n)
  | _ => true
def D.clos (n : Nat) : List D → Bool
  | [] => true
  | x :: xs => D.clo n x && D.clos n xs
end
mutual
/-- with other things in the place of the store's -/
def D.mapR (g : Nat → Option D) : D → Option D
  | .tup xs => (D.mapRs g xs).map .tup
  | .lst xs => (D.mapRs g xs).map .lst
  | .fls xs => (D.mapRs g xs).map .fls
  | .ins C ns xs => (D.mapRs g xs).map (.ins C ns)
  | .dct ks xs => (D.mapRs g xs).map (.dct ks)
  | .dcn ks xs => (D.mapRs g xs).map (.dcn ks)
  | .tupF b xs => (D.mapRs g xs).map (.tupF b)
  | .exn C ns xs => (D.mapRs g xs).map (.exn C ns)
  | .ref k => g k
  | d => some d
def D.mapRs (g : Nat → Option D) : List D → Option (List D)
  | [] => some []
  | x :: xs => match D.mapR g x with
    | none => none
    | some y => (D.mapRs g xs).map (y :: ·)
end
def Ob.mapR (g : Nat → Option D) : Ob → Option Ob
  | .lst xs => (D.mapRs g xs).map .lst
  | .ins C ns xs => (D.mapRs g xs).map (.ins C ns)
  | .dct ks xs => (D.mapRs g xs).map (.dct ks)
  | .dcn ks xs => (D.mapRs g xs).map (.dcn ks)
  | .tbl P q => some (.tbl P q)
/-- a thing of the store as a value, where it is new -/
def refAt (S : St0) (n0 : Nat) : Nat → Nat → Option D
  | f, n => if n < n0 then some (.ref n) else match f with
    | 0 => none
    | f + 1 => match S[n]? with
      | some (.lst xs) => (D.mapRs (refAt S n0 f) xs).map .lst
      | some (.ins C ns xs) => (D.mapRs (refAt S n0 f) xs).map (.ins C ns)
      | some (.dct ks xs) => (D.mapRs (refAt S n0 f) xs).map (.dct ks)
      | some (.dcn ks xs) => (D.mapRs (refAt S n0 f) xs).map (.dcn ks)
      | some (.tbl _ _) => none
      | none => none
/-- the store as the caller had it, its things turned -/
def trunc (g : Nat → Option D) : St0 → St0 → Option St0
  | [], _ => some []
  | o :: os, o' :: os' => match (if o' = o then some o else o'.mapR g) with
    | none => none
    | some x => (trunc g os os').map (x :: ·)
  | _ :: _, [] => none
/-- what a call hands back: nothing of the store that is new -/
def finish (S : St0) (r : R) : R := match r with
  | .val d S' => if S' = S then .val d S else match trunc (refAt S' S.length S'.length) S S' with
    | none => .stuck
    | some S2 => match d.mapR (refAt S' S.length S'.length) with
      | some d' => .val d' S2
      | none => .stuck
  | .exc C fs S' => if S' = S then .exc C fs S else match trunc (refAt S' S.length S'.length) S S' with
    | none => .stuck
    | some S2 => match D.mapRs (refAt S' S.length S'.length) (fs.map (·.2)) with
      | some ds => .exc C ((fs.map (·.1)).zip ds) S2
      | none => .stuck
  | .stuck => .stuck
section
variable {K : PySem.W.Frag} {θ θ1 : Ad} {new : List Addr} {H H1 : Hp} {S S' : St0} {v : V} {d : D} {vs : List V} {ds : List D}
mutual
theorem RV.clo : ∀ {v : V} {d : D}, RV K θ H v d → d.clo θ.ix.length = true
  | _, _, .non => rfl
  | _, _, .bl b => rfl
  | _, _, .int i => rfl
  | _, _, .str s => rfl
  | _, _, .tup h hs => RVs.clo hs
  | _, _, .lst n h hs => RVs.clo hs
  | _, _, .fls h hs => RVs.clo hs
  | _, _, .ins n h q hs => RVs.clo hs
  | _, _, .dctK n h q hs => RVs.clo hs
  | _, _, .dcn n h q nk hs => RVs.clo hs
  | _, _, .tupF h z hs => RVs.clo hs
  | _, _, .exn0 n h => rfl
  | _, _, .exn n n2 h h2 q hs => RVs.clo hs
  | _, _, .ref h => decide_eq_true (List.getElem?_eq_some_iff.mp h).1
  | _, _, .opq v => rfl
theorem RVs.clo : ∀ {vs : List V} {ds : List D}, RVs K θ H vs ds → D.clos θ.ix.length ds = true
  | _, _, .nil => rfl
  | _, _, .cons h hs => by simp only [D.clos, Bool.and_eq_true]; exact ⟨RV.clo h, RVs.clo hs⟩
end
theorem av_less {a : Addr} (n : a ∉ (θ.up new).av) : a ∉ θ.av := fun m => n (by
  simp only [Ad.av, Ad.up, List.mem_append] at m ⊢
  rcases m with m | m
  · exact .inl (.inl m)
  · exact .inr m)
mutual
theorem RV.less : ∀ {v : V} {d : D}, RV K (θ.up new) H v d → d.clo θ.ix.length = true → RV K θ H v d
  | _, _, .non => fun _ => .non
  | _, _, .bl b => fun _ => .bl b
  | _, _, .int i => fun _ => .int i
  | _, _, .str s => fun _ => .str s
  | _, _, .tup h hs => fun c => .tup h (RVs.less hs c)
  | _, _, .lst n h hs => fun c => .lst (av_less n) h (RVs.less hs c)
  | _, _, .fls h hs => fun c => .fls h (RVs.less hs c)
  | _, _, .ins n h q hs => fun c => .ins (av_less n) h q (RVs.less hs c)
  | _, _, .dctK n h q hs => fun c => .dctK (av_less n) h q (RVs.less hs c)
  | _, _, .dcn n h q nk hs => fun c => .dcn (av_less n) h q nk (RVs.less hs c)
  | _, _, .tupF h z hs => fun c => .tupF h z (RVs.less hs c)
  | _, _, .exn0 n h => fun c => .exn0 (av_less n) h
  | _, _, .exn n n2 h h2 q hs => fun c => .exn (av_less n) (av_less n2) h h2 q (RVs.less hs c)
  | _, _, .ref h => fun c => .ref (by
    have h' : (θ.ix ++ new)[_]? = _ := h
    rwa [List.getElem?_append_left (of_decide_eq_true c)] at h')
  | _, _, .opq v => fun _ => .opq v
theorem RVs.less : ∀ {vs : List V} {ds : List D}, RVs K (θ.up new) H vs ds → D.clos θ.ix.length ds = true → RVs K θ H vs ds
  | _, _, .nil => fun _ => .nil
  | _, _, .cons h hs => fun c => by
    simp only [D.clos, Bool.and_eq_true] at c
    exact .cons (RV.less h c.1) (RVs.less hs c.2)
end
/-- g tells of each thing of the store what stands there, without the new names -/
def Tells (K : PySem.W.Frag) (θ : Ad) (new : List Addr) (H : Hp) (g : Nat → Option D) : Prop := ∀ n a d, (θ.ix ++ new)[n]? = some a → g n = some d → RV K θ H (.ref a) d
mutual
theorem RV.mapR {g : Nat → Option D} (t : Tells K θ new H g) : ∀ {v : V} {d : D}, RV K (θ.up new) H v d → ∀ e, d.mapR g = some e → RV K θ H v e
  | _, _, .non => fun e c => by cases c; exact .non
  | _, _, .bl b => fun e c => by cases c; exact .bl b
  | _, _, .int i => fun e c => by cases c; exact .int i
  | _, _, .str s => fun e c => by cases c; exact .str s
  | _, _, .opq v => fun e c => by cases c; exact .opq v
  | _, _, .ref h => fun e c => t _ _ _ h c
  | _, _, .tup (ds := ds) h hs => fun e c => by
    unfold D.mapR at c
    cases q : D.mapRs g ds with
    | none => rw [q] at c; cases c
    | some es => rw [q] at c; cases c; exact .tup h (RVs.mapR t hs _ q)
  | _, _, .lst (ds := ds) n h hs => fun e c => by
    unfold D.mapR at c
    cases q : D.mapRs g ds with
    | none => rw [q] at c; cases c
    | some es => rw [q] at c; cases c; exact .lst (av_less n) h (RVs.mapR t hs _ q)
  | _, _, .fls (ds := ds) h hs => fun e c => by
    unfold D.mapR at c
    cases q : D.mapRs g ds with
    | none => rw [q] at c; cases c
    | some es => rw [q] at c; cases c; exact .fls h (RVs.mapR t hs _ q)
  | _, _, .ins (ds := ds) n h z hs => fun e c => by
    unfold D.mapR at c
    cases q : D.mapRs g ds with
    | none => rw [q] at c; cases c
    | some es => rw [q] at c; cases c; exact .ins (av_less n) h z (RVs.mapR t hs _ q)
  | _, _, .dctK (ds := ds) n h z hs => fun e c => by
    unfold D.mapR at c
    cases q : D.mapRs g ds with
    | none => rw [q] at c; cases c
    | some es => rw [q] at c; cases c; exact .dctK (av_less n) h z (RVs.mapR t hs _ q)
  | _, _, .dcn (ds := ds) n h z nk hs => fun e c => by
    unfold D.mapR at c
    cases q : D.mapRs g ds with
    | none => rw [q] at c; cases c
    | some es => rw [q] at c; cases c; exact .dcn (av_less n) h z nk (RVs.mapR t hs _ q)
  | _, _, .tupF (ds := ds) h z hs => fun e c => by
    unfold D.mapR at c
    cases q : D.mapRs g ds with
    | none => rw [q] at c; cases c
    | some es => rw [q] at c; cases c; exact .tupF h z (RVs.mapR t hs _ q)
  | _, _, .exn0 n h => fun e c => by
    unfold D.mapR D.mapRs at c
    cases c
    exact .exn0 (av_less n) h
  | _, _, .exn (ds := ds) n n2 h h2 z hs => fun e c => by
    unfold D.mapR at c
    cases q : D.mapRs g ds with
    | none => rw [q] at c; cases c
    | some es => rw [q] at c; cases c; exact .exn (av_less n) (av_less n2) h h2 z (RVs.mapR t hs _ q)
theorem RVs.mapR {g : Nat → Option D} (t : Tells K θ new H g) : ∀ {vs : List V} {ds : List D}, RVs K (θ.up new) H vs ds → ∀ es, D.mapRs g ds = some es → RVs K θ H vs es
  | _, _, .nil => fun es c => by cases c; exact .nil
  | _, _, .cons (d := d) (ds := ds) h hs => fun es c => by
    unfold D.mapRs at c
    cases q : D.mapR g d with
    | none => rw [q] at c; cases c
    | some e =>
      rw [q] at c
      cases z : D.mapRs g ds with
      | none => simp only [z] at c; cases c
      | some es => simp only [z] at c; cases c; exact .cons (RV.mapR t h _ q) (RVs.mapR t hs _ z)
end
theorem RO.mapR {g : Nat → Option D} (t : Tells K θ new H g) {a : Addr} {o o' : Ob} (c : o.mapR g = some o') (h : RO K (θ.up new) H a o) : RO K θ H a o' := by
  cases h with
  | @lst ws ds h hs =>
    simp only [Ob.mapR] at c
    cases q : D.mapRs g ds with
    | none => rw [q] at c; cases c
    | some es => rw [q] at c; cases c; exact .lst h (hs.mapR t _ q)
  | @ins C dx fs ns ds h z hs =>
    simp only [Ob.mapR] at c
    cases q : D.mapRs g ds with
    | none => rw [q] at c; cases c
    | some es => rw [q] at c; cases c; exact .ins h z (hs.mapR t _ q)
  | @dctK kvs ks ds h z hs =>
    simp only [Ob.mapR] at c
    cases q : D.mapRs g ds with
    | none => rw [q] at c; cases c
    | some es => rw [q] at c; cases c; exact .dctK h z (hs.mapR t _ q)
  | @dcn L ks ds h z nk hs =>
    simp only [Ob.mapR] at c
    cases q : D.mapRs g ds with
    | none => rw [q] at c; cases c
    | some es => rw [q] at c; cases c; exact .dcn h z nk (hs.mapR t _ q)
  | tbl h => cases c; exact .tbl h
def Ob.clo (n : Nat) : Ob → Bool
  | .lst xs => D.clos n xs
  | .ins _ _ xs => D.clos n xs
  | .dct _ xs => D.clos n xs
  | .dcn _ xs => D.clos n xs
  | .tbl _ _ => true
theorem RO.clo {a : Addr} {o : Ob} (h : RO K θ H a o) : o.clo θ.ix.length = true := by
  cases h with
  | lst h hs => exact hs.clo
  | ins h z hs => exact hs.clo
  | dctK h z hs => exact hs.clo
  | dcn h z nk hs => exact hs.clo
  | tbl h => rfl
theorem RO.less {a : Addr} {o : Ob} (c : o.clo θ.ix.length = true) (h : RO K (θ.up new) H a o) : RO K θ H a o := by
  cases h with
  | lst h hs => exact .lst h (hs.less c)
  | ins h z hs => exact .ins h z (hs.less c)
  | dctK h z hs => exact .dctK h z (hs.less c)
  | dcn h z nk hs => exact .dcn h z nk (hs.less c)
  | tbl h => exact .tbl h
theorem tells (s : RSt K (θ.up new) S' H) (fr : ∀ a ∈ new, a ∉ θ.av) : ∀ f, Tells K θ new H (refAt S' θ.ix.length f) := by
  intro f
  induction f with
  | zero =>
    intro n a d h e
    unfold refAt at e
    split at e
    · rename_i l
      cases e
      exact .ref (by rwa [List.getElem?_append_left l] at h)
    · cases e
  | succ f ih =>
    intro n a d h e
    unfold refAt at e
    split at e
    · rename_i l
      cases e
      exact .ref (by rwa [List.getElem?_append_left l] at h)
    · rename_i l
      have na : a ∉ θ.av := by
        rw [List.getElem?_append_right (by omega)] at h
        exact fr a (List.mem_of_getElem? h)
      simp only at e
      split at e
      · rename_i xs q
        cases z : D.mapRs (refAt S' θ.ix.length f) xs with
        | none => rw [z] at e; cases e
        | some es =>
          rw [z] at e; cases e
          cases s.ob n a _ h q with
          | lst h1 h2 => exact .lst na h1 (h2.mapR ih _ z)
      · rename_i C ns xs q
        cases z : D.mapRs (refAt S' θ.ix.length f) xs with
        | none => rw [z] at e; cases e
        | some es =>
          rw [z] at e; cases e
          cases s.ob n a _ h q with
          | ins h1 h0 h2 => exact .ins na h1 h0 (h2.mapR ih _ z)
      · rename_i ks xs q
        cases z : D.mapRs (refAt S' θ.ix.length f) xs with
        | none => rw [z] at e; cases e
        | some es =>
          rw [z] at e; cases e
          cases s.ob n a _ h q with
          | dctK h1 h0 h2 => exact .dctK na h1 h0 (h2.mapR ih _ z)
      · rename_i ks xs q
        cases z : D.mapRs (refAt S' θ.ix.length f) xs with
        | none => rw [z] at e; cases e
        | some es =>
          rw [z] at e; cases e
          cases s.ob n a _ h q with
          | dcn h1 h0 nk h2 => exact .dcn na h1 h0 nk (h2.mapR ih _ z)
      · cases e
      · cases e
theorem trunc_at {g : Nat → Option D} : ∀ {S S' S2 : St0}, trunc g S S' = some S2 → S2.length = S.length ∧ ∀ (n : Nat) (o2 : Ob), S2[n]? = some o2 → ∃ (o o' : Ob), S[n]? = some o ∧ S'[n]? = some o' ∧ (o' = o ∧ o2 = o ∨ o'.mapR g = some o2)
  | [], _, _, e => by simp only [trunc, Option.some.injEq] at e; subst e; exact ⟨rfl, fun n o2 h => by simp at h⟩
  | _ :: _, [], _, e => by simp [trunc] at e
  | o :: os, o' :: os', S2, e => by
    unfold trunc at e
    split at e
    · cases e
    · rename_i x hx
      cases q : trunc g os os' with
      | none => rw [q] at e; cases e
      | some T =>
        rw [q] at e; cases e
        obtain ⟨l, ih⟩ := trunc_at q
        refine ⟨by simp [l], fun n o2 h => ?_⟩
        cases n with
        | zero =>
          simp only [List.getElem?_cons_zero, Option.some.injEq] at h
          subst h
          refine ⟨o, o', rfl, rfl, ?_⟩
          split at hx
          · rename_i z
            cases hx
            exact .inl ⟨z, rfl⟩
          · exact .inr hx
        | succ n => exact ih n o2 (by simpa using h)
theorem RSt.trunc {S2 : St0} {g : Nat → Option D} (s0 : RSt K θ S H1) (s : RSt K (θ.up new) S' H) (t : Tells K θ new H g) (e : DL.trunc g S S' = some S2) : RSt K θ S2 H := by
  obtain ⟨l, q⟩ := trunc_at e
  refine ⟨by rw [l]; exact s0.len, (List.nodup_append.mp s.nd).1, fun a m => ⟨(s.gh a m).1, fun k => (s.gh a m).2 (List.mem_append_left _ k)⟩, fun n a o2 h1 h2 => ?_⟩
  obtain ⟨o, o', e1, e2, e3⟩ := q n o2 h2
  have r' := s.ob n a o' (by show (θ.ix ++ new)[n]? = _; rw [List.getElem?_append_left (List.getElem?_eq_some_iff.mp h1).1]; exact h1) e2
  rcases e3 with ⟨rfl, rfl⟩ | e3
  · exact r'.less (s0.ob n a _ h1 e1).clo
  · exact r'.mapR t e3
theorem PostV.finish {r : R} {Q : VK} {E : XK} (s0 : RSt K θ S H1) (fr : ∀ new H' S', Ext θ new H1 H' → RSt K (θ.up new) S' H' → ∀ a ∈ new, a ∉ θ.av) (p : PostV K θ H1 (finish S r) Q E) : PostV K θ H1 r Q E := by
  cases r with
  | stuck => exact p
  | val d S' =>
    intro new H' v x s rv
    have lx : θ.ix.length = S.length := s0.len
    unfold DL.finish at p
    simp only at p
    split at p
    · rename_i e
      subst e
      have : new = [] := by
        have := s.len
        have l2 : (θ.ix ++ new).length = S'.length := this
        rw [List.length_append, lx] at l2
        exact List.length_eq_zero_iff.mp (by omega)
      subst this
      rw [Ad.up_nil] at s rv
      exact p [] H' v x (by rw [Ad.up_nil]; exact s) (by rw [Ad.up_nil]; exact rv)
    · have t := tells s (fr new H' S' x s) S'.length
      rw [lx] at t
      split at p
      · exact p.elim
      · rename_i S2 e2
        split at p
        · rename_i d' e3
          exact p [] H' v ⟨x.keep, x.dom, fun a m => by cases m⟩ (by rw [Ad.up_nil]; exact s0.trunc s t e2) (by rw [Ad.up_nil]; exact rv.mapR t _ e3)
        · exact p.elim
  | exc C fs S' =>
    intro new H' dx x s rv
    have lx : θ.ix.length = S.length := s0.len
    unfold DL.finish at p
    simp only at p
    split at p
    · rename_i e
      subst e
      have : new = [] := by
        have := s.len
        have l2 : (θ.ix ++ new).length = S'.length := this
        rw [List.length_append, lx] at l2
        exact List.length_eq_zero_iff.mp (by omega)
      subst this
      rw [Ad.up_nil] at s rv
      exact p [] H' dx x (by rw [Ad.up_nil]; exact s) (by rw [Ad.up_nil]; exact rv)
    · have t := tells s (fr new H' S' x s) S'.length
      rw [lx] at t
      split at p
      · exact p.elim
      · rename_i S2 e2
        split at p
        · rename_i ds e3
          refine p [] H' dx ⟨x.keep, x.dom, fun a m => by cases m⟩ (by rw [Ad.up_nil]; exact s0.trunc s t e2) ?_
          rw [Ad.up_nil]
          cases rv with
          | none =>
            cases e3
            exact .none
          | @some d ws fs h1 h2 h3 =>
            have h4 := h3.mapR t _ e3
            have l1 : (fs.map (·.1)).length = ds.length := by
              have e1 := h4.len
              have e2 := congrArg List.length h2
              simp only [List.length_map] at e1 e2 ⊢
              omega
            refine .some h1 ?_ ?_
            · rw [h2, List.map_fst_zip (by omega)]
            · rw [List.map_snd_zip (by omega)]
              exact h4
        · exact p.elim
theorem Ext.fresh (s0 : RSt K θ S H1) {H' : Hp} (x : Ext θ new H1 H') (s : RSt K (θ.up new) S' H') : ∀ a ∈ new, a ∉ θ.av := fun a m k => s0.notin (x.new a m) k
end
/-! ### a def -/
/-- what a body's outcome hands back -/
def RS.toR : RS → R
  | .nx _ S => .val .non S
  | .rt d S => .val d S
  | .exc C fs _ S => .exc C fs S
  | _ => .stuck
@[simp] theorem RS.toR_nx {ρ : Env0} {S : St0} : (RS.nx ρ S).toR = .val .non S := rfl
@[simp] theorem RS.toR_rt {d : D} {S : St0} : (RS.rt d S).toR = .val d S := rfl
@[simp] theorem RS.toR_exc {C : Addr} {fs : List (Str × D)} {ρ : Env0} {S : St0} : (RS.exc C fs ρ S).toR = .exc C fs S := rfl
abbrev Fn := List D → St0 → R
/-- np parameters, N names; keep: what is new in the store is handed back too -/
def mDef (keep : Bool) (np N : Nat) (m : MS) : Fn := fun ds S => if ds.length = np then
    (if keep then (m (ds.map some ++ List.replicate (N - np) none) S).toR else finish S (m (ds.map some ++ List.replicate (N - np) none) S).toR)
  else .stuck
def spD (K : PySem.W.Frag) (np : Nat) (F : Fn) : Sp := fun vs H Q E => vs.length = np ∧ ∃ θ S ds, RSt K θ S H ∧ RVs K θ H vs ds ∧ PostV K θ H (F ds S) Q E
structure CaD (P : Program) (w : World) (K : PySem.W.Frag) (mg : Str → Option Value) (base : Heap) (k : Nat) (x : Str) (F : Fn) : Prop where
  ex : ∃ (f : Addr) (fd : FuncData) (ps : List Str) (np : Nat), FnOk P w K mg base (L2.CX P w) k f fd ps (spD K np F) ∧ mg x = some (.ref f) ∧ PySem.W.keepIn K (.ref f) = true ∧ Binds K fd ps [] ∧ ∀ ds S, ds.length ≠ np → F ds S = .stuck
/-- a def's body -/
structure DBody (P : Program) (w : World) (K : PySem.W.Frag) (mg : Str → Option Value) (base : Heap) (k : Nat) (q : Str) (st : Stmt) (N : List Str) (f : Addr) (m : MS) : Prop where
  body : ∀ (cdv : Value) (A : Around) (outer : List Env) (s : Shared) (H : Hp) (E : XK), Room k (A.deeper (envOfC q (defScope st) s.heap.objs.size f cdv)) →
    DSs (cxOf (L2.CX P w) P w K mg base N q (defScope st) f cdv A outer s H E) (fun cls d _ H => E cls d H) (defBody st) m
section
variable {P : Program} {w : World} {K : PySem.W.Frag} {mg : Str → Option Value} {base : Heap}
theorem start_ren {θ : Ad} {H : Hp} {vs : List V} {ds : List D} {N : List Str} (r : RVs K θ H vs ds) : REn K θ H (L2.start N vs) (ds.map some ++ List.replicate (N.length - ds.length) none) := by
  have l := r.len
  refine ⟨by unfold L2.start; simp [l], fun i d h => ?_⟩
  unfold L2.start
  by_cases z : i < ds.length
  · rw [List.getElem?_append_left (by simpa using z), List.getElem?_map] at h
    cases e : ds[i]? with
    | none => rw [e] at h; cases h
    | some d' =>
      rw [e] at h; cases h
      obtain ⟨v, h1, h2⟩ := r.at e
      exact ⟨v, by rw [List.getElem?_append_left (by rw [List.length_map, l]; exact z), List.getElem?_map, h1]; rfl, h2⟩
  · rw [List.getElem?_append_right (by simp; omega)] at h
    have := List.mem_of_getElem? h
    rw [List.mem_replicate] at this
    cases this.2
theorem PostS.ofV {θ : Ad} {H : Hp} {r : RS} {Q : VK} {E : XK} (p : PostV K θ H r.toR Q E) : PostS K θ H r (fun cls d _ H => E cls d H) { nx := fun _ H' => Q .non H', rt := Q } := by
  cases r with
  | nx ρ S => exact fun new H' σ' x s n => p new H' .non x s .non
  | rt d S => exact p
  | exc C fs ρ S => exact fun new H' σ' dx x s n rx => p new H' dx x s rx
  | bk ρ S => exact p.elim
  | ct ρ S => exact p.elim
  | stuck => exact p.elim
theorem DBody.fn {x q : Str} {ps N : List Str} {st : Stmt} {f : Addr} {fd : FuncData} {k : Nat} {m : MS} (F : Fun K x q st f fd) (S : FnScope N ps (defScope st)) (keep : Bool) (np n : Nat) (hn : n = N.length) (hp : np = ps.length) (b : DBody P w K mg base k q st N f m) :
    FnOk P w K mg base (L2.CX P w) (k + 1) f fd ps (spD K np (mDef keep np n m)) := by
  subst hn hp
  refine F.okX S (fun vs H Q E h => h.1) (fun cdv A outer s H vs Q E hr h => ?_)
  obtain ⟨hl, θ, St, ds, hs, hv, p⟩ := h
  have ld : ds.length = ps.length := by rw [← hv.len, hl]
  unfold mDef at p
  rw [if_pos ld] at p
  refine ⟨_, b.body cdv A outer s H E hr, θ, _, St, start_ren hv, hs, PostS.ofV ?_⟩
  rw [ld]
  cases keep with
  | true => rwa [if_pos rfl] at p
  | false =>
    rw [if_neg Bool.false_ne_true] at p
    exact PostV.finish hs (fun new H' S' x s => Ext.fresh hs x s) p
theorem DBody.ca {x : Str} {ps N : List Str} {st : Stmt} {f : Addr} {fd : FuncData} {k : Nat} {m : MS} (D : LB.Df K mg x ps st f fd) (S : FnScope N ps (defScope st)) (keep : Bool) (np n : Nat) (hn : n = N.length) (hp : np = ps.length) (b : DBody P w K mg base k x st N f m) :
    CaD P w K mg base (k + 1) x (mDef keep np n m) :=
  ⟨f, fd, ps, np, b.fn D.fn S keep np n hn hp, D.at_, D.fn.kp, D.bd, fun ds S h => by unfold mDef; rw [if_neg h]⟩
end
/-! ### a call -/
theorem passAt0 {X : Cx} {W : WX} (h : ∀ c d σ H, ¬ W c d σ H) (σ : L2.St) : PassesAt (L2.CX X.prog X.w) X σ (WE W σ) := fun _ _ _ _ _ _ c => by
  obtain ⟨_, _, _, _, _, _, _, _, _, _, _, _, w⟩ := c
  exact (h _ _ _ _ w).elim
section
variable {X : Cx} {W : WX} {k j : Nat} {x : Str} {F : Fn} {p pos apos : Pos} {e o : Expr} {es : List Expr} {ms : MA} {m : ME}
theorem de_call (c : CaD X.prog X.w X.K X.mg X.base k x F) (hr : Room j X.A) (hk : k ≤ j) (pa : ∀ σ, PassesAt (L2.CX X.prog X.w) X σ (WE W σ)) (hg : Gl X x) (ha : DAs X W (e :: es) ms)
    (hdb : (x == ("__debug__" : Str)) = false := by decide) (he : starEach (e :: es) X.env = (false, eval e X.env) :: starEach es X.env := by rfl) (hpl : (backTo pos (starEach es X.env)).any (·.1) = false := by rfl) :
    DE X W (.Call (.Name x p) (e :: es) [] pos) (mOn F ms) := by
  obtain ⟨f, fd, ps, np, Fk, hm, kp, b, st⟩ := c.ex
  refine PE.imp (pe_callS Fk (hr.mono hk) hg hm kp b pa ha hdb he hpl) fun σ H Q ⟨θ, ρ, S, n, s, p⟩ => ⟨θ, ρ, S, n, s, PostA.bind s p fun vs H1 θ1 S1 ds u s1 rs p1 => ⟨?_, θ1, S1, ds, s1, rs, p1⟩⟩
  rw [rs.len]
  exact Decidable.byContradiction fun h => by rw [st ds S1 h] at p1; exact p1
theorem de_call0 (c : CaD X.prog X.w X.K X.mg X.base k x F) (hr : Room j X.A) (hk : k ≤ j) (pa : ∀ σ, PassesAt (L2.CX X.prog X.w) X σ (WE W σ)) (hg : Gl X x) (hdb : (x == ("__debug__" : Str)) = false := by decide) :
    DE X W (.Call (.Name x p) [] [] pos) (mOn F mNil) := by
  obtain ⟨f, fd, ps, np, Fk, hm, kp, b, st⟩ := c.ex
  refine ⟨fun pins s σ H Q I ⟨θ, ρ, S, n, hs, p⟩ => ?_⟩
  refine wpAny_Call_Name_kw (ld_glob I hg hm ?_ hdb)
  refine PySem.W.callWith_K0 I.kIn kp (run_fnS (us := []) Fk (hr.mono hk) b (pa σ) I .nil ⟨?_, θ, S, [], hs, .nil, p⟩)
  show 0 = np
  exact Decidable.byContradiction fun h => by
    have : PostV X.K θ H (F [] S) Q (fun c d H' => W c d σ H') := p
    rw [st [] S h] at this; exact this
end
end DL
set_option Elab.async false
set_option linter.all false
set_option maxRecDepth 100000
set_option maxHeartbeats 4000000
/-! t * m of a tuple, up to a million items; min and max within comprehensions. -/
namespace LB
open PySem PySem.Spec PyProof.Rows L2 RS
/-- t * m, m at least 2 -/
def rRepN (K : PySem.W.Frag) : R2 := fun x y H Q => ∃ (a : Addr) (m : Int) (ys : List V), x = .ref a ∧ y = .int m ∧ SqT K H a ys ∧ 0 < ys.length ∧ 2 ≤ m ∧ m.toNat * ys.length ≤ 1000000 ∧ ∀ p, H p = none → Q (.ref p) (upd H p (.tup (List.replicate m.toNat ys).flatten))
theorem op_repN {X : Cx} : OpR X (binaryOp .Mult) (rRepN X.K) := by
  rintro pins s σ H x y v u Q I rx ry ⟨a, m, ys, rfl, rfl, ht, pos, two, big, after⟩
  cases rx; rcases ry with ⟨tk, rfl⟩
  obtain ⟨vals, rel, ⟨⟨cl, dc, da, slo⟩, look, hcl, cap, hda⟩, hs⟩ := I.tuple ht
  simp only at hcl hda; subst hcl hda
  have len : vals.length = ys.length := rel.length.symm
  have mn : ((m.toNat : Nat) : Int) = m := Int.toNat_of_nonneg (by omega)
  have size : vals.toArray.size = ys.length := (List.size_toArray ..).trans len
  have full : vals.toArray.isEmpty = false := by
    cases vals with
    | nil => simp at len; omega
    | cons b r => rfl
  have prod : ((vals.toArray.size : Nat) : Int) * m ≤ 1000000 := by
    rw [size, ← mn, ← Int.natCast_mul, Nat.mul_comm]; omega
  have m1 : m ≤ 1000000 := by
    have : m.toNat * 1 ≤ m.toNat * ys.length := Nat.mul_le_mul (Nat.le_refl _) pos
    omega
  have flat : (List.replicate m.toNat vals).flatten.length ≤ sizeLine := by
    rw [PyProof.Rows.lm_len_rep_flat, len, sizeLine_eq]; omega
  have d0 : (decide (m < -(2 ^ 63)) || decide (m ≥ 2 ^ 63)) = false := by simp only [Bool.or_eq_false_iff, decide_eq_false_iff_not]; omega
  have d1 : (vals.toArray.isEmpty || m == 1) = false := by rw [full, Bool.false_or]; exact beq_eq_false_iff_ne.mpr (by omega)
  have d2 : (decide (m ≤ 0) || vals.toArray.isEmpty) = false := by rw [full, Bool.or_false]; exact decide_eq_false (by omega)
  have d4 : Builtin.Tuple.tupleTooMany (((vals.toArray.size : Nat) : Int) * m) = false := by unfold Builtin.Tuple.tupleTooMany; rw [sizeLine_eq]; exact decide_eq_false (by omega)
  have mul := L2.tuple_mulW a vals.toArray cap dc slo m tk d0 d1 d2 (by omega) d4 (by rw [L2.size_rep, List.size_toArray]; exact flat)
  refine wpAny_binaryOp_repeat_ref (T := "tuple") (U := "int") (by decide) ⟨_, look, rfl⟩ (fun s' => typeIs_int s' m tk) L2.noFill_tuple_mul F.fills_int_mul F.slot_int_rmul L2.repeat_tuple F.slot_int_index.lookup ?_
  refine call_meets F.slot_int_rmul (typeIs_int s m tk) F.entry_int_rmul (F.args_int_rmul_2 _ _) (L2.int_rmul_tuple m tk a vals.toArray cap dc slo) ⟨look, rfl, ⟨_, look, rfl⟩, ?_⟩
  refine call_meets F.slot_tuple_mul ⟨_, look, rfl⟩ F.entry_tuple_mul (F.args_tuple_mul_2 _ _) mul ⟨look, ?_⟩
  rw [L2.size_rep]
  have laid : ObjOk X.prog X.w H (s.heap.push { cls := Value.type "tuple", data := Data.seq (List.replicate m.toNat vals).flatten.toArray }) s.heap.objs.size (.tup (List.replicate m.toNat ys).flatten) :=
    ⟨by rw [PyProof.Rows.lm_len_rep_flat, sizeLine_eq]; omega, _, rel.rep m.toNat, IsTup.new _ _⟩
  exact ⟨.ref s.heap.objs.size, _, I.laid (t' := s.toks) (o := .tup (List.replicate m.toNat ys).flatten) (fun b ob z => Heap.get?_push_of_some _ z) (Nat.le_refl _) laid, rfl, after _ (I.hok.fresh (Nat.le_refl _))⟩
/-- t * m, m at least 1: some tuple of the items so often -/
def rRepA (K : PySem.W.Frag) : R2 := fun x y H Q => ∃ (a : Addr) (m : Int) (ys : List V), x = .ref a ∧ y = .int m ∧ SqT K H a ys ∧ 0 < ys.length ∧ 1 ≤ m ∧ m.toNat * ys.length ≤ 1000000 ∧ ∀ H' r, Same H H' → SqT K H' r (List.replicate m.toNat ys).flatten → Q (.ref r) H'
theorem op_repA {X : Cx} : OpR X (binaryOp .Mult) (rRepA X.K) := by
  intro pins s σ H x y v u Q I rx ry h
  obtain ⟨a, m, ys, rfl, rfl, ht, pos, one, big, q⟩ := h
  by_cases e : m = 1
  · subst e
    exact op_rep1 pins s σ H _ _ v u Q I rx ry ⟨a, ys, rfl, rfl, ht, fun z => (by rw [z] at pos; exact Nat.lt_irrefl _ pos), q H a (Same.refl _) (by simpa using ht)⟩
  · exact op_repN pins s σ H _ _ v u Q I rx ry ⟨a, m, ys, rfl, rfl, ht, pos, by omega, big, fun p np => q _ p (same_new np) T_new⟩
variable (K : PySem.W.Frag) {X : Cx}
theorem cr_min' (hc : X.calm = true) (h : X.K = K := by rfl) : CallR X (.builtin "min") (rMin K) := by subst h; exact cr_min hc
theorem cr_max' (hc : X.calm = true) (h : X.K = K := by rfl) : CallR X (.builtin "max") (rMax K) := by subst h; exact cr_max hc
end LB
set_option Elab.async false
set_option linter.all false
set_option maxRecDepth 100000
set_option maxHeartbeats 2000000
/-! enumerate(list) within comprehensions; walks of zip. -/
namespace LB
open PySem PySem.Spec PyProof.Rows L2 RS
theorem pi_enum' (K : PySem.W.Frag) {X : Cx} {e : Expr} {ta : TA} {p pos tpos : Pos} {elts : List Expr} {kk : Nat} (hg : Gl X "enumerate") (hm : X.mg "enumerate" = none) (ha : PA X [e] ta) (hs : starEach [e] X.env = [(false, eval e X.env)] := by rfl) (h : X.K = K := by rfl) :
    PI X (.Tuple elts kk tpos) (.Call (.Name "enumerate" p) [e] [] pos) (iEnum K ta) := by subst h; exact pi_enum hg hm ha hs
theorem lc_enumL {K : PySem.W.Frag} {a : Addr} {xs : List V} {g : TG} {tt : TT} {te : TE} {vs : List Nat} {σ : L2.St} {H1 : Hp} {D : Addr} {Qd : Hp → Prop} (Pv : Nat → Hp → Prop) (h0 : Pv 0 (upd H1 D (.lst []))) (hG : ∀ i H, i ≤ xs.length → Pv i H → SqL K H a xs)
    (hs : ∀ (i : Nat) (x : V) (T : Addr) (H : Hp), xs[i]? = some x → Pv i H → H T = none → g (.ref T) (wipe σ vs) (upd H T (.tup [.int (i : Nat), x])) fun σ2 H2 => wipe σ2 vs = wipe σ vs ∧ tt σ2 H2 fun b H3 =>
      if b = true then te σ2 H3 fun y H4 => ∃ acc, H4 D = some (.lst acc) ∧ acc.length < sizeLine ∧ Pv (i + 1) (upd H4 D (.lst (acc ++ [y]))) else Pv (i + 1) H3) (hd : ∀ H, Pv xs.length H → Qd H) :
    ∃ W : Nat → Nat → Hp → Prop, (∃ m, W 0 m (upd H1 D (.lst []))) ∧ ∀ i m H, W i m H → ((Ite K a).stop i H ∧ Qd H) ∨ ((Ite K a).go i H ∧ ∃ Nx : Hp → Prop, (∀ H', Nx H' → ∃ m', m' < m ∧ W (i + 1) m' H') ∧ ∀ x H', (Ite K a).yld i H x H' → g x (wipe σ vs) H' fun σ2 H2 =>
        wipe σ2 vs = wipe σ vs ∧ tt σ2 H2 fun b H3 => if b = true then te σ2 H3 fun y H4 => ∃ acc, H4 D = some (.lst acc) ∧ acc.length < sizeLine ∧ Nx (upd H4 D (.lst (acc ++ [y]))) else Nx H3) :=
  lc_it (walk_enum (K := K) (a := a) (xs := xs)) Pv h0 hG (fun i x H H' hi p y => by
    obtain ⟨T, u, v, rfl, nT, rfl, e1, e2⟩ := y
    cases e1
    exact hs i v T H e2 p nT) hd
end LB
set_option Elab.async false
set_option linter.all false
set_option maxRecDepth 100000
set_option maxHeartbeats 1000000
/-! Things of any kind. -/
namespace LB
open PySem PySem.Spec PyProof.Rows L2 RS
inductive Th : Type
  | non : Th
  | bl (b : Bool) : Th
  | int (i : Int) : Th
  | str (s : Str) : Th
  | tup (ts : List Th) : Th
  | lst (ts : List Th) : Th
  | dic : Th
  | pg : Th
mutual
/-- a value as a thing; lists are none of the pool's -/
inductive IsTh (K : PySem.W.Frag) (C p c : Addr) (H : Hp) : V → Th → Prop
  | non : IsTh K C p c H .non .non
  | bl (b : Bool) : IsTh K C p c H (.bl b) (.bl b)
  | int (i : Int) : IsTh K C p c H (.int i) (.int i)
  | str (s : Str) : IsTh K C p c H (.str s) (.str s)
  | tup {a : Addr} {vs : List V} {ts : List Th} : SqT K H a vs → IsThs K C p c H vs ts → IsTh K C p c H (.ref a) (.tup ts)
  | lst {a : Addr} {vs : List V} {ts : List Th} : H a = some (.lst vs) → a ≠ p → a ≠ c → IsThs K C p c H vs ts → IsTh K C p c H (.ref a) (.lst ts)
  | dic {a : Addr} {kvs : List (Key × V)} : H a = some (.dK kvs) → a ≠ p → a ≠ c → IsTh K C p c H (.ref a) .dic
  | pg {a dx : Addr} {fs : List (Str × V)} : H a = some (.ins C dx fs) → a ≠ p → a ≠ c → IsTh K C p c H (.ref a) .pg
inductive IsThs (K : PySem.W.Frag) (C p c : Addr) (H : Hp) : List V → List Th → Prop
  | nil : IsThs K C p c H [] []
  | cons {v : V} {vs : List V} {t : Th} {ts : List Th} : IsTh K C p c H v t → IsThs K C p c H vs ts → IsThs K C p c H (v :: vs) (t :: ts)
end
section
variable {K : PySem.W.Frag} {C p c : Addr} {H H' : Hp}
mutual
theorem IsTh.keep (e : ∀ a xs, SqT K H a xs → SqT K H' a xs) (B : But p c H H') : ∀ (t : Th) (v : V), IsTh K C p c H v t → IsTh K C p c H' v t
  | .non, _, h => by cases h; exact .non
  | .bl b, _, h => by cases h; exact .bl b
  | .int i, _, h => by cases h; exact .int i
  | .str s, _, h => by cases h; exact .str s
  | .tup ts, _, h => by cases h with | tup h1 h2 => exact .tup (e _ _ h1) (IsThs.keep e B ts _ h2)
  | .lst ts, _, h => by cases h with | lst h1 n1 n2 h2 => exact .lst (B _ _ n1 n2 h1) n1 n2 (IsThs.keep e B ts _ h2)
  | .dic, _, h => by cases h with | dic h1 n1 n2 => exact .dic (B _ _ n1 n2 h1) n1 n2
  | .pg, _, h => by cases h with | pg h1 n1 n2 => exact .pg (B _ _ n1 n2 h1) n1 n2
theorem IsThs.keep (e : ∀ a xs, SqT K H a xs → SqT K H' a xs) (B : But p c H H') : ∀ (ts : List Th) (vs : List V), IsThs K C p c H vs ts → IsThs K C p c H' vs ts
  | [], _, h => by cases h; exact .nil
  | t :: ts, _, h => by cases h with | cons h1 h2 => exact .cons (IsTh.keep e B t _ h1) (IsThs.keep e B ts _ h2)
end
theorem IsTh.same {v : V} {t : Th} (e : Same H H') (h : IsTh K C p c H v t) : IsTh K C p c H' v t := IsTh.keep (fun _ _ z => T_seq e z) (LB.Same.but e) t v h
theorem IsThs.same {vs : List V} {ts : List Th} (e : Same H H') (h : IsThs K C p c H vs ts) : IsThs K C p c H' vs ts := IsThs.keep (fun _ _ z => T_seq e z) (LB.Same.but e) ts vs h
theorem IsTh.but {v : V} {t : Th} (P : Pool H p c) (B : But p c H H') (h : IsTh K C p c H v t) : IsTh K C p c H' v t := IsTh.keep (fun _ _ z => P.t B z) B t v h
theorem IsThs.but {vs : List V} {ts : List Th} (P : Pool H p c) (B : But p c H H') (h : IsThs K C p c H vs ts) : IsThs K C p c H' vs ts := IsThs.keep (fun _ _ z => P.t B z) B ts vs h
theorem IsThs.len : ∀ {vs : List V} {ts : List Th}, IsThs K C p c H vs ts → vs.length = ts.length
  | _, [], h => by cases h; rfl
  | _, t :: ts, h => by cases h with | cons h1 h2 => exact congrArg (· + 1) h2.len
theorem IsThs.at : ∀ {vs : List V} {ts : List Th} {n : Nat} {x : V}, IsThs K C p c H vs ts → vs[n]? = some x → ∃ t, ts[n]? = some t ∧ IsTh K C p c H x t
  | _, [], _, _, h, e => by cases h; cases e
  | _, t :: ts, 0, x, h, e => by cases h with | cons h1 h2 => cases e; exact ⟨t, rfl, h1⟩
  | _, t :: ts, n + 1, x, h, e => by cases h with | cons h1 h2 => exact h2.at e
theorem IsThs.app : ∀ {vs ws : List V} {ts us : List Th}, IsThs K C p c H vs ts → IsThs K C p c H ws us → IsThs K C p c H (vs ++ ws) (ts ++ us)
  | _, _, [], _, h, g => by cases h; exact g
  | _, _, t :: ts, _, h, g => by cases h with | cons h1 h2 => exact .cons h1 (h2.app g)
theorem IsThs.take : ∀ {vs : List V} {ts : List Th} (n : Nat), IsThs K C p c H vs ts → IsThs K C p c H (vs.take n) (ts.take n)
  | _, [], n, h => by cases h; rw [List.take_nil, List.take_nil]; exact .nil
  | _, t :: ts, 0, h => by rw [List.take_zero, List.take_zero]; exact .nil
  | _, t :: ts, n + 1, h => by cases h with | cons h1 h2 => exact .cons h1 (h2.take n)
theorem IsThs.drop : ∀ {vs : List V} {ts : List Th} (n : Nat), IsThs K C p c H vs ts → IsThs K C p c H (vs.drop n) (ts.drop n)
  | _, [], n, h => by cases h; rw [List.drop_nil, List.drop_nil]; exact .nil
  | _, t :: ts, 0, h => h
  | _, t :: ts, n + 1, h => by cases h with | cons h1 h2 => exact h2.drop n
theorem IsThs.rev : ∀ {vs : List V} {ts : List Th}, IsThs K C p c H vs ts → IsThs K C p c H vs.reverse ts.reverse
  | _, [], h => by cases h; exact .nil
  | _, t :: ts, h => by
    cases h with
    | cons h1 h2 =>
      rw [List.reverse_cons, List.reverse_cons]
      exact h2.rev.app (.cons h1 .nil)
theorem IsThs.mem : ∀ {vs : List V} {ts : List Th} {v : V}, IsThs K C p c H vs ts → v ∈ vs → ∃ t ∈ ts, IsTh K C p c H v t
  | _, [], _, h, e => by cases h; cases e
  | _, t :: ts, v, h, e => by
    cases h with
    | cons h1 h2 =>
      rcases List.mem_cons.mp e with rfl | e
      · exact ⟨t, List.mem_cons_self, h1⟩
      · obtain ⟨u, hu, r⟩ := h2.mem e
        exact ⟨u, List.mem_cons_of_mem _ hu, r⟩
theorem IsThs.one {v : V} {t : Th} (h : IsTh K C p c H v t) : IsThs K C p c H [v] [t] := .cons h .nil
theorem IsThs.rep {v : V} {t : Th} (h : IsTh K C p c H v t) : ∀ n, IsThs K C p c H (List.replicate n v) (List.replicate n t)
  | 0 => .nil
  | n + 1 => .cons h (IsThs.rep h n)
theorem IsThs.nats : ∀ w : List Nat, IsThs K C p c H (w.map fun k => V.int (k : Nat)) (w.map fun k => Th.int (k : Nat))
  | [] => .nil
  | k :: w => .cons (.int _) (IsThs.nats w)
/-! ### kinds -/
def Th.ty (C : Addr) : Th → Value
  | .non => .type "NoneType"
  | .bl _ => .type "bool"
  | .int _ => .type "int"
  | .str _ => .type "str"
  | .tup _ => .type "tuple"
  | .lst _ => .type "list"
  | .dic => .type "dict"
  | .pg => .ref C
def Th.isTup : Th → Bool
  | .tup _ => true
  | _ => false
def Th.isLst : Th → Bool
  | .lst _ => true
  | _ => false
def Th.isStr : Th → Bool
  | .str _ => true
  | _ => false
def Th.isBl : Th → Bool
  | .bl _ => true
  | _ => false
/-- as Python's isinstance takes it: flags, too -/
def Th.isNum : Th → Bool
  | .int _ => true
  | .bl _ => true
  | _ => false
def Th.isInt : Th → Bool
  | .int _ => true
  | _ => false
def Th.sz : Th → Nat
  | .tup ts => ts.length
  | _ => 0
structure ThC (K : PySem.W.Frag) (C : Addr) : Prop where
  ins : C8.InsC K C
  t : PySem.W.kitOne K (.ref C) (.type "tuple") = some false
  l : PySem.W.kitOne K (.ref C) (.type "list") = some false
  i : PySem.W.kitOne K (.ref C) (.type "int") = some false
  b : PySem.W.kitOne K (.ref C) (.type "bool") = some false
  s : PySem.W.kitOne K (.ref C) (.type "str") = some false
theorem kit_sub {T : String} {b : Bool} (m : PySem.W.kitMeta T = true) (h : PySem.W.subIn K (.ref C) (.type T) = some b) : PySem.W.kitOne K (.ref C) (.type T) = some b := by
  unfold PySem.W.kitOne
  rw [if_neg (by intro h; cases (eq_of_beq h))]
  show (if PySem.W.kitMeta T = true then PySem.W.subIn K (.ref C) (.type T) else none) = some b
  rw [if_pos m]
  exact h
theorem ThC.of (i : C8.InsC K C) (t : PySem.W.subIn K (.ref C) (.type "tuple") = some false) (l : PySem.W.subIn K (.ref C) (.type "list") = some false) (n : PySem.W.subIn K (.ref C) (.type "int") = some false) (b : PySem.W.subIn K (.ref C) (.type "bool") = some false) (s : PySem.W.subIn K (.ref C) (.type "str") = some false) : ThC K C :=
  ⟨i, kit_sub (by decide +kernel) t, kit_sub (by decide +kernel) l, kit_sub (by decide +kernel) n, kit_sub (by decide +kernel) b, kit_sub (by decide +kernel) s⟩
theorem IsTh.tyx (T : ThC K C) {v : V} {t : Th} (h : IsTh K C p c H v t) : TyX K H v (t.ty C) := by
  cases h with
  | non => exact .base .non
  | bl b => exact .base (.bl b)
  | int i => exact .base (.int i)
  | str s => exact .base (.str s)
  | tup h1 h2 => exact ty_t h1
  | lst h1 n1 n2 h2 => exact .base (.lst h1)
  | dic h1 => exact .base (.dK h1)
  | pg h1 => exact .base (.ins h1 T.ins.cl T.ins.ha T.ins.hn T.ins.htk T.ins.hm)
theorem kit_tup (T : ThC K C) (t : Th) : PySem.W.kitOne K (t.ty C) (.type "tuple") = some t.isTup := by
  cases t with
  | pg => exact T.t
  | non => exact (kit_ty (by decide +kernel) : PySem.W.kitOne K (.type "NoneType") (.type "tuple") = some false)
  | bl _ => exact (kit_ty (by decide +kernel) : PySem.W.kitOne K (.type "bool") (.type "tuple") = some false)
  | int _ => exact (kit_ty (by decide +kernel) : PySem.W.kitOne K (.type "int") (.type "tuple") = some false)
  | str _ => exact (kit_ty (by decide +kernel) : PySem.W.kitOne K (.type "str") (.type "tuple") = some false)
  | tup _ => exact (kit_ty (by decide +kernel) : PySem.W.kitOne K (.type "tuple") (.type "tuple") = some true)
  | lst _ => exact (kit_ty (by decide +kernel) : PySem.W.kitOne K (.type "list") (.type "tuple") = some false)
  | dic => exact (kit_ty (by decide +kernel) : PySem.W.kitOne K (.type "dict") (.type "tuple") = some false)
theorem kit_lst (T : ThC K C) (t : Th) : PySem.W.kitOne K (t.ty C) (.type "list") = some t.isLst := by
  cases t with
  | pg => exact T.l
  | non => exact (kit_ty (by decide +kernel) : PySem.W.kitOne K (.type "NoneType") (.type "list") = some false)
  | bl _ => exact (kit_ty (by decide +kernel) : PySem.W.kitOne K (.type "bool") (.type "list") = some false)
  | int _ => exact (kit_ty (by decide +kernel) : PySem.W.kitOne K (.type "int") (.type "list") = some false)
  | str _ => exact (kit_ty (by decide +kernel) : PySem.W.kitOne K (.type "str") (.type "list") = some false)
  | tup _ => exact (kit_ty (by decide +kernel) : PySem.W.kitOne K (.type "tuple") (.type "list") = some false)
  | lst _ => exact (kit_ty (by decide +kernel) : PySem.W.kitOne K (.type "list") (.type "list") = some true)
  | dic => exact (kit_ty (by decide +kernel) : PySem.W.kitOne K (.type "dict") (.type "list") = some false)
theorem kit_num (T : ThC K C) (t : Th) : PySem.W.kitOne K (t.ty C) (.type "int") = some t.isNum := by
  cases t with
  | pg => exact T.i
  | non => exact (kit_ty (by decide +kernel) : PySem.W.kitOne K (.type "NoneType") (.type "int") = some false)
  | bl _ => exact (kit_ty (by decide +kernel) : PySem.W.kitOne K (.type "bool") (.type "int") = some true)
  | int _ => exact (kit_ty (by decide +kernel) : PySem.W.kitOne K (.type "int") (.type "int") = some true)
  | str _ => exact (kit_ty (by decide +kernel) : PySem.W.kitOne K (.type "str") (.type "int") = some false)
  | tup _ => exact (kit_ty (by decide +kernel) : PySem.W.kitOne K (.type "tuple") (.type "int") = some false)
  | lst _ => exact (kit_ty (by decide +kernel) : PySem.W.kitOne K (.type "list") (.type "int") = some false)
  | dic => exact (kit_ty (by decide +kernel) : PySem.W.kitOne K (.type "dict") (.type "int") = some false)
theorem kit_bl (T : ThC K C) (t : Th) : PySem.W.kitOne K (t.ty C) (.type "bool") = some t.isBl := by
  cases t with
  | pg => exact T.b
  | non => exact (kit_ty (by decide +kernel) : PySem.W.kitOne K (.type "NoneType") (.type "bool") = some false)
  | bl _ => exact (kit_ty (by decide +kernel) : PySem.W.kitOne K (.type "bool") (.type "bool") = some true)
  | int _ => exact (kit_ty (by decide +kernel) : PySem.W.kitOne K (.type "int") (.type "bool") = some false)
  | str _ => exact (kit_ty (by decide +kernel) : PySem.W.kitOne K (.type "str") (.type "bool") = some false)
  | tup _ => exact (kit_ty (by decide +kernel) : PySem.W.kitOne K (.type "tuple") (.type "bool") = some false)
  | lst _ => exact (kit_ty (by decide +kernel) : PySem.W.kitOne K (.type "list") (.type "bool") = some false)
  | dic => exact (kit_ty (by decide +kernel) : PySem.W.kitOne K (.type "dict") (.type "bool") = some false)
theorem kit_str (T : ThC K C) (t : Th) : PySem.W.kitOne K (t.ty C) (.type "str") = some t.isStr := by
  cases t with
  | pg => exact T.s
  | non => exact (kit_ty (by decide +kernel) : PySem.W.kitOne K (.type "NoneType") (.type "str") = some false)
  | bl _ => exact (kit_ty (by decide +kernel) : PySem.W.kitOne K (.type "bool") (.type "str") = some false)
  | int _ => exact (kit_ty (by decide +kernel) : PySem.W.kitOne K (.type "int") (.type "str") = some false)
  | str _ => exact (kit_ty (by decide +kernel) : PySem.W.kitOne K (.type "str") (.type "str") = some true)
  | tup _ => exact (kit_ty (by decide +kernel) : PySem.W.kitOne K (.type "tuple") (.type "str") = some false)
  | lst _ => exact (kit_ty (by decide +kernel) : PySem.W.kitOne K (.type "list") (.type "str") = some false)
  | dic => exact (kit_ty (by decide +kernel) : PySem.W.kitOne K (.type "dict") (.type "str") = some false)
theorem Th.int_is (t : Th) : (t.isNum && !t.isBl) = t.isInt := by cases t <;> rfl
theorem Th.of_int {t : Th} (h : t.isInt = true) : ∃ i, t = .int i := by cases t with
  | int i => exact ⟨i, rfl⟩
  | _ => cases h
theorem Th.of_tup {t : Th} (h : t.isTup = true) : ∃ ts, t = .tup ts := by cases t with
  | tup ts => exact ⟨ts, rfl⟩
  | _ => cases h
end
/-! ### t[::-1] of a tuple -/
section
open Builtin.Slice
theorem pick_rev (xs : Array Value) : ((List.range xs.size).filterMap fun (k : Nat) => xs[((xs.size : Int) - 1 + (k : Int) * (-1)).toNat]?) = xs.toList.reverse := by
  obtain ⟨l⟩ := xs
  simp only [List.size_toArray, List.getElem?_toArray]
  have : ∀ n, n ≤ l.length → ((List.range n).filterMap fun (k : Nat) => l[((l.length : Int) - 1 + (k : Int) * (-1)).toNat]?) = l.reverse.take n := by
    intro n
    induction n with
    | zero => intro _; simp
    | succ n ih =>
      intro h
      rw [List.range_succ, List.filterMap_append, ih (by omega), List.take_add_one]
      congr 1
      have e : (((l.length : Nat) : Int) - 1 + ((n : Nat) : Int) * (-1)).toNat = l.length - 1 - n := by omega
      simp only [List.filterMap_cons, List.filterMap_nil, e]
      rw [List.getElem?_reverse (by omega)]
      cases l[l.length - 1 - n]? <;> rfl
  have h := this l.length (Nat.le_refl _)
  rw [h, List.take_of_length_le (by simp)]
end
end LB
set_option Elab.async false
set_option linter.all false
set_option maxRecDepth 100000
set_option maxHeartbeats 1000000
/-! t[::-1] of a tuple. -/
namespace LB
open PySem PySem.Spec PyProof.Rows L2 RS HT
section
variable {prog : Program} {w : World} {A : Around} {E : Value → Shared → Prop} {s : Shared}
theorem adjust_rev (n : Nat) : Builtin.Slice.sliceAdjust none none (-1) (n : Int) = ((n : Int) - 1, -1) := by
  unfold Builtin.Slice.sliceAdjust
  simp
theorem places_rev (n : Nat) : Builtin.Slice.slicePlaces ((n : Int) - 1) (-1) (-1) = n := by
  unfold Builtin.Slice.slicePlaces
  rw [if_neg (by decide)]
  by_cases z : (n : Int) - 1 > -1
  · rw [if_pos z, show -(-1 : Int) = 1 from rfl, Int.ediv_one]
    omega
  · rw [if_neg z]
    omega
theorem sliceApplied_rev {sl : Addr} {vl vu vs : Value} {n : Nat} {Q : Int × Int × Nat → Shared → Prop} (hs : s.heap.IsSliceOf sl vl vu vs) (pl : IsPart vl none) (pu : IsPart vu none) (ps : IsPart vs (some (-1)))
    (h : Q ((n : Int) - 1, -1, n) s) : wpAny (model prog w) A (Builtin.Slice.sliceApplied (.ref sl) (pure (n : Int))) Q E s := by
  obtain ⟨os, hos, hcs, hds⟩ := id hs
  unfold Builtin.Slice.sliceApplied Builtin.Slice.sliceFields
  refine wpAny_bind (wpAny_bind (wpAny_field hos hds (x := vl) rfl (wpAny_bind (wpAny_field hos hds (x := vu) rfl (wpAny_bind (wpAny_field hos hds (x := vs) rfl (wpAny_pure ?_)))))))
  refine wpAny_bind (slicePart_ ps ?_)
  show wpAny _ _ (if ((-1 : Int) == 0) = true then _ else _) _ _ s
  rw [if_neg (by decide)]
  refine wpAny_bind (slicePart_ pl (wpAny_bind (slicePart_ pu (wpAny_bind (wpAny_pure ?_)))))
  show wpAny _ _ (match Builtin.Slice.sliceAdjust none none (-1) (n : Int) with | (lo, hi) => pure (lo, (-1 : Int), Builtin.Slice.slicePlaces lo hi (-1))) _ _ s
  rw [adjust_rev n]
  show wpAny _ _ (pure ((n : Int) - 1, (-1 : Int), Builtin.Slice.slicePlaces ((n : Int) - 1) (-1) (-1))) _ _ s
  rw [places_rev]
  exact wpAny_pure h
theorem getItem_tuple_rev {t sl : Addr} {items : Array Value} {vl vu vs : Value} {Q : Value → Shared → Prop} (ht : IsTup s.heap t items) (hs : s.heap.IsSliceOf sl vl vu vs) (pl : IsPart vl none) (pu : IsPart vu none) (ps : IsPart vs (some (-1)))
    (h : Q (.ref s.heap.objs.size) { s with heap := s.heap.push { cls := .type "tuple", data := .seq items.toList.reverse.toArray } })
    (hsz : items.size ≤ sizeLine) : wpAny (model prog w) A (getItem (.ref t) (.ref sl)) Q E s := by
  have htake : sizeOk (.seq items.toList.reverse.toArray) := by
    show items.toList.reverse.toArray.size ≤ sizeLine
    rw [List.size_toArray, List.length_reverse, Array.length_toList]
    exact hsz
  obtain ⟨os, hos, hcs, hds⟩ := id hs
  have hTs : s.TypeIs (.ref sl) "slice" := ⟨os, hos, hcs⟩
  unfold getItem
  try with_reducible refine wpAny_holding ?_
  first | refine wpAny_bind (wpAny_pure ?_) | skip
  refine wpAny_bind (wpAny_sequenceKey ht.typeIs (by decide) ?_)
  refine wpAny_bind (wpAny_callSpecial?_slot (name := Str.ofString "__getitem__") ht.typeIs PyProof.Rows.slot_tuple_getitem
    (wpAny_call_entry PyProof.Rows.slot_tuple_getitem ht.typeIs entry_tuple_getitem ?_ (args_tuple_getitem _ _)))
  show wpAny _ _ (Builtin.Tuple.tupleItemsOf (.ref t) >>= _) _ _ s
  refine wpAny_bind (tupleItemsOf_ ht ?_)
  refine wpAny_bind (wpAny_typeOf hTs ?_)
  rw [if_pos (by decide)]
  refine wpAny_bind (sliceApplied_rev hs pl pu ps ?_)
  have hno : ¬ ((((items.size : Int) - 1) == 0 && (-1 : Int) == 1 && items.size == items.size) = true) := by simp
  show wpAny _ _ (if (((items.size : Int) - 1) == 0 && (-1 : Int) == 1 && items.size == items.size) = true then _ else _) _ _ s
  rw [if_neg hno, pick_rev]
  first
    | exact wpAny_bind (m := Builtin.Tuple.tupleExact _) (wpAny_newObj_type (wpAny_pure ⟨_, rfl, wpAny_pure h⟩) htake)
    | exact wpAny_bind (m := Builtin.Tuple.tupleExact _) (wpAny_newObj_type (wpAny_bind (wpAny_pure (wpAny_pure ⟨_, rfl, wpAny_pure h⟩))) htake)
    | exact wpAny_bind (wpAny_bind (m := Builtin.Tuple.tupleExact _) (wpAny_newObj_type (wpAny_pure (wpAny_pure ⟨_, rfl, wpAny_pure h⟩)) htake))
    | exact wpAny_bind (wpAny_bind (m := Builtin.Tuple.tupleExact _) (wpAny_newObj_type (wpAny_pure ⟨_, rfl, wpAny_pure h⟩) htake))
end
section
variable {X : Cx}
def tRevT (K : PySem.W.Frag) (te : TE) : TE := fun σ H Q => te σ H fun x H1 => ∃ a xs, x = .ref a ∧ SqT K H1 a xs ∧ ∀ p, H1 p = none → Q (.ref p) (upd H1 p (.tup xs.reverse))
theorem pe_revT {e : Expr} {te : TE} {k : Nat} {p1 p2 p3 pos : Pos} (he : PE X e te) : PE X (.Subscript e (.Slice none none (some (.UnaryOp .USub (.Constant (.int 1) k p1) p2)) p3) pos) (tRevT X.K te) := by
  refine ⟨fun pins s σ H Q I h => ?_⟩
  refine Subscript_ (thn (he.run pins s σ H _ I h) fun v s1 ⟨x, H1, I1, r1, q1⟩ => ?_)
  obtain ⟨a, xs, ex, hx, q⟩ := q1
  subst ex
  cases r1
  have hst : PO X (some (.UnaryOp .USub (.Constant (.int 1) k p1) p2)) (tPart (tUn (rU fun i => .int (-i)) (tC (.int 1)))) := po_some (pe_un un_neg pe_int)
  refine wpAny_Slice (thn (po_none.run pins s1 σ H1 (fun o H2 => o = none ∧ H2 = H1) I1 ⟨rfl, rfl⟩) fun vl s2 ⟨l, H2, I2, pl, el, e2⟩ => ?_)
  subst el e2
  refine thn (po_none.run pins s2 σ H2 (fun o H3 => o = none ∧ H3 = H2) I2 ⟨rfl, rfl⟩) fun vu s3 ⟨u, H3, I3, pu, eu, e3⟩ => ?_
  subst eu e3
  refine thn (hst.run pins s3 σ H3 (fun o H4 => o = some (-1) ∧ H4 = H3) I3 ⟨1, rfl, -1, rfl, rfl, rfl⟩) fun vs s4 ⟨o, H4, I4, ps, eo, e4⟩ => ?_
  subst eo e4
  have I5 : Inv X pins σ H4 { s4 with heap := s4.heap.push { cls := .type "slice", data := .fields #[vl, vu, vs] } } := I4.kept (t' := s4.toks) fun b ob q => Heap.get?_push_of_some _ q
  obtain ⟨its, r, ht, hz⟩ := I5.tuple hx
  have hlen := r.length
  show wpAny (model X.prog X.w) X.A (subscriptTail e (.Slice none none (some (.UnaryOp .USub (.Constant (.int 1) k p1) p2)) p3) (.ref a) (.ref s4.heap.objs.size)) (EP X pins σ Q) X.xe { s4 with heap := s4.heap.push { cls := .type "slice", data := .fields #[vl, vu, vs] } }
  refine tail_any (ops := [.ref a, .ref s4.heap.objs.size]) ht.typeIs (PyProof.Rows.slot_tuple_getitem.lookup) ?_ (by with_unfolding_all rfl)
  refine getItem_tuple_rev ht (Heap.IsSliceOf.new _ vl vu vs) pl pu ps ?_ (by rw [List.size_toArray]; omega)
  refine ⟨.ref _, _, I5.laid (t' := s4.toks) (o := .tup xs.reverse) (fun b ob q => Heap.get?_push_of_some _ q) (Nat.le_refl _) ?_, rfl, q _ (I5.hok.fresh (Nat.le_refl _))⟩
  exact ⟨by rw [List.length_reverse]; omega, _, r.reverse, IsTup.new _ _⟩
end
section
variable {K : PySem.W.Frag} {H : Hp} {Q : VK} {a : Addr} {xs : List V}
theorem slA_drop {z : Int} {i : Nat} (ez : z = (i : Nat)) (ha : SqT K H a xs) (le : i ≤ xs.length) (q : ∀ H' r, Same H H' → SqT K H' r (xs.drop i) → Q (.ref r) H') : rSlA K (.ref a) (some z) none H Q := by
  subst ez
  have e : cutV xs (some ((i : Nat) : Int)) none = xs.drop i := by
    unfold cutV
    rw [HT.sIx_nat, HT.sIx_none, Nat.min_eq_left le, List.take_of_length_le (by rw [List.length_drop]; exact Nat.le_refl _)]
  refine ⟨a, xs, rfl, ha, fun h => ?_, fun _ p np => q _ p (same_new np) (by rw [e]; exact T_new)⟩
  have h := h.1
  rw [HT.sIx_nat, Nat.min_eq_left le] at h
  subst h
  exact q H a (Same.refl _) (by rw [List.drop_zero]; exact ha)
theorem slA_take {z : Int} {i : Nat} (ez : z = (i : Nat)) (ha : SqT K H a xs) (le : i ≤ xs.length) (q : ∀ H' r, Same H H' → SqT K H' r (xs.take i) → Q (.ref r) H') : rSlA K (.ref a) none (some z) H Q := by
  subst ez
  have e : cutV xs none (some ((i : Nat) : Int)) = xs.take i := by
    unfold cutV
    rw [HT.sIx_nat, HT.sIx_none, Nat.min_eq_left le, List.drop_zero, Nat.sub_zero]
  refine ⟨a, xs, rfl, ha, fun h => ?_, fun _ p np => q _ p (same_new np) (by rw [e]; exact T_new)⟩
  have h := h.2
  rw [HT.sIx_nat, Nat.min_eq_left le] at h
  subst h
  exact q H a (Same.refl _) (by rw [List.take_length]; exact ha)
theorem slA_dropN {σ : L2.St} {z : Int} {i : Nat} (ez : z = (i : Nat)) (ha : SqT K H a xs) (le : i ≤ xs.length) (q : ∀ H' r, Same H H' → SqT K H' r (xs.drop i) → Q (.ref r) H') : tNoPart σ H (fun u H3 => rSlA K (.ref a) (some z) u H3 Q) := slA_drop ez ha le q
theorem slA_mid {z y : Int} {i j : Nat} (ez : z = (i : Nat)) (ey : y = (j : Nat)) (ha : SqT K H a xs) (le : i ≤ j) (lj : j ≤ xs.length) (q : ∀ H' r, Same H H' → SqT K H' r ((xs.drop i).take (j - i)) → Q (.ref r) H') : rSlA K (.ref a) (some z) (some y) H Q := by
  subst ez
  subst ey
  have e : cutV xs (some ((i : Nat) : Int)) (some ((j : Nat) : Int)) = (xs.drop i).take (j - i) := by
    unfold cutV
    rw [HT.sIx_nat, HT.sIx_nat, Nat.min_eq_left (show i ≤ xs.length by omega), Nat.min_eq_left lj]
  refine ⟨a, xs, rfl, ha, fun h => ?_, fun _ p np => q _ p (same_new np) (by rw [e]; exact T_new)⟩
  have h1 := h.1
  have h2 := h.2
  rw [HT.sIx_nat, Nat.min_eq_left (show i ≤ xs.length by omega)] at h1
  rw [HT.sIx_nat, Nat.min_eq_left lj] at h2
  subst h1
  exact q H a (Same.refl _) (by rw [List.drop_zero, Nat.sub_zero, h2, List.take_length]; exact ha)
end
end LB
set_option Elab.async false
set_option linter.all false
set_option maxRecDepth 100000
set_option autoImplicit false
/-! The layer of data: operations. -/
namespace DL
open PySem PySem.Spec L2
open PyProof.Rows hiding St
abbrev O1 := D → St0 → Option D
abbrev O2 := D → D → St0 → Option D
abbrev OL := List D → St0 → Option D
def lift1 (o : O1) : D → St0 → R := fun x S => match o x S with
  | some d => .val d S
  | none => .stuck
def lift2 (o : O2) : D → D → St0 → R := fun x y S => match o x y S with
  | some d => .val d S
  | none => .stuck
def liftL (o : OL) : List D → St0 → R := fun x S => match o x S with
  | some d => .val d S
  | none => .stuck
theorem nx1 (o : O1) : ∀ x S, NoX (lift1 o x S) := fun x S C fs S' h => by unfold lift1 at h; split at h <;> cases h
theorem nx2 (o : O2) : ∀ x y S, NoX (lift2 o x y S) := fun x y S C fs S' h => by unfold lift2 at h; split at h <;> cases h
theorem nxL (o : OL) : ∀ x S, NoX (liftL o x S) := fun x S C fs S' h => by unfold liftL at h; split at h <;> cases h
section
variable {X : Cx} {K : PySem.W.Frag} {θ : Ad} {H : Hp} {S : St0} {Q : VK} {E : XK} {v w : V} {d e : D}
theorem up2 {o : O2} {f : Value → Value → Sem Value} {r : R2} (h : OpR X f r)
    (q : ∀ θ S H x y d e g Q, RSt X.K θ S H → RV X.K θ H x d → RV X.K θ H y e → o d e S = some g → PostV X.K θ H (.val g S) Q (fun _ _ _ => False) → r x y H Q) : OpD X f (lift2 o) := by
  intro pins s σ H x y v u Q I rx ry hh
  obtain ⟨θ, S, d, e, hs, hx, hy, p⟩ := hh
  unfold lift2 at p
  split at p
  · rename_i g hg
    exact h pins s σ H x y v u Q I rx ry (q θ S H x y d e g Q hs hx hy hg p)
  · exact p.elim
theorem up1 {o : O1} {f : Value → Sem Value} {r : V → Hp → VK → Prop} (h : UnR X f r)
    (q : ∀ θ S H x d g Q, RSt X.K θ S H → RV X.K θ H x d → o d S = some g → PostV X.K θ H (.val g S) Q (fun _ _ _ => False) → r x H Q) : UnD X f (lift1 o) := by
  intro pins s σ H x v Q I rx hh
  obtain ⟨θ, S, d, hs, hx, p⟩ := hh
  unfold lift1 at p
  split at p
  · rename_i g hg
    exact h pins s σ H x v Q I rx (q θ S H x d g Q hs hx hg p)
  · exact p.elim
theorem upL {o : OL} {f : Value} {r : List V → Hp → VK → Prop} (h : CallR X f r)
    (q : ∀ θ S H xs ds g Q, RSt X.K θ S H → RVs X.K θ H xs ds → o ds S = some g → PostV X.K θ H (.val g S) Q (fun _ _ _ => False) → r xs H Q) : CallD X f (liftL o) := by
  intro pins s σ H xs us Q I rx hh
  obtain ⟨θ, S, ds, hs, hx, p⟩ := hh
  unfold liftL at p
  split at p
  · rename_i g hg
    exact h pins s σ H xs us Q I rx (q θ S H xs ds g Q hs hx hg p)
  · exact p.elim
/-- one rule or another -/
theorem OpR.or {f : Value → Value → Sem Value} {r r' : R2} (h : OpR X f r) (h' : OpR X f r') : OpR X f (fun x y H Q => r x y H Q ∨ r' x y H Q) := by
  intro pins s σ H x y v u Q I rx ry q
  rcases q with q | q
  · exact h pins s σ H x y v u Q I rx ry q
  · exact h' pins s σ H x y v u Q I rx ry q
theorem CallR.or {f : Value} {r r' : List V → Hp → VK → Prop} (h : CallR X f r) (h' : CallR X f r') : CallR X f (fun x H Q => r x H Q ∨ r' x H Q) := by
  intro pins s σ H x u Q I rx q
  rcases q with q | q
  · exact h pins s σ H x u Q I rx q
  · exact h' pins s σ H x u Q I rx q
end
/-! ### lists and tuples as they stand -/
/-- a list's items, of the store or not -/
def lstOf (S : St0) : D → Option (List D)
  | .lst ds => some ds
  | .ref n => match S[n]? with
    | some (.lst ds) => some ds
    | _ => none
  | _ => none
/-- .. a tuple's too, or a list's that nobody can change -/
def itemsOf (S : St0) (d : D) : Option (List D) := (seqOf S d).map (·.2)
section
variable {K : PySem.W.Frag} {θ : Ad} {H : Hp} {S : St0} {v : V} {d : D} {ds : List D}
theorem lst_at (s : RSt K θ S H) (r : RV K θ H v d) (e : lstOf S d = some ds) : ∃ a vs, v = .ref a ∧ H a = some (.lst vs) ∧ RVs K θ H vs ds := by
  cases d <;> simp only [lstOf] at e <;> try cases e
  · cases r with
    | lst n h hs => exact ⟨_, _, rfl, h, hs⟩
  · rename_i n
    cases r with
    | @ref a _ hn =>
      split at e
      · rename_i xs q
        cases e
        obtain ⟨vs, h1, h2⟩ := s.lst hn q
        exact ⟨a, vs, rfl, h1, h2⟩
      · cases e
theorem items_at (s : RSt K θ S H) (r : RV K θ H v d) (e : itemsOf S d = some ds) : ∃ a vs, v = .ref a ∧ RVs K θ H vs ds ∧ (if isTup d = true then SqT K H a vs else SqL K H a vs) := by
  unfold itemsOf at e
  cases q : seqOf S d with
  | none => rw [q] at e; cases e
  | some p =>
    obtain ⟨src, ds'⟩ := p
    rw [q] at e; cases e
    obtain ⟨a, rfl, h, c⟩ := seq_tup s r q
    obtain ⟨vs, h1, h2⟩ := h.at_ θ H S (Up.refl s) s c
    exact ⟨a, vs, rfl, h1, h2⟩
theorem items_or (s : RSt K θ S H) (r : RV K θ H v d) (e : itemsOf S d = some ds) : ∃ a vs, v = .ref a ∧ RVs K θ H vs ds ∧ (SqL K H a vs ∨ SqT K H a vs) := by
  obtain ⟨a, vs, h1, h2, h3⟩ := items_at s r e
  refine ⟨a, vs, h1, h2, ?_⟩
  cases t : isTup d with
  | true => rw [t, if_pos rfl] at h3; exact .inr h3
  | false => rw [t, if_neg Bool.false_ne_true] at h3; exact .inl h3
end
/-! ### numbers, texts -/
def b2d (k : Bool) : Int := if k then 1 else 0
def opAdd : O2
  | .int i, .int j, _ => some (.int (i + j))
  | .int i, .bl k, _ => some (.int (i + b2i k))
  | .str a, .str b, _ => if a.length + b.length ≤ sizeLine then some (.str (a ++ b)) else none
  | .tup xs, .tup ys, _ => if xs.length + ys.length ≤ sizeLine then some (.tup (xs ++ ys)) else none
  | x, y, S => match lstOf S x, lstOf S y with
    | some xs, some ys => if xs.length + ys.length ≤ sizeLine then some (.lst (xs ++ ys)) else none
    | _, _ => none
def opSub : O2
  | .int i, .int j, _ => some (.int (i - j))
  | _, _, _ => none
def lt64 (i : Int) : Bool := decide (-(2 ^ 64) < i) && decide (i < 2 ^ 64)
def mulOk (i j : Int) : Bool := lt64 i || (lt64 j || decide (i.natAbs.log2 + j.natAbs.log2 < 1000000))
theorem lt64_of {i : Int} (h : -(2 ^ 64) < i) (h2 : i < 2 ^ 64) : lt64 i = true := by unfold lt64; rw [decide_eq_true h, decide_eq_true h2]; rfl
theorem mulOk_l {i j : Int} (h : -(2 ^ 64) < i) (h2 : i < 2 ^ 64) : mulOk i j = true := by simp [mulOk, lt64_of h h2]
theorem mulOk_r {i j : Int} (h : -(2 ^ 64) < j) (h2 : j < 2 ^ 64) : mulOk i j = true := by simp [mulOk, lt64_of h h2]
theorem mulOk_w {i j : Int} (h : i.natAbs.log2 + j.natAbs.log2 < 1000000) : mulOk i j = true := by simp [mulOk, h]
theorem mulOk_of {i j : Int} (h : mulOk i j = true) : CMul i j ∨ CMulW i j := by
  unfold mulOk lt64 at h
  simp only [Bool.or_eq_true, Bool.and_eq_true, decide_eq_true_eq] at h
  rcases h with h | h | h
  · exact .inl (.inl h)
  · exact .inl (.inr h)
  · exact .inr h
def opMul : O2
  | .int i, .int j, _ => if mulOk i j then some (.int (i * j)) else none
  | .tup xs, .int m, _ => if 0 < xs.length ∧ 1 ≤ m ∧ m.toNat * xs.length ≤ 1000000 then some (.tup (List.replicate m.toNat xs).flatten) else none
  | x, .int k, S => match lstOf S x with
    | some xs => if -(2 ^ 63) ≤ k ∧ k < 2 ^ 63 ∧ xs.length * k.toNat ≤ sizeLine then some (.lst (List.replicate k.toNat xs).flatten) else none
    | none => none
  | _, _, _ => none
def opFdiv : O2
  | .int i, .int j, _ => if 0 < j ∧ j.natAbs.log2 < 9000 then some (.int (i / j)) else none
  | _, _, _ => none
def opMod : O2
  | .int i, .int j, _ => if 0 < j then some (.int (i % j)) else none
  | _, _, _ => none
def opPow : O2
  | .int i, .int j, _ => if 0 ≤ j ∧ j ≤ 1000000 ∧ i.natAbs < 2 ^ 64 then some (.int (i ^ j.toNat)) else none
  | _, _, _ => none
def opNeg : O1
  | .int i, _ => some (.int (-i))
  | _, _ => none
def opLt : O2
  | .int i, .int j, _ => some (.bl (decide (i < j)))
  | .str i, .str j, _ => some (.bl (decide (i.cps.toList < j.cps.toList)))
  | _, _, _ => none
def opLe : O2
  | .int i, .int j, _ => some (.bl (decide (i ≤ j)))
  | .str i, .str j, _ => some (.bl (!decide (j.cps.toList < i.cps.toList)))
  | _, _, _ => none
def opGt : O2
  | .int i, .int j, _ => some (.bl (decide (j < i)))
  | .str i, .str j, _ => some (.bl (decide (j.cps.toList < i.cps.toList)))
  | _, _, _ => none
def opGe : O2
  | .int i, .int j, _ => some (.bl (decide (j ≤ i)))
  | .str i, .str j, _ => some (.bl (!decide (i.cps.toList < j.cps.toList)))
  | _, _, _ => none
section
variable {X : Cx}
theorem od_add : OpD X (binaryOp .Add) (lift2 opAdd) := by
  refine up2 (OpR.or op_add (OpR.or op_add_ib (OpR.or op_add_str (OpR.or LB.op_catS op_cat)))) fun θ S H x y d e g Q s rx ry h p => ?_
  unfold opAdd at h
  split at h
  · cases rx; cases ry; cases h
    exact .inl ⟨_, _, rfl, rfl, p.here s (.int _)⟩
  · cases rx; cases ry; cases h
    exact .inr (.inl ⟨_, _, rfl, rfl, p.here s (.int _)⟩)
  · cases rx; cases ry
    split at h
    · rename_i l
      cases h
      exact .inr (.inr (.inl ⟨_, _, rfl, rfl, l, p.here s (.str _)⟩))
    · cases h
  · cases rx with
    | tup h1 r1 =>
      cases ry with
      | tup h2 r2 =>
        split at h
        · rename_i l
          cases h
          refine .inr (.inr (.inr (.inl ⟨_, _, _, _, rfl, rfl, h1, h2, by rw [r1.len, r2.len]; exact l, fun H' r e t => ?_⟩)))
          have x : Ext θ [] H H' := ⟨fun a o q _ => e a o q, fun a q => e.free q, fun a m => by cases m⟩
          have z := (r1.app r2).ext x s
          rw [Ad.up_nil] at z
          exact p [] H' _ x (by rw [Ad.up_nil]; exact s.ext x fun a _ o q => e a o q) (by rw [Ad.up_nil]; exact .tup t z)
        · cases h
  · split at h
    · rename_i xs ys e1 e2
      split at h
      · rename_i l
        cases h
        obtain ⟨a, vs, rfl, h1, r1⟩ := lst_at s rx e1
        obtain ⟨b, ws, rfl, h2, r2⟩ := lst_at s ry e2
        exact .inr (.inr (.inr (.inr ⟨a, b, vs, ws, rfl, rfl, h1, h2, by rw [r1.len, r2.len]; exact l, fun p' hp => p.newLst s hp (r1.app r2)⟩)))
      · cases h
    · cases h
theorem od_sub : OpD X (binaryOp .Sub) (lift2 opSub) := by
  refine up2 op_sub fun θ S H x y d e g Q s rx ry h p => ?_
  unfold opSub at h
  split at h
  · cases rx; cases ry; cases h
    exact ⟨_, _, rfl, rfl, p.here s (.int _)⟩
  · cases h
theorem od_mul : OpD X (binaryOp .Mult) (lift2 opMul) := by
  refine up2 (OpR.or (OpR.or op_mul op_mulW) (OpR.or LB.op_repA op_rep)) fun θ S H x y d e g Q s rx ry h p => ?_
  unfold opMul at h
  split at h
  · cases rx; cases ry
    split at h
    · rename_i l
      cases h
      rcases mulOk_of l with l | l
      · exact .inl (.inl ⟨_, _, rfl, rfl, l, p.here s (.int _)⟩)
      · exact .inl (.inr ⟨_, _, rfl, rfl, l, p.here s (.int _)⟩)
    · cases h
  · cases rx with
    | tup h1 r1 =>
      cases ry
      split at h
      · rename_i l
        cases h
        refine .inr (.inl ⟨_, _, _, rfl, rfl, h1, by rw [r1.len]; exact l.1, l.2.1, by rw [r1.len]; exact l.2.2, fun H' r e t => ?_⟩)
        have x : Ext θ [] H H' := ⟨fun a o q _ => e a o q, fun a q => e.free q, fun a m => by cases m⟩
        have z := fun n => (r1.flat n).ext x s
        simp only [Ad.up_nil] at z
        exact p [] H' _ x (by rw [Ad.up_nil]; exact s.ext x fun a _ o q => e a o q) (by rw [Ad.up_nil]; exact .tup t (z _))
      · cases h
  · cases ry
    split at h
    · rename_i xs e1
      split at h
      · rename_i l
        cases h
        obtain ⟨a, vs, rfl, h1, r1⟩ := lst_at s rx e1
        exact .inr (.inr ⟨a, _, vs, rfl, rfl, h1, l.1, l.2.1, by rw [r1.len]; exact l.2.2, fun p' hp => p.newLst s hp (r1.flat _)⟩)
      · cases h
    · cases h
  · cases h
theorem od_fdiv : OpD X (binaryOp .FloorDiv) (lift2 opFdiv) := by
  refine up2 op_fdivW fun θ S H x y d e g Q s rx ry h p => ?_
  unfold opFdiv at h
  split at h
  · cases rx; cases ry
    split at h
    · rename_i l
      cases h
      exact ⟨_, _, rfl, rfl, l, p.here s (.int _)⟩
    · cases h
  · cases h
theorem od_mod : OpD X (binaryOp .Mod) (lift2 opMod) := by
  refine up2 op_mod fun θ S H x y d e g Q s rx ry h p => ?_
  unfold opMod at h
  split at h
  · cases rx; cases ry
    split at h
    · rename_i l
      cases h
      exact ⟨_, _, rfl, rfl, l, p.here s (.int _)⟩
    · cases h
  · cases h
theorem od_pow : OpD X (binaryOp .Pow) (lift2 opPow) := by
  refine up2 op_pow fun θ S H x y d e g Q s rx ry h p => ?_
  unfold opPow at h
  split at h
  · cases rx; cases ry
    split at h
    · rename_i l
      cases h
      exact ⟨_, _, rfl, rfl, l, p.here s (.int _)⟩
    · cases h
  · cases h
theorem od_neg : UnD X (unaryOp .USub) (lift1 opNeg) := by
  refine up1 un_neg fun θ S H x d g Q s rx h p => ?_
  unfold opNeg at h
  split at h
  · cases rx; cases h
    exact ⟨_, rfl, p.here s (.int _)⟩
  · cases h
theorem od_lt : OpD X (compareOp .Lt) (lift2 opLt) := by
  refine up2 (OpR.or op_lt op_lt_str) fun θ S H x y d e g Q s rx ry h p => ?_
  unfold opLt at h
  split at h
  · cases rx; cases ry; cases h; exact .inl ⟨_, _, rfl, rfl, p.here s (.bl _)⟩
  · cases rx; cases ry; cases h; exact .inr ⟨_, _, rfl, rfl, p.here s (.bl _)⟩
  · cases h
theorem od_le : OpD X (compareOp .LtE) (lift2 opLe) := by
  refine up2 (OpR.or op_le op_le_str) fun θ S H x y d e g Q s rx ry h p => ?_
  unfold opLe at h
  split at h
  · cases rx; cases ry; cases h; exact .inl ⟨_, _, rfl, rfl, p.here s (.bl _)⟩
  · cases rx; cases ry; cases h; exact .inr ⟨_, _, rfl, rfl, p.here s (.bl _)⟩
  · cases h
theorem od_gt : OpD X (compareOp .Gt) (lift2 opGt) := by
  refine up2 (OpR.or op_gt op_gt_str) fun θ S H x y d e g Q s rx ry h p => ?_
  unfold opGt at h
  split at h
  · cases rx; cases ry; cases h; exact .inl ⟨_, _, rfl, rfl, p.here s (.bl _)⟩
  · cases rx; cases ry; cases h; exact .inr ⟨_, _, rfl, rfl, p.here s (.bl _)⟩
  · cases h
theorem od_ge : OpD X (compareOp .GtE) (lift2 opGe) := by
  refine up2 (OpR.or op_ge op_ge_str) fun θ S H x y d e g Q s rx ry h p => ?_
  unfold opGe at h
  split at h
  · cases rx; cases ry; cases h; exact .inl ⟨_, _, rfl, rfl, p.here s (.bl _)⟩
  · cases rx; cases ry; cases h; exact .inr ⟨_, _, rfl, rfl, p.here s (.bl _)⟩
  · cases h
end
/-! ### data: ==, in -/
mutual
/-- a value as data; g: the store's things -/
def D.py (g : Nat → Option PyData) : D → Option PyData
  | .non => some .none
  | .bl b => some (.bool b)
  | .int i => some (.int i)
  | .str s => some (.str s)
  | .tup xs => (D.pys g xs).map .tuple
  | .lst xs => (D.pys g xs).map .list
  | .fls xs => (D.pys g xs).map .list
  | .ref n => g n
  | _ => none
def D.pys (g : Nat → Option PyData) : List D → Option (List PyData)
  | [] => some []
  | x :: xs => match D.py g x with
    | none => none
    | some y => (D.pys g xs).map (y :: ·)
end
def pyRef (S : St0) : Nat → Nat → Option PyData
  | 0, _ => none
  | f + 1, n => match S[n]? with
    | some (.lst xs) => (D.pys (pyRef S f) xs).map .list
    | _ => none
def pyOf (S : St0) (d : D) : Option PyData := d.py (pyRef S S.length)
section
variable {K : PySem.W.Frag} {θ : Ad} {H : Hp} {S : St0} {v : V} {d : D} {ds : List D}
mutual
theorem RV.py {g : Nat → Option PyData} (t : ∀ n a z, θ.ix[n]? = some a → g n = some z → Dp K H (.ref a) z) : ∀ {v : V} {d : D}, RV K θ H v d → ∀ z, d.py g = some z → Dp K H v z
  | _, _, .non => fun z c => by cases c; exact .non
  | _, _, .bl b => fun z c => by cases c; exact .bl b
  | _, _, .int i => fun z c => by cases c; exact .int i
  | _, _, .str s => fun z c => by cases c; exact .str s
  | _, _, .ref h => fun z c => t _ _ _ h c
  | _, _, .opq v => fun z c => by cases c
  | _, _, .ins _ _ _ _ => fun z c => by cases c
  | _, _, .dctK _ _ _ _ => fun z c => by cases c
  | _, _, .dcn _ _ _ _ _ => fun z c => by cases c
  | _, _, .tupF _ _ _ => fun z c => by cases c
  | _, _, .exn0 _ _ => fun z c => by cases c
  | _, _, .exn _ _ _ _ _ _ => fun z c => by cases c
  | _, _, .tup (ds := ds) h hs => fun z c => by
    unfold D.py at c
    cases q : D.pys g ds with
    | none => rw [q] at c; cases c
    | some es => rw [q] at c; cases c; exact .tup h (RVs.py t hs _ q)
  | _, _, .lst (ds := ds) n h hs => fun z c => by
    unfold D.py at c
    cases q : D.pys g ds with
    | none => rw [q] at c; cases c
    | some es => rw [q] at c; cases c; exact .lst (SqL.of h) (RVs.py t hs _ q)
  | _, _, .fls (ds := ds) h hs => fun z c => by
    unfold D.py at c
    cases q : D.pys g ds with
    | none => rw [q] at c; cases c
    | some es => rw [q] at c; cases c; exact .lst h.sq (RVs.py t hs _ q)
theorem RVs.py {g : Nat → Option PyData} (t : ∀ n a z, θ.ix[n]? = some a → g n = some z → Dp K H (.ref a) z) : ∀ {vs : List V} {ds : List D}, RVs K θ H vs ds → ∀ zs, D.pys g ds = some zs → DpAll K H vs zs
  | _, _, .nil => fun z c => by cases c; exact .nil
  | _, _, .cons (d := d) (ds := ds) h hs => fun z c => by
    unfold D.pys at c
    cases q : D.py g d with
    | none => rw [q] at c; cases c
    | some e =>
      rw [q] at c
      cases y : D.pys g ds with
      | none => simp only [y] at c; cases c
      | some es => simp only [y] at c; cases c; exact .cons (RV.py t h _ q) (RVs.py t hs _ y)
end
theorem py_ref (s : RSt K θ S H) : ∀ f n a z, θ.ix[n]? = some a → pyRef S f n = some z → Dp K H (.ref a) z := by
  intro f
  induction f with
  | zero => intro n a z _ h; cases h
  | succ f ih =>
    intro n a z hn h
    unfold pyRef at h
    split at h
    · rename_i xs q
      obtain ⟨vs, h1, h2⟩ := s.lst hn q
      cases y : D.pys (pyRef S f) xs with
      | none => rw [y] at h; cases h
      | some es => rw [y] at h; cases h; exact .lst (SqL.of h1) (h2.py ih _ y)
    · cases h
theorem py_at (s : RSt K θ S H) (r : RV K θ H v d) {z : PyData} (h : pyOf S d = some z) : Dp K H v z := r.py (py_ref s _) z h
end
def shp (z : PyData) : Bool := SeqAt.shaped z
def opEq : O2 := fun x y S => match pyOf S x, pyOf S y with
  | some a, some b => if shp a && shp b then some (.bl (PyData.eqv a b)) else none
  | _, _ => none
def opNe : O2 := fun x y S => match pyOf S x, pyOf S y with
  | some a, some b => if shp a && shp b then some (.bl (!PyData.eqv a b)) else none
  | _, _ => none
/-- x in y -/
def opIn (neg : Bool) : O2 := fun x y S => match pyOf S x, pyOf S y with
  | some a, some (.list bs) => if shp a && shp (.list bs) then some (.bl (if neg then !(bs.any fun z => PyData.eqv z a) else bs.any fun z => PyData.eqv z a)) else none
  | some a, some (.tuple bs) => if shp a && shp (.tuple bs) then some (.bl (if neg then !(bs.any fun z => PyData.eqv z a) else bs.any fun z => PyData.eqv z a)) else none
  | some (.str a), some (.str b) => some (.bl (if neg then !(!(Builtin.Str.occurrences b a 0 b.length 1).isEmpty) else !(Builtin.Str.occurrences b a 0 b.length 1).isEmpty))
  | _, _ => none
/-- x in a tuple of data of any depth -/
def rInDT (K : PySem.W.Frag) (neg : Bool) : R2 := fun x y H Q => ∃ d ds, Dp K H x d ∧ Dp K H y (.tuple ds) ∧ SeqAt.shaped d = true ∧ SeqAt.shaped (.tuple ds) = true ∧ Q (.bl (if neg then !(ds.any fun z => PyData.eqv z d) else ds.any fun z => PyData.eqv z d)) H
section
variable {X : Cx}
theorem op_inDT (hu : X.A.units + 65 < cLine) : OpR X (compareOp .In) (rInDT X.K false) := by
  intro pins s σ H x y v u Q I rx ry h
  obtain ⟨d, ds, hd, he, sd, se, q⟩ := h
  obtain ⟨as, r1⟩ := Dp.reads I d x v hd rx
  obtain ⟨bs, r2⟩ := Dp.reads I (.tuple ds) y u he ry
  exact SeqAt.in_tuple_reads r2 r1 (SeqAt.canLay_of_shaped se) (SeqAt.canLay_of_shaped sd) (room_in_shaped sd hu) ⟨.bl _, H, I, rfl, q⟩
theorem op_notInDT (hu : X.A.units + 65 < cLine) : OpR X (compareOp .NotIn) (rInDT X.K true) := by
  intro pins s σ H x y v u Q I rx ry h
  obtain ⟨d, ds, hd, he, sd, se, q⟩ := h
  obtain ⟨as, r1⟩ := Dp.reads I d x v hd rx
  obtain ⟨bs, r2⟩ := Dp.reads I (.tuple ds) y u he ry
  exact SeqAt.notIn_tuple_reads r2 r1 (SeqAt.canLay_of_shaped se) (SeqAt.canLay_of_shaped sd) (room_in_shaped sd hu) ⟨.bl _, H, I, rfl, q⟩
theorem hu64 {k : Nat} (hr : Room k X.A) : X.A.units + 64 < cLine := hr.units
theorem od_eq (hu : X.A.units + 64 < cLine) : OpD X (compareOp .Eq) (lift2 opEq) := by
  refine up2 (op_eqD hu) fun θ S H x y d e g Q s rx ry h p => ?_
  unfold opEq at h
  split at h
  · rename_i a b e1 e2
    split at h
    · rename_i c
      cases h
      simp only [shp, Bool.and_eq_true] at c
      exact ⟨a, b, py_at s rx e1, py_at s ry e2, c.1, c.2, p.here s (.bl _)⟩
    · cases h
  · cases h
theorem od_ne (hu : X.A.units + 64 < cLine) : OpD X (compareOp .NotEq) (lift2 opNe) := by
  refine up2 (op_neD hu) fun θ S H x y d e g Q s rx ry h p => ?_
  unfold opNe at h
  split at h
  · rename_i a b e1 e2
    split at h
    · rename_i c
      cases h
      simp only [shp, Bool.and_eq_true] at c
      exact ⟨a, b, py_at s rx e1, py_at s ry e2, c.1, c.2, p.here s (.bl _)⟩
    · cases h
  · cases h
theorem od_in (hu : X.A.units + 65 < cLine) : OpD X (compareOp .In) (lift2 (opIn false)) := by
  refine up2 (OpR.or (op_inD hu) (OpR.or (op_inDT hu) op_in_str)) fun θ S H x y d e g Q s rx ry h p => ?_
  unfold opIn at h
  split at h
  · rename_i a bs e1 e2
    split at h
    · rename_i c
      cases h
      simp only [shp, Bool.and_eq_true] at c
      exact .inl ⟨a, bs, py_at s rx e1, py_at s ry e2, c.1, c.2, p.here s (.bl _)⟩
    · cases h
  · rename_i a bs e1 e2
    split at h
    · rename_i c
      cases h
      simp only [shp, Bool.and_eq_true] at c
      exact .inr (.inl ⟨a, bs, py_at s rx e1, py_at s ry e2, c.1, c.2, p.here s (.bl _)⟩)
    · cases h
  · rename_i a b e1 e2
    cases h
    have h1 := py_at s rx e1
    have h2 := py_at s ry e2
    cases h1; cases h2
    exact .inr (.inr ⟨_, _, rfl, rfl, p.here s (.bl _)⟩)
  · cases h
theorem od_notIn (hu : X.A.units + 65 < cLine) : OpD X (compareOp .NotIn) (lift2 (opIn true)) := by
  refine up2 (OpR.or (op_notInD hu) (OpR.or (op_notInDT hu) op_notin_str)) fun θ S H x y d e g Q s rx ry h p => ?_
  unfold opIn at h
  split at h
  · rename_i a bs e1 e2
    split at h
    · rename_i c
      cases h
      simp only [shp, Bool.and_eq_true] at c
      exact .inl ⟨a, bs, py_at s rx e1, py_at s ry e2, c.1, c.2, p.here s (.bl _)⟩
    · cases h
  · rename_i a bs e1 e2
    split at h
    · rename_i c
      cases h
      simp only [shp, Bool.and_eq_true] at c
      exact .inr (.inl ⟨a, bs, py_at s rx e1, py_at s ry e2, c.1, c.2, p.here s (.bl _)⟩)
    · cases h
  · rename_i a b e1 e2
    cases h
    have h1 := py_at s rx e1
    have h2 := py_at s ry e2
    cases h1; cases h2
    exact .inr (.inr ⟨_, _, rfl, rfl, p.here s (.bl _)⟩)
  · cases h
/-! is -/
def opIs (neg : Bool) : O2
  | .non, .non, _ => some (.bl (!neg))
  | .bl a, .bl b, _ => some (.bl (if neg then !decide (a = b) else decide (a = b)))
  | .opq _, .non, _ => none
  | .ref _, .non, _ => some (.bl neg)
  | .bl _, .non, _ => some (.bl neg)
  | .int _, .non, _ => some (.bl neg)
  | .str _, .non, _ => some (.bl neg)
  | .tup _, .non, _ => some (.bl neg)
  | .lst _, .non, _ => some (.bl neg)
  | .fls _, .non, _ => some (.bl neg)
  | .ins _ _ _, .non, _ => some (.bl neg)
  | .dct _ _, .non, _ => some (.bl neg)
  | .dcn _ _, .non, _ => some (.bl neg)
  | .exn _ _ _, .non, _ => some (.bl neg)
  | _, _, _ => none
theorem od_is : OpD X (compareOp .Is) (lift2 (opIs false)) := by
  refine up2 (OpR.or op_isN op_is_bl) fun θ S H x y d e g Q s rx ry h p => ?_
  unfold opIs at h
  split at h <;> first | (cases rx <;> cases ry <;> cases h <;> first | exact .inl ⟨rfl, p.here s (.bl _)⟩ | exact .inr ⟨_, _, rfl, rfl, p.here s (.bl _)⟩) | cases h
theorem od_isNot : OpD X (compareOp .IsNot) (lift2 (opIs true)) := by
  refine up2 (OpR.or op_notN op_isnot_bl) fun θ S H x y d e g Q s rx ry h p => ?_
  unfold opIs at h
  split at h <;> first | (cases rx <;> cases ry <;> cases h <;> first | exact .inl ⟨rfl, p.here s (.bl _)⟩ | exact .inr ⟨_, _, rfl, rfl, p.here s (.bl _)⟩) | cases h
/-! places -/
def opIx : O2 := fun x y S => match y with
  | .int i => match x with
    | .str z => if z.length ≤ sizeLine then (atI z.cps.toList i).map fun c => .str ⟨#[c]⟩ else none
    | _ => match itemsOf S x with
      | some ds => atI ds i
      | none => none
  | _ => none
theorem atI_of {K : PySem.W.Frag} {θ : Ad} {H : Hp} {vs : List V} {ds : List D} {i : Int} {d : D} (r : RVs K θ H vs ds) (h : atI ds i = some d) : ∃ v, atI vs i = some v ∧ RV K θ H v d := by
  unfold atI at h ⊢
  rw [r.len]
  cases q : ixN ds.length i with
  | none => rw [q] at h; cases h
  | some j =>
    rw [q] at h
    exact r.at (n := j) h
theorem id_seq : IxD X (lift2 opIx) := by
  intro value slice pins s σ H x y v u Q I rx ry hh hs
  obtain ⟨θ, S, d, e, st, hx, hy, p⟩ := hh
  unfold lift2 at p
  split at p
  · rename_i g h
    refine ix_seq value slice pins s σ H x y v u Q I rx ry ?_ hs
    unfold opIx at h
    split at h
    · rename_i i
      cases hy
      split at h
      · rename_i z
        cases hx
        split at h
        · rename_i l
          cases q : atI z.cps.toList i with
          | none => rw [q] at h; cases h
          | some c => rw [q] at h; cases h; exact .inr (.inr ⟨_, _, c, rfl, rfl, l, q, p.here st (.str _)⟩)
        · cases h
      · split at h
        · rename_i ds q
          obtain ⟨a, vs, rfl, r1, k⟩ := items_or st hx q
          obtain ⟨w, h1, h2⟩ := atI_of r1 h
          rcases k with k | k
          · exact .inl ⟨a, vs, i, w, rfl, rfl, k, h1, p.here st h2⟩
          · exact .inr (.inl ⟨a, vs, i, w, rfl, rfl, k, h1, p.here st h2⟩)
        · cases h
    · cases h
  · exact p.elim
end
end DL
set_option Elab.async false
set_option linter.all false
set_option maxRecDepth 100000
set_option autoImplicit false
/-! The layer of data: displays, slices, fields, kinds, built-in functions. -/
namespace DL
open PySem PySem.Spec L2 RS
open PyProof.Rows hiding St
/-! ### displays -/
def mTup (a : MA) : ME := fun ρ S => (a ρ S).bind fun ds S1 => if ds.length ≤ 1000 then .val (.tup ds) S1 else .stuck
/-- al: in the store -/
def mLst (al : Bool) (a : MA) : ME := fun ρ S => (a ρ S).bind fun ds S1 => if ds.length ≤ 1000 then finL al ds S1 else .stuck
theorem line1000 : (1000 : Nat) ≤ sizeLine := by rw [sizeLine_eq]; decide
section
variable {X : Cx} {W : WX} {pos p : Pos} {a b c e o : Expr} {es : List Expr} {m m1 m2 : ME} {ms : MA}
theorem de_tup {x1} (h : DAs X W es ms) : DE X W (.Tuple es x1 pos) (mTup ms) := by
  refine PE.imp (pe_tup h) fun σ H Q ⟨θ, ρ, S, n, s, p⟩ => ⟨θ, ρ, S, n, s, PostA.bind s p fun vs H1 θ1 S1 ds u s1 rs p1 => ?_⟩
  split at p1
  · rename_i l
    exact ⟨by rw [rs.len]; exact Nat.le_trans l line1000, fun q hq => p1.newTup s1 hq rs⟩
  · exact p1.elim
theorem fin_post {K : PySem.W.Frag} {θ : Ad} {H : Hp} {S : St0} {Q : VK} {E : XK} {al : Bool} {vs : List V} {ds : List D} {q : Addr} (p : PostV K θ H (finL al ds S) Q E) (s : RSt K θ S H) (r : RVs K θ H vs ds) (hq : H q = none) : Q (.ref q) (upd H q (.lst vs)) := by
  unfold finL at p
  cases al with
  | false => exact p.newLst s hq r
  | true => exact PostV.add p s hq (.lst upd_same (r.ext (Ext.laid1 θ hq) s))
theorem de_lst {al : Bool} (h : DAs X W es ms) : DE X W (.List es pos) (mLst al ms) := by
  refine PE.imp (pe_lst h) fun σ H Q ⟨θ, ρ, S, n, s, p⟩ => ⟨θ, ρ, S, n, s, PostA.bind s p fun vs H1 θ1 S1 ds u s1 rs p1 => ?_⟩
  split at p1
  · rename_i l
    exact ⟨by rw [rs.len]; exact Nat.le_trans l line1000, fun q hq => fin_post p1 s1 rs hq⟩
  · exact p1.elim
/-! ### slices -/
def cut {α : Type} (xs : List α) (lo hi : Option Int) : List α := (xs.drop (HT.sIx xs.length 0 lo)).take (HT.sIx xs.length xs.length hi - HT.sIx xs.length 0 lo)
def slS (al : Bool) (x : D) (lo hi : Option Int) (S : St0) : R := match x with
  | .str z => if z.length ≤ sizeLine then .val (.str (cutS z lo hi)) S else .stuck
  | .tup ds => .val (.tup (cut ds lo hi)) S
  | _ => match itemsOf S x with
    | some ds => finL al (cut ds lo hi) S
    | none => .stuck
/-- a part of a slice -/
def mPart (o : Option ME) (ρ : Env0) (S : St0) (k : Option Int → St0 → R) : R := match o with
  | none => k none S
  | some m => (m ρ S).bind fun d S1 => match d with
    | .int i => k (some i) S1
    | _ => .stuck
def mSl (al : Bool) (m : ME) (lo hi : Option ME) : ME := fun ρ S => (m ρ S).bind fun x S1 => mPart lo ρ S1 fun l S2 => mPart hi ρ S2 fun h S3 => slS al x l h S3
def DPo (X : Cx) (W : WX) (e : Option Expr) (m : Option ME) : Prop := ∀ (K : PySem.W.Frag) (hK : X.K = K), match e, m with
  | none, none => True
  | some e, some m => DE X W e m
  | _, _ => False
theorem RVs.cut {K : PySem.W.Frag} {θ : Ad} {H : Hp} {vs : List V} {ds : List D} (r : RVs K θ H vs ds) (lo hi : Option Int) : RVs K θ H (cutV vs lo hi) (DL.cut ds lo hi) := by
  unfold cutV DL.cut
  rw [r.len]
  exact (r.dropN _).take _
theorem cut_all {vs : List V} {lo hi : Option Int} (h : HT.sIx vs.length 0 lo = 0 ∧ HT.sIx vs.length vs.length hi = vs.length) : cutV vs lo hi = vs := by
  unfold cutV
  rw [h.1, h.2]
  simp
def rSlD (K : PySem.W.Frag) : V → Option Int → Option Int → Hp → VK → Prop := fun x lo hi H Q => ∃ al θ S d, RSt K θ S H ∧ RV K θ H x d ∧ PostV K θ H (slS al d lo hi S) Q (fun _ _ _ => False)
theorem sl_D : SlR X (rSlD X.K) := by
  intro pins s σ H x v vl vu lo hi sl Q I rx hs pl pu h
  obtain ⟨al, θ, S, d, st, r, p⟩ := h
  have main : (rSlA X.K x lo hi H Q ∨ rSlL X.K x lo hi H Q) ∨ rSlS x lo hi H Q := by
    unfold slS at p
    split at p
    · cases r
      split at p
      · rename_i l
        exact .inr ⟨_, rfl, l, p.here st (.str _)⟩
      · exact p.elim
    · cases r with
      | tup ht hv =>
        refine .inl (.inl ⟨_, _, rfl, ht, fun hw => ?_, fun _ q hq => p.newTup st hq (hv.cut lo hi)⟩)
        have := hv.cut lo hi
        rw [cut_all hw] at this
        exact p.here st (.tup ht this)
    · rename_i n1 n2
      split at p
      · rename_i ds e
        obtain ⟨a, vs, rfl, hv, k⟩ := items_at st r e
        have t : isTup d = false := by cases d <;> first | rfl | exact (n2 _ rfl).elim
        rw [t, if_neg Bool.false_ne_true] at k
        exact .inl (.inr ⟨a, vs, rfl, k, fun q hq => fin_post p st (hv.cut lo hi) hq⟩)
      · exact p.elim
  exact ((sl_tupA.or sl_list).or sl_str) pins s σ H x v vl vu lo hi sl Q I rx hs pl pu main
theorem part_none {σ : L2.St} {H : Hp} {Q : Option Int → Hp → Prop} : tNoPart σ H Q = Q none H := rfl
theorem de_sl {al : Bool} {lo hi : Option Expr} {p2 : Pos} {ml mh : Option ME} (he : DE X W e m) (hl : match lo, ml with | none, none => True | some x, some y => DE X W x y | _, _ => False) (hh : match hi, mh with | none, none => True | some x, some y => DE X W x y | _, _ => False) :
    DE X W (.Subscript e (.Slice lo hi none p2) pos) (mSl al m ml mh) := by
  have base : ∀ {θ : Ad} {S : St0} {H : Hp} {x : V} {d : D} {l h : Option Int} {Q : VK} {E : XK}, RSt X.K θ S H → RV X.K θ H x d → PostV X.K θ H (slS al d l h S) Q E → rSlD X.K x l h H Q := fun {θ S H x d l h Q E} s r p => by
    refine ⟨al, θ, S, d, s, r, ?_⟩
    refine p.nox fun C fs S' z => ?_
    unfold slS finL at z
    split at z
    · split at z <;> cases z
    · cases z
    · split at z
      · split at z <;> cases z
      · cases z
  cases lo with
  | none =>
    cases ml with
    | some _ => exact hl.elim
    | none =>
      cases hi with
      | none =>
        cases mh with
        | some _ => exact hh.elim
        | none => exact PE.imp (pe_slice sl_D he po_none po_none) fun σ H Q ⟨θ, ρ, S, n, s, p⟩ => ⟨θ, ρ, S, n, s, p.binde s fun x H1 θ1 S1 d u s1 rx p1 => base s1 rx p1⟩
      | some h =>
        cases mh with
        | none => exact hh.elim
        | some mh =>
          refine PE.imp (pe_slice sl_D he po_none (po_some hh)) fun σ H Q ⟨θ, ρ, S, n, s, p⟩ => ⟨θ, ρ, S, n, s, p.binde s fun x H1 θ1 S1 d u s1 rx p1 => ⟨θ1, ρ, S1, u.ren n, s1, PostV.binde s1 p1 fun y H2 θ2 S2 d2 u2 s2 r2 p2 => ?_⟩⟩
          cases d2 <;> try exact p2.elim
          cases r2
          exact ⟨_, rfl, base s2 (u2.rv rx) p2⟩
  | some l =>
    cases ml with
    | none => exact hl.elim
    | some ml =>
      cases hi with
      | none =>
        cases mh with
        | some _ => exact hh.elim
        | none =>
          refine PE.imp (pe_slice sl_D he (po_some hl) po_none) fun σ H Q ⟨θ, ρ, S, n, s, p⟩ => ⟨θ, ρ, S, n, s, p.binde s fun x H1 θ1 S1 d u s1 rx p1 => ⟨θ1, ρ, S1, u.ren n, s1, PostV.binde s1 p1 fun y H2 θ2 S2 d2 u2 s2 r2 p2 => ?_⟩⟩
          cases d2 <;> try exact p2.elim
          cases r2
          exact ⟨_, rfl, base s2 (u2.rv rx) p2⟩
      | some h =>
        cases mh with
        | none => exact hh.elim
        | some mh =>
          refine PE.imp (pe_slice sl_D he (po_some hl) (po_some hh)) fun σ H Q ⟨θ, ρ, S, n, s, p⟩ => ⟨θ, ρ, S, n, s, p.binde s fun x H1 θ1 S1 d u s1 rx p1 => ⟨θ1, ρ, S1, u.ren n, s1, PostV.binde s1 p1 fun y H2 θ2 S2 d2 u2 s2 r2 p2 => ?_⟩⟩
          cases d2 <;> try exact p2.elim
          cases r2
          refine ⟨_, rfl, θ2, ρ, S2, u2.ren (u.ren n), s2, PostV.binde s2 p2 fun y H3 θ3 S3 d3 u3 s3 r3 p3 => ?_⟩
          cases d3 <;> try exact p3.elim
          cases r3
          exact ⟨_, rfl, base s3 (u3.rv (u2.rv rx)) p3⟩
/-! ### fields -/
def lookF (f : Str) : List Str → List D → Option D
  | n :: ns, x :: xs => if f = n then some x else lookF f ns xs
  | _, _ => none
/-- the fields of an instance of one of the classes -/
def insOf (cs : List Addr) (S : St0) : D → Option (List Str × List D)
  | .ins C ns xs => if C ∈ cs then some (ns, xs) else none
  | .ref n => match S[n]? with
    | some (.ins C ns xs) => if C ∈ cs then some (ns, xs) else none
    | _ => none
  | _ => none
def mFld (cs : List Addr) (f : Str) (m : ME) : ME := mUn (lift1 fun d S => match insOf cs S d with
  | some (ns, xs) => lookF f ns xs
  | none => none) m
theorem look_at {K : PySem.W.Frag} {θ : Ad} {H : Hp} {f : Str} : ∀ {fs : List (Str × V)} {ns : List Str} {xs : List D} {d : D}, fs.map (·.1) = ns → RVs K θ H (fs.map (·.2)) xs → lookF f ns xs = some d → ∃ v, fs.lookup f = some v ∧ RV K θ H v d
  | [], _, _, _, e, r, h => by subst e; cases r; cases h
  | (n, v) :: fs, _, _, d, e, r, h => by
    subst e
    cases r with
    | cons r rs =>
      simp only [List.map_cons, lookF] at h
      by_cases z : f = n
      · rw [if_pos z] at h
        cases h
        exact ⟨v, by simp [List.lookup, z], r⟩
      · rw [if_neg z] at h
        obtain ⟨w, h1, h2⟩ := look_at rfl rs h
        exact ⟨w, by rw [List.lookup_cons, show (f == n) = false by simpa using z]; exact h1, h2⟩
theorem ins_at {K : PySem.W.Frag} {θ : Ad} {H : Hp} {S : St0} {v : V} {d : D} {cs : List Addr} {ns : List Str} {xs : List D} (s : RSt K θ S H) (r : RV K θ H v d) (e : insOf cs S d = some (ns, xs)) : ∃ a C dx fs, v = .ref a ∧ C ∈ cs ∧ H a = some (.ins C dx fs) ∧ fs.map (·.1) = ns ∧ RVs K θ H (fs.map (·.2)) xs := by
  cases d <;> simp only [insOf] at e <;> try cases e
  · split at e
    · rename_i hc
      cases e
      cases r with
      | ins n h q hs => exact ⟨_, _, _, _, rfl, hc, h, q, hs⟩
    · cases e
  · rename_i n
    cases r with
    | @ref a _ hn =>
      split at e
      · rename_i C ns' xs' q
        split at e
        · rename_i hc
          cases e
          cases s.ob n a _ hn q with
          | ins h q hs => exact ⟨_, _, _, _, rfl, hc, h, q, hs⟩
        · cases e
      · cases e
theorem de_fld {cs : List Addr} {f : Str} (he : DE X W e m) (hc : ∀ C ∈ cs, Cls X.K C ∧ NoAttr X.K C f) (hb : attributeBase e f X.env (eval e X.env) = eval e X.env := by rfl) : DE X W (.Attribute e f pos) (mFld cs f m) := by
  refine PE.imp (pe_fld he hb) fun σ H Q ⟨θ, ρ, S, n, s, p⟩ => ⟨θ, ρ, S, n, s, p.binde s fun x H1 θ1 S1 d u s1 rx p1 => ?_⟩
  unfold lift1 at p1
  simp only at p1
  split at p1
  · rename_i g h
    split at h
    · rename_i ns xs e1
      obtain ⟨a, C, dx, fs, rfl, mc, h1, h2, h3⟩ := ins_at s1 rx e1
      obtain ⟨w, l1, l2⟩ := look_at h2 h3 h
      exact ⟨a, C, dx, fs, w, rfl, h1, (hc C mc).1, (hc C mc).2, l1, p1.here s1 l2⟩
    · cases h
  · exact p1.elim
/-! ### kinds -/
inductive Kd : Type
  | b (n : String) | c (C : Addr) | x (C : Addr)
  deriving DecidableEq
def kindOf (S : St0) : D → Option Kd
  | .non => some (.b "NoneType")
  | .bl _ => some (.b "bool")
  | .int _ => some (.b "int")
  | .str _ => some (.b "str")
  | .tup _ => some (.b "tuple")
  | .lst _ => some (.b "list")
  | .fls _ => some (.b "list")
  | .dct _ _ => some (.b "dict")
  | .dcn _ _ => none
  | .tupF _ _ => none
  | .exn C _ _ => some (.x C)
  | .ins C _ _ => some (.c C)
  | .ref n => match S[n]? with
    | some (.lst _) => some (.b "list")
    | some (.ins C _ _) => some (.c C)
    | some (.dct _ _) => some (.b "dict")
    | some (.dcn _ _) => none
    | some (.tbl _ _) => none
    | none => none
  | .opq _ => none
def Kd.v : Kd → Value
  | .b n => .type n
  | .c C => .ref C
  | .x C => .ref C
/-- what is told of the own classes -/
structure ClassOK (K : PySem.W.Frag) (C : Addr) : Prop where
  ins : C8.InsC K C
  no : ∀ T ∈ ["int", "bool", "str", "tuple", "list", "dict"], PySem.W.kitOne K (.ref C) (.type T) = some false
theorem kind_at {K : PySem.W.Frag} {θ : Ad} {H : Hp} {S : St0} {v : V} {d : D} {t : Kd} (s : RSt K θ S H) (r : RV K θ H v d) (hc : ∀ C, t = .c C → ClassOK K C) (hx : ∀ C, t ≠ .x C) (e : kindOf S d = some t) : TyX K H v t.v := by
  have ins : ∀ {a C dx fs}, H a = some (.ins C dx fs) → ClassOK K C → TyX K H (.ref a) (.ref C) := fun h c => .base (.ins h c.ins.cl c.ins.ha c.ins.hn c.ins.htk c.ins.hm)
  cases d <;> simp only [kindOf, Option.some.injEq] at e
  case non => subst e; cases r; exact .base .non
  case bl => subst e; cases r; exact .base (.bl _)
  case int => subst e; cases r; exact .base (.int _)
  case str => subst e; cases r; exact .base (.str _)
  case tup => subst e; cases r with | tup h _ => exact LB.ty_t h
  case lst => subst e; cases r with | lst n h _ => exact LB.ty_l (SqL.of h)
  case fls => subst e; cases r with | fls h _ => exact LB.ty_l h.sq
  case dct =>
    subst e
    cases r with
    | dctK n h _ _ => exact .base (.dK h)
  case exn => exact absurd e.symm (hx _)
  case ins => subst e; cases r with | ins n h _ _ => exact ins h (hc _ rfl)
  case ref n =>
    cases r with
    | @ref a _ hn =>
      split at e
      · rename_i xs q
        cases e
        obtain ⟨vs, h1, _⟩ := s.lst hn q
        exact LB.ty_l (SqL.of h1)
      · rename_i C ns xs q
        cases e
        cases s.ob n a _ hn q with
        | ins h _ _ => exact ins h (hc _ rfl)
      · rename_i ks xs q
        cases e
        cases s.ob n a _ hn q with
        | dctK h _ _ => exact .base (.dK h)
      · cases e
      · cases e
      · cases e
  case dcn => cases e
  case tupF => cases e
  case opq => cases e
end
/-! ### exceptions that were caught -/
/-- what the written part says of a class of exceptions, for what its instances are asked -/
structure ExcOK (K : PySem.W.Frag) (C : Addr) : Prop where
  xf : XfC K C
  cl : (PySem.W.clsIn K C).isSome = true
  ha : PySem.W.findIn K (.ref C) "__class__" = some (some (.builtin "object.__class__"))
  hn : PySem.W.specialIn K (.builtin "object.__class__") "__get__" = some (some (.builtin "getset_descriptor.__get__"))
  htk : PySem.W.takesIn K (.builtin "object.__class__") = some true
  hm : PySem.W.mroIn K C (.type "object") = some true
section
variable {X : Cx} {pins : List (Addr × Obj)} {σ : L2.St} {H : Hp} {s : Shared} {a C d : Addr} {ws : List (Str × V)}
theorem exh_at (I : Inv X pins σ H s) (h : H a = some (exh a C none)) : ∃ oe, PySem.W.InstAt s.heap a oe C none := by
  have q : ObjOk X.prog X.w H s.heap a (exh a C none) := I.hok a _ h
  obtain ⟨⟨oe, vs, h1, h2, h3⟩, _⟩ := q
  exact ⟨oe, h1, h2.1, by unfold PySem.W.notCls; rw [h3] <;> rfl, by rw [h2.2] <;> trivial⟩
theorem exh_atd (I : Inv X pins σ H s) (h : H a = some (exh a C (some d))) (hd : H d = some (.xd ws)) : ∃ oe od, PySem.W.InstAt s.heap a oe C (some od) ∧ ∀ n v, ws.lookup n = some v → ∃ u, PySem.W.lookIn n od = some (some u) ∧ RelV v u := by
  have q : ObjOk X.prog X.w H s.heap a (exh a C (some d)) := I.hok a _ h
  obtain ⟨⟨oe, vs, h1, h2, h3⟩, _⟩ := q
  have q2 : ObjOk X.prog X.w H s.heap d (.xd ws) := I.hok d _ hd
  obtain ⟨mA, hns, hr⟩ := q2
  obtain ⟨od, ho, hl⟩ := lookIn_ns hns
  refine ⟨oe, od, ⟨h1, h2.1, by unfold PySem.W.notCls; rw [h3] <;> rfl, by rw [h2.2]; exact ho⟩, fun n v l => ?_⟩
  obtain ⟨u, hu, ru⟩ := RelO.some_of (v := v) (o := mA n) (by rw [← l]; exact hr n)
  exact ⟨u, by rw [hl, hu], ru⟩
end
/-- e.f of an exception -/
def tExf (K : PySem.W.Frag) (f : Str) (te : TE) : TE := fun σ H Q => te σ H fun x H1 => ∃ (a C d : Addr) (ws : List (Str × V)) (v : V), x = .ref a ∧ XfC K C ∧ PySem.W.findIn K (.ref C) f = some none ∧ H1 a = some (exh a C (some d)) ∧ H1 d = some (.xd ws) ∧ ws.lookup f = some v ∧ Q v H1
theorem pe_exf {X : Cx} {e : Expr} {te : TE} {pos : Pos} {n : Str} (he : PE X e te) (hb : attributeBase e n X.env (eval e X.env) = eval e X.env := by rfl) : PE X (.Attribute e n pos) (tExf X.K n te) := by
  refine ⟨fun pins s σ H Q I h => attr_of hb (thn (he.run pins s σ H _ I h) fun u s1 hh => ?_)⟩
  obtain ⟨x, H1, I1, rx, a, C, d, ws, v, ex, T, hno, ea, ed, l, q⟩ := hh
  subst ex
  obtain rfl : u = Value.ref a := rx
  obtain ⟨oe, od, J, lk⟩ := exh_atd I1 ea ed
  obtain ⟨w, hw, rw_⟩ := lk n v l
  exact HandSPX.exc_get I1.kIn J T.ga T.gg T.exC (PySem.W.findObj_own T.hdC hno rfl hw) (handed_of rw_) ⟨v, H1, I1.tok _, rw_, q⟩
/-- .. of the classes cs -/
def mExf (cs : List Addr) (f : Str) (m : ME) : ME := mUn (lift1 fun d _ => match d with
  | .exn C ns xs => if C ∈ cs then lookF f ns xs else none
  | _ => none) m
theorem look_zip {K : PySem.W.Frag} {θ : Ad} {H : Hp} {f : Str} : ∀ {ws : List (Str × V)} {ns : List Str} {ds : List D} {d : D}, ws.map (·.1) = ns → RVs K θ H (ws.map (·.2)) ds → lookF f ns ds = some d → ∃ v, ws.lookup f = some v ∧ RV K θ H v d
  | [], _, _, _, e, _, h => by subst e; cases h
  | (g, w) :: ws, _, _, _, e, r, h => by
    subst e
    cases r with
    | cons r rs =>
      simp only [List.map_cons, lookF] at h
      by_cases z : f = g
      · subst z
        rw [if_pos rfl] at h
        cases h
        exact ⟨w, by simp [List.lookup], r⟩
      · rw [if_neg z] at h
        obtain ⟨v, l, rv⟩ := look_zip rfl rs h
        refine ⟨v, ?_, rv⟩
        have z' : (f == g) = false := by simpa using z
        simp only [List.lookup, z']
        exact l
theorem de_exf {X : Cx} {W : WX} {cs : List Addr} {e : Expr} {m : ME} {pos : Pos} {f : Str} (he : DE X W e m) (hc : ∀ C ∈ cs, XfC X.K C ∧ PySem.W.findIn X.K (.ref C) f = some none) (hb : attributeBase e f X.env (eval e X.env) = eval e X.env := by rfl) : DE X W (.Attribute e f pos) (mExf cs f m) := by
  refine PE.imp (pe_exf he hb) fun σ H Q ⟨θ, ρ, S, n, s, p⟩ => ⟨θ, ρ, S, n, s, p.binde s fun x H1 θ1 S1 d u s1 rx p1 => ?_⟩
  unfold lift1 at p1
  simp only at p1
  split at p1
  · rename_i g h
    split at h
    · rename_i C ns xs
      split at h
      · rename_i mc
        cases rx with
        | exn0 n1 h1 => cases h
        | exn n1 n2 h1 h2 q rs =>
          obtain ⟨w, l1, l2⟩ := look_zip q rs h
          exact ⟨_, C, _, _, w, rfl, (hc C mc).1, (hc C mc).2, h1, h2, l1, p1.here s1 l2⟩
      · cases h
    · cases h
  · exact p1.elim
end DL
set_option Elab.async false
set_option linter.all false
set_option maxRecDepth 100000
set_option autoImplicit false
/-! The layer of data: built-in functions. -/
namespace DL
open PySem PySem.Spec L2 _root_.RS
open PyProof.Rows hiding St
def builtinIs (n T : String) : Bool := n == T || (n == "bool" && T == "int")
def sixT : List String := ["int", "bool", "str", "tuple", "list", "dict"]
def kindsT : List String := ["NoneType", "bool", "int", "str", "tuple", "list", "dict"]
theorem kit_tab {K : PySem.W.Frag} : ∀ n ∈ kindsT, ∀ T ∈ sixT, PySem.W.kitOne K (.type n) (.type T) = some (builtinIs n T) := by
  intro n hn T hT
  simp only [kindsT, sixT, List.mem_cons, List.mem_nil_iff, or_false] at hn hT
  rcases hn with rfl | rfl | rfl | rfl | rfl | rfl | rfl <;> rcases hT with rfl | rfl | rfl | rfl | rfl | rfl <;> exact kit_ty (by decide +kernel)
/-- the classes by their values -/
def clsOf : D → Option Kd
  | .opq (.ty T) => some (.b T)
  | .opq (.ref C) => some (.c C)
  | _ => none
abbrev KTab := List (Kd × Kd × Bool)
def kitD (tb : KTab) (k c : Kd) : Option Bool := match k, c with
  | .b n, .b T => if n ∈ kindsT ∧ T ∈ sixT then some (builtinIs n T) else none
  | k, c => (tb.find? fun r => decide (r.1 = k) && decide (r.2.1 = c)).map (·.2.2)
def opIsI (tb : KTab) : OL
  | [d, c], S => match kindOf S d, clsOf c with
    | some k, some c => (kitD tb k c).map .bl
    | _, _ => none
  | _, _ => none
/-- the table speaks of the written part -/
structure KTOk (K : PySem.W.Frag) (tb : KTab) : Prop where
  kit : ∀ r ∈ tb, PySem.W.kitOne K r.1.v r.2.1.v = some r.2.2
  own : ∀ r ∈ tb, ∀ C, r.1 = .c C → ClassOK K C
  exo : ∀ r ∈ tb, ∀ C, r.1 = .x C → ExcOK K C
theorem kitD_ok {K : PySem.W.Frag} {tb : KTab} {k c : Kd} {b : Bool} (T : KTOk K tb) (h : kitD tb k c = some b) : PySem.W.kitOne K k.v c.v = some b ∧ (∀ C, k = .c C → ClassOK K C) ∧ ∀ C, k = .x C → ExcOK K C := by
  have oth : ∀ {k c : Kd}, (tb.find? fun r => decide (r.1 = k) && decide (r.2.1 = c)).map (·.2.2) = some b → PySem.W.kitOne K k.v c.v = some b ∧ (∀ C, k = .c C → ClassOK K C) ∧ ∀ C, k = .x C → ExcOK K C := fun {k c} h => by
    cases q : tb.find? fun r => decide (r.1 = k) && decide (r.2.1 = c) with
    | none => rw [q] at h; cases h
    | some r =>
      rw [q] at h; cases h
      have m := List.mem_of_find?_eq_some q
      have e := List.find?_some q
      simp only [Bool.and_eq_true, decide_eq_true_eq] at e
      obtain ⟨e1, e2⟩ := e
      subst e1; subst e2
      exact ⟨T.kit r m, T.own r m, T.exo r m⟩
  cases k with
  | c C => exact oth h
  | x C => exact oth h
  | b n =>
    cases c with
    | c C => exact oth h
    | x C => exact oth h
    | b t =>
      simp only [kitD] at h
      split at h
      · rename_i z
        cases h
        exact ⟨kit_tab n z.1 t z.2, (fun C e => by cases e), fun C e => by cases e⟩
      · cases h
theorem RKeys.len : ∀ {ks : List Key} {ds : List D}, RKeys ks ds → ks.length = ds.length
  | _, _, .nil => rfl
  | _, _, .cons _ h => congrArg (· + 1) h.len
theorem RTKeys.len : ∀ {ks : List (List Key)} {ds : List D}, RTKeys ks ds → ks.length = ds.length
  | _, _, .nil => rfl
  | _, _, .cons _ h => congrArg (· + 1) h.len
section
variable {X : Cx}
theorem cls_rv {K : PySem.W.Frag} {θ : Ad} {H : Hp} {v : V} {d : D} {c : Kd} (r : RV K θ H v d) (h : clsOf d = some c) : ClsV v c.v := by
  cases d <;> simp only [clsOf] at h <;> try cases h
  cases r
  cases v <;> cases h
  · exact .own _
  · exact .ty _
theorem kind_x {S : St0} {d : D} {C : Addr} (h : kindOf S d = some (.x C)) : ∃ ns xs, d = .exn C ns xs := by
  cases d with
  | exn C' ns xs => cases h; exact ⟨ns, xs, rfl⟩
  | ref n =>
    simp only [kindOf] at h
    split at h <;> cases h
  | _ => cases h
/-- .. of what is no exception -/
def opIsB (tb : KTab) : OL := fun ds S => match ds with
  | .exn _ _ _ :: _ => none
  | _ => opIsI tb ds S
theorem cd_isb {tb : KTab} (T : KTOk X.K tb) : CallD X (.builtin "isinstance") (liftL (opIsB tb)) := by
  refine upL call_isi fun θ S H xs ds g Q s r h p => ?_
  unfold opIsB at h
  split at h
  · cases h
  rename_i ds no
  unfold opIsI at h
  split at h
  · cases r with
    | cons r1 r =>
      cases r with
      | cons r2 r =>
        cases r
        split at h
        · rename_i k c' e1 e2
          cases q : kitD tb k c' with
          | none => rw [q] at h; cases h
          | some b =>
            rw [q] at h; cases h
            obtain ⟨z1, z2, z3⟩ := kitD_ok T q
            have nx : ∀ C, k ≠ .x C := fun C z => by
              subst z
              obtain ⟨ns, ys, e⟩ := kind_x e1
              exact no _ _ _ _ (by rw [e])
            exact ⟨_, _, k.v, c'.v, b, rfl, cls_rv r2 e2, kind_at s r1 z2 nx e1, z1, p.here s (.bl _)⟩
        · cases h
  · cases h
theorem cd_isi {tb : KTab} (T : KTOk X.K tb) : CallD X (.builtin "isinstance") (liftL (opIsI tb)) := by
  intro pins s σ H xs us Q I rx hh
  obtain ⟨θ, S, ds, hs, hx, p⟩ := hh
  by_cases z : ∃ C ns ys c, ds = [.exn C ns ys, c]
  · obtain ⟨C, ns, ys, c, rfl⟩ := z
    cases hx with
    | cons r1 hx =>
      cases hx with
      | cons r2 hx =>
        cases hx
        rename_i v1 v2
        unfold liftL at p
        split at p
        rotate_left
        · exact p.elim
        rename_i g hg
        unfold opIsI at hg
        simp only [kindOf] at hg
        split at hg
        rotate_left
        · cases hg
        rename_i k c' e1 e2
        cases e1
        cases q : kitD tb (.x C) c' with
        | none => rw [q] at hg; cases hg
        | some b =>
          rw [q] at hg; cases hg
          obtain ⟨z1, z2, z3⟩ := kitD_ok T q
          have ok := z3 C rfl
          obtain ⟨u1, u2, rfl, q1, q2⟩ := vals2 rx
          have e3 := (cls_rv r2 e2).eq q2
          subst e3
          have inst : ∃ (a : Addr) (oe : Obj) (od : Option Obj), v1 = .ref a ∧ PySem.W.InstAt s.heap a oe C od := by
            cases r1 with
            | exn0 n h => obtain ⟨oe, J⟩ := exh_at I h; exact ⟨_, oe, none, rfl, J⟩
            | exn n n2 h h2 _ _ => obtain ⟨oe, od, J, _⟩ := exh_atd I h h2; exact ⟨_, oe, some od, rfl, J⟩
          obtain ⟨a, oe, od, rfl, J⟩ := inst
          obtain rfl : u1 = Value.ref a := q1
          exact PySem.W.kia_one (PySem.W.kitx_exc (od := od) ok.cl ok.xf.ga ok.xf.gg ok.xf.exC ok.ha ok.hn ok.htk ok.hm) I.kIn J z1 (by intro z; cases z) fun tk => ⟨.bl b, H, I.tok tk, rfl, p.here hs (.bl _)⟩
  · refine cd_isb T pins s σ H xs us Q I rx ⟨θ, S, ds, hs, hx, ?_⟩
    have e : opIsB tb ds S = opIsI tb ds S := by
      unfold opIsB
      split
      · rename_i C ns ys r
        cases r with
        | nil => rfl
        | cons c r =>
          cases r with
          | nil => exact absurd ⟨_, _, _, _, rfl⟩ z
          | cons _ _ => rfl
      · rfl
    unfold liftL at p ⊢
    rw [e]
    exact p
/-! len -/
def opLen : OL
  | [.str z], _ => if z.length ≤ sizeLine then some (.int z.length) else none
  | [.dct ks _], _ => some (.int ks.length)
  | [d], S => match itemsOf S d with
    | some ds => some (.int ds.length)
    | none => match d with
      | .ref n => match S[n]? with
        | some (.dct ks _) => some (.int ks.length)
        | _ => none
      | _ => none
  | _, _ => none
theorem cd_len : CallD X (.builtin "len") (liftL opLen) := by
  refine upL (CallR.or call_len_str (CallR.or call_len_seq (CallR.or call_lenD call_len_dT))) fun θ S H xs ds g Q s r h p => ?_
  unfold opLen at h
  split at h
  · cases r with
    | cons r1 r =>
      cases r; cases r1
      split at h
      · rename_i l
        cases h; exact .inl ⟨_, rfl, l, p.here s (.int _)⟩
      · cases h
  · cases r with
    | cons r1 r =>
      cases r; cases h
      cases r1 with
      | @dctK a kvs ks' ds n h q hs =>
        have e := q.len
        rw [List.length_map] at e
        rw [← e] at p
        exact .inr (.inr (.inl ⟨a, kvs, rfl, h, p.here s (.int _)⟩))
  · cases r with
    | cons r1 r =>
      cases r
      split at h
      · rename_i ds e
        cases h
        obtain ⟨a, vs, rfl, rv, k⟩ := items_or s r1 e
        exact .inr (.inl ⟨a, vs, rfl, k, by rw [rv.len]; exact p.here s (.int _)⟩)
      · split at h
        · split at h
          · rename_i q
            cases h
            cases r1 with
            | @ref a _ hn =>
              have ro := s.ob _ a _ hn q
              cases ro with
              | @dctK kvs _ ds h q hs =>
                have e := q.len
                rw [List.length_map] at e
                rw [← e] at p
                exact .inr (.inr (.inl ⟨a, kvs, rfl, h, p.here s (.int _)⟩))
          · cases h
        · cases h
  · cases h
/-! int, bool, abs, str -/
def opInt : OL
  | [.int i], _ => some (.int i)
  | [.bl k], _ => some (.int (b2d k))
  | _, _ => none
theorem cd_int : CallD X (.type "int") (liftL opInt) := by
  refine upL call_int1 fun θ S H xs ds g Q s r h p => ?_
  unfold opInt at h
  split at h
  · cases r with | cons r1 r => cases r; cases r1; cases h; exact .inl ⟨_, rfl, p.here s (.int _)⟩
  · cases r with | cons r1 r => cases r; cases r1; cases h; exact .inr ⟨_, rfl, p.here s (.int _)⟩
  · cases h
def opAbs : OL
  | [.int i], _ => some (.int (if i < 0 then -i else i))
  | _, _ => none
theorem cd_abs : CallD X (.builtin "abs") (liftL opAbs) := by
  refine upL call_abs fun θ S H xs ds g Q s r h p => ?_
  unfold opAbs at h
  split at h
  · cases r with | cons r1 r => cases r; cases r1; cases h; exact ⟨_, rfl, p.here s (.int _)⟩
  · cases h
def opStr : OL
  | [.int i], _ => if i.natAbs.log2 < 1920 then some (.str (toString i)) else none
  | _, _ => none
theorem cd_str : CallD X (.type "str") (liftL opStr) := by
  refine upL call_str_int fun θ S H xs ds g Q s r h p => ?_
  unfold opStr at h
  split at h
  · cases r with
    | cons r1 r =>
      cases r; cases r1
      split at h
      · rename_i l
        cases h; exact ⟨_, rfl, l, p.here s (.str _)⟩
      · cases h
  · cases h
/-! all, any, sum, min, max -/
def bls? : List D → Option (List Bool)
  | [] => some []
  | .bl i :: r => (bls? r).map (i :: ·)
  | _ => none
theorem RVs.ofBls {K : PySem.W.Frag} {θ : Ad} {H : Hp} : ∀ {vs : List V} {ds : List D} {ns : List Bool}, RVs K θ H vs ds → bls? ds = some ns → vs = ns.map V.bl
  | _, _, _, .nil, e => by cases e; rfl
  | _, _, ns, .cons (d := d) (ds := ds) h hs, e => by
    cases d <;> simp only [bls?] at e <;> try cases e
    rename_i i
    cases q : bls? ds with
    | none => rw [q] at e; cases e
    | some ms =>
      rw [q] at e; cases e
      cases h
      rw [hs.ofBls q]; rfl
theorem bls_map : ∀ ns : List Bool, bls? (ns.map D.bl) = some ns
  | [] => rfl
  | n :: ns => by simp [bls?, bls_map ns]
/-- a list's items (no tuple's) -/
def lItems (S : St0) (d : D) : Option (List D) := if isTup d then none else itemsOf S d
theorem lItems_at {K : PySem.W.Frag} {θ : Ad} {H : Hp} {S : St0} {v : V} {d : D} {ds : List D} (s : RSt K θ S H) (r : RV K θ H v d) (e : lItems S d = some ds) : ∃ a vs, v = .ref a ∧ RVs K θ H vs ds ∧ SqL K H a vs := by
  unfold lItems at e
  split at e
  · cases e
  · rename_i t
    obtain ⟨a, vs, h1, h2, h3⟩ := items_at s r e
    exact ⟨a, vs, h1, h2, by rwa [if_neg t] at h3⟩
def opBools (f : List Bool → Bool) : OL
  | [d], S => match lItems S d with
    | some ds => (bls? ds).map fun bs => .bl (f bs)
    | none => none
  | _, _ => none
theorem cd_all (hc : X.calm = true) : CallD X (.builtin "all") (liftL (opBools fun bs => bs.all id)) := by
  refine upL (cr_all hc) fun θ S H xs ds g Q s r h p => ?_
  unfold opBools at h
  split at h
  · cases r with
    | cons r1 r =>
      cases r
      split at h
      · rename_i ds e
        obtain ⟨a, vs, rfl, rv, k⟩ := lItems_at s r1 e
        cases q : bls? ds with
        | none => rw [q] at h; cases h
        | some bs =>
          rw [q] at h; cases h
          rw [rv.ofBls q] at k
          exact ⟨a, bs, rfl, k, p.here s (.bl _)⟩
      · cases h
  · cases h
theorem cd_any (hc : X.calm = true) : CallD X (.builtin "any") (liftL (opBools fun bs => bs.any id)) := by
  refine upL (cr_any hc) fun θ S H xs ds g Q s r h p => ?_
  unfold opBools at h
  split at h
  · cases r with
    | cons r1 r =>
      cases r
      split at h
      · rename_i ds e
        obtain ⟨a, vs, rfl, rv, k⟩ := lItems_at s r1 e
        cases q : bls? ds with
        | none => rw [q] at h; cases h
        | some bs =>
          rw [q] at h; cases h
          rw [rv.ofBls q] at k
          exact ⟨a, bs, rfl, k, p.here s (.bl _)⟩
      · cases h
  · cases h
def opSum : OL
  | [d], S => match lItems S d with
    | some ds => (ints? ds).map fun ns => .int ns.sum
    | none => none
  | _, _ => none
theorem cd_sum (hc : X.calm = true) : CallD X (.builtin "sum") (liftL opSum) := by
  refine upL (cr_sum hc) fun θ S H xs ds g Q s r h p => ?_
  unfold opSum at h
  split at h
  · cases r with
    | cons r1 r =>
      cases r
      split at h
      · rename_i ds e
        obtain ⟨a, vs, rfl, rv, k⟩ := lItems_at s r1 e
        cases q : ints? ds with
        | none => rw [q] at h; cases h
        | some bs =>
          rw [q] at h; cases h
          rw [rv.ofInts q] at k
          exact ⟨a, bs, rfl, k, p.here s (.int _)⟩
      · cases h
  · cases h
def minL : List Int → Option Int
  | [] => none
  | x :: xs => some (xs.foldl (fun a b => if b < a then b else a) x)
def maxL : List Int → Option Int
  | [] => none
  | x :: xs => some (xs.foldl (fun a b => if a < b then b else a) x)
theorem foldmin : ∀ (xs : List Int) (x : Int), (xs.foldl (fun a b => if b < a then b else a) x = x ∨ xs.foldl (fun a b => if b < a then b else a) x ∈ xs) ∧ xs.foldl (fun a b => if b < a then b else a) x ≤ x ∧ ∀ y ∈ xs, xs.foldl (fun a b => if b < a then b else a) x ≤ y
  | [], x => ⟨.inl rfl, Int.le_refl _, fun y h => by cases h⟩
  | z :: xs, x => by
    obtain ⟨h1, h2, h3⟩ := foldmin xs (if z < x then z else x)
    have e : (z :: xs).foldl (fun a b => if b < a then b else a) x = xs.foldl (fun a b => if b < a then b else a) (if z < x then z else x) := rfl
    rw [e]
    generalize xs.foldl (fun a b => if b < a then b else a) (if z < x then z else x) = m at *
    refine ⟨?_, ?_, fun y hy => ?_⟩
    · rcases h1 with h1 | h1
      · split at h1
        · exact .inr (by rw [h1]; exact List.mem_cons_self)
        · exact .inl h1
      · exact .inr (List.mem_cons_of_mem _ h1)
    · split at h2 <;> omega
    · rcases List.mem_cons.mp hy with rfl | hy
      · split at h2 <;> omega
      · exact h3 y hy
theorem foldmax : ∀ (xs : List Int) (x : Int), (xs.foldl (fun a b => if a < b then b else a) x = x ∨ xs.foldl (fun a b => if a < b then b else a) x ∈ xs) ∧ x ≤ xs.foldl (fun a b => if a < b then b else a) x ∧ ∀ y ∈ xs, y ≤ xs.foldl (fun a b => if a < b then b else a) x
  | [], x => ⟨.inl rfl, Int.le_refl _, fun y h => by cases h⟩
  | z :: xs, x => by
    obtain ⟨h1, h2, h3⟩ := foldmax xs (if x < z then z else x)
    have e : (z :: xs).foldl (fun a b => if a < b then b else a) x = xs.foldl (fun a b => if a < b then b else a) (if x < z then z else x) := rfl
    rw [e]
    generalize xs.foldl (fun a b => if a < b then b else a) (if x < z then z else x) = m at *
    refine ⟨?_, ?_, fun y hy => ?_⟩
    · rcases h1 with h1 | h1
      · split at h1
        · exact .inr (by rw [h1]; exact List.mem_cons_self)
        · exact .inl h1
      · exact .inr (List.mem_cons_of_mem _ h1)
    · split at h2 <;> omega
    · rcases List.mem_cons.mp hy with rfl | hy
      · split at h2 <;> omega
      · exact h3 y hy
theorem minL_of {ns : List Int} {m : Int} (h : minL ns = some m) {k : Int} (h1 : k ∈ ns) (h2 : ∀ y ∈ ns, k ≤ y) : m = k := by
  cases ns with
  | nil => cases h
  | cons x xs =>
    simp only [minL, Option.some.injEq] at h
    obtain ⟨a, b, c⟩ := foldmin xs x
    rw [h] at a b c
    have mem : m ∈ x :: xs := by rcases a with a | a; exact a ▸ List.mem_cons_self; exact List.mem_cons_of_mem _ a
    have := h2 m mem
    rcases List.mem_cons.mp h1 with z | z
    · subst z; omega
    · have := c k z; omega
theorem maxL_of {ns : List Int} {m : Int} (h : maxL ns = some m) {k : Int} (h1 : k ∈ ns) (h2 : ∀ y ∈ ns, y ≤ k) : m = k := by
  cases ns with
  | nil => cases h
  | cons x xs =>
    simp only [maxL, Option.some.injEq] at h
    obtain ⟨a, b, c⟩ := foldmax xs x
    rw [h] at a b c
    have mem : m ∈ x :: xs := by rcases a with a | a; exact a ▸ List.mem_cons_self; exact List.mem_cons_of_mem _ a
    have := h2 m mem
    rcases List.mem_cons.mp h1 with z | z
    · subst z; omega
    · have := c k z; omega
def opMin : OL
  | [.int i, .int j], _ => some (.int (if j < i then j else i))
  | [d], S => match lItems S d with
    | some ds => match ints? ds with
      | some ns => (minL ns).map .int
      | none => none
    | none => none
  | _, _ => none
def opMax : OL
  | [.int i, .int j], _ => some (.int (if j > i then j else i))
  | [d], S => match lItems S d with
    | some ds => match ints? ds with
      | some ns => (maxL ns).map .int
      | none => none
    | none => none
  | _, _ => none
theorem cd_min (hc : X.calm = true) : CallD X (.builtin "min") (liftL opMin) := by
  refine upL (CallR.or (call_min2 hc) (cr_min hc)) fun θ S H xs ds g Q s r h p => ?_
  unfold opMin at h
  split at h
  · cases r with | cons r1 r => cases r with | cons r2 r => cases r; cases r1; cases r2; cases h; exact .inl ⟨_, _, rfl, p.here s (.int _)⟩
  · cases r with
    | cons r1 r =>
      cases r
      split at h
      · rename_i ds e
        split at h
        · rename_i ns e2
          obtain ⟨a, vs, rfl, rv, k⟩ := lItems_at s r1 e
          rw [rv.ofInts e2] at k
          cases q : minL ns with
          | none => rw [q] at h; cases h
          | some m =>
            rw [q] at h; cases h
            refine .inr ⟨a, ns, rfl, k, ?_, fun z h1 h2 => by rw [← minL_of q h1 h2]; exact p.here s (.int _)⟩
            cases ns with
            | nil => cases q
            | cons => exact Nat.zero_lt_succ _
        · cases h
      · cases h
  · cases h
theorem cd_max (hc : X.calm = true) : CallD X (.builtin "max") (liftL opMax) := by
  refine upL (CallR.or (call_max2 hc) (cr_max hc)) fun θ S H xs ds g Q s r h p => ?_
  unfold opMax at h
  split at h
  · cases r with | cons r1 r => cases r with | cons r2 r => cases r; cases r1; cases r2; cases h; exact .inl ⟨_, _, rfl, p.here s (.int _)⟩
  · cases r with
    | cons r1 r =>
      cases r
      split at h
      · rename_i ds e
        split at h
        · rename_i ns e2
          obtain ⟨a, vs, rfl, rv, k⟩ := lItems_at s r1 e
          rw [rv.ofInts e2] at k
          cases q : maxL ns with
          | none => rw [q] at h; cases h
          | some m =>
            rw [q] at h; cases h
            refine .inr ⟨a, ns, rfl, k, ?_, fun z h1 h2 => by rw [← maxL_of q h1 h2]; exact p.here s (.int _)⟩
            cases ns with
            | nil => cases q
            | cons => exact Nat.zero_lt_succ _
        · cases h
      · cases h
  · cases h
/-! list, tuple -/
/-- o: what becomes of the items -/
def newL (al : Bool) (o : List D → Option (List D)) : List D → St0 → R
  | [d], S => match itemsOf S d with
    | some ds => match o ds with
      | some es => finL al es S
      | none => .stuck
    | none => .stuck
  | _, _ => .stuck
theorem nxNewL (al : Bool) (o : List D → Option (List D)) : ∀ x S, NoX (newL al o x S) := by
  intro x S C fs S' h
  unfold newL finL at h
  split at h
  · split at h
    · split at h
      · split at h <;> cases h
      · cases h
    · cases h
  · cases h
theorem cd_list {al : Bool} : CallD X (.type "list") (newL al some) := by
  intro pins s σ H xs us Q I rx hh
  obtain ⟨θ, S, ds, hs, hx, p⟩ := hh
  refine call_list_of pins s σ H xs us Q I rx ?_
  unfold newL at p
  split at p
  · cases hx with
    | cons r1 r =>
      cases r
      split at p
      · rename_i ds e
        obtain ⟨a, vs, rfl, rv, k⟩ := items_or hs r1 e
        simp only at p
        exact ⟨a, vs, rfl, k, fun l hl => fin_post p hs rv hl⟩
      · exact p.elim
  · exact p.elim
def opTuple : OL
  | [d], S => (itemsOf S d).map .tup
  | _, _ => none
theorem cd_tuple : CallD X (.type "tuple") (liftL opTuple) := by
  refine upL call_tuple_of fun θ S H xs ds g Q s r h p => ?_
  unfold opTuple at h
  split at h
  · cases r with
    | cons r1 r =>
      cases r
      rename_i d _
      cases e : itemsOf S d with
      | none => rw [e] at h; cases h
      | some ds =>
        rw [e] at h; cases h
        obtain ⟨a, vs, rfl, rv, k⟩ := items_or s r1 e
        rcases k with k | k
        · exact ⟨a, vs, rfl, .inl ⟨k, fun l hl => p.newTup s hl rv⟩⟩
        · exact ⟨a, vs, rfl, .inr ⟨k, p.here s (.tup k rv)⟩⟩
  · cases h
/-! sorted -/
/-- an int list ascending -/
def insI (x : Int) : List Int → List Int
  | [] => [x]
  | y :: ys => if x ≤ y then x :: y :: ys else y :: insI x ys
def sortI : List Int → List Int
  | [] => []
  | x :: xs => insI x (sortI xs)
theorem insI_perm (x : Int) : ∀ ys, (insI x ys).Perm (x :: ys)
  | [] => .refl _
  | y :: ys => by
    unfold insI
    split
    · exact .refl _
    · exact ((insI_perm x ys).cons y).trans (.swap _ _ _)
theorem sortI_perm : ∀ xs, (sortI xs).Perm xs
  | [] => .refl _
  | x :: xs => (insI_perm x _).trans ((sortI_perm xs).cons x)
theorem insI_up (x : Int) : ∀ {ys : List Int}, ys.Pairwise (· ≤ ·) → (insI x ys).Pairwise (· ≤ ·)
  | [], _ => by simp [insI]
  | y :: ys, h => by
    unfold insI
    rw [List.pairwise_cons] at h
    split
    · rename_i l
      refine List.pairwise_cons.mpr ⟨fun z hz => ?_, List.pairwise_cons.mpr h⟩
      rcases List.mem_cons.mp hz with rfl | hz
      · exact l
      · exact Int.le_trans l (h.1 z hz)
    · rename_i l
      refine List.pairwise_cons.mpr ⟨fun z hz => ?_, insI_up x h.2⟩
      rcases List.mem_cons.mp ((insI_perm x ys).mem_iff.mp hz) with rfl | hz
      · omega
      · exact h.1 z hz
theorem sortI_up : ∀ xs, (sortI xs).Pairwise (· ≤ ·)
  | [] => .nil
  | x :: xs => insI_up x (sortI_up xs)
theorem sorted_eq : ∀ {xs ys : List Int}, xs.Perm ys → xs.Pairwise (· ≤ ·) → ys.Pairwise (· ≤ ·) → xs = ys := by
  intro xs ys p h1 h2
  exact p.eq_of_pairwise (fun a b _ _ => Int.le_antisymm) h1 h2
/-- a reading as a value -/
def rk? : D → Option RK
  | .tup [.int a, .int b, .tup xs] => (ints? xs).map fun ns => (a, b, ns)
  | _ => none
def rks? : List D → Option (List RK)
  | [] => some []
  | d :: ds => match rk? d, rks? ds with
    | some k, some ks => some (k :: ks)
    | _, _ => none
def rkD (k : RK) : D := .tup [.int k.1, .int k.2.1, .tup (k.2.2.map .int)]
end
def rlt? (j k : RK) : Bool := decide (j.1 < k.1) || (decide (j.1 = k.1) && (decide (j.2.1 < k.2.1) || (decide (j.2.1 = k.2.1) && decide (j.2.2 < k.2.2))))
theorem rlt_iff (j k : RK) : rlt? j k = true ↔ rlt j k := by simp [rlt?, rlt]
/-- readings ascending -/
def insR (x : RK) : List RK → List RK
  | [] => [x]
  | y :: ys => if rlt? y x then y :: insR x ys else x :: y :: ys
def sortR : List RK → List RK
  | [] => []
  | x :: xs => insR x (sortR xs)
/-- .. each once -/
def insU (x : RK) : List RK → List RK
  | [] => [x]
  | y :: ys => if x = y then y :: ys else if rlt? x y then x :: y :: ys else y :: insU x ys
def setR : List RK → List RK
  | [] => []
  | x :: xs => insU x (setR xs)
theorem insR_perm (x : RK) : ∀ ys, (insR x ys).Perm (x :: ys)
  | [] => .refl _
  | y :: ys => by
    unfold insR
    split
    · exact ((insR_perm x ys).cons y).trans (.swap _ _ _)
    · exact .refl _
theorem sortR_perm : ∀ xs, (sortR xs).Perm xs
  | [] => .refl _
  | x :: xs => (insR_perm x _).trans ((sortR_perm xs).cons x)
abbrev nlt (p q : RK) : Prop := ¬ rlt q p
theorem insR_up (x : RK) : ∀ {ys : List RK}, ys.Pairwise nlt → (insR x ys).Pairwise nlt
  | [], _ => by simp [insR]
  | y :: ys, h => by
    unfold insR
    rw [List.pairwise_cons] at h
    split
    · rename_i l
      refine List.pairwise_cons.mpr ⟨fun z hz => ?_, insR_up x h.2⟩
      rcases List.mem_cons.mp ((insR_perm x ys).mem_iff.mp hz) with rfl | hz
      · exact fun w => rlt_irrefl _ (rlt_trans w ((rlt_iff _ _).mp l))
      · exact h.1 z hz
    · rename_i l
      have l' : ¬ rlt y x := fun w => l ((rlt_iff _ _).mpr w)
      refine List.pairwise_cons.mpr ⟨fun z hz => ?_, List.pairwise_cons.mpr h⟩
      rcases List.mem_cons.mp hz with rfl | hz
      · exact l'
      · intro w
        rcases rlt_total y x with q | q | q
        · exact l' q
        · exact h.1 z hz (by rw [q]; exact w)
        · exact h.1 z hz (rlt_trans w q)
theorem sortR_up : ∀ xs, (sortR xs).Pairwise nlt
  | [] => .nil
  | x :: xs => insR_up x (sortR_up xs)
theorem sortR_eq {xs ys : List RK} (p : xs.Perm ys) (h1 : xs.Pairwise nlt) (h2 : ys.Pairwise nlt) : xs = ys :=
  p.eq_of_pairwise (fun a b _ _ h1 h2 => ((rlt_total a b).resolve_left h2).resolve_right h1) h1 h2
theorem insU_mem (x : RK) : ∀ {ys : List RK} {z : RK}, z ∈ insU x ys ↔ z = x ∨ z ∈ ys
  | [], z => by simp [insU]
  | y :: ys, z => by
    unfold insU
    split
    · rename_i e; subst e; simp
    · split
      · simp
      · rw [List.mem_cons, insU_mem x, List.mem_cons]
        constructor
        · rintro (h | h | h)
          · exact .inr (.inl h)
          · exact .inl h
          · exact .inr (.inr h)
        · rintro (h | h | h)
          · exact .inr (.inl h)
          · exact .inl h
          · exact .inr (.inr h)
theorem insU_up (x : RK) : ∀ {ys : List RK}, ys.Pairwise rlt → (insU x ys).Pairwise rlt
  | [], _ => by simp [insU]
  | y :: ys, h => by
    have h' := List.pairwise_cons.mp h
    unfold insU
    split
    · exact h
    · rename_i ne
      split
      · rename_i l
        have l' := (rlt_iff _ _).mp l
        refine List.pairwise_cons.mpr ⟨fun z hz => ?_, h⟩
        rcases List.mem_cons.mp hz with rfl | hz
        · exact l'
        · exact rlt_trans l' (h'.1 z hz)
      · rename_i l
        refine List.pairwise_cons.mpr ⟨fun z hz => ?_, insU_up x h'.2⟩
        rcases (insU_mem x).mp hz with rfl | hz
        · exact ((rlt_total y z).resolve_right fun q => q.elim (fun e => ne e.symm) fun q => l ((rlt_iff _ _).mpr q))
        · exact h'.1 z hz
theorem setR_mem : ∀ {xs : List RK} {z : RK}, z ∈ setR xs ↔ z ∈ xs
  | [], z => by simp [setR]
  | x :: xs, z => by rw [setR, insU_mem, setR_mem, List.mem_cons]
theorem setR_up : ∀ xs, (setR xs).Pairwise rlt
  | [] => .nil
  | x :: xs => insU_up x (setR_up xs)
theorem asc_eq : ∀ {xs ys : List RK}, xs.Pairwise rlt → ys.Pairwise rlt → (∀ z, z ∈ xs ↔ z ∈ ys) → xs = ys
  | [], [], _, _, _ => rfl
  | [], y :: ys, _, _, h => by have := (h y).mpr List.mem_cons_self; cases this
  | x :: xs, [], _, _, h => by have := (h x).mp List.mem_cons_self; cases this
  | x :: xs, y :: ys, h1, h2, h => by
    have a := List.pairwise_cons.mp h1
    have b := List.pairwise_cons.mp h2
    have e : x = y := by
      rcases List.mem_cons.mp ((h x).mp List.mem_cons_self) with q | q
      · exact q
      · rcases List.mem_cons.mp ((h y).mpr List.mem_cons_self) with r | r
        · exact r.symm
        · exact absurd (rlt_trans (a.1 y r) (b.1 x q)) (rlt_irrefl _)
    subst e
    rw [asc_eq a.2 b.2 fun z => ?_]
    constructor
    · intro hz
      rcases List.mem_cons.mp ((h z).mp (List.mem_cons_of_mem _ hz)) with q | q
      · subst q; exact absurd (a.1 z hz) (rlt_irrefl _)
      · exact q
    · intro hz
      rcases List.mem_cons.mp ((h z).mpr (List.mem_cons_of_mem _ hz)) with q | q
      · subst q; exact absurd (b.1 z hz) (rlt_irrefl _)
      · exact q
section
variable {K : PySem.W.Frag} {θ : Ad} {H : Hp} {v : V} {d : D}
theorem rk_at {k : RK} (r : RV K θ H v d) (h : rk? d = some k) : ∃ a, v = .ref a ∧ RdAt K H a k := by
  unfold rk? at h
  split at h
  · rename_i a b xs
    cases q : ints? xs with
    | none => rw [q] at h; cases h
    | some ns =>
      rw [q] at h; cases h
      cases r with
      | tup h1 r1 =>
        cases r1 with
        | cons x1 r1 => cases r1 with | cons x2 r1 => cases r1 with | cons x3 r1 =>
          cases r1; cases x1; cases x2
          cases x3 with
          | tup h2 r2 =>
            rw [r2.ofInts q] at h2
            exact ⟨_, rfl, _, h1, h2⟩
  · cases h
theorem rk_rv {a : Addr} {k : RK} (h : RdAt K H a k) : RV K θ H (.ref a) (rkD k) := by
  obtain ⟨t, h1, h2⟩ := h
  exact .tup h1 (.cons (.int _) (.cons (.int _) (.cons (.tup h2 (RVs.ints _)) .nil)))
theorem rks_at : ∀ {vs : List V} {ds : List D} {ks : List RK}, RVs K θ H vs ds → rks? ds = some ks → ∃ L : Ks, vs = (L.map fun p => V.ref p.1) ∧ L.map (·.2) = ks ∧ ∀ p ∈ L, RdAt K H p.1 p.2
  | _, _, _, .nil, h => by cases h; exact ⟨[], rfl, rfl, fun p m => by cases m⟩
  | _, _, _, .cons r rs, h => by
    unfold rks? at h
    split at h
    · rename_i k ks e1 e2
      cases h
      obtain ⟨a, rfl, q⟩ := rk_at r e1
      obtain ⟨L, rfl, rfl, hL⟩ := rks_at rs e2
      refine ⟨(a, k) :: L, rfl, rfl, fun p m => ?_⟩
      rcases List.mem_cons.mp m with rfl | m
      · exact q
      · exact hL p m
    · cases h
theorem rks_rv : ∀ {L : Ks}, (∀ p ∈ L, RdAt K H p.1 p.2) → RVs K θ H (L.map fun p => V.ref p.1) ((L.map (·.2)).map rkD)
  | [], _ => .nil
  | p :: L, h => .cons (rk_rv (h p List.mem_cons_self)) (rks_rv fun q m => h q (List.mem_cons_of_mem _ m))
end
/-- sorted(x): numbers, or readings -/
def sortO (tp : Bool) (ds : List D) : Option (List D) := match ints? ds with
  | some ns => if tp = false ∨ ns.length ≤ 1000 then some ((sortI ns).map .int) else none
  | none => if tp then none else match rks? ds with
    | some ks => if ks.length ≤ 1000 then some ((sortR ks).map rkD) else none
    | none => none
def opSorted (al : Bool) : List D → St0 → R
  | [d], S => match itemsOf S d with
    | some ds => match sortO (isTup d) ds with
      | some es => finL al es S
      | none => .stuck
    | none => .stuck
  | _, _ => .stuck
theorem finNoX {al : Bool} {ds : List D} {S : St0} : NoX (finL al ds S) := fun C fs S' h => by unfold finL at h; split at h <;> cases h
theorem nxSorted (al : Bool) : ∀ x S, NoX (opSorted al x S) := by
  intro x S C fs S' h
  unfold opSorted at h
  split at h
  · split at h
    · split at h
      · exact finNoX C fs S' h
      · cases h
    · cases h
  · cases h
section
variable {X : Cx}
theorem cd_sorted {al : Bool} (hu : X.A.units + 64 < cLine) : CallD X (.builtin "sorted") (opSorted al) := by
  intro pins s σ H xs us Q I rx hh
  obtain ⟨θ, S, ds, hs, hx, p⟩ := hh
  refine (CallR.or cr_sortedI (CallR.or (LB.cr_sortT1 hu) (cr_sortRows hu))) pins s σ H xs us Q I rx ?_
  unfold opSorted at p
  split at p
  · cases hx with
    | cons r1 r =>
      cases r
      split at p
      · rename_i ds e
        split at p
        · rename_i es e2
          obtain ⟨a, vs, rfl, rv, k⟩ := items_at hs r1 e
          unfold sortO at e2
          split at e2
          · rename_i ns e3
            split at e2
            · rename_i small
              cases e2
              rw [rv.ofInts e3] at k
              split at k
              · rename_i t
                have small := small.resolve_left (by rw [t]; exact Bool.noConfusion)
                refine .inr (.inl ⟨a, ns, rfl, k, small, fun q hq => ?_⟩)
                have e : LB.upInts ns = sortI ns := sorted_eq ((LB.upInts_perm ns).trans (sortI_perm ns).symm) (LB.upInts_asc ns) (sortI_up ns)
                rw [e]
                exact fin_post p hs (RVs.ints _) hq
              · refine .inl ⟨a, ns, rfl, k, fun ns' q pm up hq => ?_⟩
                rw [sorted_eq (pm.trans (sortI_perm ns).symm) up (sortI_up ns)]
                exact fin_post p hs (RVs.ints _) hq
            · cases e2
          · split at e2
            · cases e2
            · rename_i t
              rw [if_neg t] at k
              split at e2
              · rename_i ks e3
                split at e2
                · rename_i small
                  cases e2
                  obtain ⟨L, rfl, rfl, hL⟩ := rks_at rv e3
                  refine .inr (.inr ⟨a, L, rfl, k, hL, by simpa using small, fun q hq => ?_⟩)
                  have e : ((ordered L).map (·.2)) = sortR (L.map (·.2)) := sortR_eq (((ordered_perm L).map _).trans (sortR_perm _).symm) (List.pairwise_map.mpr (ordered_asc L)) (sortR_up _)
                  rw [← e] at p
                  exact fin_post p hs (rks_rv fun z m => hL z ((ordered_perm L).mem_iff.mp m)) hq
                · cases e2
              · cases e2
        · exact p.elim
      · exact p.elim
  · exact p.elim
/-- sorted(set(x)), readings -/
def opSortSet (al : Bool) : List D → St0 → R
  | [d], S => match lItems S d with
    | some ds => match rks? ds with
      | some ks => if ks.length < 64 then finL al ((setR ks).map rkD) S else .stuck
      | none => .stuck
    | none => .stuck
  | _, _ => .stuck
theorem de_sortSet {al : Bool} {W : WX} {e : Expr} {m : ME} {p p2 pos pos2 : Pos} (hc : X.calm = true) (hu : X.A.units + 64 < cLine) (hg : Gl X "sorted") (hm : X.mg "sorted" = none) (hg2 : Gl X "set") (hm2 : X.mg "set" = none) (ha : DE X W e m)
    (hs : starEach (e :: []) X.env = (false, eval e X.env) :: starEach [] X.env := by rfl) (he : starEach (e :: []) X.env = (false, eval e X.env) :: starEach [] X.env := by rfl) (hpl : (backTo pos2 (starEach [] X.env)).any (·.1) = false := by rfl)
    (hs1 : starEach (Expr.Call (.Name "set" p2) [e] [] pos2 :: []) X.env = (false, eval (Expr.Call (.Name "set" p2) [e] [] pos2) X.env) :: starEach [] X.env := by rfl) (hpl1 : (backTo pos (starEach [] X.env)).any (·.1) = false := by rfl) :
    DE X W (.Call (.Name "sorted" p) [.Call (.Name "set" p2) [e] [] pos2] [] pos) (mOn (opSortSet al) (mCons m mNil)) := by
  refine PE.imp (pe_callB (cr_sortSet hc hu) hg hm boot_sorted (pa_cons (pe_callTy (cr_setR hc hu) hg2 hm2 boot_set (pa_cons ha pa_nil hs) (by decide) (by decide) he hpl) pa_nil hs1) (by decide) (by decide) hs1 hpl1) fun σ H Q ⟨θ, ρ, S, n, s, q⟩ => ⟨θ, ρ, S, n, s, ?_⟩
  have q' : PostV X.K θ H ((m ρ S).bind fun d S1 => opSortSet al [d] S1) Q (fun c d H' => W c d σ H') := by
    have e : mOn (opSortSet al) (mCons m mNil) ρ S = (m ρ S).bind fun d S1 => opSortSet al [d] S1 := by
      unfold mOn mCons mNil
      cases m ρ S <;> rfl
    rwa [e] at q
  refine PostV.binde s q' fun v H1 θ1 S1 d u s1 rv p1 => ?_
  unfold opSortSet at p1
  simp only at p1
  split at p1
  · rename_i ds e1
    split at p1
    · rename_i ks e2
      split at p1
      · rename_i few
        obtain ⟨a, vs, rfl, rs, k⟩ := lItems_at s1 rv e1
        obtain ⟨L, rfl, rfl, hL⟩ := rks_at rs e2
        refine ⟨a, L, rfl, k, hL, by simpa using few, fun b M hb hM hM2 => ?_⟩
        have keepT : ∀ {x ys o}, SqT X.K H1 x ys → SqT X.K (upd H1 b o) x ys := fun {x ys o} h => sqT_ext (Ext.laid θ1 hb) s1 h
        have hL' : ∀ p ∈ M, ∀ o, RdAt X.K (upd H1 b o) p.1 p.2 := fun p m o => by
          obtain ⟨t, h1, h2⟩ := hL p (hM p m)
          exact ⟨t, keepT h1, keepT h2⟩
        refine ⟨b, M, rfl, upd_same, fun p m => hL' p m _, fun N c pm up few hc => ?_⟩
        have e : N.map (·.2) = setR (L.map (·.2)) := asc_eq up (setR_up _) fun z => by
          rw [setR_mem]
          constructor
          · intro h
            obtain ⟨x, hx, rfl⟩ := List.mem_map.mp h
            exact List.mem_map.mpr ⟨x, hM x (pm.mem_iff.mp hx), rfl⟩
          · intro h
            obtain ⟨x, hx, rfl⟩ := List.mem_map.mp h
            obtain ⟨y, hy, e⟩ := List.mem_map.mp (hM2 x hx)
            exact List.mem_map.mpr ⟨y, pm.mem_iff.mpr hy, e⟩
        rw [← e] at p1
        have sL : RSt X.K θ1 S1 (upd H1 b (SetRO X.w b M)) := s1.laid hb
        have pL : PostV X.K θ1 (upd H1 b (SetRO X.w b M)) (finL al ((N.map (·.2)).map rkD) S1) Q (fun c d H' => W c d σ H') := PostV.up (Up.of_nil (Ext.laid θ1 hb) s1) p1
        exact fin_post pL sL (rks_rv fun z m => hL' z (pm.mem_iff.mp m) _) hc
      · exact p1.elim
    · exact p1.elim
  · exact p1.elim
end
end DL
set_option Elab.async false
set_option linter.all false
set_option maxRecDepth 100000
set_option autoImplicit false
/-! The layer of data: what is changed in place, objects. -/
namespace DL
open PySem PySem.Spec L2 _root_.RS
open PyProof.Rows hiding St
/-! ### methods of lists -/
def MtD (X : Cx) (id : String) (o : D → List D → St0 → R) : Prop := MtR X id fun x xs H Q => ∃ θ S d ds, RSt X.K θ S H ∧ RV X.K θ H x d ∧ RVs X.K θ H xs ds ∧ PostV X.K θ H (o d ds S) Q (fun _ _ _ => False)
/-- x.m(..), x a list -/
def mMt (o : D → List D → St0 → R) (m : ME) (ms : MA) : ME := fun ρ S => (m ρ S).bind fun x S1 => match lItems S1 x with
  | some _ => (ms ρ S1).bind fun ds S2 => o x ds S2
  | none => .stuck
section
variable {K : PySem.W.Frag} {θ : Ad} {H : Hp} {S : St0} {Q : VK} {E : XK} {v : V} {d : D} {n : Nat} {a : Addr}
theorem RSt.setL {vs : List V} {ds : List D} (s : RSt K θ S H) (hn : θ.ix[n]? = some a) (r : RVs K θ H vs ds) : RSt K θ (S.set n (.lst ds)) (upd H a (.lst vs)) ∧ Ext θ [] H (upd H a (.lst vs)) := by
  have m := List.mem_of_getElem? hn
  have e : Ext θ [] H (upd H a (.lst vs)) := Ext.put m (s.nn (List.mem_append_left _ m))
  have r' := r.ext e s
  rw [Ad.up_nil] at r'
  exact ⟨s.put hn (.lst upd_same r'), e⟩
theorem RV.put {o : HO} (s : RSt K θ S H) (hn : θ.ix[n]? = some a) (r : RV K θ H v d) : RV K θ (upd H a o) v d := by
  have m := List.mem_of_getElem? hn
  have := r.ext (Ext.put (o := o) m (s.nn (List.mem_append_left _ m))) s
  rwa [Ad.up_nil] at this
/-- a list of the store is changed -/
theorem PostV.setL {vs : List V} {ds : List D} {w : V} {e : D} (p : PostV K θ H (.val e (S.set n (.lst ds))) Q E) (s : RSt K θ S H) (hn : θ.ix[n]? = some a) (r : RVs K θ H vs ds) (rw : RV K θ H w e) : Q w (upd H a (.lst vs)) := by
  obtain ⟨s', x⟩ := s.setL hn r
  exact p [] _ _ x (by rw [Ad.up_nil]; exact s') (by rw [Ad.up_nil]; exact rw.put s hn)
end
def refL (S : St0) : D → Option (Nat × List D)
  | .ref n => match S[n]? with
    | some (.lst xs) => some (n, xs)
    | _ => none
  | _ => none
theorem refL_at {K : PySem.W.Frag} {θ : Ad} {H : Hp} {S : St0} {v : V} {d : D} {n : Nat} {xs : List D} (s : RSt K θ S H) (r : RV K θ H v d) (e : refL S d = some (n, xs)) : ∃ a vs, v = .ref a ∧ θ.ix[n]? = some a ∧ H a = some (.lst vs) ∧ RVs K θ H vs xs := by
  cases d <;> simp only [refL] at e <;> try cases e
  cases r with
  | @ref a _ hn =>
    split at e
    · rename_i ys q
      cases e
      obtain ⟨vs, h1, h2⟩ := s.lst hn q
      exact ⟨a, vs, rfl, hn, h1, h2⟩
    · cases e
def opAppend (x : D) (ds : List D) (S : St0) : R := match refL S x, ds with
  | some (n, xs), [d] => if xs.length < sizeLine then .val .non (S.set n (.lst (xs ++ [d]))) else .stuck
  | _, _ => .stuck
def opExtend (x : D) (ds : List D) (S : St0) : R := match refL S x, ds with
  | some (n, xs), [d] => match lstOf S d with
    | some ys => if xs.length + ys.length ≤ sizeLine then .val .non (S.set n (.lst (xs ++ ys))) else .stuck
    | none => .stuck
  | _, _ => .stuck
def opPop (x : D) (ds : List D) (S : St0) : R := match refL S x, ds with
  | some (n, xs), [] => match xs[xs.length - 1]? with
    | some y => .val y (S.set n (.lst xs.dropLast))
    | none => .stuck
  | some (n, xs), [.int i] => match ixN xs.length i with
    | some k => match xs[k]? with
      | some y => if -(2 ^ 63) ≤ i ∧ i < 2 ^ 63 then .val y (S.set n (.lst (xs.eraseIdx k))) else .stuck
      | none => .stuck
    | none => .stuck
  | _, _ => .stuck
def opReverse (x : D) (ds : List D) (S : St0) : R := match refL S x, ds with
  | some (n, xs), [] => .val .non (S.set n (.lst xs.reverse))
  | _, _ => .stuck
def opClear (x : D) (ds : List D) (S : St0) : R := match refL S x, ds with
  | some (n, _), [] => .val .non (S.set n (.lst []))
  | _, _ => .stuck
theorem RVs.dropLast {K : PySem.W.Frag} {θ : Ad} {H : Hp} {vs : List V} {ds : List D} (r : RVs K θ H vs ds) : RVs K θ H vs.dropLast ds.dropLast := by
  rw [List.dropLast_eq_take, List.dropLast_eq_take, r.len]
  exact r.take _
section
variable {X : Cx}
theorem md_append : MtD X "list.append" opAppend := by
  intro pins s σ H x xs v us Q I rx rxs hh
  obtain ⟨θ, S, d, ds, st, hx, hs, p⟩ := hh
  refine mt_append pins s σ H x xs v us Q I rx rxs ?_
  unfold opAppend at p
  split at p
  · rename_i n ys d' e
    obtain ⟨a, vs, rfl, hn, h1, h2⟩ := refL_at st hx e
    cases hs with
    | cons r1 r =>
      cases r
      split at p
      · rename_i l
        exact ⟨a, vs, _, rfl, rfl, h1, by rw [h2.len]; exact l, p.setL st hn (h2.app (.one r1)) .non⟩
      · exact p.elim
  · exact p.elim
theorem md_extend : MtD X "list.extend" opExtend := by
  intro pins s σ H x xs v us Q I rx rxs hh
  obtain ⟨θ, S, d, ds, st, hx, hs, p⟩ := hh
  refine mt_extend pins s σ H x xs v us Q I rx rxs ?_
  unfold opExtend at p
  split at p
  · rename_i n ys d' e
    obtain ⟨a, vs, rfl, hn, h1, h2⟩ := refL_at st hx e
    cases hs with
    | cons r1 r =>
      cases r
      split at p
      · rename_i zs e2
        obtain ⟨b, ws, rfl, h3, h4⟩ := lst_at st r1 e2
        split at p
        · rename_i l
          exact ⟨a, b, vs, ws, rfl, rfl, h1, h3, by rw [h2.len, h4.len]; exact l, p.setL st hn (h2.app h4) .non⟩
        · exact p.elim
      · exact p.elim
  · exact p.elim
theorem ixN_seq {i : Int} {n k : Nat} (h : ixN n i = some k) : seqIndex? i n = some k := by
  unfold ixN at h
  unfold seqIndex?
  split at h
  · rename_i h0
    split at h
    · rename_i l
      cases h
      first
        | (rw [if_neg (by omega), if_neg (by omega)])
        | (simp; omega)
    · cases h
  · rename_i h0
    split at h
    · rename_i l
      cases h
      first
        | (rw [if_pos (by omega), if_neg (by omega)])
        | (simp; omega)
    · cases h
theorem md_pop : MtD X "list.pop" opPop := by
  intro pins s σ H x xs v us Q I rx rxs hh
  obtain ⟨θ, S, d, ds, st, hx, hs, p⟩ := hh
  unfold opPop at p
  split at p
  · rename_i n ys e
    obtain ⟨a, vs, rfl, hn, h1, h2⟩ := refL_at st hx e
    cases hs
    refine mt_pop pins s σ H _ _ v us Q I rx rxs ?_
    split at p
    · rename_i y e2
      obtain ⟨w, e3, r3⟩ := h2.at e2
      exact ⟨a, vs, w, rfl, rfl, h1, by rw [h2.len]; exact e3, p.setL st hn h2.dropLast r3⟩
    · exact p.elim
  · rename_i n ys i e
    obtain ⟨a, vs, rfl, hn, h1, h2⟩ := refL_at st hx e
    cases hs with
    | cons r1 r =>
      cases r; cases r1
      refine mt_popAt pins s σ H _ _ v us Q I rx rxs ?_
      split at p
      · rename_i k ek
        split at p
        · rename_i y e2
          split at p
          · rename_i l
            obtain ⟨w, e3, r3⟩ := h2.at e2
            exact ⟨a, vs, i, k, w, rfl, rfl, h1, l.1, l.2, by rw [h2.len]; exact ixN_seq ek, e3, p.setL st hn (h2.erase k) r3⟩
          · exact p.elim
        · exact p.elim
      · exact p.elim
  · exact p.elim
theorem md_reverse : MtD X "list.reverse" opReverse := by
  intro pins s σ H x xs v us Q I rx rxs hh
  obtain ⟨θ, S, d, ds, st, hx, hs, p⟩ := hh
  refine mt_reverse pins s σ H x xs v us Q I rx rxs ?_
  unfold opReverse at p
  split at p
  · rename_i n ys e
    obtain ⟨a, vs, rfl, hn, h1, h2⟩ := refL_at st hx e
    cases hs
    exact ⟨a, vs, rfl, rfl, h1, p.setL st hn h2.rev .non⟩
  · exact p.elim
theorem md_clear : MtD X "list.clear" opClear := by
  intro pins s σ H x xs v us Q I rx rxs hh
  obtain ⟨θ, S, d, ds, st, hx, hs, p⟩ := hh
  refine mt_clear pins s σ H x xs v us Q I rx rxs ?_
  unfold opClear at p
  split at p
  · rename_i n ys e
    obtain ⟨a, vs, rfl, hn, h1, h2⟩ := refL_at st hx e
    cases hs
    exact ⟨a, vs, rfl, rfl, h1, p.setL st hn .nil .non⟩
  · exact p.elim
variable {W : WX} {o e : Expr} {es : List Expr} {m : ME} {ms : MA} {name : Str} {apos cpos pos : Pos} {id : String} {op : D → List D → St0 → R}
theorem ty_list {K : PySem.W.Frag} {θ : Ad} {H : Hp} {S : St0} {v : V} {d : D} {ds : List D} (s : RSt K θ S H) (r : RV K θ H v d) (h : lItems S d = some ds) : tyV K "list" v H := by
  obtain ⟨a, vs, rfl, _, k⟩ := lItems_at s r h
  exact .inl ⟨rfl, vs, k⟩
theorem de_mt (slot : Slot "list" name id) (hty : typeOf (.builtin id) = pure (.type "method_descriptor")) (hm : MtD X id op) (hx : ∀ x ds S, NoX (op x ds S)) (ho : DE X W o m) (ha : DAs X W (e :: es) ms)
    (hbase : attributeBase o name X.env (eval o X.env) = eval o X.env := by rfl)
    (hfew : ((backTo cpos (starEach (e :: es) X.env)).all (fun x => !x.1) && (backToKw cpos (keywordEach [] X.env)).all (fun x => x.1.isSome)
      && decide ((e :: es).length + ([] : List Keyword).length + (if ([] : List Keyword).isEmpty then 0 else 1) < 30)) = true := by rfl)
    (hline : (apos.endLine == cpos.line) = true := by rfl) (hs : starEach (e :: es) X.env = (false, eval e X.env) :: starEach es X.env := by rfl) (hplain : (backTo cpos (starEach es X.env)).any (·.1) = false := by rfl) :
    DE X W (.Call (.Attribute o name apos) (e :: es) [] cpos) (mMt op m ms) := by
  refine PE.imp (pe_bm PySem.F.plainAttrs_list slot hty hm ho ha hbase hfew hline hs hplain) fun σ H Q ⟨θ, ρ, S, n, s, p⟩ => ⟨θ, ρ, S, n, s, PostV.binde s p fun x H1 θ1 S1 d u s1 rx p1 => ?_⟩
  split at p1
  · rename_i ds e1
    exact ⟨ty_list s1 rx e1, θ1, ρ, S1, u.ren n, s1, PostA.bind s1 p1 fun vs H2 θ2 S2 ds u2 s2 rs p2 => ⟨θ2, S2, d, ds, s2, u2.rv rx, rs, p2.nox (hx _ _ _)⟩⟩
  · exact p1.elim
theorem de_mt0 (slot : Slot "list" name id) (hty : typeOf (.builtin id) = pure (.type "method_descriptor")) (hm : MtD X id op) (hx : ∀ x ds S, NoX (op x ds S)) (ho : DE X W o m)
    (hbase : attributeBase o name X.env (eval o X.env) = eval o X.env := by rfl) (hline : (apos.endLine == cpos.line) = true := by rfl) :
    DE X W (.Call (.Attribute o name apos) [] [] cpos) (mMt op m mNil) := by
  refine PE.imp (pe_bm0 PySem.F.plainAttrs_list slot hty hm ho hbase hline) fun σ H Q ⟨θ, ρ, S, n, s, p⟩ => ⟨θ, ρ, S, n, s, PostV.binde s p fun x H1 θ1 S1 d u s1 rx p1 => ?_⟩
  split at p1
  · rename_i ds e1
    exact ⟨ty_list s1 rx e1, θ1, S1, d, [], s1, rx, .nil, p1.nox (hx _ _ _)⟩
  · exact p1.elim
end
theorem nxAppend : ∀ x ds S, NoX (opAppend x ds S) := by
  intro x ds S C fs S' h; unfold opAppend at h; split at h <;> (try split at h) <;> cases h
theorem nxExtend : ∀ x ds S, NoX (opExtend x ds S) := by
  intro x ds S C fs S' h; unfold opExtend at h; split at h <;> (try split at h) <;> (try split at h) <;> cases h
theorem nxPop : ∀ x ds S, NoX (opPop x ds S) := by
  intro x ds S C fs S' h; unfold opPop at h; split at h <;> (try split at h) <;> (try split at h) <;> (try split at h) <;> cases h
theorem nxReverse : ∀ x ds S, NoX (opReverse x ds S) := by
  intro x ds S C fs S' h; unfold opReverse at h; split at h <;> cases h
theorem nxClear : ∀ x ds S, NoX (opClear x ds S) := by
  intro x ds S C fs S' h; unfold opClear at h; split at h <;> cases h
/-! ### stores -/
/-- o[i] = e of a list -/
def mSetIx (e o i : ME) : MS := fun ρ S => (e ρ S).stm ρ fun v S1 => (o ρ S1).stm ρ fun x S2 => (i ρ S2).stm ρ fun k S3 => match refL S3 x, k with
  | some (n, xs), .int k => match ixN xs.length k with
    | some j => .nx ρ (S3.set n (.lst (xs.set j v)))
    | none => .stuck
  | _, _ => .stuck
/-- an instance's field is set -/
def putN (f : Str) (d : D) : List Str → List D → List Str × List D
  | n :: ns, x :: xs => if n = f then (n :: ns, d :: xs) else ((n :: (putN f d ns xs).1), x :: (putN f d ns xs).2)
  | _, _ => ([f], [d])
/-- o.f = e -/
def mSetF (cs : List Addr) (f : Str) (o e : ME) : MS := fun ρ S => (e ρ S).stm ρ fun v S1 => (o ρ S1).stm ρ fun x S2 => match x with
  | .ref n => match S2[n]? with
    | some (.ins C ns xs) => if C ∈ cs ∧ ns.length < 1000 then .nx ρ (S2.set n (.ins C (putN f v ns xs).1 (putN f v ns xs).2)) else .stuck
    | _ => .stuck
  | _ => .stuck
section
variable {X : Cx} {W : WX} {o e i : Expr} {mo me mi : ME} {pos pos' p2 : Pos} {f : Str}
theorem put_at {K : PySem.W.Frag} {θ : Ad} {H : Hp} {v : V} {d : D} (r : RV K θ H v d) : ∀ {fs : List (Str × V)} {ns : List Str} {xs : List D}, fs.map (·.1) = ns → RVs K θ H (fs.map (·.2)) xs → (putF f v fs).map (·.1) = (putN f d ns xs).1 ∧ RVs K θ H ((putF f v fs).map (·.2)) (putN f d ns xs).2
  | [], _, _, e, h => by subst e; cases h; exact ⟨rfl, .one r⟩
  | (g, x) :: fs, _, _, e, h => by
    subst e
    cases h with
    | cons h hs =>
      unfold putF putN
      simp only [List.map_cons]
      by_cases z : g = f
      · rw [if_pos z, if_pos z]
        exact ⟨rfl, .cons r hs⟩
      · rw [if_neg z, if_neg z]
        obtain ⟨h1, h2⟩ := put_at r rfl hs
        exact ⟨by simp only [List.map_cons]; rw [h1], .cons h h2⟩
theorem PostS.stm2 {K : PySem.W.Frag} {θ : Ad} {H : Hp} {S : St0} {r : R} {D : Ends} {σ : L2.St} {ρ : Env0} {k : DL.D → St0 → DL.RS} {Q' : VK} (n : REn K θ H σ ρ) (s : RSt K θ S H) (p : PostS K θ H (r.stm ρ k) W D)
    (q : ∀ v H1 θ1 S1 d, Up K θ H θ1 H1 → REn K θ1 H1 σ ρ → RSt K θ1 S1 H1 → RV K θ1 H1 v d → PostS K θ1 H1 (k d S1) W D → Q' v H1) : PostV K θ H r Q' (fun c d H' => W c d σ H') :=
  PostS.stm n s p fun v H1 θ1 S1 d u s1 rv p1 => q v H1 θ1 S1 d u (u.ren n) s1 rv p1
theorem PostS.setL {K : PySem.W.Frag} {θ : Ad} {H : Hp} {S : St0} {D : Ends} {σ : L2.St} {ρ : Env0} {n : Nat} {a : Addr} {vs : List V} {ds : List DL.D} (p : PostS K θ H (.nx ρ (S.set n (.lst ds))) W D) (s : RSt K θ S H) (en : REn K θ H σ ρ) (hn : θ.ix[n]? = some a) (r : RVs K θ H vs ds) : D.nx σ (upd H a (.lst vs)) := by
  obtain ⟨s', x⟩ := s.setL hn r
  have en' := en.ext x s
  exact p [] _ _ x (by rw [Ad.up_nil]; exact s') en'
theorem ds_setIx (he : DE X W e me) (ho : DE X W o mo) (hi : DE X W i mi)
    (hp : ∀ {to ti : TE}, PE X o to → PE X i ti → PG X (.Subscript o i p2) (gSub to ti rSetL) := by exact fun a b => pg_sub a b set_list)
    (hs : swapsWithSole [.Subscript o i p2] e pos.line X.env = pure false := by rfl) (hw : swappedStores [.Subscript o i p2] e X.env = pure none := by rfl)
    (h1 : (assignEach [.Subscript o i p2] X.env).map (·.2) = [assign (.Subscript o i p2) X.env] := by rfl) : DS X W (.Assign [.Subscript o i p2] e pos) (mSetIx me mo mi) := by
  refine PS.imp (ps_asg he (hp ho hi) hs hw h1) fun D σ H ⟨θ, ρ, S, n, s, p⟩ => ⟨θ, ρ, S, n, s, PostS.stm2 n s p fun v H1 θ1 S1 d u n1 s1 rv p1 => ⟨θ1, ρ, S1, n1, s1, PostS.stm2 n1 s1 p1 fun x H2 θ2 S2 dx u2 n2 s2 rx p2 => ⟨θ2, ρ, S2, n2, s2, PostS.stm2 n2 s2 p2 fun k H3 θ3 S3 dk u3 n3 s3 rk p3 => ?_⟩⟩⟩
  split at p3
  · rename_i nn xs k' e1
    obtain ⟨a, vs, ev, hn, h1, h2⟩ := refL_at s3 (u3.rv rx) e1
    cases rk
    split at p3
    · rename_i j ej
      exact ⟨a, vs, k', j, ev, rfl, h1, by rw [h2.len]; exact ej, PostS.setL p3 s3 n3 hn (h2.set j (u3.rv (u2.rv rv)))⟩
    · exact p3.elim
  · exact p3.elim
theorem ds_setF {cs : List Addr} (ho : DE X W o mo) (he : DE X W e me) (hc : ∀ C ∈ cs, Cls X.K C ∧ NoAttr X.K C f) (hs : swapsWith e (some (.Attribute o f pos')) pos.line X.env = pure false := by rfl) :
    DS X W (.Assign [.Attribute o f pos'] e pos) (mSetF cs f mo me) := by
  refine PS.imp (ps_fld ho he hs) fun D σ H ⟨θ, ρ, S, n, s, p⟩ => ⟨θ, ρ, S, n, s, PostS.stm2 n s p fun v H1 θ1 S1 d u n1 s1 rv p1 => ⟨θ1, ρ, S1, n1, s1, PostS.stm2 n1 s1 p1 fun x H2 θ2 S2 dx u2 n2 s2 rx p2 => ?_⟩⟩
  split at p2
  · rename_i nn
    split at p2
    · rename_i C ns xs q
      split at p2
      · rename_i l
        cases rx with
        | @ref a _ hn =>
          cases s2.ob nn a _ hn q with
          | @ins _ dx fs _ _ h1 h2 h3 =>
            have mm := List.mem_of_getElem? hn
            have x : ∀ o, Ext θ2 [] H2 (upd H2 a o) := fun o => Ext.put mm (s2.nn (List.mem_append_left _ mm))
            obtain ⟨g1, g2⟩ := put_at (f := f) (u2.rv rv) h2 h3
            refine ⟨a, C, dx, fs, rfl, h1, (hc C l.1).1, (hc C l.1).2, ?_, ?_⟩
            · have := congrArg List.length h2
              rw [List.length_map] at this
              omega
            · have g3 := g2.ext (x (.ins C dx (putF f v fs))) s2
              rw [Ad.up_nil] at g3
              exact p2 [] _ _ (x _) (by rw [Ad.up_nil]; exact s2.put hn (.ins upd_same g1 g3)) (n2.ext (x _) s2)
      · exact p2.elim
    · exact p2.elim
  · exact p2.elim
end
/-! ### a new object -/
/-- C(..): keep: it stays in the store -/
def mMake (keep : Bool) (C : Addr) (F : Fn) : Fn := fun ds S =>
  let r := match F (.ref S.length :: ds) (S ++ [.ins C [] []]) with
    | .val d S' => if d = .non then .val (.ref S.length) S' else .stuck
    | .exc C fs S' => .exc C fs S'
    | .stuck => .stuck
  if keep then r else finish S r
/-- a class that may be made by its name -/
structure MkD (P : Program) (w : World) (K : PySem.W.Frag) (mg : Str → Option Value) (base : Heap) (k : Nat) (x : Str) (C : Addr) (F : Fn) : Prop where
  ex : ∃ (f : Addr) (fd : FuncData) (ps : List Str) (np : Nat), Mk K C f ∧ FnOk P w K mg base (L2.CX P w) k f fd ps (spD K np F) ∧ mg x = some (.ref C) ∧ Binds K fd ps [] ∧ ∀ ds S, ds.length ≠ np → F ds S = .stuck
section
variable {X : Cx} {W : WX} {k j : Nat} {x : Str} {C : Addr} {F : Fn} {p pos : Pos} {e : Expr} {es : List Expr} {ms : MA} {keep : Bool}
/-- a new instance and its dict, then __init__: what is raised passes at these slots -/
theorem run_makeS {CX : CXT} {f : Addr} {fd : FuncData} {ps : List Str} {sp : Sp} {E : XK} {pins : List (Addr × Obj)} {σ : L2.St} {H : Hp} {s : Shared} {Q : VK} {us : List Value} {vs : List V} (M : Mk X.K C f) (Fk : FnOk X.prog X.w X.K X.mg X.base CX k f fd ps sp)
    (hr : Room (k + 1) X.A) (hb : Binds X.K fd ps []) (hx : PassesAt CX X σ E) (I : Inv X pins σ H s) (r : Vals vs us)
    (h : ∀ x dx, H x = none → H dx = none → dx ≠ x → sp (.ref x :: vs) (upd (upd H dx (.own x)) x (.ins C dx [])) (fun v H2 => v = .non ∧ Q (.ref x) H2) E) :
    wpAny (model X.prog X.w) X.A (call (.ref C) us) (EP X pins σ Q) X.xe s := by
  have free : ∀ n, s.heap.objs.size ≤ n → H n = none := fun n hn => I.hok.fresh hn
  have want := h (s.heap.objs.size + 1) s.heap.objs.size (free _ (Nat.le_succ _)) (free _ (Nat.le_refl _)) (Nat.ne_of_lt (Nat.lt_succ_self _))
  have J := Inv.made (C := C) I
  have vals : Vals (V.ref (s.heap.objs.size + 1) :: vs) (Value.ref (s.heap.objs.size + 1) :: us) := .cons rfl r
  have count : (Value.ref (s.heap.objs.size + 1) :: us).length = ps.length := by rw [← Fk.len _ _ _ _ want]; exact vals.length.symm
  have bind := hb _ (Value.ref (s.heap.objs.size + 1) :: us) J.kIn (by rw [List.append_nil]; exact count)
  rw [List.append_nil] at bind
  have body := Fk.run (X.A.under (.builtin "type.__call__" ⟨.ref C :: us, []⟩)) X.stack _ _ ⟨Value.ref (s.heap.objs.size + 1) :: us, []⟩ _ _ (fun v H2 => v = .non ∧ Q (.ref (s.heap.objs.size + 1)) H2) E (hr.make C us []) (J.env0.make C us []) bind vals want
  refine wpAny_call (make_map (f := f) I.kIn M.makes M.init (beq_iff_eq.mp M.fn) (codeAny_mono body fun res s' z => ?_))
  match res, z with
  | .error er, z => exact hx pins _ _ er s' J z
  | .ok (.ret u), z =>
    obtain ⟨v, H', L, rv, ev, q⟩ := J.after z
    subst ev
    exact ⟨rv, ⟨V.ref (s.heap.objs.size + 1), H', L, rfl, q⟩⟩
  | .ok .next, z => exact z.elim
  | .ok .brk, z => exact z.elim
  | .ok .cont, z => exact z.elim
theorem make_reading {K : PySem.W.Frag} {θ : Ad} {H : Hp} {S : St0} {Q : VK} {E : XK} {vs : List V} {ds : List D} {np : Nat} (st : ∀ ds S, ds.length ≠ np → F ds S = .stuck) (s : RSt K θ S H) (r : RVs K θ H vs ds) (p : PostV K θ H (mMake keep C F ds S) Q E) (x dx : Addr) (hx : H x = none) (hd : H dx = none) (ne : dx ≠ x) :
    spD K np F (.ref x :: vs) (upd (upd H dx (.own x)) x (.ins C dx [])) (fun v H2 => v = .non ∧ Q (.ref x) H2) E := by
  have nb : (if keep = true then (match F (.ref S.length :: ds) (S ++ [.ins C [] []]) with
    | .val d S' => if d = .non then R.val (.ref S.length) S' else .stuck
    | .exc C fs S' => .exc C fs S'
    | .stuck => .stuck) else finish S (match F (.ref S.length :: ds) (S ++ [.ins C [] []]) with
    | .val d S' => if d = .non then R.val (.ref S.length) S' else .stuck
    | .exc C fs S' => .exc C fs S'
    | .stuck => .stuck)) = mMake keep C F ds S := rfl
  rw [← nb] at p
  clear nb
  have p' : PostV K θ H (match F (.ref S.length :: ds) (S ++ [.ins C [] []]) with
    | .val d S' => if d = .non then R.val (.ref S.length) S' else .stuck
    | .exc C fs S' => .exc C fs S'
    | .stuck => .stuck) Q E := by
    cases keep with
    | true => rwa [if_pos rfl] at p
    | false => rw [if_neg Bool.false_ne_true] at p; exact PostV.finish s (fun new H' S' x s' => Ext.fresh s x s') p
  clear p
  have hd1 : upd H dx (.own x) x = none := by rw [upd_ne (Ne.symm ne)]; exact hx
  have s1 := s.laid (o := .own x) hd
  have e1 := Ext.laid (o := HO.own x) θ hd
  have s2 : RSt K (θ.up [x]) (S ++ [.ins C [] []]) (upd (upd H dx (.own x)) x (.ins C dx [])) := s1.add hd1 (.ins upd_same rfl .nil)
  have e2 : Ext θ [x] H (upd (upd H dx (.own x)) x (.ins C dx [])) := by
    have e3 : Ext (θ.up []) [x] (upd H dx (.own x)) (upd (upd H dx (.own x)) x (.ins C dx [])) := by rw [Ad.up_nil]; exact Ext.laid1 θ hd1
    exact e1.trans e3
  have rx : RV K (θ.up [x]) (upd (upd H dx (.own x)) x (.ins C dx [])) (.ref x) (.ref S.length) := .ref (by rw [Ad.up_ix, List.getElem?_append_right (by rw [s.len]; exact Nat.le_refl _), s.len, Nat.sub_self]; rfl)
  have q : PostV K (θ.up [x]) (upd (upd H dx (.own x)) x (.ins C dx [])) (F (.ref S.length :: ds) (S ++ [.ins C [] []])) (fun v H2 => v = .non ∧ Q (.ref x) H2) E := by
    replace p' := PostV.up (Up.of e2 s) p'
    cases hF : F (.ref S.length :: ds) (S ++ [.ins C [] []]) with
    | stuck => rw [hF] at p'; exact p'
    | exc C2 fs S' => rw [hF] at p'; exact p'
    | val d S' =>
      rw [hF] at p'
      simp only at p'
      split at p'
      · rename_i z
        subst z
        intro new H' v x' s' rv
        cases rv
        exact ⟨rfl, p' new H' _ x' s' ((Up.of x' s2).rv rx)⟩
      · exact p'.elim
  have len : ds.length + 1 = np := Decidable.byContradiction fun h => by rw [st (.ref S.length :: ds) _ (by simpa using h)] at q; exact q
  exact ⟨by rw [List.length_cons, r.len]; exact len, θ.up [x], S ++ [.ins C [] []], .ref S.length :: ds, s2, .cons rx (r.ext e2 s), q⟩
theorem de_make (c : MkD X.prog X.w X.K X.mg X.base k x C F) (hr : Room j X.A) (hk : k + 1 ≤ j) (pa : ∀ σ, PassesAt (L2.CX X.prog X.w) X σ (WE W σ)) (hg : Gl X x) (ha : DAs X W (e :: es) ms)
    (hdb : (x == ("__debug__" : Str)) = false := by decide) (he : starEach (e :: es) X.env = (false, eval e X.env) :: starEach es X.env := by rfl) (hpl : (backTo pos (starEach es X.env)).any (·.1) = false := by rfl) :
    DE X W (.Call (.Name x p) (e :: es) [] pos) (mOn (mMake keep C F) ms) := by
  obtain ⟨f, fd, ps, np, M, Fk, hm, b, st⟩ := c.ex
  refine ⟨fun pins s σ H Q I ⟨θ, ρ, S, n, hs, p0⟩ => ?_⟩
  refine wpAny_Call_Name_kw (ld_glob I hg hm ?_ hdb)
  refine PySem.W.callWith_K (h₀ := X.base) I.ok.mod.kin M.kp (thn (ha.run pos pins s σ H (fun vs H1 => ∃ θ1 S1 ds, RSt X.K θ1 S1 H1 ∧ RVs X.K θ1 H1 vs ds ∧ PostV X.K θ1 H1 (mMake keep C F ds S1) Q (fun c d H' => W c d σ H')) I ⟨θ, ρ, S, n, hs, PostA.bind hs p0 fun vs H1 θ1 S1 ds u s1 rs p1 => ⟨θ1, S1, ds, s1, rs, p1⟩⟩) fun us s1 ⟨vs, H1, I1, r1, θ1, S1, ds, s1', rs, p1⟩ => ⟨I1.kIn, ?_⟩) he hpl
  exact run_makeS M Fk (hr.mono hk) b (pa σ) I1 r1 fun x dx hx hd ne => make_reading st s1' rs p1 x dx hx hd ne
end
end DL
set_option Elab.async false
set_option linter.all false
set_option maxRecDepth 100000
set_option autoImplicit false
/-! The layer of data: short words for the terms; the law's own def. -/
namespace DL
open PySem PySem.Spec L2 _root_.RS
open PyProof.Rows hiding St
section
variable {X : Cx} {W : WX} {p pos : Pos} {a b c e : Expr} {es : List Expr} {ma mb mc m : ME} {ms : MA} {x : Str}
theorem dv (i : Nat) (hN : X.N[i]? = some x := by rfl) (hv : Vis X.env.scope x := by first | exact Or.inl rfl | exact Or.inr (Or.inl rfl) | exact Or.inr (Or.inr rfl)) (hd : (x == ("__debug__" : Str)) = false := by decide)
    (hcd : (x == ("__classdict__" : Str)) = false := by decide) : DE X W (.Name x pos) (mVar i) := de_var hN hv hd hcd
/-- a name of the module: what it holds, always -/
def GC (K : PySem.W.Frag) (mg : Str → Option Value) (x : Str) (d : D) : Prop := ∃ v u, mg x = some u ∧ RelV v u ∧ ∀ θ H, RV K θ H v d
theorem de_g {d : D} (h : GC X.K X.mg x d) (hg : Gl X x := by rfl) (hd : (x == ("__debug__" : Str)) = false := by decide) : DE X W (.Name x pos) (mC d) := by
  obtain ⟨v, u, hm, r, q⟩ := h
  exact de_const (pe_glob hg hm r hd) q
theorem de_ty {T : String} (hm : X.mg x = none) (hv : bootBuiltins x = some (.type T)) (hg : Gl X x := by rfl) (hn : x ≠ "__name__" := by decide) (hd : (x == ("__debug__" : Str)) = false := by decide) : DE X W (.Name x pos) (mC (.opq (.ty T))) :=
  de_const (pe_bltn (v := .ty T) hg hm hv rfl hn hd) fun _ _ => .opq _
theorem GC.int {K : PySem.W.Frag} {mg : Str → Option Value} {i : Int} {t : Tok} (h : mg x = some (.int i t)) : GC K mg x (.int i) := ⟨.int i, _, h, ⟨_, rfl⟩, fun _ _ => .int i⟩
theorem GC.str {K : PySem.W.Frag} {mg : Str → Option Value} {i : Str} {t : Tok} (h : mg x = some (.str i t)) : GC K mg x (.str i) := ⟨.str i, _, h, ⟨_, rfl⟩, fun _ _ => .str i⟩
theorem GC.ref {K : PySem.W.Frag} {mg : Str → Option Value} {C : Addr} (h : mg x = some (.ref C)) : GC K mg x (.opq (.ref C)) := ⟨.ref C, _, h, rfl, fun _ _ => .opq _⟩
/-- a op b op' c -/
def mChain (o o' : D → D → St0 → R) (a b c : ME) : ME := fun ρ S => (a ρ S).bind fun x S1 => (b ρ S1).bind fun y S2 => (o x y S2).test fun k S3 => if k then (c ρ S3).bind fun z S4 => o' y z S4 else .val (.bl false) S3
theorem PostV.testx {K : PySem.W.Frag} {θ : Ad} {H : Hp} {S : St0} {r : R} {Q : VK} {E E' : XK} {k : Bool → St0 → R} {Q' : VK} (n : NoX r) (s : RSt K θ S H) (p : PostV K θ H (r.test k) Q E)
    (q : ∀ b H1 θ1 S1, Up K θ H θ1 H1 → RSt K θ1 S1 H1 → PostV K θ1 H1 (k b S1) Q E → Q' (.bl b) H1) : PostV K θ H r Q' E' := (PostV.test s p q).nox n
theorem de_chain {op op' : CmpOp} {o o' : D → D → St0 → R} (ho : OpD X (compareOp op) o) (ho' : OpD X (compareOp op') o') (hx : ∀ x y S, NoX (o x y S)) (hx' : ∀ x y S, NoX (o' x y S)) (ha : DE X W a ma) (hb : DE X W b mb) (hc : DE X W c mc)
    (hm : lastMarks [op, op'] [b, c] = false := by with_unfolding_all rfl) : DE X W (.Compare a [op, op'] [b, c] pos) (mChain o o' ma mb mc) := by
  refine PE.imp (pe_chain ho ho' ha hb hc hm) fun σ H Q ⟨θ, ρ, S, n, s, p⟩ => ⟨θ, ρ, S, n, s, PostV.binde s p fun x H1 θ1 S1 d u s1 rx p1 => ⟨θ1, ρ, S1, u.ren n, s1, PostV.binde s1 p1 fun y H2 θ2 S2 d2 u2 s2 ry p2 => ⟨θ2, S2, d, d2, s2, u2.rv rx, ry, PostV.testx (hx _ _ _) s2 p2 fun k H3 θ3 S3 u3 s3 p3 => ⟨k, rfl, ?_⟩⟩⟩⟩
  cases k with
  | true => exact iteT ⟨θ3, ρ, S3, u3.ren (u2.ren (u.ren n)), s3, PostV.binde s3 p3 fun z H4 θ4 S4 d4 u4 s4 rz p4 => ⟨θ4, S4, d2, d4, s4, u4.rv (u3.rv ry), rz, p4.nox (hx' _ _ _)⟩⟩
  | false => exact iteF (p3.here s3 (.bl _))
theorem dt_chain {op op' : CmpOp} {o o' : D → D → St0 → R} (ho : OpD X (compareOp op) o) (ho' : OpD X (compareOp op') o') (hx : ∀ x y S, NoX (o x y S)) (hx' : ∀ x y S, NoX (o' x y S)) (ha : DE X W a ma) (hb : DE X W b mb) (hc : DE X W c mc)
    (hm : lastMarks [op, op'] [b, c] = false := by with_unfolding_all rfl) : DT X W (.Compare a [op, op'] [b, c] pos) (mChain o o' ma mb mc) := by
  refine PT.imp (pt_chain ho ho' ha hb hc hm) fun σ H Q ⟨θ, ρ, S, n, s, p⟩ => ⟨θ, ρ, S, n, s, PostV.binde s p fun x H1 θ1 S1 d u s1 rx p1 => ⟨θ1, ρ, S1, u.ren n, s1, PostV.binde s1 p1 fun y H2 θ2 S2 d2 u2 s2 ry p2 => ⟨θ2, S2, d, d2, s2, u2.rv rx, ry, PostV.testx (hx _ _ _) s2 p2 fun k H3 θ3 S3 u3 s3 p3 => ⟨k, rfl, ?_⟩⟩⟩⟩
  cases k with
  | true => exact iteT ⟨θ3, ρ, S3, u3.ren (u2.ren (u.ren n)), s3, PostV.binde s3 p3 fun z H4 θ4 S4 d4 u4 s4 rz p4 => ⟨θ4, S4, d2, d4, s4, u4.rv (u3.rv ry), rz, p4.nox (hx' _ _ _)⟩⟩
  | false => exact iteF (p3.here s3 (.bl _))
/-! tests by and, or -/
theorem dw_and1 (h : DT X W a m) : DW X W (.BoolOp .And [a] pos) m := pw_and1 h
theorem dw_or1 (h : DT X W a m) : DW X W (.BoolOp .Or [a] pos) m := pw_or1 h
theorem dw_and {rest : List Expr} (ha : DT X W a ma) (hb : DW X W (.BoolOp .And (b :: rest) pos) mb) (hp : ∀ {t u : TT}, PT X a t → PW X (.BoolOp .And (b :: rest) pos) u → PW X (.BoolOp .And (a :: b :: rest) pos) (tAnd t u) := by exact fun h g => pw_and h g) :
    DW X W (.BoolOp .And (a :: b :: rest) pos) (mAnd ma mb) := by
  refine PW.imp (hp ha hb) fun σ H Q ⟨θ, ρ, S, n, s, p⟩ => ⟨θ, ρ, S, n, s, p.test s fun c H1 θ1 S1 u s1 p1 => ⟨c, rfl, ?_⟩⟩
  cases c with
  | true => exact iteT ⟨θ1, ρ, S1, u.ren n, s1, p1⟩
  | false =>
    refine iteF ?_
    obtain ⟨b', e, q⟩ := p1.here s1 (.bl _)
    cases e
    exact q
theorem dw_or {rest : List Expr} (ha : DT X W a ma) (hb : DW X W (.BoolOp .Or (b :: rest) pos) mb) (hp : ∀ {t u : TT}, PT X a t → PW X (.BoolOp .Or (b :: rest) pos) u → PW X (.BoolOp .Or (a :: b :: rest) pos) (tOr t u) := by exact fun h g => pw_or h g) :
    DW X W (.BoolOp .Or (a :: b :: rest) pos) (mOr ma mb) := by
  refine PW.imp (hp ha hb) fun σ H Q ⟨θ, ρ, S, n, s, p⟩ => ⟨θ, ρ, S, n, s, p.test s fun c H1 θ1 S1 u s1 p1 => ⟨c, rfl, ?_⟩⟩
  cases c with
  | false => exact iteF ⟨θ1, ρ, S1, u.ren n, s1, p1⟩
  | true =>
    refine iteT ?_
    obtain ⟨b', e, q⟩ := p1.here s1 (.bl _)
    cases e
    exact q
/-- a statement that is not reached -/
def mNever : MS := fun _ _ => .stuck
theorem ds_never {st : Stmt} : DS X W st mNever := PS.imp ps_never fun D σ H ⟨θ, ρ, S, n, s, p⟩ => p
/-- x op= e, numbers -/
def mAug (i : Nat) (o : D → D → St0 → R) (e : ME) : MS := fun ρ S => match ρ[i]? with
  | some (some x) => (e ρ S).stm ρ fun y S1 => (o x y S1).stm ρ fun z S2 => .nx (ρ.set i (some z)) S2
  | _ => .stuck
end
section
variable {P : Program} {w : World} {K : PySem.W.Frag} {mg : Str → Option Value} {base : Heap}
theorem CaD.none {x : Str} {ps N : List Str} {st : Stmt} {f : Addr} {fd : FuncData} (k : Nat) (Df : LB.Df K mg x ps st f fd) : CaD P w K mg base k x (fun _ _ => .stuck) :=
  ⟨f, fd, ps, ps.length, ⟨fun vs H Q E h => h.1, fun A outer s H args us vs Q E hr he hb hv h => by obtain ⟨_, _, _, _, _, _, p⟩ := h; exact p.elim⟩, Df.at_, Df.fn.kp, Df.bd, fun _ _ _ => rfl⟩
theorem CaD.mono {x : Str} {j k : Nat} {F : Fn} (c : CaD P w K mg base j x F) (h : j ≤ k) : CaD P w K mg base k x F := by
  obtain ⟨f, fd, ps, np, Fk, r⟩ := c.ex
  exact ⟨f, fd, ps, np, Fk.mono h, r⟩
/-- a class's __init__ as a def -/
theorem DBody.mkd {x q : Str} {ps N : List Str} {st : Stmt} {f C : Addr} {fd : FuncData} {k : Nat} {m : MS} (M : Mk K C f) (F : Fun K "__init__" q st f fd) (B : Binds K fd ps []) (hm : mg x = some (.ref C)) (S : FnScope N ps (defScope st)) (np n : Nat) (hn : n = N.length) (hp : np = ps.length) (b : DBody P w K mg base k q st N f m) :
    MkD P w K mg base (k + 1) x C (mDef false np n m) :=
  ⟨f, fd, ps, np, M, b.fn F S false np n hn hp, hm, B, fun ds S h => by unfold mDef; rw [if_neg h]⟩
/-- the law's own promise: on the script it hands back True -/
def spTrue (K : PySem.W.Frag) (most : Nat) : Sp := fun vs H Q E => ∃ (a : Addr) (ns : List Int), vs = [.ref a] ∧ FL K H a (ns.map V.int) ∧ ns.length ≤ most ∧ (∀ z ∈ ns, Builtin.Int.intBits z ≤ 1048576) ∧ ∀ H', Q (.bl true) H'
/-- where the law's function tells True of each script -/
theorem law_ok {x : Str} {k : Nat} {F : Fn} {fa : Addr} {fd : FuncData} {most : Nat} (Fk : FnOk P w K mg base (L2.CX P w) k fa fd [x] (spD K 1 F))
    (h : ∀ ns : List Int, ns.length ≤ most → (∀ z ∈ ns, Builtin.Int.intBits z ≤ 1048576) → ∃ S', F [.fls (ns.map .int)] [] = .val (.bl true) S') : FnOk P w K mg base CX0 k fa fd [x] (spTrue K most) := by
  refine ⟨fun vs H Q E q => ?_, fun A outer s H args us vs Q E hr he hb hv q => ?_⟩
  · obtain ⟨a, ns, rfl, _⟩ := q
    rfl
  · obtain ⟨a, ns, rfl, hf, hl, hz, q⟩ := q
    obtain ⟨S', e⟩ := h ns hl hz
    have st : RSt K ⟨[], []⟩ [] H := ⟨rfl, .nil, fun a m => (by cases m), fun n a o h1 h2 => by cases h1⟩
    refine codeAny_mono (Fk.run A outer s H args us [.ref a] Q (fun _ _ _ => False) hr he hb hv ⟨rfl, ⟨[], []⟩, [], _, st, .one (.fls hf (RVs.ints ns)), ?_⟩) fun r s' z => ?_
    · rw [e]
      intro new H' v x s rv
      cases rv
      exact q H'
    · cases r with
      | ok f => cases f <;> exact z
      | error er =>
        obtain ⟨_, _, _, _, _, _, _, _, _, _, _, _, w⟩ := (z : L2.CX P w outer H s (fun _ _ _ => False) er s')
        exact w.elim
end
end DL
namespace DL
open PySem PySem.Spec L2 _root_.RS
theorem FL.only {K : PySem.W.Frag} {H : Hp} {a : Addr} {vs : List V} (o : Only H) (h : SqL K H a vs) : FL K H a vs := by
  rcases h with (h | h) | h
  · rcases o a with z | ⟨_, _, z⟩ <;> (rw [z] at h; cases h)
  · exact .inl h
  · exact .inr h
end DL
set_option Elab.async false
set_option linter.all false
set_option maxRecDepth 100000
set_option autoImplicit false
/-! The layer of data: order of data, index, doc. -/
namespace DL
open PySem PySem.Spec L2 _root_.RS
open PyProof.Rows hiding St
theorem hu65 {X : Cx} {k : Nat} (hr : Room k X.A) : X.A.units + 65 < cLine := by have := hr.un; omega
/-- data in order -/
def ordD (f : PyData → PyData → Bool) (o : O2) : O2 := fun x y S => match o x y S with
  | some d => some d
  | none => match pyOf S x, pyOf S y with
    | some (.tuple as), some (.tuple bs) => if PySem.W.alike (.tuple as) (.tuple bs) ∧ (PyData.tuple as).depth ≤ 60 then some (.bl (f (.tuple as) (.tuple bs))) else none
    | some (.list as), some (.list bs) => if PySem.W.alike (.list as) (.list bs) ∧ (PyData.list as).depth ≤ 60 then some (.bl (f (.list as) (.list bs))) else none
    | _, _ => none
def opLtD : O2 := ordD (fun a b => PySem.W.dataLt a b) opLt
def opLeD : O2 := ordD (fun a b => !PySem.W.dataLt b a) opLe
def opGtD : O2 := ordD (fun a b => PySem.W.dataLt b a) opGt
def opGeD : O2 := ordD (fun a b => !PySem.W.dataLt a b) opGe
section
variable {X : Cx}
theorem od_ord {f : PyData → PyData → Bool} {o : O2} {op : CmpOp} (hu : X.A.units + 64 < cLine) (h : OpD X (compareOp op) (lift2 o))
    (q : ∀ {s : Shared} {a b : Value} {da db : PyData} {as bs : List Addr} {Q : Value → Shared → Prop} {E : Value → Shared → Prop}, Reads s.heap a da as → Reads s.heap b db bs → PySem.W.alike da db = true → da ≠ .none → X.A.units + min da.depth db.depth < cLine → Q (.bool (f da db)) s →
      wpAny (model X.prog X.w) X.A (compareOp op a b) Q E s) : OpD X (compareOp op) (lift2 (ordD f o)) := by
  intro pins s σ H x y v u Q I rx ry hh
  obtain ⟨θ, S, d, e, hs, hx, hy, p⟩ := hh
  cases e1 : o d e S with
  | some g =>
    refine h pins s σ H x y v u Q I rx ry ⟨θ, S, d, e, hs, hx, hy, ?_⟩
    simp only [lift2, ordD, e1] at p ⊢
    exact p
  | none =>
    have main : ∀ a b, pyOf S d = some a → pyOf S e = some b → PySem.W.alike a b = true → a ≠ .none → a.depth ≤ 60 → PostV X.K θ H (.val (.bl (f a b)) S) Q (fun _ _ _ => False) → wpAny (model X.prog X.w) X.A (compareOp op v u) (EP X pins σ Q) X.xe s := by
      intro a b e2 e3 al nn dp p
      obtain ⟨as, r1⟩ := Dp.reads I a x v (py_at hs hx e2) rx
      obtain ⟨bs, r2⟩ := Dp.reads I b y u (py_at hs hy e3) ry
      exact q r1 r2 al nn (by have := Nat.min_le_left a.depth b.depth; omega) ⟨.bl _, H, I, rfl, p.here hs (.bl _)⟩
    simp only [lift2, ordD, e1] at p
    split at p
    · rename_i g e4
      split at e4
      · rename_i as bs e2 e3
        split at e4
        · rename_i c
          cases e4
          exact main _ _ e2 e3 c.1 (fun z => by cases z) c.2 p
        · cases e4
      · rename_i as bs e2 e3
        split at e4
        · rename_i c
          cases e4
          exact main _ _ e2 e3 c.1 (fun z => by cases z) c.2 p
        · cases e4
      · cases e4
    · exact p.elim
theorem od_ltD (hu : X.A.units + 64 < cLine) : OpD X (compareOp .Lt) (lift2 opLtD) := od_ord hu od_lt fun ra rb h hn hu hq => PySem.W.lt_data ra rb h hn hu hq
theorem od_leD (hu : X.A.units + 64 < cLine) : OpD X (compareOp .LtE) (lift2 opLeD) := od_ord hu od_le fun ra rb h hn hu hq => PySem.W.le_data ra rb h hn hu hq
theorem od_gtD (hu : X.A.units + 64 < cLine) : OpD X (compareOp .Gt) (lift2 opGtD) := od_ord hu od_gt fun ra rb h hn hu hq => PySem.W.gt_data ra rb h hn hu hq
theorem od_geD (hu : X.A.units + 64 < cLine) : OpD X (compareOp .GtE) (lift2 opGeD) := od_ord hu od_ge fun ra rb h hn hu hq => PySem.W.ge_data ra rb h hn hu hq
end
/-! ### l.index(x) -/
def opIndex (x : D) (ds : List D) (S : St0) : R := match pyOf S x, ds with
  | some (.list bs), [d] => match pyOf S d with
    | some a => if shp a && shp (.list bs) then match bs.findIdx? fun z => PyData.eqv z a with
      | some j => .val (.int (j : Nat)) S
      | none => .stuck
      else .stuck
    | none => .stuck
  | _, _ => .stuck
theorem nxIndex : ∀ x ds S, NoX (opIndex x ds S) := by
  intro x ds S C fs S' h; unfold opIndex at h; split at h <;> (try split at h) <;> (try split at h) <;> (try split at h) <;> cases h
section
variable {X : Cx}
theorem md_index (hu : X.A.units + 65 < cLine) : MtD X "list.index" opIndex := by
  intro pins s σ H x xs v us Q I rx rxs hh
  obtain ⟨θ, S, d, ds, st, hx, hs, p⟩ := hh
  refine mt_indexD hu pins s σ H x xs v us Q I rx rxs ?_
  unfold opIndex at p
  split at p
  · rename_i bs d' e
    cases hs with
    | cons r1 r =>
      cases r
      split at p
      · rename_i a e2
        split at p
        · rename_i c
          simp only [shp, Bool.and_eq_true] at c
          split at p
          · rename_i j ej
            rw [List.findIdx?_eq_some_iff_getElem] at ej
            obtain ⟨l, h1, h2⟩ := ej
            have hD := py_at st hx e
            cases x with
            | ref b =>
              exact ⟨b, _, a, bs, j, bs[j], rfl, rfl, hD, py_at st r1 e2, c.2, c.1, List.getElem?_eq_getElem l, h1, fun m z hm hz => by
                have lm : m < bs.length := by omega
                rw [List.getElem?_eq_getElem lm] at hz
                cases hz
                simpa using h2 m hm, p.here st (.int _)⟩
            | _ => cases hD
          · exact p.elim
        · exact p.elim
      · exact p.elim
  · exact p.elim
end
end DL
set_option Elab.async false
set_option linter.all false
set_option maxRecDepth 100000
set_option autoImplicit false
/-! The layer of data: dicts of numbers and texts as keys; lists of ranges; x[::-1]; x op= e. -/
namespace DL
open PySem PySem.Spec L2 _root_.RS
open PyProof.Rows hiding St
theorem hu1 {X : Cx} {k : Nat} (hr : Room k X.A) : X.A.units + 1 < cLine := by have := hr.un; omega
def dctOf (S : St0) : D → Option (List D × List D)
  | .dct ks xs => some (ks, xs)
  | .ref n => match S[n]? with
    | some (.dct ks xs) => some (ks, xs)
    | _ => none
  | _ => none
def kOf : D → Option Key
  | .int i => some (.inl i)
  | .str s => some (.inr s)
  | _ => none
def lookD : List D → List D → D → Option D
  | k :: ks, x :: xs, d => if k = d then some x else lookD ks xs d
  | _, _, _ => none
def putD (ks xs : List D) (d x : D) : List D × List D := if d ∈ ks then (ks, List.zipWith (fun k y => if k = d then x else y) ks xs) else (ks ++ [d], xs ++ [x])
section
variable {K : PySem.W.Frag} {θ : Ad} {H : Hp} {S : St0} {v : V} {d x : D}
theorem dct_at {ks xs : List D} (s : RSt K θ S H) (r : RV K θ H v d) (e : dctOf S d = some (ks, xs)) : ∃ a kvs, v = .ref a ∧ H a = some (.dK kvs) ∧ RKeys (kvs.map (·.1)) ks ∧ RVs K θ H (kvs.map (·.2)) xs := by
  cases d <;> simp only [dctOf] at e <;> try cases e
  · cases r with
    | dctK n h q hs => exact ⟨_, _, rfl, h, q, hs⟩
  · rename_i n
    cases r with
    | @ref a _ hn =>
      split at e
      · rename_i ks' xs' q
        cases e
        cases s.ob n a _ hn q with
        | dctK h q hs => exact ⟨_, _, rfl, h, q, hs⟩
      · cases e
theorem key_at {k : Key} (r : RV K θ H v d) (e : kOf d = some k) : v = kV k ∧ RKey k d := by
  cases d <;> simp only [kOf] at e <;> cases e
  · cases r; exact ⟨rfl, .int _⟩
  · cases r; exact ⟨rfl, .str _⟩
theorem RKey.eq_iff {j k : Key} {c d : D} (h : RKey j c) (g : RKey k d) : j = k ↔ c = d := by
  cases h <;> cases g <;> simp
theorem look_k {k : Key} {d : D} (rk : RKey k d) : ∀ {kvs : List (Key × V)} {ks xs : List D}, RKeys (kvs.map (·.1)) ks → RVs K θ H (kvs.map (·.2)) xs →
    (∀ x, lookD ks xs d = some x → ∃ v, valV kvs k = some v ∧ RV K θ H v x) ∧ (lookD ks xs d = none → valV kvs k = none)
  | [], _, _, .nil, .nil => ⟨fun x h => (by cases h), fun _ => rfl⟩
  | (j, v) :: kvs, _, _, .cons rj rks, .cons rx rxs => by
    rename_i c ds y ys
    unfold lookD
    by_cases e : c = d
    · have e' : j = k := (rj.eq_iff rk).mpr e
      rw [if_pos e, valV_pos (p := (j, v)) e']
      exact ⟨fun x h => (by cases h; exact ⟨v, rfl, rx⟩), fun h => (by cases h)⟩
    · have e' : ¬ j = k := fun z => e ((rj.eq_iff rk).mp z)
      rw [if_neg e, valV_neg (p := (j, v)) e']
      exact look_k rk rks rxs
theorem any_k {k : Key} {d : D} (rk : RKey k d) : ∀ {kvs : List (Key × V)} {ks : List D}, RKeys (kvs.map (·.1)) ks → ((kvs.any fun kv => decide (kv.1 = k)) = true ↔ d ∈ ks)
  | [], _, .nil => by simp
  | (j, v) :: kvs, _, .cons rj rks => by
    rename_i c ds
    rw [List.any_cons, Bool.or_eq_true, decide_eq_true_eq, List.mem_cons, any_k rk rks, rj.eq_iff rk]
    exact ⟨fun h => h.imp Eq.symm id, fun h => h.imp Eq.symm id⟩
theorem RKeys.app1 : ∀ {ks : List Key} {ds : List D} {k : Key} {d : D}, RKeys ks ds → RKey k d → RKeys (ks ++ [k]) (ds ++ [d])
  | _, _, _, _, .nil, g => .cons g .nil
  | _, _, _, _, .cons h hs, g => .cons h (hs.app1 g)
theorem put_map {k : Key} {d : D} (rk : RKey k d) {v : V} {x : D} (rx : RV K θ H v x) : ∀ {kvs : List (Key × V)} {ks xs : List D}, RKeys (kvs.map (·.1)) ks → RVs K θ H (kvs.map (·.2)) xs →
    RKeys ((kvs.map fun kv => if kv.1 = k then (kv.1, v) else kv).map (·.1)) ks ∧ RVs K θ H ((kvs.map fun kv => if kv.1 = k then (kv.1, v) else kv).map (·.2)) (List.zipWith (fun c y => if c = d then x else y) ks xs)
  | [], _, _, .nil, .nil => ⟨.nil, .nil⟩
  | (j, w) :: kvs, _, _, .cons rj rks, .cons ry rxs => by
    rename_i c ds y ys
    obtain ⟨h1, h2⟩ := put_map rk rx rks rxs
    simp only [List.map_cons, List.zipWith_cons_cons]
    by_cases e : c = d
    · rw [if_pos ((rj.eq_iff rk).mpr e), if_pos e]
      exact ⟨.cons rj h1, .cons rx h2⟩
    · rw [if_neg fun z => e ((rj.eq_iff rk).mp z), if_neg e]
      exact ⟨.cons rj h1, .cons ry h2⟩
theorem put_k {k : Key} {d : D} (rk : RKey k d) {v : V} {x : D} (rx : RV K θ H v x) {kvs : List (Key × V)} {ks xs : List D} (h1 : RKeys (kvs.map (·.1)) ks) (h2 : RVs K θ H (kvs.map (·.2)) xs) :
    RKeys ((putK kvs k v).map (·.1)) (putD ks xs d x).1 ∧ RVs K θ H ((putK kvs k v).map (·.2)) (putD ks xs d x).2 := by
  unfold putK putD
  by_cases m : d ∈ ks
  · rw [if_pos ((any_k rk h1).mpr m), if_pos m]
    exact put_map rk rx h1 h2
  · rw [if_neg (fun z => m ((any_k rk h1).mp z)), if_neg m, List.map_append, List.map_append]
    exact ⟨h1.app1 rk, h2.app (.one rx)⟩
end
def opDget : O2 := fun x y S => match dctOf S x, kOf y with
  | some (ks, xs), some _ => lookD ks xs y
  | _, _ => none
section
variable {X : Cx} {W : WX} {pos pos' p2 apos cpos : Pos} {a b c e o i f : Expr} {es : List Expr} {m mo mi ma mb md : ME} {ms : MA}
theorem rk_len {K : PySem.W.Frag} {θ : Ad} {H : Hp} {kvs : List (Key × V)} {ks : List D} (h : RKeys (kvs.map (·.1)) ks) : kvs.length = ks.length := by
  have := h.len
  rwa [List.length_map] at this
theorem de_dget (hu : X.A.units + 1 < cLine) (ho : DE X W o mo) (hi : DE X W i mi) (hs : NoSl i) : DE X W (.Subscript o i pos) (mBin (lift2 opDget) mo mi) := by
  refine PE.imp (pe_dget hu ho hi hs) fun σ H Q ⟨θ, ρ, S, n, s, p⟩ => ⟨θ, ρ, S, n, s, p.binde s fun x H1 θ1 S1 d u s1 rx p1 => ⟨θ1, ρ, S1, u.ren n, s1, p1.binde s1 fun y H2 θ2 S2 e u2 s2 ry p2 => ?_⟩⟩
  unfold lift2 opDget at p2
  split at p2
  · rename_i g h
    split at h
    · rename_i ks xs k e1 e2
      obtain ⟨a, kvs, rfl, h1, h2, h3⟩ := dct_at s2 (u2.rv rx) e1
      obtain ⟨rfl, rk⟩ := key_at ry e2
      obtain ⟨v, q1, q2⟩ := (look_k rk h2 h3).1 _ h
      refine ⟨a, v, rfl, ?_, p2.here s2 q2⟩
      rw [← q1]
      exact DGet.k h1
    · cases h
  · exact p2.elim
/-- y in d -/
def mDin (neg : Bool) (y x : ME) : ME := mBin (lift2 fun y x S => match dctOf S x, kOf y with
  | some (ks, xs), some _ => some (.bl (if neg then !(lookD ks xs y).isSome else (lookD ks xs y).isSome))
  | _, _ => none) y x
theorem din_base {neg : Bool} {K : PySem.W.Frag} {θ : Ad} {H : Hp} {S : St0} {x y : V} {d e : D} {Q : VK} {E : XK} (s : RSt K θ S H) (rx : RV K θ H x d) (ry : RV K θ H y e)
    (p : PostV K θ H (lift2 (fun y x S => match dctOf S x, kOf y with
      | some (ks, xs), some _ => some (.bl (if neg then !(lookD ks xs y).isSome else (lookD ks xs y).isSome))
      | _, _ => none) e d S) Q E) : ∃ a ov, x = .ref a ∧ DGet H a y ov ∧ Q (.bl (if neg then !ov.isSome else ov.isSome)) H := by
  unfold lift2 at p
  simp only at p
  split at p
  · rename_i g h
    split at h
    · rename_i ks xs k e1 e2
      cases h
      obtain ⟨a, kvs, rfl, h1, h2, h3⟩ := dct_at s rx e1
      obtain ⟨rfl, rk⟩ := key_at ry e2
      refine ⟨a, valV kvs k, rfl, DGet.k h1, ?_⟩
      have hh := look_k rk h2 h3
      cases q : lookD ks xs e with
      | some x =>
        obtain ⟨v, q1, _⟩ := hh.1 x q
        rw [q] at p
        rw [q1]
        exact p.here s (.bl _)
      | none =>
        rw [hh.2 q]
        rw [q] at p
        exact p.here s (.bl _)
    · cases h
  · exact p.elim
theorem pc_dinD (hu : X.A.units + 1 < cLine) (hi : DE X W i mi) (ho : DE X W o mo) : PC X .In i o (tOf X.K W (mDin false mi mo)) := by
  refine ⟨fun pins s σ H Q I h => (pc_din hu hi ho).run pins s σ H Q I ?_⟩
  obtain ⟨θ, ρ, S, n, hs, p⟩ := h
  refine ⟨θ, ρ, S, n, hs, PostV.binde hs p fun y H1 θ1 S1 d u s1 ry p1 => ⟨θ1, ρ, S1, u.ren n, s1, PostV.binde s1 p1 fun x H2 θ2 S2 e u2 s2 rx p2 => ?_⟩⟩
  obtain ⟨a, ov, h1, h2, h3⟩ := din_base s2 rx (u2.rv ry) p2
  exact ⟨a, ov, h1, h2, by simpa using h3⟩
theorem pc_dninD (hu : X.A.units + 1 < cLine) (hi : DE X W i mi) (ho : DE X W o mo) : PC X .NotIn i o (tOf X.K W (mDin true mi mo)) := by
  refine ⟨fun pins s σ H Q I h => (pc_dnotin hu hi ho).run pins s σ H Q I ?_⟩
  obtain ⟨θ, ρ, S, n, hs, p⟩ := h
  refine ⟨θ, ρ, S, n, hs, PostV.binde hs p fun y H1 θ1 S1 d u s1 ry p1 => ⟨θ1, ρ, S1, u.ren n, s1, PostV.binde s1 p1 fun x H2 θ2 S2 e u2 s2 rx p2 => ?_⟩⟩
  obtain ⟨a, ov, h1, h2, h3⟩ := din_base s2 rx (u2.rv ry) p2
  exact ⟨a, ov, h1, h2, by simpa using h3⟩
theorem de_din (hu : X.A.units + 1 < cLine) (hi : DE X W i mi) (ho : DE X W o mo) (hm : behindInMarks .In o = false := by rfl) : DE X W (.Compare i [.In] [o] pos) (mDin false mi mo) := pe_cmp (pc_dinD hu hi ho) hm
theorem de_dnin (hu : X.A.units + 1 < cLine) (hi : DE X W i mi) (ho : DE X W o mo) (hm : behindInMarks .NotIn o = false := by rfl) : DE X W (.Compare i [.NotIn] [o] pos) (mDin true mi mo) := pe_cmp (pc_dninD hu hi ho) hm
theorem dt_din (hu : X.A.units + 1 < cLine) (hi : DE X W i mi) (ho : DE X W o mo) (hm : behindInMarks .In o = false := by rfl) : DT X W (.Compare i [.In] [o] pos) (mDin false mi mo) := pt_cmp (pc_dinD hu hi ho) hm
theorem dt_dnin (hu : X.A.units + 1 < cLine) (hi : DE X W i mi) (ho : DE X W o mo) (hm : behindInMarks .NotIn o = false := by rfl) : DT X W (.Compare i [.NotIn] [o] pos) (mDin true mi mo) := pt_cmp (pc_dninD hu hi ho) hm
/-- d.get(k) -/
def mDget1 (o k : ME) : ME := fun ρ S => (o ρ S).bind fun x S1 => match dctOf S1 x with
  | some _ => (k ρ S1).bind fun y S2 => match dctOf S2 x, kOf y with
    | some (ks, xs), some _ => .val ((lookD ks xs y).getD .non) S2
    | _, _ => .stuck
  | none => .stuck
def mDget2 (o k z : ME) : ME := fun ρ S => (o ρ S).bind fun x S1 => match dctOf S1 x with
  | some _ => (k ρ S1).bind fun y S2 => (z ρ S2).bind fun w S3 => match dctOf S3 x, kOf y with
    | some (ks, xs), some _ => .val ((lookD ks xs y).getD w) S3
    | _, _ => .stuck
  | none => .stuck
theorem de_dget1 (hu : X.A.units + 1 < cLine) (ho : DE X W o mo) (he : DE X W e m) (h : M1 X o "get" apos e cpos) : DE X W (.Call (.Attribute o "get" apos) [e] [] cpos) (mDget1 mo m) := by
  refine PE.imp (pe_dget1 hu ho he h) fun σ H Q ⟨θ, ρ, S, n, s, p⟩ => ⟨θ, ρ, S, n, s, p.binde s fun x H1 θ1 S1 d u s1 rx p1 => ?_⟩
  split at p1
  · rename_i q e1
    obtain ⟨ks, xs⟩ := q
    obtain ⟨a, kvs, rfl, h1, h2, h3⟩ := dct_at s1 rx e1
    refine ⟨a, rfl, .inl ⟨kvs, .inl h1⟩, θ1, ρ, S1, u.ren n, s1, p1.binde s1 fun y H2 θ2 S2 e u2 s2 ry p2 => ?_⟩
    split at p2
    · rename_i ks xs k e2 e3
      obtain ⟨a', kvs, ea, h1, h2, h3⟩ := dct_at s2 (u2.rv rx) e2
      cases ea
      obtain ⟨rfl, rk⟩ := key_at ry e3
      refine ⟨valV kvs k, DGet.k h1, ?_⟩
      have hh := look_k rk h2 h3
      cases q : lookD ks xs e with
      | some x =>
        obtain ⟨v, q1, q2⟩ := hh.1 x q
        rw [q] at p2
        rw [q1]
        exact p2.here s2 q2
      | none =>
        rw [hh.2 q]
        rw [q] at p2
        exact p2.here s2 .non
    · exact p2.elim
  · exact p1.elim
theorem de_dget2 (hu : X.A.units + 1 < cLine) (ho : DE X W o mo) (he : DE X W e m) (hf : DE X W f md) (h : M2 X o "get" apos e f cpos) : DE X W (.Call (.Attribute o "get" apos) [e, f] [] cpos) (mDget2 mo m md) := by
  refine PE.imp (pe_dget2 hu ho he hf h) fun σ H Q ⟨θ, ρ, S, n, s, p⟩ => ⟨θ, ρ, S, n, s, p.binde s fun x H1 θ1 S1 d u s1 rx p1 => ?_⟩
  split at p1
  · rename_i q e1
    obtain ⟨ks, xs⟩ := q
    obtain ⟨a, kvs, rfl, h1, h2, h3⟩ := dct_at s1 rx e1
    refine ⟨a, rfl, .inl ⟨kvs, .inl h1⟩, θ1, ρ, S1, u.ren n, s1, p1.binde s1 fun y H2 θ2 S2 e u2 s2 ry p2 => ⟨θ2, ρ, S2, u2.ren (u.ren n), s2, p2.binde s2 fun z H3 θ3 S3 w u3 s3 rz p3 => ?_⟩⟩
    split at p3
    · rename_i ks xs k e2 e3
      obtain ⟨a', kvs, ea, h1, h2, h3⟩ := dct_at s3 (u3.rv (u2.rv rx)) e2
      cases ea
      obtain ⟨rfl, rk⟩ := key_at (u3.rv ry) e3
      refine ⟨valV kvs k, DGet.k h1, ?_⟩
      have hh := look_k rk h2 h3
      cases q : lookD ks xs e with
      | some x =>
        obtain ⟨v, q1, q2⟩ := hh.1 x q
        rw [q] at p3
        rw [q1]
        exact p3.here s3 q2
      | none =>
        rw [hh.2 q]
        rw [q] at p3
        exact p3.here s3 rz
    · exact p3.elim
  · exact p1.elim
/-- d[i] = e -/
def mSetD (e o i : ME) : MS := fun ρ S => (e ρ S).stm ρ fun v S1 => (o ρ S1).stm ρ fun x S2 => (i ρ S2).stm ρ fun k S3 => match x, kOf k with
  | .ref n, some _ => match S3[n]? with
    | some (.dct ks xs) => if ks.length < sizeLine then .nx ρ (S3.set n (.dct (putD ks xs k v).1 (putD ks xs k v).2)) else .stuck
    | _ => .stuck
  | _, _ => .stuck
theorem ds_setD (hu : X.A.units + 1 < cLine) (he : DE X W e m) (ho : DE X W o mo) (hi : DE X W i mi) (hs : swapsWith e (some (.Subscript o i p2)) pos.line X.env = pure false := by rfl) : DS X W (.Assign [.Subscript o i p2] e pos) (mSetD m mo mi) := by
  refine PS.imp (ps_dput hu ho hi he hs) fun D σ H ⟨θ, ρ, S, n, s, p⟩ => ⟨θ, ρ, S, n, s, PostS.stm2 n s p fun v H1 θ1 S1 d u n1 s1 rv p1 => ⟨θ1, ρ, S1, n1, s1, PostS.stm2 n1 s1 p1 fun x H2 θ2 S2 dx u2 n2 s2 rx p2 => ⟨θ2, ρ, S2, n2, s2, PostS.stm2 n2 s2 p2 fun k H3 θ3 S3 dk u3 n3 s3 rk p3 => ?_⟩⟩⟩
  split at p3
  · rename_i nn key ek
    split at p3
    · rename_i ks xs q
      split at p3
      · rename_i l
        have rx3 := u3.rv rx
        cases rx3 with
        | @ref a _ hn =>
          cases s3.ob nn a _ hn q with
          | @dctK kvs _ _ h1 h2 h3 =>
            obtain ⟨rfl, rkk⟩ := key_at rk ek
            have mm := List.mem_of_getElem? hn
            have x : ∀ o, Ext θ3 [] H3 (upd H3 a o) := fun o => Ext.put mm (s3.nn (List.mem_append_left _ mm))
            obtain ⟨g1, g2⟩ := put_k rkk (u3.rv (u2.rv rv)) h2 h3
            have g3 := g2.ext (x (.dK (putK kvs key v))) s3
            rw [Ad.up_nil] at g3
            exact ⟨a, _, rfl, DPut.k h1 (by rw [rk_len (K := X.K) (θ := θ3) (H := H3) h2]; exact l), p3 [] _ _ (x _) (by rw [Ad.up_nil]; exact s3.put hn (.dctK upd_same g1 g3)) (n3.ext (x _) s3)⟩
      · exact p3.elim
    · exact p3.elim
  · exact p3.elim
/-! displays -/
def finD (al : Bool) (ks xs : List D) (S : St0) : R := if al then .val (.ref S.length) (S ++ [.dct ks xs]) else .val (.dct ks xs) S
theorem finD_post {al : Bool} {K : PySem.W.Frag} {θ : Ad} {H : Hp} {S : St0} {ks xs : List D} {kvs : List (Key × V)} {q : Addr} {Q : VK} {E : XK} (p : PostV K θ H (finD al ks xs S) Q E) (s : RSt K θ S H) (h1 : RKeys (kvs.map (·.1)) ks) (r : RVs K θ H (kvs.map (·.2)) xs) (hq : H q = none) : Q (.ref q) (upd H q (.dK kvs)) := by
  unfold finD at p
  cases al with
  | false => exact PostV.new p s hq (.dctK (s.notin hq) upd_same h1 (r.laid s hq))
  | true => exact PostV.add p s hq (.dctK upd_same h1 (r.ext (Ext.laid1 θ hq) s))
def mDct0 (al : Bool) : ME := fun _ S => finD al [] [] S
theorem de_dct0 {al : Bool} : DE X W (.Dict [] [] pos) (mDct0 al) := PE.imp pe_dnewK fun σ H Q ⟨θ, ρ, S, n, s, p⟩ => fun q hq => finD_post (kvs := []) p s .nil .nil hq
/-- the pairs of a display -/
abbrev MP := List (ME × ME)
def prs (ρ : Env0) : MP → St0 → (List D → List D → St0 → R) → R
  | [], S, k => k [] [] S
  | (a, b) :: r, S, k => (a ρ S).bind fun x S1 => (b ρ S1).bind fun y S2 => prs ρ r S2 fun ks xs S3 => if (kOf x).isSome then k (x :: ks) (y :: xs) S3 else .stuck
def mrg : List D → List D → List D → List D → List D × List D
  | ks, xs, k :: ks', x :: xs' => mrg (putD ks xs k x).1 (putD ks xs k x).2 ks' xs'
  | ks, xs, _, _ => (ks, xs)
def mDct (al : Bool) (l : MP) : ME := fun ρ S => prs ρ l S fun ks xs S1 => if ks.length ≤ 15 then finD al (mrg [] [] ks xs).1 (mrg [] [] ks xs).2 S1 else .stuck
inductive DPr (X : Cx) (W : WX) : List (Option Expr) → List Expr → MP → Prop
  | nil : DPr X W [] [] []
  | cons {k v : Expr} {mk mv : ME} {ks : List (Option Expr)} {vs : List Expr} {l : MP} : DE X W k mk → DE X W v mv → DPr X W ks vs l → DPr X W (some k :: ks) (v :: vs) ((mk, mv) :: l)
theorem dps0 : DPr X W [] [] [] := .nil
theorem dps1 {k v : Expr} {mk mv : ME} {ks : List (Option Expr)} {vs : List Expr} {l : MP} (h1 : DE X W k mk) (h2 : DE X W v mv) (h : DPr X W ks vs l) : DPr X W (some k :: ks) (v :: vs) ((mk, mv) :: l) := .cons h1 h2 h
theorem DPr.pps : ∀ {ks : List (Option Expr)} {vs : List Expr} {l : MP}, DPr X W ks vs l → PPs X pos ks vs (l.map fun p => (tOf X.K W p.1, tOf X.K W p.2))
  | _, _, _, .nil => pps_nil
  | _, _, _, .cons h1 h2 h => pps_cons h1 h2 h.pps
theorem DPr.all : ∀ {ks : List (Option Expr)} {vs : List Expr} {l : MP}, DPr X W ks vs l → ks.all (·.isSome) = true ∧ ks.length = vs.length
  | _, _, _, .nil => ⟨rfl, rfl⟩
  | _, _, _, .cons h1 h2 h => by simp [h.all.1, h.all.2]
theorem PostV.bindeB {K : PySem.W.Frag} {θb θ : Ad} {Hb H : Hp} {S : St0} {r : R} {Q : VK} {E : XK} {k : D → St0 → R} {Q' : VK} (u : Up K θb Hb θ H) (s : RSt K θ S H) (p : PostV K θb Hb (r.bind k) Q E)
    (q : ∀ v H1 θ1 S1 d, Up K θ H θ1 H1 → RSt K θ1 S1 H1 → RV K θ1 H1 v d → PostV K θb Hb (k d S1) Q E → Q' v H1) : PostV K θ H r Q' E := by
  cases r with
  | val d S' => exact fun new H' v x s' rv => q v H' (θ.up new) S' d (Up.of x s) s' rv p
  | exc C fs S' => exact fun new H' v x s' rv => (PostV.up u (r := .exc C fs S') p) new H' v x s' rv
  | stuck => exact p
theorem prs_run {K : PySem.W.Frag} {ρ : Env0} {θb : Ad} {Hb : Hp} : ∀ (l : MP) {θ : Ad} {σ : L2.St} {H : Hp} {S : St0} {Q : List (V × V) → Hp → Prop} {Q0 : VK} {k : List D → List D → St0 → R}, Up K θb Hb θ H → REn K θ H σ ρ → RSt K θ S H → PostV K θb Hb (prs ρ l S k) Q0 (fun c d H' => W c d σ H') →
    (∀ (ps : List (V × V)) (H1 : Hp) (θ1 : Ad) (S1 : St0) (kvs : List (Key × V)) (ks xs : List D), Up K θ H θ1 H1 → RSt K θ1 S1 H1 → ps = kvs.map (fun kv : Key × V => (kV kv.1, kv.2)) → RKeys (kvs.map (·.1)) ks → RVs K θ1 H1 (kvs.map (·.2)) xs → PostV K θb Hb (k ks xs S1) Q0 (fun c d H' => W c d σ H') → Q ps H1) →
    tPairs (l.map fun p => (tOf K W p.1, tOf K W p.2)) σ H Q
  | [], θ, σ, H, S, Q, Q0, k, u, n, s, p, q => q [] H θ S [] [] [] (Up.refl s) s rfl .nil .nil p
  | (a, b) :: r, θ, σ, H, S, Q, Q0, k, u, n, s, p, q => ⟨θ, ρ, S, n, s, PostV.bindeB u s p fun x H1 θ1 S1 d u1 s1 rx p1 => ⟨θ1, ρ, S1, u1.ren n, s1, PostV.bindeB (u.trans u1) s1 p1 fun y H2 θ2 S2 e u2 s2 ry p2 =>
      prs_run r (u.trans (u1.trans u2)) (u2.ren (u1.ren n)) s2 p2 fun ps H3 θ3 S3 kvs ks xs u3 s3 ep h1 h2 p3 => by
        split at p3
        · rename_i hk
          obtain ⟨key, ek⟩ := Option.isSome_iff_exists.mp hk
          have rx3 := u3.rv (u2.rv rx)
          obtain ⟨rfl, rk⟩ := key_at rx3 ek
          exact q _ H3 θ3 S3 ((key, y) :: kvs) (d :: ks) (e :: xs) (u1.trans (u2.trans u3)) s3 (by rw [ep]; rfl) (.cons rk h1) (.cons (u3.rv ry) h2) p3
        · exact p3.elim⟩⟩
theorem mrg_k {K : PySem.W.Frag} {θ : Ad} {H : Hp} : ∀ {more kvs : List (Key × V)} {ks xs ks' xs' : List D}, RKeys (kvs.map (·.1)) ks → RVs K θ H (kvs.map (·.2)) xs → RKeys (more.map (·.1)) ks' → RVs K θ H (more.map (·.2)) xs' →
    RKeys ((mergeK kvs more).map (·.1)) (mrg ks xs ks' xs').1 ∧ RVs K θ H ((mergeK kvs more).map (·.2)) (mrg ks xs ks' xs').2
  | [], kvs, ks, xs, _, _, h1, h2, .nil, .nil => ⟨h1, h2⟩
  | (k, v) :: more, kvs, ks, xs, _, _, h1, h2, .cons rk rks, .cons rx rxs => by
    rename_i c ds y ys
    obtain ⟨g1, g2⟩ := put_k rk rx h1 h2
    exact mrg_k (more := more) (kvs := putK kvs k v) (ks := (putD ks xs c y).1) (xs := (putD ks xs c y).2) g1 g2 rks rxs
theorem de_dct {al : Bool} {keys : List (Option Expr)} {values : List Expr} {l : MP} (h : DPr X W keys values l) (h0 : keys ≠ [] := by exact fun z => by cases z) (h15 : keys.length ≤ 15 := by decide) : DE X W (.Dict keys values pos) (mDct al l) := by
  refine PE.imp (pe_disp (h.pps) h.all.1 h.all.2 h0 h15) fun σ H Q ⟨θ, ρ, S, n, s, p⟩ => fun q hq => ?_
  have s0 : RSt X.K (θ.ups [] [q]) S (upd H q (.dK [])) := s.gho hq
  have u0 : Up X.K θ H (θ.ups [] [q]) (upd H q (.dK [])) := ⟨[], [q], S, rfl, Ext.laid θ hq, s, fun b m => by rw [List.mem_singleton.mp m]; exact hq⟩
  have nq := s.notin hq
  refine prs_run l u0 (u0.ren n) s0 p fun ps H1 θ1 S1 kvs ks xs u s1 ep h1 h2 p1 => ?_
  have hH1 : H1 q = some (.dK []) := u.keep (fun m => nq (List.mem_append_left _ (by simpa [Ad.ups] using m))) upd_same
  obtain ⟨new, gs, S', rfl, x, s', g⟩ := u
  have eq : (θ.ups [] [q]).ups new gs = ⟨(θ.ups new [q]).ix, gs ++ (θ.ups new [q]).gh⟩ := by simp [Ad.ups]
  rw [eq] at s1 h2
  have s2 := s1.drop
  have h3 := h2.drop
  have mq : q ∈ (θ.ups new [q]).gh := List.mem_cons_self
  have hp : ∃ o, H1 q = some o ∧ GhO o := ⟨_, hH1, .dK _⟩
  have s3 := s2.turn (w := .dK (mergeK [] kvs)) mq (.dK _)
  have h4 := h3.turn (w := .dK (mergeK [] kvs)) mq hp
  have x1 : Ext θ new H H1 := by
    have e := (Ext.laid (o := .dK []) θ hq).trans (n2 := new) ⟨fun a o h n => x.keep a o h (by simpa [Ad.ups] using n), x.dom, x.new⟩
    rwa [List.nil_append] at e
  have x2 := x1.turn (o := .dK (mergeK [] kvs)) hq (by rw [hH1]; exact fun z => by cases z)
  have nI : q ∉ (θ.up new).av := fun m => by
    rcases List.mem_append.mp m with m | m
    · exact (s2.gh q mq).2 m
    · exact nq (List.mem_append_right _ m)
  split at p1
  · rename_i l15
    have len : kvs.length = ks.length := rk_len (K := X.K) (θ := θ) (H := H) h1
    refine ⟨hH1, kvs, ep, by omega, ?_⟩
    obtain ⟨g1, g2⟩ := mrg_k (more := kvs) (kvs := []) (ks := []) (xs := []) .nil .nil h1 h4
    unfold finD at p1
    cases al with
    | false =>
      exact p1 new _ _ x2 s3.drop (.dctK nI upd_same g1 g2.drop)
    | true =>
      refine p1 (new ++ [q]) _ _ ⟨x2.keep, x2.dom, fun a m => ?_⟩ (s3.named (.dctK upd_same g1 g2.named) fun k => nq (List.mem_append_right _ k)) (.ref ?_)
      · rcases List.mem_append.mp m with m | m
        · exact x2.new a m
        · rw [List.mem_singleton.mp m]; exact hq
      · show (θ.ix ++ (new ++ [q]))[S1.length]? = _
        have len : (θ.ix ++ new).length = S1.length := s3.len
        rw [← List.append_assoc, List.getElem?_append_right (by rw [len]; exact Nat.le_refl _), len, Nat.sub_self]
        rfl
  · exact p1.elim
end
end DL
set_option Elab.async false
set_option linter.all false
set_option maxRecDepth 100000
set_option maxHeartbeats 4000000
/-! t * m of a tuple, m at most 0. -/
namespace LB
open PySem PySem.Spec PyProof.Rows L2 RS
theorem tuple_mul0 (l : Addr) (items : Array Value) (n : Nat) (dd : Option Addr) (sl : Array (Option Value)) (x : Int) (u : Tok) (c0 : (decide (x < -(2 ^ 63)) || decide (x ≥ 2 ^ 63)) = false) (c1 : (items.isEmpty || x == 1) = false) (c2 : (decide (x ≤ 0) || items.isEmpty) = true) :
    Meets (Builtin.«tuple.__mul__» ⟨[.ref l, .int x u], []⟩) (fun _ R s => s.heap.get? l = some { cls := .type "tuple", dict := dd, data := .seq items n, slots := sl } ∧
      R (.ok (.ret (Value.ref s.heap.objs.size))) { s with heap := s.heap.push { cls := Value.type "tuple", data := Data.seq #[] }, toks := s.toks }) :=
  .of_wp fun prog w A R s h => by
    obtain ⟨hp, g, d, tk, os⟩ := s
    obtain ⟨hl, h⟩ := h
    have f1 := AutoSeq1.idx_int
    wp_walk using wpAny_loadPart' hl
    repeat (first
      | (refine wpAny_ite_false (decide_eq_false (by rw [c0]; exact Bool.false_ne_true)) ?_; wp_walk using wpAny_loadPart' hl)
      | (refine wpAny_ite_false (decide_eq_false (by rw [c1]; exact Bool.false_ne_true)) ?_; wp_walk using wpAny_loadPart' hl)
      | (refine wpAny_ite_true (decide_eq_true c2) ?_; wp_walk using wpAny_loadPart' hl)
      | (refine wpAny_ite_false (decide_eq_false (by decide)) ?_; wp_walk using wpAny_loadPart' hl))
    exact ⟨_, rfl, h⟩
/-- t * m, m at most 0, t not empty -/
def rRepZ (K : PySem.W.Frag) : R2 := fun x y H Q => ∃ (a : Addr) (m : Int) (ys : List V), x = .ref a ∧ y = .int m ∧ SqT K H a ys ∧ 0 < ys.length ∧ m ≤ 0 ∧ -1000000 ≤ m ∧ ∀ p, H p = none → Q (.ref p) (upd H p (.tup []))
theorem op_repZ {X : Cx} : OpR X (binaryOp .Mult) (rRepZ X.K) := by
  rintro pins s σ H x y v u Q I rx ry ⟨a, m, ys, rfl, rfl, ht, pos, neg, big, after⟩
  cases rx; rcases ry with ⟨tk, rfl⟩
  obtain ⟨vals, rel, ⟨⟨cl, dc, da, slo⟩, look, hcl, cap, hda⟩, hs⟩ := I.tuple ht
  simp only at hcl hda; subst hcl hda
  have len : vals.length = ys.length := rel.length.symm
  have full : vals.toArray.isEmpty = false := by
    cases vals with
    | nil => simp at len; omega
    | cons b r => rfl
  have d0 : (decide (m < -(2 ^ 63)) || decide (m ≥ 2 ^ 63)) = false := by simp only [Bool.or_eq_false_iff, decide_eq_false_iff_not]; omega
  have d1 : (vals.toArray.isEmpty || m == 1) = false := by rw [full, Bool.false_or]; exact beq_eq_false_iff_ne.mpr (by omega)
  have d2 : (decide (m ≤ 0) || vals.toArray.isEmpty) = true := by rw [decide_eq_true neg]; rfl
  have mul := tuple_mul0 a vals.toArray cap dc slo m tk d0 d1 d2
  refine wpAny_binaryOp_repeat_ref (T := "tuple") (U := "int") (by decide) ⟨_, look, rfl⟩ (fun s' => typeIs_int s' m tk) L2.noFill_tuple_mul F.fills_int_mul F.slot_int_rmul L2.repeat_tuple F.slot_int_index.lookup ?_
  refine call_meets F.slot_int_rmul (typeIs_int s m tk) F.entry_int_rmul (F.args_int_rmul_2 _ _) (L2.int_rmul_tuple m tk a vals.toArray cap dc slo) ⟨look, rfl, ⟨_, look, rfl⟩, ?_⟩
  refine call_meets F.slot_tuple_mul ⟨_, look, rfl⟩ F.entry_tuple_mul (F.args_tuple_mul_2 _ _) mul ⟨look, ?_⟩
  have laid : ObjOk X.prog X.w H (s.heap.push { cls := Value.type "tuple", data := Data.seq #[] }) s.heap.objs.size (.tup []) :=
    ⟨by simp, [], .nil, IsTup.new _ _⟩
  exact ⟨.ref s.heap.objs.size, _, I.laid (t' := s.toks) (o := .tup []) (fun b ob z => Heap.get?_push_of_some _ z) (Nat.le_refl _) laid, rfl, after _ (I.hok.fresh (Nat.le_refl _))⟩
end LB
namespace LB
open PySem PySem.Spec PyProof.Rows L2 RS
def strRep (a : Str) (m : Nat) : Str := ⟨(List.replicate m a.cps).foldl (· ++ ·) #[]⟩
theorem rep_size (xs : Array Nat) : ∀ (m : Nat) (acc : Array Nat), ((List.replicate m xs).foldl (· ++ ·) acc).size = acc.size + xs.size * m
  | 0, acc => by simp
  | m + 1, acc => by
    rw [List.replicate_succ, List.foldl_cons, rep_size xs m, Array.size_append, Nat.mul_succ]
    omega
/-- a text so often -/
theorem op_strRep {X : Cx} : OpR X (binaryOp .Mult) (fun x y H Q => ∃ a m, x = .str a ∧ y = .int m ∧ 2 ≤ m ∧ 0 < a.length ∧ a.length * m.toNat ≤ 1000000 ∧ Q (.str (strRep a m.toNat)) H) := by
  rintro pins s σ H x y v u Q I rx ry ⟨a, m, rfl, rfl, two, pos, big, q⟩
  obtain ⟨t, rfl⟩ := rx
  obtain ⟨tk, rfl⟩ := ry
  have m1 : m.toNat * 1 ≤ a.length * m.toNat := by rw [Nat.mul_comm a.length]; exact Nat.mul_le_mul (Nat.le_refl _) pos
  have a1 : a.length * 1 ≤ a.length * m.toNat := Nat.mul_le_mul (Nat.le_refl _) (by omega)
  have no : (m == 1 || a.length == 0) = false := by
    rw [Bool.or_eq_false_iff]
    exact ⟨beq_eq_false_iff_ne.mpr (by omega), beq_eq_false_iff_ne.mpr (by omega)⟩
  have lt : ¬ m < 1 := by omega
  refine P.mul_str (by simp only [Bool.or_eq_false_iff, decide_eq_false_iff_not]; omega) (fun _ _ => ?_) (fun _ _ => ?_) ?_
  · have h2 : (9000000000000 : Int) ≤ (2 ^ 63 - 1) / m := by
      rw [Int.le_ediv_iff_mul_le (by omega)]
      omega
    omega
  · unfold Builtin.Str.tooLong
    rw [sizeLine_eq]
    exact decide_eq_false (by omega)
  · rw [if_neg lt, if_neg (by rw [no]; exact Bool.false_ne_true)]
    refine ⟨?_, ?_⟩
    · show ((List.replicate m.toNat a.cps).foldl (· ++ ·) #[]).size ≤ sizeLine
      rw [rep_size, sizeLine_eq]
      show 0 + a.length * m.toNat ≤ _
      omega
    · exact ⟨.str (strRep a m.toNat), H, I.tok _, ⟨_, rfl⟩, q⟩
end LB
set_option Elab.async false
set_option linter.all false
set_option maxRecDepth 100000
set_option autoImplicit false
/-! Methods of texts in the data layer: join, split, startswith, endswith, zfill; int(text). -/
namespace DL
open PySem PySem.Spec L2 _root_.RS
open PyProof.Rows hiding St
def strs? : List D → Option (List Str)
  | [] => some []
  | .str a :: xs => (strs? xs).map (a :: ·)
  | _ => none
theorem strs_of {K : PySem.W.Frag} {θ : Ad} {H : Hp} : ∀ {vs : List V} {ds : List D} {ys : List Str}, RVs K θ H vs ds → strs? ds = some ys → vs = ys.map V.str
  | _, _, ys, .nil, e => by cases e; rfl
  | _, _, ys, .cons (d := d) (ds := ds) r rs, e => by
    cases d <;> simp only [strs?] at e <;> try cases e
    cases h : strs? ds with
    | none => rw [h] at e; cases e
    | some zs =>
      rw [h] at e
      cases e
      cases r
      rw [strs_of rs h]
      rfl
def mJoin (mo me : ME) : ME := fun ρ S => (mo ρ S).bind fun x S1 => match x with
  | .str a => (me ρ S1).bind fun y S2 => match itemsOf S2 y with
    | some ds => match strs? ds with
      | some ys => if (ys.map (·.length)).sum + ys.length * a.length ≤ 16777216 then .val (.str (Txt.join a ys)) S2 else .stuck
      | none => .stuck
    | none => .stuck
  | _ => .stuck
section
variable {X : Cx} {W : WX} {o e : Expr} {mo m : ME} {apos pos : Pos}
theorem de_join (ho : DE X W o mo) (he : DE X W e m) (hs : starEach [e] X.env = [(false, eval e X.env)] := by rfl) (hbase : attributeBase o "join" X.env (eval o X.env) = eval o X.env := by rfl) (hline : (apos.endLine == pos.line) = true := by rfl) :
    DE X W (.Call (.Attribute o "join" apos) [e] [] pos) (mJoin mo m) := by
  refine PE.imp (pe_join ho he hs hbase hline) fun σ H Q ⟨θ, ρ, S, n, s, p⟩ => ⟨θ, ρ, S, n, s, p.binde s fun x H1 θ1 S1 d u s1 rx p1 => ?_⟩
  cases d <;> try exact p1.elim
  cases rx
  refine ⟨⟨_, rfl⟩, θ1, ρ, S1, u.ren n, s1, p1.binde s1 fun y H2 θ2 S2 e u2 s2 ry p2 => ?_⟩
  split at p2
  · rename_i ds e1
    split at p2
    · rename_i ys e2
      split at p2
      · rename_i hz
        obtain ⟨a, vs, rfl, rv, k⟩ := items_at s2 ry e1
        have ev := strs_of rv e2
        subst ev
        refine ⟨_, _, ys, rfl, rfl, ?_, hz, p2.here s2 (.str _)⟩
        split at k
        · exact .inr k
        · exact .inl k
      · exact p2.elim
    · exact p2.elim
  · exact p2.elim
/-- x.split(sep) -/
def mSplit (al : Bool) (mo me : ME) : ME := fun ρ S => (mo ρ S).bind fun x S1 => match x with
  | .str a => (me ρ S1).bind fun y S2 => match y with
    | .str b => if (b.length == 0) = false ∧ a.length + 2 ≤ sizeLine then finL al ((Txt.split a b).map .str) S2 else .stuck
    | _ => .stuck
  | _ => .stuck
theorem rvs_strs {K : PySem.W.Frag} {θ : Ad} {H : Hp} : ∀ ys : List Str, RVs K θ H (ys.map V.str) (ys.map D.str)
  | [] => .nil
  | y :: ys => .cons (.str _) (rvs_strs ys)
theorem de_split {al : Bool} (ho : DE X W o mo) (he : DE X W e m) (hs : starEach [e] X.env = [(false, eval e X.env)] := by rfl) (hbase : attributeBase o "split" X.env (eval o X.env) = eval o X.env := by rfl) (hline : (apos.endLine == pos.line) = true := by rfl) :
    DE X W (.Call (.Attribute o "split" apos) [e] [] pos) (mSplit al mo m) := by
  refine PE.imp (pe_split ho he hs hbase hline) fun σ H Q ⟨θ, ρ, S, n, s, p⟩ => ⟨θ, ρ, S, n, s, p.binde s fun x H1 θ1 S1 d u s1 rx p1 => ?_⟩
  cases d <;> try exact p1.elim
  cases rx
  refine ⟨⟨_, rfl⟩, θ1, ρ, S1, u.ren n, s1, p1.binde s1 fun y H2 θ2 S2 e u2 s2 ry p2 => ?_⟩
  cases e <;> try exact p2.elim
  cases ry
  simp only at p2
  split at p2
  · rename_i hz
    exact ⟨_, _, rfl, rfl, hz.1, hz.2, fun q hq => fin_post p2 s2 (rvs_strs _) hq⟩
  · exact p2.elim
/-- a method of a text with a text, that tells a value -/
def mTxt (f : Str → Str → D) (mo me : ME) : ME := fun ρ S => (mo ρ S).bind fun x S1 => match x with
  | .str a => (me ρ S1).bind fun y S2 => match y with
    | .str b => .val (f a b) S2
    | _ => .stuck
  | _ => .stuck
theorem de_startswith (ho : DE X W o mo) (he : DE X W e m) (hs : starEach [e] X.env = [(false, eval e X.env)] := by rfl) (hbase : attributeBase o "startswith" X.env (eval o X.env) = eval o X.env := by rfl) (hline : (apos.endLine == pos.line) = true := by rfl) :
    DE X W (.Call (.Attribute o "startswith" apos) [e] [] pos) (mTxt (fun a b => .bl (Txt.startswith a b)) mo m) := by
  refine PE.imp (pe_m1 F.slot_str_startswith F.type_str_startswith mt_startswith ho he hs hbase hline) fun σ H Q ⟨θ, ρ, S, n, s, p⟩ => ⟨θ, ρ, S, n, s, p.binde s fun x H1 θ1 S1 d u s1 rx p1 => ?_⟩
  cases d <;> try exact p1.elim
  cases rx
  refine ⟨⟨_, rfl⟩, θ1, ρ, S1, u.ren n, s1, p1.binde s1 fun y H2 θ2 S2 e u2 s2 ry p2 => ?_⟩
  cases e <;> try exact p2.elim
  cases ry
  exact ⟨_, _, rfl, rfl, p2.here s2 (.bl _)⟩
theorem de_endswith (ho : DE X W o mo) (he : DE X W e m) (hs : starEach [e] X.env = [(false, eval e X.env)] := by rfl) (hbase : attributeBase o "endswith" X.env (eval o X.env) = eval o X.env := by rfl) (hline : (apos.endLine == pos.line) = true := by rfl) :
    DE X W (.Call (.Attribute o "endswith" apos) [e] [] pos) (mTxt (fun a b => .bl (Txt.endswith a b)) mo m) := by
  refine PE.imp (pe_m1 F.slot_str_endswith F.type_str_endswith mt_endswith ho he hs hbase hline) fun σ H Q ⟨θ, ρ, S, n, s, p⟩ => ⟨θ, ρ, S, n, s, p.binde s fun x H1 θ1 S1 d u s1 rx p1 => ?_⟩
  cases d <;> try exact p1.elim
  cases rx
  refine ⟨⟨_, rfl⟩, θ1, ρ, S1, u.ren n, s1, p1.binde s1 fun y H2 θ2 S2 e u2 s2 ry p2 => ?_⟩
  cases e <;> try exact p2.elim
  cases ry
  exact ⟨_, _, rfl, rfl, p2.here s2 (.bl _)⟩
/-- int(text) -/
def opIntT : OL
  | [.str a], _ => match PySem.intText? a with
    | some n => if a.length ≤ 640 then some (.int n) else none
    | none => none
  | _, _ => none
theorem cd_intT : CallD X (.type "int") (liftL opIntT) := by
  refine upL call_int_str fun θ S H xs ds g Q s r h p => ?_
  unfold opIntT at h
  split at h
  · cases r with
    | cons r1 r =>
      cases r; cases r1
      split at h
      · rename_i n hn
        split at h
        · rename_i hl
          cases h
          exact ⟨_, _, rfl, hn, hl, p.here s (.int _)⟩
        · cases h
      · cases h
  · cases h
end
/-- a tuple so often, none too; a text so often -/
def opMulZ : O2
  | .tup xs, .int m, _ => if 0 < xs.length ∧ 0 ≤ m ∧ m.toNat * xs.length ≤ 1000000 then some (.tup (List.replicate m.toNat xs).flatten) else none
  | .str a, .int m, _ => if 2 ≤ m ∧ 0 < a.length ∧ a.length * m.toNat ≤ 1000000 then some (.str (LB.strRep a m.toNat)) else none
  | _, _, _ => none
section
variable {X : Cx}
theorem od_mulZ : OpD X (binaryOp .Mult) (lift2 opMulZ) := by
  refine up2 (OpR.or (OpR.or LB.op_repA LB.op_repZ) LB.op_strRep) fun θ S H x y d e g Q s rx ry h p => ?_
  unfold opMulZ at h
  split at h
  · cases rx with
    | tup h1 r1 =>
      cases ry
      split at h
      · rename_i m _ vs l
        cases h
        have go : ∀ H' r, Same H H' → SqT X.K H' r (List.replicate m.toNat vs).flatten → Q (.ref r) H' := fun H' r e t => by
          have x : Ext θ [] H H' := ⟨fun a o q _ => e a o q, fun a q => e.free q, fun a m => by cases m⟩
          have z := fun n => (r1.flat n).ext x s
          simp only [Ad.up_nil] at z
          exact p [] H' _ x (by rw [Ad.up_nil]; exact s.ext x fun a _ o q => e a o q) (by rw [Ad.up_nil]; exact .tup t (z _))
        by_cases one : 1 ≤ m
        · exact .inl (.inl ⟨_, _, _, rfl, rfl, h1, by rw [r1.len]; exact l.1, one, by rw [r1.len]; exact l.2.2, go⟩)
        · refine .inl (.inr ⟨_, _, _, rfl, rfl, h1, by rw [r1.len]; exact l.1, by omega, by omega, fun q hq => go _ q (LB.same_new hq) ?_⟩)
          rw [show m.toNat = 0 from by omega]
          exact LB.T_new
      · cases h
  · cases rx
    cases ry
    split at h
    · rename_i l
      cases h
      exact .inr ⟨_, _, rfl, rfl, l.1, l.2.1, l.2.2, p.here s (.str _)⟩
    · cases h
  · cases h
end
end DL
set_option Elab.async false
set_option linter.all false
set_option maxRecDepth 100000
set_option autoImplicit false
/-! The layer of data: lists of ranges, x[::-1], reversed ranges, doc. -/
namespace DL
open PySem PySem.Spec L2 _root_.RS
open PyProof.Rows hiding St
theorem rv_rg {K : PySem.W.Frag} {θ : Ad} {H : Hp} (a b : Int) : RVs K θ H (rgV a b) (rng a (b - a).toNat) := by
  unfold rgV rng
  generalize List.range (b - a).toNat = l
  induction l with
  | nil => exact .nil
  | cons x l ih => exact .cons (.int _) ih
def rgOk2 (a b : Int) : Bool := rngOk a b && decide ((b - a).toNat ≤ 2 ^ 24)
theorem rgOk2_of {a b : Int} (h : rgOk2 a b = true) : RgOk a b := by
  unfold rgOk2 at h
  rw [Bool.and_eq_true, decide_eq_true_eq] at h
  have := rngOk_of h.1
  exact ⟨this.1, this.2.1, this.2.2.1, this.2.2.2, h.2⟩
def fRg (f : List D → St0 → R) (a b : Int) (S : St0) : R := if rgOk2 a b then f (rng a (b - a).toNat) S else .stuck
def mRgL1 (f : List D → St0 → R) (m : ME) : ME := fun ρ S => (m ρ S).bind fun d S1 => match d with
  | .int b => fRg f 0 b S1
  | _ => .stuck
def mRgL2 (f : List D → St0 → R) (m m2 : ME) : ME := fun ρ S => (m ρ S).bind fun d S1 => (m2 ρ S1).bind fun d2 S2 => match d, d2 with
  | .int a, .int b => fRg f a b S2
  | _, _ => .stuck
abbrev mListRg1 (al : Bool) (m : ME) : ME := mRgL1 (finL al) m
abbrev mListRg2 (al : Bool) (m m2 : ME) : ME := mRgL2 (finL al) m m2
abbrev mTupleRg1 (m : ME) : ME := mRgL1 (fun ds S => .val (.tup ds) S) m
abbrev mTupleRg2 (m m2 : ME) : ME := mRgL2 (fun ds S => .val (.tup ds) S) m m2
section
variable {X : Cx} {W : WX} {tg e e2 : Expr} {m m2 : ME} {p p' pos pos' : Pos} {al : Bool}
theorem de_listRg1 (hg : Gl X "list") (hm : X.mg "list" = none) (hg2 : Gl X "range") (hm2 : X.mg "range" = none) (ha : DE X W e m) (n1 : starEach [e] X.env = (false, eval e X.env) :: starEach [] X.env := by rfl) (hc : X.calm = true := by rfl)
    (na : starEach [.Call (.Name "range" p) [e] [] pos] X.env = (false, eval (.Call (.Name "range" p) [e] [] pos) X.env) :: starEach [] X.env := by rfl) : DE X W (.Call (.Name "list" p') [.Call (.Name "range" p) [e] [] pos] [] pos') (mListRg1 al m) := by
  refine PE.imp (pe_listRg hc hg hm (prg_1 hg2 hm2 ha n1) na) fun σ H Q ⟨θ, ρ, S, n, s, q⟩ => ⟨θ, ρ, S, n, s, PostV.binde s q fun v H1 θ1 S1 d u s1 r p1 => ?_⟩
  cases d <;> try exact p1.elim
  cases r
  rename_i b
  simp only [fRg] at p1
  split at p1
  · rename_i ok
    exact ⟨b, rfl, rgOk2_of ok, fun q hq => fin_post p1 s1 (rv_rg 0 b) hq⟩
  · exact p1.elim
theorem de_listRg2 (hg : Gl X "list") (hm : X.mg "list" = none) (hg2 : Gl X "range") (hm2 : X.mg "range" = none) (ha : DE X W e m) (hb : DE X W e2 m2) (n1 : starEach [e, e2] X.env = (false, eval e X.env) :: starEach [e2] X.env := by rfl)
    (n2 : starEach [e2] X.env = (false, eval e2 X.env) :: starEach [] X.env := by rfl) (hp : (backTo pos (starEach [e2] X.env)).any (·.1) = false := by rfl) (hc : X.calm = true := by rfl)
    (na : starEach [.Call (.Name "range" p) [e, e2] [] pos] X.env = (false, eval (.Call (.Name "range" p) [e, e2] [] pos) X.env) :: starEach [] X.env := by rfl) : DE X W (.Call (.Name "list" p') [.Call (.Name "range" p) [e, e2] [] pos] [] pos') (mListRg2 al m m2) := by
  refine PE.imp (pe_listRg hc hg hm (prg_2 hg2 hm2 ha hb n1 n2 hp) na) fun σ H Q ⟨θ, ρ, S, n, s, q⟩ => ⟨θ, ρ, S, n, s, PostV.binde s q fun v H1 θ1 S1 d u s1 r p1 => ⟨θ1, ρ, S1, u.ren n, s1, PostV.binde s1 p1 fun v2 H2 θ2 S2 d2 u2 s2 r2 p2 => ?_⟩⟩
  cases d <;> cases d2 <;> try exact p2.elim
  cases r; cases r2
  rename_i a b
  simp only [fRg] at p2
  split at p2
  · rename_i ok
    exact ⟨a, b, rfl, rfl, rgOk2_of ok, fun q hq => fin_post p2 s2 (rv_rg a b) hq⟩
  · exact p2.elim
theorem de_tupleRg1 (hg : Gl X "tuple") (hm : X.mg "tuple" = none) (hg2 : Gl X "range") (hm2 : X.mg "range" = none) (ha : DE X W e m) (n1 : starEach [e] X.env = (false, eval e X.env) :: starEach [] X.env := by rfl) (hc : X.calm = true := by rfl)
    (na : starEach [.Call (.Name "range" p) [e] [] pos] X.env = (false, eval (.Call (.Name "range" p) [e] [] pos) X.env) :: starEach [] X.env := by rfl) : DE X W (.Call (.Name "tuple" p') [.Call (.Name "range" p) [e] [] pos] [] pos') (mTupleRg1 m) := by
  refine PE.imp (pe_tupRg hc hg hm (prg_1 hg2 hm2 ha n1) na) fun σ H Q ⟨θ, ρ, S, n, s, q⟩ => ⟨θ, ρ, S, n, s, PostV.binde s q fun v H1 θ1 S1 d u s1 r p1 => ?_⟩
  cases d <;> try exact p1.elim
  cases r
  rename_i b
  simp only [fRg] at p1
  split at p1
  · rename_i ok
    exact ⟨b, rfl, rgOk2_of ok, fun q hq => p1.newTup s1 hq (rv_rg 0 b)⟩
  · exact p1.elim
/-! x[::-1] -/
def mRevS (al : Bool) (m : ME) : ME := fun ρ S => (m ρ S).bind fun x S1 => match itemsOf S1 x with
  | some ds => if isTup x then .val (.tup ds.reverse) S1 else finL al ds.reverse S1
  | none => .stuck
theorem de_revS {k : Nat} {p1 p2 p3 : Pos} (he : DE X W e m) : DE X W (.Subscript e (.Slice none none (some (.UnaryOp .USub (.Constant (.int 1) k p1) p2)) p3) pos) (mRevS al m) := by
  refine ⟨fun pins s σ H Q I ⟨θ, ρ, S, n, hs, q⟩ => ?_⟩
  unfold mRevS at q
  cases hm : m ρ S with
  | stuck => rw [hm] at q; exact q.elim
  | exc C fs S' =>
    rw [hm] at q
    refine (pe_revL he).run pins s σ H Q I ⟨θ, ρ, S, n, hs, ?_⟩
    rw [hm]
    exact q
  | val d S1 =>
    rw [hm] at q
    simp only [R.bind_val] at q
    cases hi : itemsOf S1 d with
    | none => rw [hi] at q; exact q.elim
    | some ds =>
      rw [hi] at q
      simp only at q
      by_cases t : isTup d = true
      · rw [if_pos t] at q
        refine (LB.pe_revT he).run pins s σ H Q I ⟨θ, ρ, S, n, hs, ?_⟩
        rw [hm]
        intro new H' v x s' rv
        obtain ⟨a, vs, rfl, r, h3⟩ := items_at s' rv hi
        rw [if_pos t] at h3
        exact ⟨a, vs, rfl, h3, fun p hp => (PostV.up (Up.of x hs) q).newTup s' hp r.rev⟩
      · rw [if_neg t] at q
        refine (pe_revL he).run pins s σ H Q I ⟨θ, ρ, S, n, hs, ?_⟩
        rw [hm]
        intro new H' v x s' rv
        obtain ⟨a, vs, rfl, r, h3⟩ := items_at s' rv hi
        rw [if_neg t] at h3
        exact ⟨a, vs, rfl, h3, fun p hp => fin_post (PostV.up (Up.of x hs) q) s' r.rev hp⟩
theorem ds_doc {x j pos pos'} : DS X W (.Expr (.Constant (.str x) j pos) pos') mNext := PS.imp L2.ps_doc fun D σ H ⟨θ, ρ, S, n, s, p⟩ => p.next s n
/-! reversed(range(..)) -/
theorem feeds_c {K : PySem.W.Frag} {θ : Ad} {H : Hp} {a b : Int} : Feeds K (Itc (a + (((b - a).toNat : Nat) : Int) - 1) (-1) (b - a).toNat) [] (rng a (b - a).toNat).reverse θ H := by
  refine ⟨fun θ1 H1 S1 i u s c l => ?_, fun θ1 H1 S1 i d u s c e => ?_⟩
  · rw [List.length_reverse, rng_len] at l; exact l
  · have l : i < (b - a).toNat := by
      have := (List.getElem?_eq_some_iff.mp e).1
      rwa [List.length_reverse, rng_len] at this
    rw [List.getElem?_reverse (by rw [rng_len]; exact l), rng_len] at e
    obtain ⟨l2, rfl⟩ := rng_at e
    refine ⟨l, fun x H' y => ?_⟩
    obtain ⟨rfl, rfl⟩ := y
    refine ⟨Ext.refl _ _, s, ?_⟩
    have : a + (((b - a).toNat : Nat) : Int) - 1 + (i : Nat) * (-1) = a + (((b - a).toNat - 1 - i : Nat) : Int) := by omega
    rw [this]
    exact .int _
def mRevRg1 (m : ME) : MI := fun ρ S => (m ρ S).it fun d S1 => match d with
  | .int b => if rngOk 0 b then .it [] (rng 0 (b - 0).toNat).reverse S1 else .stuck
  | _ => .stuck
def mRevRg2 (m m2 : ME) : MI := fun ρ S => (m ρ S).it fun d S1 => (m2 ρ S1).it fun d2 S2 => match d, d2 with
  | .int a, .int b => if rngOk a b then .it [] (rng a (b - a).toNat).reverse S2 else .stuck
  | _, _ => .stuck
theorem di_revRg1 (hg : Gl X "reversed") (hm : X.mg "reversed" = none) (hg2 : Gl X "range") (hm2 : X.mg "range" = none) (ha : DE X W e m) (n1 : starEach [e] X.env = (false, eval e X.env) :: starEach [] X.env := by rfl)
    (na : starEach [.Call (.Name "range" p) [e] [] pos] X.env = (false, eval (.Call (.Name "range" p) [e] [] pos) X.env) :: starEach [] X.env := by rfl) : DI X W tg (.Call (.Name "reversed" p') [.Call (.Name "range" p) [e] [] pos] [] pos') (mRevRg1 m) := by
  refine PI.imp (pi_revR hg hm (prg_1 hg2 hm2 ha n1) na) fun σ H Q ⟨θ, ρ, S, n, s, q⟩ => ⟨θ, ρ, S, n, s, PostV.it s q fun v H1 θ1 S1 d u s1 r p1 => ?_⟩
  cases d <;> try exact p1.elim
  cases r
  rename_i b
  simp only at p1
  split at p1
  · rename_i ok
    have := rngOk_of ok
    exact ⟨b, rfl, this.1, this.2.1, this.2.2.1, this.2.2.2, p1.here s1 feeds_c⟩
  · exact p1.elim
theorem di_revRg2 (hg : Gl X "reversed") (hm : X.mg "reversed" = none) (hg2 : Gl X "range") (hm2 : X.mg "range" = none) (ha : DE X W e m) (hb : DE X W e2 m2) (n1 : starEach [e, e2] X.env = (false, eval e X.env) :: starEach [e2] X.env := by rfl)
    (n2 : starEach [e2] X.env = (false, eval e2 X.env) :: starEach [] X.env := by rfl) (hp : (backTo pos (starEach [e2] X.env)).any (·.1) = false := by rfl)
    (na : starEach [.Call (.Name "range" p) [e, e2] [] pos] X.env = (false, eval (.Call (.Name "range" p) [e, e2] [] pos) X.env) :: starEach [] X.env := by rfl) : DI X W tg (.Call (.Name "reversed" p') [.Call (.Name "range" p) [e, e2] [] pos] [] pos') (mRevRg2 m m2) := by
  refine PI.imp (pi_revR hg hm (prg_2 hg2 hm2 ha hb n1 n2 hp) na) fun σ H Q ⟨θ, ρ, S, n, s, q⟩ => ⟨θ, ρ, S, n, s, PostV.it s q fun v H1 θ1 S1 d u s1 r p1 => ⟨θ1, ρ, S1, u.ren n, s1, PostV.it s1 p1 fun v2 H2 θ2 S2 d2 u2 s2 r2 p2 => ?_⟩⟩
  cases d <;> cases d2 <;> try exact p2.elim
  cases r; cases r2
  rename_i a b
  simp only at p2
  split at p2
  · rename_i ok
    have := rngOk_of ok
    exact ⟨a, b, rfl, rfl, this.1, this.2.1, this.2.2.1, this.2.2.2, p2.here s2 feeds_c⟩
  · exact p2.elim
end
end DL
set_option Elab.async false
set_option linter.all false
set_option maxRecDepth 100000
set_option autoImplicit false
/-! The layer of data: sums and products of lists that go into the store. -/
namespace DL
open PySem PySem.Spec L2 _root_.RS
open PyProof.Rows hiding St
def opAddR : D → D → St0 → R := fun x y S => match lstOf S x, lstOf S y with
  | some xs, some ys => if xs.length + ys.length ≤ sizeLine then finL true (xs ++ ys) S else .stuck
  | _, _ => lift2 opAdd x y S
def opMulR : D → D → St0 → R := fun x y S => match lstOf S x, y with
  | some xs, .int k => if -(2 ^ 63) ≤ k ∧ k < 2 ^ 63 ∧ xs.length * k.toNat ≤ sizeLine then finL true (List.replicate k.toNat xs).flatten S else .stuck
  | _, _ => lift2 opMul x y S
theorem nxAddR : ∀ x y S, NoX (opAddR x y S) := fun x y S C fs S' h => by
  unfold opAddR at h
  split at h
  · split at h
    · exact finNoX _ _ _ h
    · cases h
  · exact nx2 _ _ _ _ _ _ _ h
theorem nxMulR : ∀ x y S, NoX (opMulR x y S) := fun x y S C fs S' h => by
  unfold opMulR at h
  split at h
  · split at h
    · exact finNoX _ _ _ h
    · cases h
  · exact nx2 _ _ _ _ _ _ _ h
section
variable {X : Cx}
theorem od_addR : OpD X (binaryOp .Add) opAddR := by
  intro pins s σ H x y v u Q I rx ry hh
  obtain ⟨θ, S, d, e, hs, hx, hy, p⟩ := hh
  unfold opAddR at p
  split at p
  · rename_i xs ys e1 e2
    split at p
    · rename_i l
      obtain ⟨a, vs, rfl, h1, r1⟩ := lst_at hs hx e1
      obtain ⟨b, ws, rfl, h2, r2⟩ := lst_at hs hy e2
      exact op_cat pins s σ H _ _ v u Q I rx ry ⟨a, b, vs, ws, rfl, rfl, h1, h2, by rw [r1.len, r2.len]; exact l, fun p' hp => fin_post p hs (r1.app r2) hp⟩
    · exact p.elim
  · exact od_add pins s σ H x y v u Q I rx ry ⟨θ, S, d, e, hs, hx, hy, p⟩
theorem od_mulR : OpD X (binaryOp .Mult) opMulR := by
  intro pins s σ H x y v u Q I rx ry hh
  obtain ⟨θ, S, d, e, hs, hx, hy, p⟩ := hh
  unfold opMulR at p
  split at p
  · rename_i xs k e1
    split at p
    · rename_i l
      obtain ⟨a, vs, rfl, h1, r1⟩ := lst_at hs hx e1
      cases hy
      exact op_rep pins s σ H _ _ v u Q I rx ry ⟨a, _, vs, rfl, rfl, h1, l.1, l.2.1, by rw [r1.len]; exact l.2.2, fun p' hp => fin_post p hs (r1.flat _) hp⟩
    · exact p.elim
  · exact od_mul pins s σ H x y v u Q I rx ry ⟨θ, S, _, _, hs, hx, hy, p⟩
end
end DL
set_option Elab.async false
set_option linter.all false
set_option maxRecDepth 100000
set_option autoImplicit false
/-! The layer of data: dicts that are alike, !=. -/
namespace DL
open PySem PySem.Spec L2 _root_.RS
open PyProof.Rows hiding St
mutual
/-- numbers, texts, and dicts of such -/
def D.eqv1 : Nat → D → Bool
  | _, .non => true
  | _, .bl _ => true
  | _, .int _ => true
  | _, .str _ => true
  | n + 1, .dct ks xs => decide ks.Nodup && D.eqv1s n xs
  | _, _ => false
def D.eqv1s : Nat → List D → Bool
  | _, [] => true
  | n, x :: xs => D.eqv1 n x && D.eqv1s n xs
end
theorem look_nodup : ∀ {ks xs : List D} {i : Nat} {d x : D}, ks.Nodup → ks[i]? = some d → xs[i]? = some x → lookD ks xs d = some x
  | [], _, _, _, _, _, e0, _ => by simp at e0
  | _ :: _, [], _, _, _, _, _, e0 => by simp at e0
  | k :: ks, y :: xs, 0, d, x, _, h1, h2 => by
    simp only [List.getElem?_cons_zero, Option.some.injEq] at h1 h2
    unfold lookD
    rw [if_pos h1, h2]
  | k :: ks, y :: xs, i + 1, d, x, hn, h1, h2 => by
    simp only [List.getElem?_cons_succ] at h1 h2
    have m := List.mem_of_getElem? h1
    unfold lookD
    rw [if_neg fun z => (List.nodup_cons.mp hn).1 (by rw [z]; exact m)]
    exact look_nodup (List.nodup_cons.mp hn).2 h1 h2
theorem RKeys.at : ∀ {ks : List Key} {ds : List D} {i : Nat} {k : Key}, RKeys ks ds → ks[i]? = some k → ∃ d, ds[i]? = some d ∧ RKey k d
  | _, _, _, _, .nil, h => by simp at h
  | _, _, 0, _, .cons h _, e => by cases e; exact ⟨_, rfl, h⟩
  | _, _, i + 1, _, .cons _ hs, e => hs.at (i := i) e
theorem eqv1s_at : ∀ {n : Nat} {xs : List D} {i : Nat} {x : D}, D.eqv1s n xs = true → xs[i]? = some x → D.eqv1 n x = true
  | _, [], _, _, _, h => by simp at h
  | n, y :: xs, 0, x, h, e => by
    simp only [D.eqv1s, Bool.and_eq_true] at h
    cases e
    exact h.1
  | n, y :: xs, i + 1, x, h, e => by
    simp only [D.eqv1s, Bool.and_eq_true] at h
    exact eqv1s_at (i := i) h.2 e
section
variable {K : PySem.W.Frag} {θ : Ad} {H : Hp}
theorem eqv_vals {n : Nat} (ih : ∀ (d : D) (v u : V), D.eqv1 n d = true → RV K θ H v d → RV K θ H u d → EqV K H (n + 1) v u) {ks xs : List D} {kvs lvs : List (Key × V)} (hn : ks.Nodup) (he : D.eqv1s n xs = true) (h1 : RKeys (kvs.map (·.1)) ks) (h2 : RVs K θ H (kvs.map (·.2)) xs)
    (g1 : RKeys (lvs.map (·.1)) ks) (g2 : RVs K θ H (lvs.map (·.2)) xs) : ∀ p ∈ kvs, ∃ u, valV lvs p.1 = some u ∧ EqV K H (n + 1) p.2 u := by
  intro p hp
  obtain ⟨i, hi, rfl⟩ := List.mem_iff_getElem.mp hp
  obtain ⟨d, e1, r1⟩ := h1.at (i := i) (k := kvs[i].1) (by rw [List.getElem?_map, List.getElem?_eq_getElem hi]; rfl)
  obtain ⟨x, e2, r2⟩ := h2.of (n := i) (v := kvs[i].2) (by rw [List.getElem?_map, List.getElem?_eq_getElem hi]; rfl)
  obtain ⟨u, q1, q2⟩ := (look_k r1 g1 g2).1 x (look_nodup hn e1 e2)
  exact ⟨u, q1, ih x _ _ (eqv1s_at he e2) r2 q2⟩
theorem eqv1_of : ∀ (n : Nat) (d : D) (v u : V), D.eqv1 n d = true → RV K θ H v d → RV K θ H u d → EqV K H (n + 1) v u := by
  intro n
  induction n with
  | zero =>
    intro d v u he h g
    cases d <;> simp only [D.eqv1] at he <;> try cases he
    all_goals (cases h; cases g; exact .inl ⟨rfl, rfl⟩)
  | succ n ih =>
    intro d v u he h g
    cases d <;> simp only [D.eqv1] at he <;> try cases he
    case dct ks xs =>
      simp only [Bool.and_eq_true, decide_eq_true_eq] at he
      cases h with
      | @dctK a kvs _ _ n1 h1 h2 h3 =>
        cases g with
        | @dctK b lvs _ _ n2 g1 g2 g3 => exact .inr (.inr (.inr ⟨a, b, kvs, lvs, rfl, rfl, h1, g1, by rw [rk_len (K := K) (θ := θ) (H := H) h2, rk_len (K := K) (θ := θ) (H := H) g2], eqv_vals ih he.1 he.2 h2 h3 g2 g3⟩))
    all_goals (cases h; cases g; exact .inl ⟨rfl, rfl⟩)
end
def opNeX : O2 := fun x y S => match opNe x y S with
  | some d => some d
  | none => match x, y with
    | .dct ks xs, .dct ks' xs' => if ks = ks' ∧ xs = xs' ∧ ks.Nodup ∧ D.eqv1s 50 xs = true then some (.bl false) else none
    | _, _ => none
section
variable {X : Cx} {H : Hp} {s : Shared} {σ : L2.St} {pins : List (Addr × Obj)}
theorem ne_dcts {n : Nat} {a b : Addr} {ks ls : List (Key × V)} {Q : VK} (I : Inv X pins σ H s) (hn : n ≤ 60) (hu : X.A.units + 64 < cLine) (ea : H a = some (.dK ks)) (eb : H b = some (.dK ls)) (hl : ks.length = ls.length)
    (hp : ∀ p ∈ ks, ∃ u, valV ls p.1 = some u ∧ EqV X.K H n p.2 u) (q : Q (.bl false) H) : wpAny (model X.prog X.w) X.A (compareOp .NotEq (.ref a) (.ref b)) (EP X pins σ Q) X.xe s := by
  have oa : ObjOk X.prog X.w H s.heap a (.dK ks) := I.hok a _ ea
  have ob : ObjOk X.prog X.w H s.heap b (.dK ls) := I.hok b _ eb
  obtain ⟨_, na, us, ra, xa⟩ := oa
  obtain ⟨_, nb, ws, rb, xb⟩ := ob
  have len : us.length = ws.length := by rw [← ra.length, ← rb.length]; exact hl
  have told : (!(us.length == ws.length && true)) = false := by rw [len]; simp
  have out : EP X pins σ Q (.bool (!(us.length == ws.length && true))) s := by rw [told]; exact ⟨.bl false, H, I, rfl, q⟩
  refine wpAny_richCompare_same_room (op := .NotEq) xa.typeIs xb.typeIs PySem.F.slot_dict_ne (wpAny_call_entry PySem.F.slot_dict_ne xa.typeIs PySem.F.entry_dict_ne ?_ (PySem.F.args_dict_ne_2 _ _)) (by omega)
  (show wpAny _ _ (Builtin.Dict.dictSlotArgs "__ne__" ⟨[.ref a, .ref b], []⟩ >>= _) _ _ s; refine wpAny_bind ?_; unfold Builtin.Dict.dictSlotArgs; refine wpAny_bind (wpAny_notOrdered_dict xa.typeIs ?_))
  (show wpAny _ _ (pure (Value.ref a, Value.ref b)) _ _ s; refine wpAny_pure (wpAny_bind (wpAny_isInstance (T := "dict") xb.typeIs PySem.F.sub_dict_dict ?_)); simp only [Bool.not_true, Bool.false_eq_true, if_false])
  refine wpAny_bind (wpAny_pure (wpAny_bind (wpAny_pure (wpAny_bind (PySem.W.samePairsP (knd := mixKind X.prog X.w) (r := true) na nb xa xb (fun _ => hits_run (eqV_run I n X.A.in1 (by show X.A.units + 1 + n < cLine; omega)) rb ra hp) ?_)))))
  refine wpAny_pure ⟨_, rfl, (fun x => nomatch x), ?_⟩
  simpa using out
theorem od_neX (hu : X.A.units + 64 < cLine) : OpD X (compareOp .NotEq) (lift2 opNeX) := by
  intro pins s σ H x y v u Q I rx ry hh
  obtain ⟨θ, S, d, e, hs, hx, hy, p⟩ := hh
  cases e1 : opNe d e S with
  | some g =>
    refine od_ne hu pins s σ H x y v u Q I rx ry ⟨θ, S, d, e, hs, hx, hy, ?_⟩
    simp only [lift2, opNeX, e1] at p ⊢
    exact p
  | none =>
    simp only [lift2, opNeX, e1] at p
    split at p
    · rename_i g e2
      split at e2
      · rename_i ks xs ks' xs'
        split at e2
        · rename_i c
          obtain ⟨rfl, rfl, c1, c2⟩ := c
          cases e2
          cases hx with
          | @dctK a kvs _ _ n1 h1 h2 h3 =>
            cases hy with
            | @dctK b lvs _ _ n2 g1 g2 g3 =>
              cases (show v = .ref a from rx); cases (show u = .ref b from ry)
              exact ne_dcts I (n := 51) (by omega) hu h1 g1 (by rw [rk_len (K := X.K) (θ := θ) (H := H) h2, rk_len (K := X.K) (θ := θ) (H := H) g2]) (eqv_vals (eqv1_of 50) c1 c2 h2 h3 g2 g3) (p.here hs (.bl _))
        · cases e2
      · cases e2
    · exact p.elim
end
end DL
set_option linter.all false
set_option maxRecDepth 100000
set_option autoImplicit false
/-! What the laws' functions over data come to: the tools. -/
namespace DL
open PySem L2
/-- combinators at work -/
theorem mDef_at {keep : Bool} {np N : Nat} {m : MS} {ds : List D} {S : St0} (h : ds.length = np) : mDef keep np N m ds S = if keep = true then (m (ds.map some ++ List.replicate (N - np) none) S).toR else finish S (m (ds.map some ++ List.replicate (N - np) none) S).toR := by unfold mDef; rw [if_pos h]
theorem fin_same (S : St0) (d : D) : finish S (.val d S) = .val d S := by unfold finish; simp
/-- a def that leaves the store as it is -/
theorem mDef_pure {np N : Nat} {m : MS} {ds : List D} {S : St0} {d : D} (h : ds.length = np) (e : (m (ds.map some ++ List.replicate (N - np) none) S).toR = .val d S) : mDef false np N m ds S = .val d S := by
  rw [mDef_at h, if_neg Bool.false_ne_true, e, fin_same]
theorem mseq_at {a b : MS} {ρ ρ1 : Env0} {S S1 : St0} (h : a ρ S = .nx ρ1 S1) : mSeq a b ρ S = b ρ1 S1 := by unfold mSeq; rw [h]; rfl
theorem ret_at {e : ME} {ρ : Env0} {S S1 : St0} {d : D} (h : e ρ S = .val d S1) : mRet e ρ S = .rt d S1 := by unfold mRet; rw [h]; rfl
theorem on1_at {o : List D → St0 → R} {a : ME} {ρ : Env0} {S S1 : St0} {d : D} (h : a ρ S = .val d S1) : mOn o (mCons a mNil) ρ S = o [d] S1 := by unfold mOn mCons mNil; rw [h]; rfl
/-! ### comprehensions over what stands -/
theorem loopC_pure {src : List (Nat × List D)} {g : Pat} {mt me : ME} {ρ : Env0} {S : St0} {al : Bool} {t : D → Bool} {f : D → D} (hc : chk S src = true) : ∀ (ds acc : List D), (acc.length + ds.length ≤ sizeLine) →
    (∀ d ∈ ds, ∃ ρ1, g.put d ρ = some ρ1 ∧ mt ρ1 S = .val (.bl (t d)) S ∧ (t d = true → me ρ1 S = .val (f d) S)) → loopC al src g mt me ρ ds acc S = finL al (acc ++ (ds.filter t).map f) S
  | [], acc, _, _ => by simp [loopC, hc]
  | d :: ds, acc, hl, h => by
    obtain ⟨ρ1, h1, h2, h3⟩ := h d List.mem_cons_self
    unfold loopC
    rw [if_pos hc, h1]
    simp only [R.test0, h2, R.bind0_val]
    simp only [List.length_cons] at hl
    cases e : t d with
    | false =>
      rw [if_neg Bool.false_ne_true, loopC_pure hc ds acc (by omega) fun x hx => h x (List.mem_cons_of_mem _ hx), List.filter_cons_of_neg (by simp [e])]
    | true =>
      rw [if_pos rfl, h3 e, R.bind0_val, if_pos (by omega), loopC_pure hc ds _ (by simp; omega) fun x hx => h x (List.mem_cons_of_mem _ hx), List.filter_cons_of_pos e]
      simp
/-- .. without a test -/
theorem loopC_map {src : List (Nat × List D)} {g : Pat} {me : ME} {ρ : Env0} {S : St0} {al : Bool} {f : D → D} {ds : List D} (hc : chk S src = true) (hl : ds.length ≤ sizeLine) (h : ∀ d ∈ ds, ∃ ρ1, g.put d ρ = some ρ1 ∧ me ρ1 S = .val (f d) S) :
    loopC al src g (mC (.bl true)) me ρ ds [] S = finL al (ds.map f) S := by
  rw [loopC_pure (t := fun _ => true) (f := f) hc ds [] (by simpa using hl) fun d hd => by obtain ⟨ρ1, h1, h2⟩ := h d hd; exact ⟨ρ1, h1, rfl, fun _ => h2⟩]
  rw [List.nil_append, List.filter_eq_self.mpr fun _ _ => rfl]
theorem bls_of {α : Type} (p : α → Bool) : ∀ l : List α, bls? (l.map fun x => D.bl (p x)) = some (l.map p)
  | [] => rfl
  | x :: l => by simp [bls?, bls_of p l]
theorem chk_nil (S : St0) : chk S [] = true := rfl
/-! ### closed values -/
mutual
theorem mapR_id {n : Nat} {g : Nat → Option D} (hg : ∀ k < n, g k = some (.ref k)) : ∀ d : D, d.clo n = true → d.mapR g = some d
  | .non, _ => rfl
  | .bl _, _ => rfl
  | .int _, _ => rfl
  | .str _, _ => rfl
  | .opq _, _ => rfl
  | .ref k, h => hg k (of_decide_eq_true h)
  | .tup xs, h => by unfold D.mapR; rw [mapRs_id hg xs h]; rfl
  | .lst xs, h => by unfold D.mapR; rw [mapRs_id hg xs h]; rfl
  | .fls xs, h => by unfold D.mapR; rw [mapRs_id hg xs h]; rfl
  | .ins C ns xs, h => by unfold D.mapR; rw [mapRs_id hg xs h]; rfl
  | .dct ks xs, h => by unfold D.mapR; rw [mapRs_id hg xs h]; rfl
  | .dcn ks xs, h => by unfold D.mapR; rw [mapRs_id hg xs h]; rfl
  | .tupF b xs, h => by unfold D.mapR; rw [mapRs_id hg xs h]; rfl
  | .exn C ns xs, h => by unfold D.mapR; rw [mapRs_id hg xs h]; rfl
theorem mapRs_id {n : Nat} {g : Nat → Option D} (hg : ∀ k < n, g k = some (.ref k)) : ∀ ds : List D, D.clos n ds = true → D.mapRs g ds = some ds
  | [], _ => rfl
  | d :: ds, h => by
    simp only [D.clos, Bool.and_eq_true] at h
    unfold D.mapRs
    rw [mapR_id hg d h.1, mapRs_id hg ds h.2]
    rfl
end
theorem obR_id {n : Nat} {g : Nat → Option D} (hg : ∀ k < n, g k = some (.ref k)) (o : Ob) (h : o.clo n = true) : o.mapR g = some o := by
  cases o <;> simp only [Ob.mapR] <;> rw [mapRs_id hg _ h] <;> rfl
theorem trunc_id {n : Nat} {g : Nat → Option D} (hg : ∀ k < n, g k = some (.ref k)) (E : St0) : ∀ (S S1 : St0), S1.length = S.length → (∀ (i : Nat) (o o' : Ob), S[i]? = some o → S1[i]? = some o' → o' = o ∨ o'.clo n = true) → trunc g S (S1 ++ E) = some S1
  | [], [], _, _ => rfl
  | [], _ :: _, h, _ => by cases h
  | _ :: _, [], h, _ => by cases h
  | o :: S, o' :: S1, hl, h => by
    have ih := trunc_id hg E S S1 (by simpa using hl) fun i a b h1 h2 => h (i + 1) a b h1 h2
    simp only [List.cons_append, trunc]
    rcases h 0 o o' rfl rfl with e | e
    · rw [if_pos e, ih, e]; rfl
    · by_cases z : o' = o
      · rw [if_pos z, ih, z]; rfl
      · rw [if_neg z, obR_id hg o' e, ih]; rfl
theorem refAt_low {S : St0} {n0 f k : Nat} (h : k < n0) : refAt S n0 f k = some (.ref k) := by
  cases f <;> simp [refAt, h]
theorem refAt_none {S : St0} {n0 f k : Nat} {x : D} (hS : S.length ≤ n0) (h : refAt S n0 f k = some x) : x = .ref k := by
  by_cases l : k < n0
  · rw [refAt_low l] at h; cases h; rfl
  · cases f with
    | zero => simp [refAt, l] at h
    | succ f =>
      have : S[k]? = none := List.getElem?_eq_none (by omega)
      simp [refAt, l, this] at h
mutual
theorem mapR_same {g : Nat → Option D} (hg : ∀ k x, g k = some x → x = .ref k) : ∀ (d e : D), d.mapR g = some e → e = d
  | .non, _, h => by cases h; rfl
  | .bl _, _, h => by cases h; rfl
  | .int _, _, h => by cases h; rfl
  | .str _, _, h => by cases h; rfl
  | .opq _, _, h => by cases h; rfl
  | .ref k, _, h => hg k _ h
  | .tup xs, _, h => by
    unfold D.mapR at h
    cases q : D.mapRs g xs with
    | none => rw [q] at h; cases h
    | some ys => rw [q] at h; cases h; rw [mapRs_same hg xs ys q]
  | .lst xs, _, h => by
    unfold D.mapR at h
    cases q : D.mapRs g xs with
    | none => rw [q] at h; cases h
    | some ys => rw [q] at h; cases h; rw [mapRs_same hg xs ys q]
  | .fls xs, _, h => by
    unfold D.mapR at h
    cases q : D.mapRs g xs with
    | none => rw [q] at h; cases h
    | some ys => rw [q] at h; cases h; rw [mapRs_same hg xs ys q]
  | .ins C ns xs, _, h => by
    unfold D.mapR at h
    cases q : D.mapRs g xs with
    | none => rw [q] at h; cases h
    | some ys => rw [q] at h; cases h; rw [mapRs_same hg xs ys q]
  | .exn C ns xs, _, h => by
    unfold D.mapR at h
    cases q : D.mapRs g xs with
    | none => rw [q] at h; cases h
    | some ys => rw [q] at h; cases h; rw [mapRs_same hg xs ys q]
  | .dcn ks xs, _, h => by
    unfold D.mapR at h
    cases q : D.mapRs g xs with
    | none => rw [q] at h; cases h
    | some ys => rw [q] at h; cases h; rw [mapRs_same hg xs ys q]
  | .tupF b xs, _, h => by
    unfold D.mapR at h
    cases q : D.mapRs g xs with
    | none => rw [q] at h; cases h
    | some ys => rw [q] at h; cases h; rw [mapRs_same hg xs ys q]
  | .dct ks xs, _, h => by
    unfold D.mapR at h
    cases q : D.mapRs g xs with
    | none => rw [q] at h; cases h
    | some ys => rw [q] at h; cases h; rw [mapRs_same hg xs ys q]
theorem mapRs_same {g : Nat → Option D} (hg : ∀ k x, g k = some x → x = .ref k) : ∀ (ds es : List D), D.mapRs g ds = some es → es = ds
  | [], _, h => by cases h; rfl
  | d :: ds, es, h => by
    unfold D.mapRs at h
    cases q : D.mapR g d with
    | none => rw [q] at h; cases h
    | some e =>
      rw [q] at h
      cases z : D.mapRs g ds with
      | none => simp only [z] at h; cases h
      | some ys => simp only [z] at h; cases h; rw [mapR_same hg d e q, mapRs_same hg ds ys z]
end
/-- what a call hands back, its own new things behind the caller's -/
theorem fin_app {S S1 E : St0} {d d' : D} (hl : S1.length = S.length) (h : ∀ (i : Nat) (o o' : Ob), S[i]? = some o → S1[i]? = some o' → o' = o ∨ o'.clo S.length = true) (hd : d.mapR (refAt (S1 ++ E) S.length (S1 ++ E).length) = some d') : finish S (.val d (S1 ++ E)) = .val d' S1 := by
  unfold finish
  simp only
  by_cases z : S1 ++ E = S
  · have hE : E = [] := by
      have := congrArg List.length z
      rw [List.length_append] at this
      exact List.length_eq_zero_iff.mp (by omega)
    subst hE
    rw [List.append_nil] at z hd
    subst z
    rw [if_pos (List.append_nil _)]
    rw [mapR_same (fun k x => refAt_none (Nat.le_refl _)) d d' hd]
  · rw [if_neg z, trunc_id (fun k hk => refAt_low hk) E S S1 hl h]
    simp only [hd]
theorem ref_new {S1 E : St0} {n : Nat} {xs : List D} (hl : S1.length = n) (hx : D.clos n xs = true) : (D.ref n).mapR (refAt (S1 ++ .lst xs :: E) n (S1 ++ .lst xs :: E).length) = some (.lst xs) := by
  show refAt _ n _ n = _
  have : (S1 ++ .lst xs :: E).length = (S1.length + E.length) + 1 := by simp; omega
  rw [this]
  unfold refAt
  have e : (S1 ++ .lst xs :: E)[n]? = some (.lst xs) := by rw [List.getElem?_append_right (by omega), hl, Nat.sub_self]; rfl
  rw [if_neg (Nat.lt_irrefl n)]
  simp only [e]
  rw [mapRs_id (fun k hk => refAt_low hk) xs hx]
  rfl
mutual
theorem clo_mono {n m : Nat} (l : n ≤ m) : ∀ d : D, d.clo n = true → d.clo m = true
  | .non, _ => rfl
  | .bl _, _ => rfl
  | .int _, _ => rfl
  | .str _, _ => rfl
  | .opq _, _ => rfl
  | .ref k, h => decide_eq_true (Nat.lt_of_lt_of_le (of_decide_eq_true h) l)
  | .tup xs, h => clos_mono l xs h
  | .lst xs, h => clos_mono l xs h
  | .fls xs, h => clos_mono l xs h
  | .ins C ns xs, h => clos_mono l xs h
  | .dct ks xs, h => clos_mono l xs h
  | .dcn ks xs, h => clos_mono l xs h
  | .tupF b xs, h => clos_mono l xs h
  | .exn C ns xs, h => clos_mono l xs h
theorem clos_mono {n m : Nat} (l : n ≤ m) : ∀ ds : List D, D.clos n ds = true → D.clos m ds = true
  | [], _ => rfl
  | d :: ds, h => by
    simp only [D.clos, Bool.and_eq_true] at h ⊢
    exact ⟨clo_mono l d h.1, clos_mono l ds h.2⟩
end
theorem clos_ints (n : Nat) : ∀ l : List Int, D.clos n (l.map .int) = true
  | [] => rfl
  | _ :: l => by simp [D.clos, D.clo, clos_ints n l]
theorem clos_all {n : Nat} : ∀ {ds : List D}, (∀ d ∈ ds, d.clo n = true) → D.clos n ds = true
  | [], _ => rfl
  | d :: ds, h => by
    simp only [D.clos, Bool.and_eq_true]
    exact ⟨h d List.mem_cons_self, clos_all fun x hx => h x (List.mem_cons_of_mem _ hx)⟩
theorem clos_at {n : Nat} : ∀ {ds : List D}, D.clos n ds = true → ∀ d ∈ ds, d.clo n = true
  | [], _, _, h => by cases h
  | d :: ds, h, x, hx => by
    simp only [D.clos, Bool.and_eq_true] at h
    rcases List.mem_cons.mp hx with rfl | hx
    · exact h.1
    · exact clos_at h.2 x hx
end DL
set_option linter.all false
set_option maxRecDepth 100000
set_option autoImplicit false
/-! Kinds and data of what is a value through and through. -/
namespace DL
open PySem L2
mutual
/-- a value through and through -/
def D.wf : D → Bool
  | .non => true
  | .bl _ => true
  | .int _ => true
  | .str _ => true
  | .tup xs => D.wfs xs
  | .lst xs => D.wfs xs
  | .dct _ xs => D.wfs xs
  | _ => false
def D.wfs : List D → Bool
  | [] => true
  | x :: xs => D.wf x && D.wfs xs
end
def kn : D → String
  | .non => "NoneType"
  | .bl _ => "bool"
  | .int _ => "int"
  | .str _ => "str"
  | .tup _ => "tuple"
  | .lst _ => "list"
  | .dct _ _ => "dict"
  | _ => ""
theorem kind_wf {d : D} {S : St0} (h : d.wf = true) : kindOf S d = some (.b (kn d)) ∧ kn d ∈ kindsT := by
  cases d <;> simp only [D.wf, Bool.false_eq_true] at h <;> exact ⟨rfl, by simp [kn, kindsT]⟩
theorem isi {tb : KTab} {d : D} {T : String} {S : St0} (h : d.wf = true) (hT : T ∈ sixT) : opIsI tb [d, .opq (.ty T)] S = some (.bl (builtinIs (kn d) T)) := by
  obtain ⟨h1, h2⟩ := kind_wf (S := S) h
  simp only [opIsI, h1, clsOf, kitD, if_pos (And.intro h2 hT), Option.map_some]
theorem wfs_at : ∀ {ds : List D}, D.wfs ds = true → ∀ d ∈ ds, d.wf = true
  | [], _, _, h => by cases h
  | d :: ds, h, x, hx => by
    simp only [D.wfs, Bool.and_eq_true] at h
    rcases List.mem_cons.mp hx with rfl | hx
    · exact h.1
    · exact wfs_at h.2 x hx
theorem wfs_of : ∀ {ds : List D}, (∀ d ∈ ds, d.wf = true) → D.wfs ds = true
  | [], _ => rfl
  | d :: ds, h => by
    simp only [D.wfs, Bool.and_eq_true]
    exact ⟨h d List.mem_cons_self, wfs_of fun x hx => h x (List.mem_cons_of_mem _ hx)⟩
theorem wfs_ints (l : List Int) : D.wfs (l.map .int) = true := wfs_of fun d hd => by obtain ⟨i, _, rfl⟩ := List.mem_map.mp hd; rfl
mutual
theorem wf_clo (n : Nat) : ∀ d : D, d.wf = true → d.clo n = true
  | .non, _ => rfl
  | .bl _, _ => rfl
  | .int _, _ => rfl
  | .str _, _ => rfl
  | .tup xs, h => wfs_clo n xs h
  | .lst xs, h => wfs_clo n xs h
  | .dct _ xs, h => wfs_clo n xs h
  | .dcn _ _, h => by cases h
  | .tupF _ _, h => by cases h
  | .exn _ _ _, h => by cases h
  | .fls _, h => by cases h
  | .ins _ _ _, h => by cases h
  | .ref _, h => by cases h
  | .opq _, h => by cases h
theorem wfs_clo (n : Nat) : ∀ ds : List D, D.wfs ds = true → D.clos n ds = true
  | [], _ => rfl
  | d :: ds, h => by
    simp only [D.wfs, Bool.and_eq_true] at h
    simp only [D.clos, Bool.and_eq_true]
    exact ⟨wf_clo n d h.1, wfs_clo n ds h.2⟩
end
/-! operations at work -/
section
variable {S : St0} {i j : Int} {xs ys ds : List D}
theorem add_i : opAdd (.int i) (.int j) S = some (.int (i + j)) := rfl
theorem sub_i : opSub (.int i) (.int j) S = some (.int (i - j)) := rfl
theorem neg_i : opNeg (.int i) S = some (.int (-i)) := rfl
theorem lt_i : opLt (.int i) (.int j) S = some (.bl (decide (i < j))) := rfl
theorem le_i : opLe (.int i) (.int j) S = some (.bl (decide (i ≤ j))) := rfl
theorem gt_i : opGt (.int i) (.int j) S = some (.bl (decide (j < i))) := rfl
theorem ge_i : opGe (.int i) (.int j) S = some (.bl (decide (j ≤ i))) := rfl
theorem ltD_i : opLtD (.int i) (.int j) S = some (.bl (decide (i < j))) := rfl
theorem leD_i : opLeD (.int i) (.int j) S = some (.bl (decide (i ≤ j))) := rfl
theorem gtD_i : opGtD (.int i) (.int j) S = some (.bl (decide (j < i))) := rfl
theorem geD_i : opGeD (.int i) (.int j) S = some (.bl (decide (j ≤ i))) := rfl
theorem eq_i : opEq (.int i) (.int j) S = some (.bl (decide (i = j))) := by
  simp only [opEq, pyOf, D.py, shp, SeqAt.shaped, Bool.and_self, if_true, PyData.eqv]
  rfl
theorem ne_i : opNe (.int i) (.int j) S = some (.bl (!decide (i = j))) := by
  simp only [opNe, pyOf, D.py, shp, SeqAt.shaped, Bool.and_self, if_true, PyData.eqv]
  rfl
theorem mul_l (h : -(2 ^ 64) < i) (h2 : i < 2 ^ 64) : opMul (.int i) (.int j) S = some (.int (i * j)) := by simp only [opMul, mulOk_l h h2, if_true]
theorem mul_r (h : -(2 ^ 64) < j) (h2 : j < 2 ^ 64) : opMul (.int i) (.int j) S = some (.int (i * j)) := by simp only [opMul, mulOk_r h h2, if_true]
theorem mod_i (h : 0 < j) : opMod (.int i) (.int j) S = some (.int (i % j)) := by simp only [opMod, if_pos h]
theorem log_small {j : Int} (h : 0 < j) (h2 : j < 2 ^ 64) : j.natAbs.log2 < 9000 := by
  have h3 : j.natAbs < 2 ^ 64 := by omega
  have h4 : j.natAbs ≠ 0 := by omega
  have := (Nat.log2_lt h4).mpr h3
  omega
theorem fdiv_i (h : 0 < j) (h2 : j < 2 ^ 64) : opFdiv (.int i) (.int j) S = some (.int (i / j)) := by simp only [opFdiv, if_pos (And.intro h (log_small h h2))]
theorem len_t : opLen [.tup xs] S = some (.int xs.length) := rfl
theorem len_l : opLen [.lst xs] S = some (.int xs.length) := rfl
theorem len_f : opLen [.fls xs] S = some (.int xs.length) := rfl
theorem len_r {n : Nat} (h : S[n]? = some (.lst xs)) : opLen [.ref n] S = some (.int xs.length) := by simp [opLen, itemsOf, seqOf, h]
theorem int_i : opInt [.int i] S = some (.int i) := rfl
theorem tuple_l : opTuple [.lst xs] S = some (.tup xs) := rfl
theorem ix_t : opIx (.tup xs) (.int i) S = atI xs i := rfl
theorem ix_l : opIx (.lst xs) (.int i) S = atI xs i := rfl
theorem ix_r {n : Nat} (h : S[n]? = some (.lst xs)) : opIx (.ref n) (.int i) S = atI xs i := by simp [opIx, itemsOf, seqOf, h]
theorem atN {n : Nat} {d : D} (h : ds[n]? = some d) : atI ds (n : Int) = some d := by
  have l := (List.getElem?_eq_some_iff.mp h).1
  unfold atI ixN
  rw [if_pos (by omega), if_pos (by omega)]
  simpa using h
theorem at0 {d : D} : atI (d :: ds) 0 = some d := atN (n := 0) rfl
theorem at1 {d e : D} : atI (d :: e :: ds) 1 = some e := atN (n := 1) rfl
theorem at2 {d e f : D} : atI (d :: e :: f :: ds) 2 = some f := atN (n := 2) rfl
theorem all_l {bs : List Bool} (h : bls? xs = some bs) (f : List Bool → Bool) : opBools f [.lst xs] S = some (.bl (f bs)) := by simp [opBools, lItems, isTup, itemsOf, seqOf, h]
theorem it_t {m : ME} {ρ : Env0} {S1 : St0} (h : m ρ S = .val (.tup ds) S1) : mIt m ρ S = .it [] ds S1 := by simp [mIt, h, seqOf]
theorem it_l {m : ME} {ρ : Env0} {S1 : St0} (h : m ρ S = .val (.lst ds) S1) : mIt m ρ S = .it [] ds S1 := by simp [mIt, h, seqOf]
theorem lc_of {al : Bool} {mi : MI} {g : Pat} {own : List Nat} {mt me : ME} {ρ : Env0} {S1 : St0} {src : List (Nat × List D)} (h : mi ρ S = .it src ds S1) : mLc al mi g own mt me ρ S = loopC al src g mt me (wipeE ρ own) ds [] S1 := by simp [mLc, h]
end
end DL
namespace DL
open PySem L2
theorem lc_map {mi : MI} {g : Pat} {own : List Nat} {me : ME} {ρ : Env0} {S : St0} {src : List (Nat × List D)} {ds : List D} {f : D → D} (h : mi ρ S = .it src ds S) (hc : chk S src = true) (hl : ds.length ≤ sizeLine)
    (he : ∀ d ∈ ds, ∃ ρ1, g.put d (wipeE ρ own) = some ρ1 ∧ me ρ1 S = .val (f d) S) : mLc false mi g own (mC (.bl true)) me ρ S = .val (.lst (ds.map f)) S := by
  rw [lc_of h, loopC_map hc hl he]; rfl
theorem lc_filter {mi : MI} {g : Pat} {own : List Nat} {mt me : ME} {ρ : Env0} {S : St0} {src : List (Nat × List D)} {ds : List D} {t : D → Bool} {f : D → D} (h : mi ρ S = .it src ds S) (hc : chk S src = true) (hl : ds.length ≤ sizeLine)
    (he : ∀ d ∈ ds, ∃ ρ1, g.put d (wipeE ρ own) = some ρ1 ∧ mt ρ1 S = .val (.bl (t d)) S ∧ (t d = true → me ρ1 S = .val (f d) S)) : mLc false mi g own mt me ρ S = .val (.lst ((ds.filter t).map f)) S := by
  rw [lc_of h, loopC_pure hc ds [] (by simpa using hl) he]; rfl
theorem zip_t {m m2 : ME} {ρ : Env0} {S : St0} {xs ys : List D} (h : m ρ S = .val (.tup xs) S) (h2 : m2 ρ S = .val (.tup ys) S) : mZip m m2 ρ S = .it [] (zips xs ys) S := by simp [mZip, h, h2, isTup, seqOf]
theorem zips_ints : ∀ xs ys : List Int, zips (xs.map .int) (ys.map .int) = (xs.zip ys).map fun p => .tup [.int p.1, .int p.2]
  | [], _ => rfl
  | _ :: _, [] => rfl
  | x :: xs, y :: ys => by simp [zips, zips_ints xs ys]
theorem ok_rng {a b : Int} (h1 : 0 ≤ a) (h2 : a ≤ 1000000000) (h3 : 0 ≤ b) (h4 : b ≤ 1000000000) : rngOk a b = true := by
  unfold rngOk
  rw [decide_eq_true (by omega), decide_eq_true (by omega), decide_eq_true (by omega), decide_eq_true (by omega)]
  rfl
theorem rng1 {m : ME} {ρ : Env0} {S : St0} {n : Nat} (h : m ρ S = .val (.int n) S) (hn : n ≤ 1000000) : mRng1 m ρ S = .it [] ((List.range n).map fun (k : Nat) => D.int k) S := by
  unfold mRng1
  rw [h, R.it_val]
  simp only [ok_rng (Int.le_refl 0) (by omega) (show (0 : Int) ≤ (n : Int) by omega) (by omega), if_true, rng, Int.toNat_natCast, Int.zero_add]
theorem rng2 {m m2 : ME} {ρ : Env0} {S : St0} {a n : Nat} (h : m ρ S = .val (.int a) S) (h2 : m2 ρ S = .val (.int n) S) (ha : a ≤ 1000000) (hn : n ≤ 1000000) : mRng2 m m2 ρ S = .it [] ((List.range (n - a)).map fun (k : Nat) => D.int (a + k : Nat)) S := by
  have t : ((n : Int) - (a : Int)).toNat = n - a := by omega
  unfold mRng2
  rw [h, R.it_val, h2, R.it_val]
  simp only [ok_rng (show (0 : Int) ≤ (a : Int) by omega) (by omega) (show (0 : Int) ≤ (n : Int) by omega) (by omega), if_true, rng, t]
  rfl
theorem le_line {n : Nat} (h : n ≤ 1000000) : n ≤ sizeLine := by rw [sizeLine_eq]; omega
theorem fld_i {cs : List Addr} {f : Str} {m : ME} {ρ : Env0} {S : St0} {C : Addr} {ns : List Str} {xs : List D} {d : D} (h : m ρ S = .val (.ins C ns xs) S) (hC : C ∈ cs) (hf : lookF f ns xs = some d) : mFld cs f m ρ S = .val d S := by
  simp [mFld, mUn, h, lift1, insOf, hC, hf]
end DL
set_option Elab.async false
set_option linter.all false
set_option maxRecDepth 100000
set_option autoImplicit false
/-! The layer of data: try, what a clause holds. -/
namespace DL
open PySem PySem.Spec L2
open PyProof.Rows hiding St
abbrev TSt := L2.St
section
variable {X : Cx} {pins : List (Addr × Obj)} {σ : TSt} {H : Hp} {s : Shared} {a C : Addr} {d : Option Addr} {oe : Obj} {vs : Array Value}
/-- the exception becomes a thing of the heap -/
theorem adopt (I : Inv X pins σ H s) (ha : s.heap.get? a = some oe) (hz : Zc (.ref C) d oe) (hd : oe.data = .fields vs) (na : H a = none) (nL : a ≠ X.env.locals)
    (fresh : ∀ o, X.s_0.heap.get? a = some o → a ∈ X.ex) (np : ∀ p ∈ X.pn ++ pins, p.1 ≠ a) : Inv (X.suite a (X.pn ++ pins)) [] σ (upd H a (exh a C d)) s := by
  have other : ∀ {b : Addr}, H b ≠ none → b ≠ a := fun {b} h z => h (by rw [z]; exact na)
  have bs := I.base
  refine ⟨I.ok.suite a _, I.os, I.bare, ⟨bs.keep, bs.slot, fun b o e n hx => ?_, bs.there, fun b xs z => ?_, fun b o u z => ?_, fun b ps z => ?_⟩, I.loc, I.cell, ?_, fun x c e => ?_, fun p hp => ?_, ?_, I.len⟩
  · rw [upd_ne (fun z => hx (by rw [z]; exact fresh o (by rw [← z]; exact e)))]
    exact bs.free b o e n hx
  · have q := bs.tups b xs z
    rw [upd_ne (other (by rw [q]; exact fun z => nomatch z))]
    exact q
  · have q := bs.frzs b o u z
    rw [upd_ne (other (by rw [q]; exact fun z => nomatch z))]
    exact q
  · obtain ⟨more, q⟩ := bs.tbls b ps z
    refine ⟨more, ?_⟩
    rw [upd_ne (other (by rw [q]; exact fun z => nomatch z))]
    exact q
  · rw [upd_ne (Ne.symm nL)]
    exact I.free
  · obtain ⟨v, o, ho, hv⟩ := I.cell x c e
    rw [upd_ne (fun z => by rw [z, ha] at ho; cases ho; rw [hd] at hv; cases hv)]
    exact I.freeC x c e
  · have hp' : p ∈ X.pn ++ pins := by simpa using hp
    obtain ⟨h1, h2, h3, h4, h5⟩ := I.pin p hp'
    exact ⟨h1, by rw [upd_ne (np p hp')]; exact h2, h3, h4, h5⟩
  · refine I.hok.laidN (fun _ _ e => e) na ⟨⟨oe, vs, ha, hz, hd⟩, ⟨oe, ha⟩, fun h1 h2 q k => ?_⟩
    obtain ⟨oe', vs', g1, g2, g3⟩ := q
    exact ⟨oe', vs', k _ g1, g2, g3⟩
/-- .. and stays one behind the clause -/
theorem leave {pn' : List (Addr × Obj)} (I : Inv (X.suite a (X.pn ++ pins)) pn' σ H s) (ok : X.Ok) : Inv X pins σ H s :=
  ⟨ok, I.os, I.bare, I.base, I.loc, I.cell, I.free, I.freeC, fun p hp => I.pin p (List.mem_append_left _ hp), I.hok, I.len⟩
end
/-- a clause: its class, the slot of its name, what its suite does -/
structure Cl where
  c : Value
  i : Option Nat
  ts : TS
def Cl.ends (q : Cl) (D : Ends) : Ends := match q.i with
  | none => D
  | some i => { nx := fun σ' H' => D.nx (σ'.set i none) H', rt := D.rt, bk := fun σ' H' => D.bk (σ'.set i none) H', ct := fun σ' H' => D.ct (σ'.set i none) H' }
def Cl.slot (q : Cl) (σ : TSt) (a : Addr) : TSt := match q.i with
  | none => σ
  | some i => σ.set i (some (.ref a))
/-- what the clauses wish of an exception of the body -/
def wCl (K : PySem.W.Frag) (Wout : WX) (D : Ends) : List Cl → WX
  | [] => Wout
  | q :: r => fun cls d σ H => ∃ b, PySem.W.exmOne K cls q.c = some b ∧ (b = true → ∃ C, cls = .ref C ∧ ∀ a, H a = none → q.ts (q.ends D) (q.slot σ a) (upd H a (exh a C d))) ∧ (b = false → wCl K Wout D r cls d σ H)
inductive ClsOk (X : Cx) : List ExceptHandler → List Cl → Prop
  | nil : ClsOk X [] []
  | plain {x : Str} {c : Value} {ts : TS} {b₀ : Stmt} {suite : List Stmt} {np pos' : Pos} {hds : List ExceptHandler} {l : List Cl} (hc : Names X x c)
      (hsu : ∀ (a : Addr) (pn : List (Addr × Obj)), PSs (X.suite a pn) (b₀ :: suite) ts) (r : ClsOk X hds l) : ClsOk X (.ExceptHandler (some (.Name x np)) none (b₀ :: suite) pos' :: hds) (⟨c, none, ts⟩ :: l)
  | named {x n : Str} {c : Value} {i : Nat} {ts : TS} {b₀ : Stmt} {suite : List Stmt} {np pos' : Pos} {hds : List ExceptHandler} {l : List Cl} (hc : Names X x c) (hi : X.N[i]? = some n) (hln : X.env.kindOf n = some .local)
      (hsu : ∀ (a : Addr) (pn : List (Addr × Obj)), PSs (X.suite a pn) (b₀ :: suite) ts) (r : ClsOk X hds l) : ClsOk X (.ExceptHandler (some (.Name x np)) (some n) (b₀ :: suite) pos' :: hds) (⟨c, some i, ts⟩ :: l)
section
variable {X : Cx} {body : List Stmt} {h₀ : ExceptHandler} {hds : List ExceptHandler} {l : List Cl} {pos : Pos} {tb : WX → TS} {Wout : WX}
theorem ps_tryC (hs : X.stack = X.env :: X.outer) (hf : X.env.frame = some X.env.locals) (hN : X.N.Nodup) (tk : Takes X Wout)
    (hb : ∀ (W : WX) (pn : List (Addr × Obj)) (xe : Value → Shared → Prop), Takes (X.tr pn xe) W → PassesOwn (model X.prog X.w) X.A X.env xe → PSs (X.tr pn xe) body (tb W))
    (hh : ClsOk X (h₀ :: hds) l) : PS X (.Try body (h₀ :: hds) [] [] pos) (fun D σ H => tb (wCl X.K Wout D l) D σ H) := by
  refine ⟨fun pins s σ H D I h => ?_⟩
  have ok := I.ok
  have hfr : X.A.frames = some (X.env :: X.outer) := by rw [ok.frames, hs]
  refine wpAny_Try_except (wpAny_mono ((hb (wCl X.K Wout D l) (X.pn ++ pins) (fun e t1 => wpAny (model X.prog X.w) X.A (noteFrame e X.env) (fun _ t2 => wpAny (model X.prog X.w) X.A (setFlight e none) (fun _ t3 =>
    wpAny (model X.prog X.w) X.A (handleBy e X.env (h₀ :: hds)) (SP X pins D) X.xe t3) X.xe t2) X.xe t1) (fun u s' xx => ?_) PassesOwn.looking).run [] s σ H D (I.toTry _) h) (fun f s1 hsp => ?_) (fun e s1 he => he))
  rotate_left
  · cases f with
    | ret u =>
      obtain ⟨v, σ', H', J', r, q⟩ := hsp
      exact ⟨v, σ', H', J'.ofTry ok, r, q⟩
    | next =>
      obtain ⟨σ', H', J', q⟩ := hsp
      exact wpAny_execs_nil ⟨σ', H', J'.ofTry ok, q⟩
    | brk => obtain ⟨σ', H', J', q⟩ := hsp; exact ⟨σ', H', J'.ofTry ok, q⟩
    | cont => obtain ⟨σ', H', J', q⟩ := hsp; exact ⟨σ', H', J'.ofTry ok, q⟩
  obtain ⟨a, B, sI, pins', σ', H', cls, d, rfl, J', nb, up, sky, na, os, ag, w⟩ := xx
  have J : Inv X pins σ' H' sI := J'.ofTry ok
  have sky' : Sky B (X.env :: X.outer) a (Zc cls d) X.env.locals s'.heap := by rw [← hs]; exact sky
  show wpAny (model X.prog X.w) X.A (noteFrame (.ref a) X.env) _ _ _
  refine Sky.land Zc.steady hfr hf sky' fun h3 fl3 up3 => ?_
  have J3 : Inv X pins σ' H' { s' with heap := h3 } := J.landed nb fl3.1 (up.trans up3) os ag
  obtain ⟨oe3, vs3, he3, hz3, hd3⟩ := fl3.there
  have nfr : a ∉ frs (X.env :: X.outer) := fun hm => by
    obtain ⟨_, o', e', hnf⟩ := fl3.2.2.1.mem hm
    rw [he3] at e'
    cases e'
    exact hnf _ hd3
  have nL : a ≠ X.env.locals := fun z => nfr (List.mem_filterMap.mpr ⟨X.env, List.mem_cons_self, by rw [hf, z]⟩)
  have nF : a ∉ X.fs := fun hm => by
    obtain ⟨e, he, q⟩ := List.mem_filterMap.mp hm
    exact nfr (List.mem_filterMap.mpr ⟨e, List.mem_cons_of_mem _ he, q⟩)
  have nI : ∀ o, sI.heap.get? a ≠ some o := fun o e => by
    have := nb a o e (by rw [hs]; exact nfr)
    rw [fl3.2.1] at this
    cases this
  have fresh : ∀ o, X.s_0.heap.get? a = some o → a ∈ X.ex := fun o e => Classical.byContradiction fun hx => by
    obtain ⟨o', e'⟩ := J.base.there a o e hx
    exact nI _ e'
  have np : ∀ p ∈ X.pn ++ pins, p.1 ≠ a := fun p hp z => by
    have := (J.pin p hp).1
    rw [z] at this
    exact nI _ this
  have S3 := J3.suite he3 hd3 na nL nF
  have LT : PySem.W.Looks (model X.prog X.w) h3 (typeOf (.ref a)) cls := fun A Q E s k q => wpAny_typeOf_ref (k _ _ he3) (by rw [hz3.1]; exact q)
  have test : ∀ {x : Str} {c : Value} {np : Pos} {Q : Value → Shared → Prop} {E : Value → Shared → Prop}, Names X x c → Q c { s' with heap := h3 } → wpAny (model X.prog X.w) (X.A.mark (some (.ref a))) (eval (.Name x np) X.env) Q E { s' with heap := h3 } := fun {x c np Q E} hc q => by
    obtain ⟨hg, hdbg, hm | ⟨hm, hv, hnn⟩⟩ := hc
    · exact ld_glob (X := X.suite a ((a, oe3) :: (X.pn ++ pins))) S3 hg hm q hdbg
    · exact ld_blt (X := X.suite a ((a, oe3) :: (X.pn ++ pins))) S3 hg hm hv q hnn hdbg
  have go : ∀ {hs' : List ExceptHandler} {l' : List Cl}, ClsOk X hs' l' → wCl X.K Wout D l' cls d σ' H' → wpAny (model X.prog X.w) X.A (handleBy (.ref a) X.env hs') (SP X pins D) X.xe { s' with heap := h3 } := by
    intro hs' l' hk
    induction hk with
    | nil =>
      intro w
      refine wpAny_handleBy_nil ?_
      obtain ⟨k1, k2, k3, oe, vs, T, oT, ts', he, hz, hd, h1, hr⟩ := id fl3
      have fin : wpAny (model X.prog X.w) X.A (setFlight (.ref a) X.env.frame) (fun _ s4 => wpAny (model X.prog X.w) X.A (throw (.ref a) : Sem Flow) (SP X pins D) X.xe s4) X.xe { s' with heap := h3 } := by
        rw [hf]
        exact HandSPX.setFlight_upZ fl3 fun h4 hh4 up4 => wpAny_throw (tk _ _ ⟨a, B, sI, pins, σ', H', cls, d, rfl, J, nb, (up.trans up3).trans up4, .inr (.inr (by rw [hs]; exact hh4)), na, os, ag, w⟩)
      unfold PySem.passOn
      refine wpAny_bind (wpAny_field he hd h1 ?_)
      have ne : ¬ ((Value.ref T == Value.none) = true) := by simp
      rw [if_neg ne]
      first
        | exact wpAny_bind (wpAny_pure (wpAny_bind fin))
        | exact wpAny_bind fin
    | @plain x c ts b₀ suite np' pos' hds2 l2 hc hsu r ih =>
      intro w
      obtain ⟨b, hb1, hyes, hno⟩ := w
      refine wpAny_handleBy_cons (codeAny_handlers_test (test hc ((PySem.W.exm_one (M := model X.prog X.w) J3.kIn LT hb1).here ?_))) (by intro q; cases q)
      cases b with
      | false => exact ih (hno rfl)
      | true =>
        obtain ⟨C, rfl, hq⟩ := hyes rfl
        refine codeAny_handlers_suite (HandSPX.lands_againZ fl3 fun h4 fl4 up4 => ?_)
        have J4 : Inv X pins σ' H' { s' with heap := h4 } := J.landed nb fl4.1 ((up.trans up3).trans up4) os ag
        obtain ⟨oe4, vs4, he4, hz4, hd4⟩ := fl4.there
        have S4 := adopt J4 he4 hz4 hd4 na nL fresh np
        refine wpAny_mono ((hsu a (X.pn ++ pins)).run [] _ _ _ _ S4 (hq a na)) (fun f s6 hsp => ?_) (fun _ _ z => False.elim z)
        cases f with
        | ret u => obtain ⟨v6, σ6, H6, S6, r6, q6⟩ := hsp; exact ⟨_, _, _, leave S6 ok, r6, q6⟩
        | next => obtain ⟨σ6, H6, S6, q6⟩ := hsp; exact ⟨_, _, leave S6 ok, q6⟩
        | brk => obtain ⟨σ6, H6, S6, q6⟩ := hsp; exact ⟨_, _, leave S6 ok, q6⟩
        | cont => obtain ⟨σ6, H6, S6, q6⟩ := hsp; exact ⟨_, _, leave S6 ok, q6⟩
    | @named x n c i ts b₀ suite np' pos' hds2 l2 hc hi hln hsu r ih =>
      intro w
      obtain ⟨b, hb1, hyes, hno⟩ := w
      refine wpAny_handleBy_cons (codeAny_handlers_test (test hc ((PySem.W.exm_one (M := model X.prog X.w) J3.kIn LT hb1).here ?_))) (by intro q; cases q)
      cases b with
      | false => exact ih (hno rfl)
      | true =>
        obtain ⟨C, rfl, hq⟩ := hyes rfl
        refine codeAny_handlers_suite_as (HandSPX.lands_againZ fl3 fun h4 fl4 up4 => ?_)
        have J4 : Inv X pins σ' H' { s' with heap := h4 } := J.landed nb fl4.1 ((up.trans up3).trans up4) os ag
        obtain ⟨oe4, vs4, he4, hz4, hd4⟩ := fl4.there
        have S4 := adopt J4 he4 hz4 hd4 na nL fresh np
        refine store_ok (X := X.suite a (X.pn ++ pins)) (v := .ref a) S4 hN hi (.inl hln) rfl (fun s5 S5 => ?_) (.inr hln)
        refine wpAny_mono ((hsu a (X.pn ++ pins)).run [] s5 _ _ _ S5 (hq a na)) (fun f s6 hsp => ?_) (fun _ _ z => False.elim z)
        have away : ∀ {σ6 : TSt} {H6 : Hp} {Q : Shared → Prop}, Inv (X.suite a (X.pn ++ pins)) [] σ6 H6 s6 → (∀ s7, Inv X pins (σ6.set i none) H6 s7 → Q s7) →
            wpAny (model X.prog X.w) X.A (do bindName X.env n .none; unbindBehindTheSuite X.env n pos') (fun _ s7 => Q s7) X.xe s6 := fun {σ6 H6 Q} S6 hq => gone_ok (leave S6 ok) hN hi hln hq
        cases f with
        | ret u => obtain ⟨v6, σ6, H6, S6, r6, q6⟩ := hsp; exact away S6 fun s7 J7 => ⟨_, _, _, J7, r6, q6⟩
        | next => obtain ⟨σ6, H6, S6, q6⟩ := hsp; exact away S6 fun s7 J7 => ⟨_, _, J7, q6⟩
        | brk => obtain ⟨σ6, H6, S6, q6⟩ := hsp; exact away S6 fun s7 J7 => ⟨_, _, J7, q6⟩
        | cont => obtain ⟨σ6, H6, S6, q6⟩ := hsp; exact away S6 fun s7 J7 => ⟨_, _, J7, q6⟩
  exact go hh w
end
end DL
set_option Elab.async false
set_option linter.all false
set_option maxRecDepth 100000
set_option autoImplicit false
namespace DL
open PySem PySem.Spec L2
open PyProof.Rows hiding St
/-- which class of exceptions a clause takes -/
abbrev ETab := List (Addr × Kd × Bool)
def exmD (tb : ETab) (C : Addr) (c : Kd) : Option Bool := (tb.find? fun r => decide (r.1 = C) && decide (r.2.1 = c)).map (·.2.2)
def ETOk (K : PySem.W.Frag) (tb : ETab) : Prop := ∀ r ∈ tb, PySem.W.exmOne K (.ref r.1) r.2.1.v = some r.2.2
theorem exmD_ok {K : PySem.W.Frag} {tb : ETab} {C : Addr} {c : Kd} {b : Bool} (T : ETOk K tb) (h : exmD tb C c = some b) : PySem.W.exmOne K (.ref C) c.v = some b := by
  unfold exmD at h
  cases q : tb.find? fun r => decide (r.1 = C) && decide (r.2.1 = c) with
  | none => rw [q] at h; cases h
  | some r =>
    rw [q] at h
    cases h
    have m := List.mem_of_find?_eq_some q
    have e := List.find?_some q
    simp only [Bool.and_eq_true, decide_eq_true_eq] at e
    obtain ⟨e1, e2⟩ := e
    subst e1; subst e2
    exact T r m
/-- behind a clause: its name goes -/
def goneS (i : Option Nat) (r : RS) : RS := match i, r with
  | none, .nx ρ S => .nx ρ S
  | none, .bk ρ S => .bk ρ S
  | none, .ct ρ S => .ct ρ S
  | some i, .nx ρ S => .nx (ρ.set i none) S
  | some i, .bk ρ S => .bk (ρ.set i none) S
  | some i, .ct ρ S => .ct (ρ.set i none) S
  | _, .rt d S => .rt d S
  | _, _ => .stuck
structure MCl where
  c : Kd
  i : Option Nat
  m : MS
def slotE (i : Option Nat) (ρ : Env0) (C : Addr) (fs : List (Str × D)) : Env0 := match i with
  | none => ρ
  | some i => ρ.set i (some (.exn C (fs.map (·.1)) (fs.map (·.2))))
def hands (tb : ETab) (C : Addr) (fs : List (Str × D)) : List MCl → Env0 → St0 → RS
  | [], ρ, S => .exc C fs ρ S
  | q :: r, ρ, S => match exmD tb C q.c with
    | some true => goneS q.i (q.m (slotE q.i ρ C fs) S)
    | some false => hands tb C fs r ρ S
    | none => .stuck
def mTry (tb : ETab) (b : MS) (hs : List MCl) : MS := fun ρ S => match b ρ S with
  | .exc C fs ρ1 S1 => hands tb C fs hs ρ1 S1
  | r => r
abbrev noW : WX := fun _ _ _ _ => False
inductive DCl (X : Cx) : List ExceptHandler → List MCl → Prop
  | nil : DCl X [] []
  | plain {x : Str} {c : Kd} {m : MS} {b₀ : Stmt} {suite : List Stmt} {np pos' : Pos} {hds : List ExceptHandler} {l : List MCl} (hc : Names X x c.v)
      (hsu : ∀ (a : Addr) (pn : List (Addr × Obj)), DSs (X.suite a pn) noW (b₀ :: suite) m) (r : DCl X hds l) : DCl X (.ExceptHandler (some (.Name x np)) none (b₀ :: suite) pos' :: hds) (⟨c, none, m⟩ :: l)
  | named {x n : Str} {c : Kd} {i : Nat} {m : MS} {b₀ : Stmt} {suite : List Stmt} {np pos' : Pos} {hds : List ExceptHandler} {l : List MCl} (hc : Names X x c.v) (hi : X.N[i]? = some n) (hln : X.env.kindOf n = some .local)
      (hsu : ∀ (a : Addr) (pn : List (Addr × Obj)), DSs (X.suite a pn) noW (b₀ :: suite) m) (r : DCl X hds l) : DCl X (.ExceptHandler (some (.Name x np)) (some n) (b₀ :: suite) pos' :: hds) (⟨c, some i, m⟩ :: l)
def MCl.cl (K : PySem.W.Frag) (q : MCl) : Cl := ⟨q.c.v, q.i, sOf K noW q.m⟩
theorem DCl.cls {X : Cx} : ∀ {hs : List ExceptHandler} {l : List MCl}, DCl X hs l → ClsOk X hs (l.map (MCl.cl X.K))
  | _, _, .nil => .nil
  | _, _, .plain hc hsu r => .plain hc hsu r.cls
  | _, _, .named hc hi hln hsu r => .named hc hi hln hsu r.cls
theorem REn.unset {K : PySem.W.Frag} {θ : Ad} {H : Hp} {σ : L2.St} {ρ : Env0} (n : REn K θ H σ ρ) (i : Nat) : REn K θ H (σ.set i none) (ρ.set i none) := by
  refine ⟨by simp [n.len], fun j d h => ?_⟩
  by_cases z : i = j
  · subst z
    by_cases l : i < ρ.length
    · rw [List.getElem?_set_self l] at h; cases h
    · rw [List.getElem?_eq_none (by simpa using l)] at h; cases h
  · rw [List.getElem?_set_ne z] at h
    obtain ⟨v, h1, h2⟩ := n.at_ j d h
    exact ⟨v, by rw [List.getElem?_set_ne z]; exact h1, h2⟩
theorem rx_exn {K : PySem.W.Frag} {θ : Ad} {H : Hp} {S : St0} {a C : Addr} {dx : Option Addr} {fs : List (Str × D)} (s : RSt K θ S H) (na : H a = none) (r : RX K θ H dx fs) : RV K θ (upd H a (exh a C dx)) (.ref a) (.exn C (fs.map (·.1)) (fs.map (·.2))) := by
  cases r with
  | none => exact .exn0 (s.notin na) upd_same
  | @some d ws fs h1 h2 h3 =>
    have hd : d ∉ θ.av := fun m => by
      rcases s.kind m with ⟨_, g⟩ | ⟨_, _, _, g⟩ | ⟨_, g⟩ | ⟨_, g⟩ | ⟨_, g⟩ <;> (rw [h1] at g; cases g)
    have ne : d ≠ a := fun z => by rw [z, na] at h1; cases h1
    refine .exn (s.notin na) hd upd_same (by rw [upd_ne ne]; exact h1) h2 ?_
    have := RVs.ext (Ext.laid (o := exh a C (some d)) θ na) s h3
    rwa [Ad.up_nil] at this
theorem hands_wish {K : PySem.W.Frag} {tb : ETab} {W : WX} {D : Ends} {C : Addr} {fs : List (Str × DL.D)} (T : ETOk K tb) : ∀ {l : List MCl} {θ : Ad} {H : Hp} {ρ : Env0} {S : St0} {σ : L2.St} {dx : Option Addr}, RSt K θ S H → REn K θ H σ ρ → RX K θ H dx fs →
    PostS K θ H (hands tb C fs l ρ S) W D → wCl K W D (l.map (MCl.cl K)) (.ref C) dx σ H
  | [], θ, H, ρ, S, σ, dx, s, n, rx, p => p [] H σ dx (Ext.refl _ _) (by rw [Ad.up_nil]; exact s) (by rw [Ad.up_nil]; exact n) (by rw [Ad.up_nil]; exact rx)
  | q :: l, θ, H, ρ, S, σ, dx, s, n, rx, p => by
    unfold hands at p
    cases e : exmD tb C q.c with
    | none => rw [e] at p; exact p.elim
    | some b =>
      rw [e] at p
      refine ⟨b, exmD_ok T e, fun hb => ⟨C, rfl, fun a na => ?_⟩, fun hb => ?_⟩
      · subst hb
        have p : PostS K θ H (goneS q.i (q.m (slotE q.i ρ C fs) S)) W D := p
        have x : Ext θ [] H (upd H a (exh a C dx)) := Ext.laid θ na
        have s2 : RSt K θ S (upd H a (exh a C dx)) := s.laid na
        have n2 : REn K θ (upd H a (exh a C dx)) σ ρ := by have := n.ext x s; rwa [Ad.up_nil] at this
        have p2 : PostS K θ (upd H a (exh a C dx)) (goneS q.i (q.m (slotE q.i ρ C fs) S)) W D := by have := p.up (Up.of_nil x s); exact this
        obtain ⟨c, i, m⟩ := q
        cases i with
        | none =>
          refine ⟨θ, ρ, S, n2, s2, ?_⟩
          show PostS K θ _ (m ρ S) noW D
          have p2 : PostS K θ _ (goneS none (m ρ S)) W D := p2
          cases hm : m ρ S with
          | nx ρ' S' => rw [hm] at p2; exact p2
          | bk ρ' S' => rw [hm] at p2; exact p2
          | ct ρ' S' => rw [hm] at p2; exact p2
          | rt d S' => rw [hm] at p2; exact p2
          | exc C' fs' ρ' S' => rw [hm] at p2; exact p2.elim
          | stuck => rw [hm] at p2; exact p2.elim
        | some i =>
          refine ⟨θ, ρ.set i (some (.exn C (fs.map (·.1)) (fs.map (·.2)))), S, n2.set i (rx_exn s na rx), s2, ?_⟩
          show PostS K θ _ (m (slotE (some i) ρ C fs) S) noW _
          have p2 : PostS K θ _ (goneS (some i) (m (slotE (some i) ρ C fs) S)) W D := p2
          cases hm : m (slotE (some i) ρ C fs) S with
          | nx ρ' S' => rw [hm] at p2; exact fun new H' σ' x' s' n' => p2 new H' _ x' s' (n'.unset i)
          | bk ρ' S' => rw [hm] at p2; exact fun new H' σ' x' s' n' => p2 new H' _ x' s' (n'.unset i)
          | ct ρ' S' => rw [hm] at p2; exact fun new H' σ' x' s' n' => p2 new H' _ x' s' (n'.unset i)
          | rt d S' => rw [hm] at p2; exact p2
          | exc C' fs' ρ' S' => rw [hm] at p2; exact p2.elim
          | stuck => rw [hm] at p2; exact p2.elim
      · subst hb
        exact hands_wish T s n rx p
section
variable {X : Cx} {W : WX} {body : List Stmt} {h₀ : ExceptHandler} {hds : List ExceptHandler} {l : List MCl} {pos : Pos} {mb : MS} {tb : ETab}
theorem ds_try (hs : X.stack = X.env :: X.outer) (hf : X.env.frame = some X.env.locals) (hN : X.N.Nodup) (tk : Takes X W) (T : ETOk X.K tb)
    (hb : ∀ (W : WX) (pn : List (Addr × Obj)) (xe : Value → Shared → Prop), Takes (X.tr pn xe) W → DSs (X.tr pn xe) W body mb) (hh : DCl X (h₀ :: hds) l) : DS X W (.Try body (h₀ :: hds) [] [] pos) (mTry tb mb l) := by
  refine PS.imp (ps_tryC (tb := fun W => sOf X.K W mb) (Wout := W) hs hf hN tk (fun W' pn xe tk' _ => hb W' pn xe tk') hh.cls) fun D σ H ⟨θ, ρ, S, n, s, p⟩ => ⟨θ, ρ, S, n, s, ?_⟩
  unfold mTry at p
  cases hm : mb ρ S with
  | exc C fs ρ1 S1 =>
    rw [hm] at p
    have p : PostS X.K θ H (hands tb C fs l ρ1 S1) W D := p
    exact fun new H' σ' dx x s' n' rx => hands_wish T s' n' rx (p.up (Up.of x s))
  | nx ρ' S' => rw [hm] at p; exact p
  | bk ρ' S' => rw [hm] at p; exact p
  | ct ρ' S' => rw [hm] at p; exact p
  | rt d S' => rw [hm] at p; exact p
  | stuck => rw [hm] at p; exact p.elim
end
end DL
set_option Elab.async false
set_option linter.all false
set_option maxRecDepth 100000
set_option autoImplicit false
/-! The layer of data: what is raised. -/
namespace DL
open PySem PySem.Spec L2
open PyProof.Rows hiding St
section
variable {X : Cx}
/-- an exception made, that holds nothing: it is let go -/
theorem let_go {pins : List (Addr × Obj)} {σ : TSt} {H1 H2 : Hp} {hp hp2 h2 : Heap} {g1 g2 : Array GenState} {d1 d2 : Drawn} {t1 t2 : Nat} {os1 os2 : OsState} {a C : Addr} (I : Inv X pins σ H1 ⟨hp, g1, d1, t1, os1⟩)
    (big : hp.objs.size ≤ a) (grow : ∀ b o, hp.get? b = some o → hp2.get? b = some o) (un : Un (frs X.stack) [] (upd H1 a (exo a C none)) H2 hp2 h2) (ok2 : HOk X.prog X.w H2 h2) (eo : os2 = os1) (bare : AllBare g2) (ea : H2 a = some (exo a C none)) :
    ∃ (t0 : Addr) (G : Heap), Inv X pins σ (del H2 a) ⟨G, g2, d2, t2, os2⟩ ∧ (∀ b o, G.get? b = some o → h2.get? b = some o) ∧ G.get? a = none ∧ h2.get? a = some ({ cls := .ref C, dict := none, data := .fields #[.ref t0, .none, .none, .none, .bool false, .none] } : Obj) := by
  obtain ⟨t0, there⟩ := exo_at ok2 ea
  have n1 : H1 a = none := I.hok.fresh big
  obtain ⟨G, in_, out_⟩ := restrict h2 fun b => decide (b ≠ a)
  have same : ∀ b, b ≠ a → G.get? b = h2.get? b := fun b hb => in_ b (decide_eq_true hb)
  have gone : G.get? a = none := out_ a (by simp)
  have old : ∀ {b : Addr} {o : Obj}, hp.get? b = some o → b ≠ a := fun {b o} z => Nat.ne_of_lt (Nat.lt_of_lt_of_le (Heap.lt_size z) big)
  have nn : ∀ {b : Addr}, b ≠ a → H1 b = none → upd H1 a (exo a C none) b = none := fun {b} hb n => by rw [upd_ne hb]; exact n
  have U : Un (frs X.stack) [] H1 (del H2 a) hp G := {
    keep := fun b o z n hf hx => by
      rw [same b (old z)]; exact un.keep b o (grow b o z) (nn (old z) n) hf hx
    slot := fun b o z n hf hx => by
      rw [same b (old z)]; exact un.slot b o (grow b o z) (nn (old z) n) hf hx
    free := fun b o z n hx => by
      rw [del_ne (old z)]; exact un.free b o (grow b o z) (nn (old z) n) hx
    there := fun b o z hx => by
      rw [same b (old z)]; exact un.there b o (grow b o z) hx
    tups := fun b xs z => by
      have hb := ne_of_none z n1
      rw [del_ne hb]; exact un.tups b xs (by rw [upd_ne hb]; exact z)
    frzs := fun b o v z => by
      have hb := ne_of_none z n1
      rw [del_ne hb]; exact un.frzs b o v (by rw [upd_ne hb]; exact z)
    tbls := fun b ps z => by
      have hb := ne_of_none z n1
      rw [del_ne hb]; exact un.tbls b ps (by rw [upd_ne hb]; exact z) }
  have ok3 : HOk X.prog X.w (del H2 a) G := fun b o z => by
    have hb : b ≠ a := fun e => by rw [e, del_same] at z; cases z
    rw [del_ne hb] at z
    have own : ∀ {c : Addr}, H2 c = some (.own b) → c ≠ a := fun {c} hc => at_ne ea hc exo_own
    refine (ok2 b o z).stay (fun c v hc y => ?_) (fun c hc => by rw [del_ne (own hc)]; exact hc) fun c xs hc => by rw [del_ne (at_ne ea hc exo_tup)]; exact hc
    have hca : c ≠ a := by
      rcases hc with hc | hc
      · rw [hc]; exact hb
      · exact own hc
    rw [same c hca]
    exact y
  refine ⟨t0, G, I.call' (ch := []) eo U ok3 bare (fun b z => absurd z (by simp)), fun b o z => ?_, gone, there⟩
  by_cases hb : b = a
  · rw [hb, gone] at z; cases z
  · exact (same b hb).symm.trans z
/-- C(), C's __init__ keeping sp: the exception holds nothing -/
def tMk0 (C : Addr) (sp : Sp) : TSt → Hp → XK → Prop := fun σ H Q => ∀ a, H a = none → sp [.ref a] (upd H a (exo a C none)) (fun v H2 => v = .non ∧ H2 a = some (exo a C none) ∧ Q (.ref C) none (del H2 a)) (fun _ _ _ => False)
theorem pmk0 {CX : CXT} {x : Str} {C fI : Addr} {k : Nat} {fd : FuncData} {ps : List Str} {sp : Sp} {p pos : Pos} (T : OexC X.K C) (iC : PySem.W.findIn X.K (.ref C) "__init__" = some (some (.ref fI))) (tI : PySem.W.typeIn X.K (.ref fI) = some (.type "function"))
    (F1 : FnOk X.prog X.w X.K X.mg X.base CX k fI fd ps sp) (hr : Room (k + 1) X.A) (hb : Binds X.K fd ps []) (hx : Passes CX X (fun _ _ _ => False)) (hg : Gl X x) (hm : X.mg x = some (.ref C))
    (hdb : (x == ("__debug__" : Str)) = false := by decide) : PMk X (.Call (.Name x p) [] [] pos) (tMk0 C sp) := by
  intro pins s σ H Q I h
  obtain ⟨nm, q, N, bs, bm, sn, sub, ab, col, dd, k0, k1, k2, k3, k5, hC, hbm⟩ := T.cls
  refine wpAny_Call_Name_kw (ld_glob I hg hm ?_ hdb)
  refine PySem.W.callWith_K0 (I.tok _).kIn T.kC ?_
  show wpAny _ _ (call (.ref C) []) _ _ _
  obtain ⟨hp, g, dr, tk, os⟩ := s
  have big : hp.objs.size ≤ hp.objs.size + 1 := Nat.le_succ _
  have hq := h (hp.objs.size + 1) (I.hok.fresh big)
  have grow : ∀ b o, hp.get? b = some o → ((hp.push (PySem.W.kdv_tup [])).push (PySem.HandSPX.excO C hp.objs.size)).get? b = some o := fun b o e => Heap.get?_push_of_some _ (Heap.get?_push_of_some _ e)
  have at_ : ((hp.push (PySem.W.kdv_tup [])).push (PySem.HandSPX.excO C hp.objs.size)).get? (hp.objs.size + 1) = some (PySem.HandSPX.excO C hp.objs.size) := by heap_get
  have I2 : Inv X pins σ (upd H (hp.objs.size + 1) (exo (hp.objs.size + 1) C none)) ⟨(hp.push (PySem.W.kdv_tup [])).push (PySem.HandSPX.excO C hp.objs.size), g, dr, tk, os⟩ :=
    I.laid (t' := tk) grow big (exo_ok at_)
  have r2 : Vals [V.ref (hp.objs.size + 1)] [Value.ref (hp.objs.size + 1)] := .cons rfl .nil
  have hl : [Value.ref (hp.objs.size + 1)].length = ps.length := by
    have e := r2.length
    rw [F1.len _ _ _ _ hq] at e
    exact e.symm
  refine wpAny_call (PySem.HandSPX.call_own F.excBase_ValueError (fun Y => PySem.HandSPX.refsVE_contains Y bm hbm) (I.kIn _ _ hC) (PySem.W.looks_findIn I.kIn iC) (fun self => PySem.W.bind_fn I.kIn self tI) (by simp)
    (codeAny_mono (F1.run _ X.stack _ _ ⟨[Value.ref (hp.objs.size + 1)], []⟩ [Value.ref (hp.objs.size + 1)] _ _ (fun _ _ _ => False) (hr.make C [] []) (I2.env0.make C [] []) (hb _ [Value.ref (hp.objs.size + 1)] I2.kIn hl) r2 hq) fun r s' hq' => ?_))
  cases r with
  | error er => exact hx pins σ _ _ er s' I2 hq'
  | ok fl =>
    cases fl with
    | ret u =>
      obtain ⟨v, H2, os2, bare2, un2, ok2, rv, ev, ea, q2⟩ := hq'
      subst ev
      obtain ⟨h2, g2, d2, t2, os'⟩ := s'
      obtain ⟨t0, G, J, kG, ge, hoe⟩ := let_go (d2 := d2) (t2 := t2) I big grow un2 ok2 os2 bare2 ea
      exact ⟨rv, _, _, _, ⟨G, g2, d2, t2, os'⟩, _, .ref C, none, rfl, J, kG, ge, hoe, ⟨rfl, rfl⟩, rfl, rfl, del_same, rfl, bare2, raises_own T.exC T.tyC, q2⟩
    | next => exact False.elim hq'
    | brk => exact False.elim hq'
    | cont => exact False.elim hq'
end
/-! ### the two kinds of __init__ -/
/-- ValueError.__init__(self) -/
def spI0 (K : PySem.W.Frag) : Sp := fun vs H Q E => ∃ a C : Addr, vs = [.ref a] ∧ OexC K C ∧ H a = some (exo a C none) ∧ Q .non H
/-- self.f = f -/
def spI1 (K : PySem.W.Frag) (f : Str) : Sp := fun vs H Q E => ∃ (a C : Addr) (v : V), vs = [.ref a, v] ∧ OexC K C ∧ PySem.W.findIn K (.ref C) f = some none ∧ H a = some (exo a C none) ∧ ∀ dx, H dx = none → dx ≠ a → Q .non (upd (upd H dx (exd dx [(f, v)])) a (exo a C (some dx)))
theorem passF {X : Cx} : Passes (L2.CX X.prog X.w) X (fun _ _ _ => False) := fun _ _ _ _ _ _ _ c => by
  obtain ⟨_, _, _, _, _, _, _, _, _, _, _, _, h⟩ := c
  exact h.elim
/-- a class whose exceptions hold nothing -/
structure ExM0 (P : Program) (w : World) (K : PySem.W.Frag) (mg : Str → Option Value) (base : Heap) (k : Nat) (x : Str) (C : Addr) : Prop where
  ex : ∃ (fI : Addr) (fd : FuncData) (ps : List Str), OexC K C ∧ PySem.W.findIn K (.ref C) "__init__" = some (some (.ref fI)) ∧ PySem.W.typeIn K (.ref fI) = some (.type "function") ∧ FnOk P w K mg base (L2.CX P w) k fI fd ps (spI0 K) ∧ Binds K fd ps [] ∧ mg x = some (.ref C)
/-- .. one thing, f -/
structure ExM1 (P : Program) (w : World) (K : PySem.W.Frag) (mg : Str → Option Value) (base : Heap) (k : Nat) (x : Str) (C : Addr) (f : Str) : Prop where
  ex : ∃ (fI : Addr) (fd : FuncData) (ps : List Str), OexC K C ∧ PySem.W.findIn K (.ref C) "__init__" = some (some (.ref fI)) ∧ PySem.W.typeIn K (.ref fI) = some (.type "function") ∧ FnOk P w K mg base (L2.CX P w) k fI fd ps (spI1 K f) ∧ Binds K fd ps [] ∧ mg x = some (.ref C) ∧ PySem.W.findIn K (.ref C) f = some none
def mRaise0 (C : Addr) : MS := fun ρ S => .exc C [] ρ S
def mRaise1 (C : Addr) (f : Str) (m : ME) : MS := fun ρ S => (m ρ S).stm ρ fun d S1 => .exc C [(f, d)] ρ S1
section
variable {X : Cx} {W : WX} {k j : Nat} {x f : Str} {C : Addr} {p pos pos' : Pos} {e : Expr} {m : ME}
theorem del_upd {H : Hp} {a : Addr} {o : HO} (n : H a = none) : del (upd H a o) a = H := by
  funext b
  by_cases h : b = a
  · rw [h, del_same, n]
  · rw [del_ne h, upd_ne h]
theorem ds_raise0 (c : ExM0 X.prog X.w X.K X.mg X.base k x C) (hr : Room j X.A) (hk : k + 1 ≤ j) (hc : X.calm = true) (tk : Takes X W) (hg : Gl X x) (hdb : (x == ("__debug__" : Str)) = false := by decide) : DS X W (.Raise (some (.Call (.Name x p) [] [] pos)) none pos') (mRaise0 C) := by
  obtain ⟨fI, fd, ps, T, iC, tI, F, b, hm⟩ := c.ex
  refine PS.imp (ps_raise hc tk (pmk0 T iC tI F (hr.mono hk) b passF hg hm hdb)) fun D σ H ⟨θ, ρ, S, n, s, q⟩ => fun a na => ?_
  refine ⟨a, C, rfl, T, upd_same, rfl, upd_same, ?_⟩
  rw [del_upd na]
  exact q [] H σ none (Ext.refl _ _) (by rw [Ad.up_nil]; exact s) (by rw [Ad.up_nil]; exact n) .none
theorem ds_raise1 (c : ExM1 X.prog X.w X.K X.mg X.base k x C f) (hr : Room j X.A) (hk : k + 1 ≤ j) (hc : X.calm = true) (tk : Takes X W) (hg : Gl X x) (ha : DAs X W [e] (mCons m mNil)) (hdb : (x == ("__debug__" : Str)) = false := by decide)
    (he : starEach [e] X.env = (false, eval e X.env) :: starEach [] X.env := by rfl) : DS X W (.Raise (some (.Call (.Name x p) [e] [] pos)) none pos') (mRaise1 C f m) := by
  obtain ⟨fI, fd, ps, T, iC, tI, F, b, hm, no⟩ := c.ex
  refine PS.imp (ps_raise hc tk (pmk_oex T iC tI F (hr.mono hk) b .nil passF hg hm ha hdb he rfl)) fun D σ H ⟨θ, ρ, S, n, s, q⟩ => ?_
  refine ⟨θ, ρ, S, n, s, ?_⟩
  have q : PostS X.K θ H ((m ρ S).stm ρ fun d S1 => .exc C [(f, d)] ρ S1) W D := q
  show PostA X.K θ H ((m ρ S).bindA fun x S1 => (mNil ρ S1).map (x :: ·)) _ _
  cases hm : m ρ S with
  | stuck => rw [hm] at q; exact q.elim
  | exc C' fs' S' => rw [hm] at q; exact fun new H' dx x' s' rx => q new H' _ dx x' s' (n.ext x' s) rx
  | val d S1 =>
    rw [hm] at q
    have q : PostS X.K θ H (.exc C [(f, d)] ρ S1) W D := q
    show PostA X.K θ H (.vals [d] S1) _ _
    intro new H1 vs x1 s1 r1
    cases r1 with
    | cons r0 r1 =>
      cases r1
      rename_i v
      refine ⟨by simp, fun a na => ⟨a, C, v, rfl, T, no, upd_same, fun dx nd ne => ?_⟩⟩
      rw [upd_ne ne] at nd
      refine ⟨rfl, dx, [(f, v)], upd_same, ?_, nd, ?_⟩
      · rw [upd_ne ne, upd_same]
      have e1 : upd (del (upd (upd (upd H1 a (exo a C none)) dx (exd dx [(f, v)])) a (exo a C (some dx))) a) dx (.xd [(f, v)]) = upd H1 dx (.xd [(f, v)]) := by
        funext b
        by_cases h1 : b = dx
        · rw [h1, upd_same, upd_same]
        · rw [upd_ne h1, upd_ne h1]
          by_cases h2 : b = a
          · rw [h2, del_same, na]
          · rw [del_ne h2, upd_ne h2, upd_ne h1, upd_ne h2]
      rw [e1]
      have x2 : Ext (θ.up new) [] H1 (upd H1 dx (.xd [(f, v)])) := Ext.laid _ nd
      have x3 : Ext θ new H (upd H1 dx (.xd [(f, v)])) := by have := x1.trans x2; rwa [List.append_nil] at this
      have n1 := n.ext x1 s
      have n2 : REn X.K (θ.up new) (upd H1 dx (.xd [(f, v)])) σ ρ := by have := n1.ext x2 s1; rwa [Ad.up_nil] at this
      have r2 : RV X.K (θ.up new) (upd H1 dx (.xd [(f, v)])) v d := by have := r0.ext x2 s1; rwa [Ad.up_nil] at this
      exact q new _ σ (some dx) x3 (s1.laid nd) n2 (.some upd_same rfl (.cons r2 .nil))
end
end DL
set_option Elab.async false
set_option linter.all false
set_option maxRecDepth 100000
set_option autoImplicit false
/-! The layer of data: an own ==. -/
namespace DL
open PySem PySem.Spec L2
open PyProof.Rows hiding St
/-- a class with an own ==, by what its def does -/
structure EqD (P : Program) (w : World) (K : PySem.W.Frag) (mg : Str → Option Value) (base : Heap) (k : Nat) (C : Addr) (F : Fn) : Prop where
  ex : ∃ (f : Addr) (fd : FuncData) (ps : List Str), FnOk P w K mg base (L2.CX P w) k f fd ps (spD K 2 F) ∧ Binds K fd ps [] ∧ LB.EqC K C f ∧ (∀ n ∈ kindsT, PySem.W.subIn K (.type n) (.ref C) = some false) ∧ ClassOK K C
/-- of this class, or of a built-in kind -/
def kOk (C : Addr) : Option Kd → Bool
  | some (.c C') => decide (C' = C)
  | some (.b n) => decide (n ∈ kindsT)
  | _ => false
def eqOwn (C : Addr) (F : Fn) : D → D → St0 → R := fun x y S => match x with
  | .ins C' _ _ => if C' = C ∧ kOk C (kindOf S y) = true then match F [x, y] S with
      | .val (.bl b) S' => .val (.bl b) S'
      | _ => .stuck
    else .stuck
  | _ => .stuck
theorem nxEqOwn {C : Addr} {F : Fn} (x y : D) (S : St0) : NoX (eqOwn C F x y S) := by
  intro C' fs S' h
  unfold eqOwn at h
  split at h
  · split at h
    · split at h <;> cases h
    · cases h
  · cases h
theorem od_eqOwn {X : Cx} {k j : Nat} {C : Addr} {F : Fn} (c : EqD X.prog X.w X.K X.mg X.base k C F) (hr : Room j X.A) (hk : k ≤ j) : OpD X (compareOp .Eq) (eqOwn C F) := by
  intro pins s σ H x y v u Q I rx ry hh
  obtain ⟨θ, S, d, e, hs, hx, hy, p⟩ := hh
  obtain ⟨f, fd, ps, Fk, hb, E, nf, co⟩ := c.ex
  unfold eqOwn at p
  split at p
  rotate_left
  · exact p.elim
  rename_i C' ns xs
  split at p
  rotate_left
  · exact p.elim
  rename_i hc
  obtain ⟨rfl, hk2⟩ := hc
  have hx0 := hx
  cases hx with
  | @ins a _ dx fs _ _ na ha hq hxs =>
    cases rx
    obtain ⟨mA, J, _⟩ := ins_get I.hok ha
    obtain ⟨od, J, _⟩ := J.look
    obtain ⟨m, hF⟩ := I.fr
    obtain ⟨t, ht, hn⟩ : ∃ t, kindOf S e = some t ∧ PySem.W.notFirst X.K C' t.v = true ∧ (∀ D, t = .c D → ClassOK X.K D) ∧ ∀ D, t ≠ .x D := by
      cases hkk : kindOf S e with
      | none => rw [hkk] at hk2; cases hk2
      | some t =>
        rw [hkk] at hk2
        refine ⟨t, rfl, ?_⟩
        cases t with
        | c D =>
          have : D = C' := of_decide_eq_true hk2
          subst this
          exact ⟨by simp [PySem.W.notFirst, Kd.v], fun D' z => by cases z; exact co, fun D' z => nomatch z⟩
        | b n =>
          have := nf n (of_decide_eq_true hk2)
          exact ⟨by simp [PySem.W.notFirst, Kd.v, this], (fun D' z => nomatch z), fun D' z => nomatch z⟩
        | x D => cases hk2
    obtain ⟨hn, hco, hnx⟩ := hn
    have TY := kind_at hs hy hco hnx ht
    obtain ⟨P', Z, pz, _⟩ := kit_of I ry TY
    have LT := Z.ty (model X.prog X.w) s.heap I.kIn pz
    have post : PostV X.K θ H (F [.ins C' ns xs, e] S) (fun w H' => ∃ b, w = .bl b ∧ Q w H') (fun _ _ _ => False) := by
      cases hf : F [.ins C' ns xs, e] S with
      | stuck => rw [hf] at p; exact p.elim
      | exc _ _ _ => rw [hf] at p; exact p.elim
      | val w S' =>
        rw [hf] at p
        cases w with
        | bl b =>
          intro new H' w x' s' rv
          have := p new H' w x' s' rv
          cases rv
          exact ⟨b, rfl, this⟩
        | _ => exact p.elim
    have hsp : spD X.K 2 F [.ref a, y] H (fun w H' => ∃ b, w = .bl b ∧ Q w H') (fun _ _ _ => False) := ⟨rfl, θ, S, [.ins C' ns xs, e], hs, .cons hx0 (.cons hy .nil), post⟩
    have r2 : Vals [V.ref a, y] [Value.ref a, u] := .cons rfl (.cons ry .nil)
    have hl := Fk.len _ _ _ _ hsp
    show wpAny (model X.prog X.w) X.A (richCompare .Eq _ _) (EP X pins σ Q) X.xe s
    refine PySem.W.cmp_K (op := .Eq) (tb := t.v) hr.units0 hF I.ok.mod.kin J LT hn E.eq E.fn ?_
    refine wpAny_call (codeAny_mono (Fk.run X.A X.stack s H ⟨[.ref a, u], []⟩ [.ref a, u] [.ref a, y] _ (fun _ _ _ => False) (hr.mono hk) I.env0 (by
      have := hb s [.ref a, u] I.kIn (by simpa using hl)
      simpa using this) r2 hsp) fun r s' hq => ?_)
    cases r with
    | error er => exact passF pins σ H s er s' I hq
    | ok fl =>
      cases fl with
      | ret w =>
        obtain ⟨z, H', I', rz, b, rfl, q⟩ := I.after hq
        cases rz
        exact ⟨.bl b, H', I', rfl, q⟩
      | next => exact False.elim hq
      | brk => exact False.elim hq
      | cont => exact False.elim hq
end DL
set_option Elab.async false
set_option linter.all false
set_option maxRecDepth 100000
set_option autoImplicit false
/-! The layer of data: zip of three tuples. -/
namespace DL
open PySem PySem.Spec PyProof.Rows L2
/-- three tuples side by side -/
def It3 (K : PySem.W.Frag) (a b c : Addr) : It where
  go := fun i H => ∃ (us vs ws : List V) (u v w : V), (SqT K H a us ∧ us[i]? = some u) ∧ (SqT K H b vs ∧ vs[i]? = some v) ∧ SqT K H c ws ∧ ws[i]? = some w
  yld := fun i H r H' => ∃ T u v w, r = .ref T ∧ H T = none ∧ H' = upd H T (.tup [u, v, w]) ∧ (∀ us, SqT K H a us → us[i]? = some u) ∧ (∀ vs, SqT K H b vs → vs[i]? = some v) ∧ ∀ ws, SqT K H c ws → ws[i]? = some w
  stop := fun i H => ∃ us vs ws : List V, SqT K H a us ∧ SqT K H b vs ∧ SqT K H c ws ∧ (us.length ≤ i ∨ vs.length ≤ i ∨ ws.length ≤ i)
section
variable {prog : Program} {w : World} {A : Around}
/-- an iterator of a tuple that is at its end, or behind it -/
theorem drawsEnd (hh : A.handled = none) (it t : Addr) (items : Array Value) (n : Nat) (h : items[n]? = none) : Draws prog w A it [it, t] n (fun _ _ => False) (fun i h => i = n ∧ h.IsTupleIter it t n ∧ h.IsTuple t items) where
  live := fun _ _ st => by obtain ⟨_, ⟨o, ho, _⟩, _⟩ := st; exact ⟨o, ho⟩
  frame := fun _ _ _ st hk => ⟨st.1, st.2.1.at fun o e => hk it (by simp) o e, st.2.2.at fun o e => hk t (by simp) o e⟩
  item := fun i s Q E hi st hQ => by have := st.1; omega
  done := fun s Q E st hE => wpAny_nextOf_tuple_end hh st.2.1 st.2.2 h hE
end
theorem turn3 {P : Program} {w : World} {K : PySem.W.Frag} {elts : List Expr} {kk : Nat} {tpos : Pos} {a b c z TI TO j1 j2 j3 : Addr} (D : ZipSep3 z TI TO j1 j2 j3 [j1, a] [j2, b] [j3, c]) (n1 : a ≠ j1) (n2 : b ≠ j2) (n3 : c ≠ j3) :
    Turn P w K (.Tuple elts kk tpos) (It3 K a b c) [z, TI, TO, j1, j2, j3] z (fun i h => (IsZip h z TI TO .none ∧ IsTupOf3 h TI (.ref j1) (.ref j2) (.ref j3)) ∧ (∃ x y u, IsTupOf3 h TO x y u) ∧ h.IsTupleIter j1 a i ∧ h.IsTupleIter j2 b i ∧ h.IsTupleIter j3 c i) where
  mem := by simp
  obj := fun i h st q hq => by
    obtain ⟨⟨hz, hTI⟩, ⟨x, y, u, hTO⟩, ⟨o1, e1, _, d1⟩, ⟨o2, e2, _, d2⟩, ⟨o3, e3, _, d3⟩⟩ := st
    simp only [List.mem_cons, List.mem_nil_iff, or_false] at hq
    rcases hq with rfl | rfl | rfl | rfl | rfl | rfl
    · exact ⟨_, hz, fun v q => nomatch q⟩
    · exact ⟨_, hTI, fun v q => nomatch q⟩
    · exact ⟨_, hTO, fun v q => nomatch q⟩
    · exact ⟨o1, e1, fun v q => by rw [d1] at q; cases q⟩
    · exact ⟨o2, e2, fun v q => by rw [d2] at q; cases q⟩
    · exact ⟨o3, e3, fun v q => by rw [d3] at q; cases q⟩
  keep := fun i h h' st k => by
    obtain ⟨⟨hz, hTI⟩, ⟨x, y, u, hTO⟩, h1, h2, h3⟩ := st
    exact ⟨⟨k z (by simp) _ hz, k TI (by simp) _ hTI⟩, ⟨x, y, u, k TO (by simp) _ hTO⟩, h1.at fun o q => k j1 (by simp) o q, h2.at fun o q => k j2 (by simp) o q, h3.at fun o q => k j3 (by simp) o q⟩
  item := by
    intro X hP hw hK hc i pins s σ H E I hf st hg
    subst hP hw hK
    obtain ⟨⟨hz, hTI⟩, ⟨x0, y0, u0, hTO⟩, h1, h2, h3⟩ := st
    obtain ⟨us, vs, ws, u, v, x, ⟨q1, e1⟩, ⟨q2, e2⟩, q3, e3⟩ := hg
    obtain ⟨k1, r1, p1, _⟩ := I.tuple q1
    obtain ⟨k2, r2, p2, _⟩ := I.tuple q2
    obtain ⟨k3, r3, p3, _⟩ := I.tuple q3
    obtain ⟨y1, f1, g1⟩ := r1.get e1
    obtain ⟨y2, f2, g2⟩ := r2.get e2
    obtain ⟨y3, f3, g3⟩ := r3.get e3
    have hh : X.A.in1.handled = none := I.ok.hd hc
    have zl : z < s.heap.objs.size := Heap.lt_size hz
    have t1 : k1.toArray[i]? = some y1 := by simpa using f1
    have t2 : k2.toArray[i]? = some y2 := by simpa using f2
    have t3 : k3.toArray[i]? = some y3 := by simpa using f3
    have l1 : i < k1.toArray.size := (Array.getElem?_eq_some_iff.mp t1).1
    have l2 : i < k2.toArray.size := (Array.getElem?_eq_some_iff.mp t2).1
    have l3 : i < k3.toArray.size := (Array.getElem?_eq_some_iff.mp t3).1
    refine wpAny_pyNext_zipD3_item D (Draws.tuple hh j1 a n1 k1.toArray) (Draws.tuple hh j2 b n2 k2.toArray) (Draws.tuple hh j3 c n3 k3.toArray) hz hTI hTO ⟨h1, p1⟩ ⟨h2, p2⟩ ⟨h3, p3⟩ l1 l2 l3 fun x1 x2 x3 h' tk a1 a2 a3 zh' TO' m1 m2 m3 hT hsz hk => ?_
    rw [t1] at a1; cases a1
    rw [t2] at a2; cases a2
    rw [t3] at a3; cases a3
    refine ⟨_, rfl, wpAny_letOwnedTupleGo_zip (s := { s with heap := h', toks := tk }) zh' fun h'' zh'' sb => ?_⟩
    have hT2 : h''.get? s.heap.objs.size = some { cls := .type "tuple", data := .seq #[y1, y2, y3] } := (sb.2 _ (Nat.ne_of_gt zl)).trans hT
    have new : ObjOk X.prog X.w (upd H s.heap.objs.size (.tup [u, v, x])) h'' s.heap.objs.size (.tup [u, v, x]) :=
      ⟨by show 3 ≤ sizeLine; decide, [y1, y2, y3], .cons g1 (.cons g2 (.cons g3 .nil)), ⟨_, hT2, rfl, _, rfl⟩⟩
    have st' : ∀ q o, q ∉ [z, TI, TO, j1, j2, j3] → s.heap.get? q = some o → h''.get? q = some o := fun q o hq e => by
      simp only [List.mem_cons, List.mem_nil_iff, or_false, not_or] at hq
      exact (sb.2 q hq.1).trans (hk q o hq.1 hq.2.2.1 hq.2.2.2.1 hq.2.2.2.2.1 hq.2.2.2.2.2 e)
    have I1 : Inv X pins σ (upd H s.heap.objs.size (.tup [u, v, x])) { s with heap := h'', toks := tk } := I.turnedNew (ch := [z, TI, TO, j1, j2, j3]) st' hf (Nat.le_refl _) new
    refine ⟨.ref s.heap.objs.size, _, I1, rfl, ⟨_, u, v, x, rfl, I.hok.fresh (Nat.le_refl _), rfl, fun l hl => by rw [I.tuple_inj hl q1]; exact e1, fun l hl => by rw [I.tuple_inj hl q2]; exact e2, fun l hl => by rw [I.tuple_inj hl q3]; exact e3⟩, ⟨⟨zh'', ?_⟩, ⟨y1, y2, y3, ?_⟩, ?_, ?_, ?_⟩, fun q hq => ?_⟩
    · exact (sb.2 _ D.TIz).trans (hk _ _ D.TIz D.TITO D.TIi1 D.TIi2 D.TIi3 hTI)
    · exact (sb.2 _ D.TOz).trans TO'
    · exact m1.1.at fun o q => (sb.2 _ D.zi1.symm).trans q
    · exact m2.1.at fun o q => (sb.2 _ D.zi2.symm).trans q
    · exact m3.1.at fun o q => (sb.2 _ D.zi3.symm).trans q
    · have lt : q < s.heap.objs.size := by
        simp only [List.mem_cons, List.mem_nil_iff, or_false] at hq
        rcases hq with rfl | rfl | rfl | rfl | rfl | rfl
        · exact zl
        · exact Heap.lt_size hTI
        · exact Heap.lt_size hTO
        · obtain ⟨_, e, _⟩ := h1; exact Heap.lt_size e
        · obtain ⟨_, e, _⟩ := h2; exact Heap.lt_size e
        · obtain ⟨_, e, _⟩ := h3; exact Heap.lt_size e
      rw [upd_ne (Nat.ne_of_lt lt)]
      exact (hf q hq).1
  done := by
    intro X hP hw hK hc i pins s σ H E I hf st hg
    subst hP hw hK
    obtain ⟨⟨hz, hTI⟩, ⟨x0, y0, u0, hTO⟩, h1, h2, h3⟩ := st
    obtain ⟨us, vs, ws, q1, q2, q3, he⟩ := hg
    obtain ⟨k1, r1, p1, _⟩ := I.tuple q1
    obtain ⟨k2, r2, p2, _⟩ := I.tuple q2
    obtain ⟨k3, r3, p3, _⟩ := I.tuple q3
    have l1 := r1.length
    have l2 := r2.length
    have l3 := r3.length
    have hh : X.A.in1.handled = none := I.ok.hd hc
    have fin : ∀ (h' : Heap) (tk : Nat), (∀ q o, q ≠ z → q ≠ TO → q ≠ j1 → q ≠ j2 → q ≠ j3 → s.heap.get? q = some o → h'.get? q = some o) → (none : Option Value) = none ∧ Inv X pins σ H { s with heap := h', toks := tk } := fun h' tk hk => ⟨rfl, I.turnedL (ch := [z, TI, TO, j1, j2, j3]) (fun q o hq e => by
      simp only [List.mem_cons, List.mem_nil_iff, or_false, not_or] at hq
      exact hk q o hq.1 hq.2.2.1 hq.2.2.2.1 hq.2.2.2.2.1 hq.2.2.2.2.2 e) hf⟩
    -- each of the three: at its end or not
    have dr : ∀ (it t : Addr) (ks : List Value), t ≠ it → s.heap.IsTupleIter it t i → s.heap.IsTuple t ks.toArray → ∃ (n : Nat) (P : Nat → Value → Prop) (St : Nat → Heap → Prop), Draws X.prog X.w X.A.in1 it [it, t] n P St ∧ St i s.heap ∧ i ≤ n ∧ (ks.length ≤ i → i = n) := fun it t ks hne hi ht => by
      by_cases hl : i < ks.length
      · exact ⟨_, _, _, Draws.tuple hh it t hne ks.toArray, ⟨hi, ht⟩, by simp; omega, fun h => by omega⟩
      · exact ⟨i, _, _, drawsEnd hh it t ks.toArray i (by simp; omega), ⟨rfl, hi, ht⟩, Nat.le_refl _, fun _ => rfl⟩
    obtain ⟨m1, P1, S1, D1, s1, b1, z1⟩ := dr j1 a k1 n1 h1 p1
    obtain ⟨m2, P2, S2, D2, s2, b2, z2⟩ := dr j2 b k2 n2 h2 p2
    obtain ⟨m3, P3, S3, D3, s3, b3, z3⟩ := dr j3 c k3 n3 h3 p3
    refine wpAny_pyNext_zipD3_end D D1 D2 D3 hz hTI hTO s1 s2 s3 b1 b2 b3 ?_ fin
    rcases he with h | h | h
    · exact .inl (z1 (by omega))
    · exact .inr (.inl (z2 (by omega)))
    · exact .inr (.inr (z3 (by omega)))
  self := fun A i s Q E st h => wpAny_pyIter_zip st.1.1 h
section
variable {X : Cx} {W : WX} {e e2 e3 : Expr} {p pos tpos : Pos} {elts : List Expr} {kk : Nat}
def iZip3 (K : PySem.W.Frag) (ta : TA) : TI := fun σ H R => ta σ H fun r H1 => ∃ (a b c : Addr) (us vs ws : List V), r = [.ref a, .ref b, .ref c] ∧ SqT K H1 a us ∧ SqT K H1 b vs ∧ SqT K H1 c ws ∧ R (It3 K a b c) H1
theorem pi_zip3 {ta : TA} (hg : Gl X "zip") (hm : X.mg "zip" = none) (ha : PA X [e, e2, e3] ta)
    (hs : starEach [e, e2, e3] X.env = (false, eval e X.env) :: starEach [e2, e3] X.env := by rfl) (hpl : (backTo pos (starEach [e2, e3] X.env)).any (·.1) = false := by rfl) :
    PI X (.Tuple elts kk tpos) (.Call (.Name "zip" p) [e, e2, e3] [] pos) (iZip3 X.K ta) := by
  refine ⟨fun pins s σ H R I h => Call_ (ld_blt I hg hm PyProof.Rows.boot_zip (PyProof.Rows.callWith_type1 (thn (ha.run pos pins s σ H _ I h) fun us s1 ⟨vs, H1, I1, r1, q1⟩ => ?_) hs hpl))⟩
  obtain ⟨a, b, c, xs, ys, zs, ex, qx, qy, qz, q⟩ := q1
  subst ex
  cases r1 with
  | cons ra r1 =>
  cases r1 with
  | cons rb r1 =>
  cases r1 with
  | cons rc r1 =>
  cases r1
  cases ra
  cases rb
  cases rc
  obtain ⟨k1, _, p1, _⟩ := I1.tuple qx
  obtain ⟨k2, _, p2, _⟩ := I1.tuple qy
  obtain ⟨k3, _, p3, _⟩ := I1.tuple qz
  obtain ⟨o1, ho1, _⟩ := id p1
  obtain ⟨o2, ho2, _⟩ := id p2
  obtain ⟨o3, ho3, _⟩ := id p3
  have la := Heap.lt_size ho1
  have lb := Heap.lt_size ho2
  have lc := Heap.lt_size ho3
  refine zip_begins3 (begins_tuple a k1.toArray) (begins_tuple b k2.toArray) (begins_tuple c k3.toArray) p1 p2 p3 fun h' hz hTI hTO g1 g2 g3 hsz hk => wpAny_pyIter_zip hz ?_
  have I2 : Inv X pins σ H1 { s1 with heap := h' } := I1.kept (t' := s1.toks) hk
  have D := zip_sep3 (N := s1.heap.objs.size) (fp1 := [a]) (fp2 := [b]) (fp3 := [c]) (fun q h => by rw [List.mem_singleton.mp h]; exact la) (fun q h => by rw [List.mem_singleton.mp h]; exact lb) fun q h => by rw [List.mem_singleton.mp h]; exact lc
  refine ⟨_, [s1.heap.objs.size + 5, s1.heap.objs.size + 3, s1.heap.objs.size + 4, s1.heap.objs.size, s1.heap.objs.size + 1, s1.heap.objs.size + 2], _, _, H1, rfl, I2, turn3 D (Nat.ne_of_lt la) (Nat.ne_of_lt (Nat.lt_succ_of_lt lb)) (Nat.ne_of_lt (Nat.lt_succ_of_lt (Nat.lt_succ_of_lt lc))), ⟨⟨hz, hTI⟩, ⟨_, _, _, hTO⟩, ⟨_, g1, rfl, rfl⟩, ⟨_, g2, rfl, rfl⟩, ⟨_, g3, rfl, rfl⟩⟩, fun q hq => ?_, q⟩
  have le : s1.heap.objs.size ≤ q := by
    simp only [List.mem_cons, List.mem_nil_iff, or_false] at hq
    rcases hq with z | z | z | z | z | z <;> rw [z] <;> first | exact Nat.le_refl _ | exact Nat.le_add_right _ _
  exact I1.fpOk le (I1.hok.fresh le)
/-- side by side -/
def zips3 : List D → List D → List D → List D
  | d :: ds, f :: fs, g :: gs => .tup [d, f, g] :: zips3 ds fs gs
  | _, _, _ => []
theorem zips3_len : ∀ ds fs gs : List D, (zips3 ds fs gs).length = min ds.length (min fs.length gs.length)
  | [], _, _ => by simp [zips3]
  | _ :: _, [], _ => by simp [zips3]
  | _ :: _, _ :: _, [] => by simp [zips3]
  | d :: ds, f :: fs, g :: gs => by simp only [zips3, List.length_cons, zips3_len ds fs gs]; omega
theorem zips3_at : ∀ {i : Nat} {ds fs gs : List D} {d : D}, (zips3 ds fs gs)[i]? = some d → ∃ x y z, ds[i]? = some x ∧ fs[i]? = some y ∧ gs[i]? = some z ∧ d = .tup [x, y, z]
  | _, [], _, _, _, h => by simp [zips3] at h
  | _, _ :: _, [], _, _, h => by simp [zips3] at h
  | _, _ :: _, _ :: _, [], _, h => by simp [zips3] at h
  | 0, x :: ds, y :: fs, z :: gs, d, h => by simp only [zips3, List.getElem?_cons_zero, Option.some.injEq] at h; exact ⟨x, y, z, rfl, rfl, rfl, h.symm⟩
  | i + 1, x :: ds, y :: fs, z :: gs, d, h => by
    simp only [zips3, List.getElem?_cons_succ] at h ⊢
    exact zips3_at h
theorem feeds_3 {K : PySem.W.Frag} {θ : Ad} {H : Hp} {a b c : Addr} {src src2 src3 : List (Nat × List D)} {ds es fs : List D} (q : SeqAt K θ H a src ds true) (q2 : SeqAt K θ H b src2 es true) (q3 : SeqAt K θ H c src3 fs true) : Feeds K (It3 K a b c) (src ++ (src2 ++ src3)) (zips3 ds es fs) θ H := by
  refine ⟨fun θ1 H1 S1 i u s k l => ?_, fun θ1 H1 S1 i d u s k e => ?_⟩
  all_goals
    rw [chk_app, chk_app, Bool.and_eq_true, Bool.and_eq_true] at k
    obtain ⟨us, r1, h1⟩ := q.at_ θ1 H1 S1 u s k.1
    obtain ⟨vs, r2, h2⟩ := q2.at_ θ1 H1 S1 u s k.2.1
    obtain ⟨ws, r3, h3⟩ := q3.at_ θ1 H1 S1 u s k.2.2
    rw [if_pos rfl] at h1 h2 h3
  · rw [zips3_len] at l
    exact ⟨us, vs, ws, h1, h2, h3, by rw [r1.len, r2.len, r3.len]; omega⟩
  · obtain ⟨x, y, z, e1, e2, e3, rfl⟩ := zips3_at e
    obtain ⟨v1, f1, t1⟩ := r1.at e1
    obtain ⟨v2, f2, t2⟩ := r2.at e2
    obtain ⟨v3, f3, t3⟩ := r3.at e3
    refine ⟨⟨us, vs, ws, v1, v2, v3, ⟨h1, f1⟩, ⟨h2, f2⟩, h3, f3⟩, fun x H' y => ?_⟩
    obtain ⟨T, x', y', z', rfl, hT, rfl, y1, y2, y3⟩ := y
    rw [y1 us h1] at f1; cases f1
    rw [y2 vs h2] at f2; cases f2
    rw [y3 ws h3] at f3; cases f3
    exact ⟨Ext.laid _ hT, s.laid hT, .tup (.inl (.inl upd_same)) (.cons (t1.laid s hT) (.cons (t2.laid s hT) (.cons (t3.laid s hT) .nil)))⟩
/-- zip of three tuples -/
def mZip3 (m m2 m3 : ME) : MI := fun ρ S => (m ρ S).it fun d S1 => (m2 ρ S1).it fun d2 S2 => (m3 ρ S2).it fun d3 S3 => if isTup d = true ∧ isTup d2 = true ∧ isTup d3 = true then (match seqOf S3 d, seqOf S3 d2, seqOf S3 d3 with
  | some (src, ds), some (src2, es), some (src3, fs) => .it (src ++ (src2 ++ src3)) (zips3 ds es fs) S3
  | _, _, _ => .stuck)
  else .stuck
theorem di_zip3 {m m2 m3 : ME} (hg : Gl X "zip") (hm : X.mg "zip" = none) (ha : DE X W e m) (hb : DE X W e2 m2) (hc : DE X W e3 m3) (h1 : starEach (e :: [e2, e3]) X.env = (false, eval e X.env) :: starEach [e2, e3] X.env := by rfl) (h2 : starEach (e2 :: [e3]) X.env = (false, eval e2 X.env) :: starEach [e3] X.env := by rfl) (h3 : starEach (e3 :: []) X.env = (false, eval e3 X.env) :: starEach [] X.env := by rfl)
    (hs : starEach [e, e2, e3] X.env = (false, eval e X.env) :: starEach [e2, e3] X.env := by rfl) (hpl : (backTo pos (starEach [e2, e3] X.env)).any (·.1) = false := by rfl) :
    DI X W (.Tuple elts kk tpos) (.Call (.Name "zip" p) [e, e2, e3] [] pos) (mZip3 m m2 m3) := by
  refine PI.imp (pi_zip3 hg hm (pa_cons ha (pa_cons hb (pa_cons hc pa_nil h3) h2) h1) hs hpl) fun σ H Q ⟨θ, ρ, S, n, s, p⟩ => ⟨θ, ρ, S, n, s, PostV.it s p fun v H1 θ1 S1 d u s1 r p1 => ⟨θ1, ρ, S1, u.ren n, s1, PostV.it s1 p1 fun v2 H2 θ2 S2 d2 u2 s2 r2 p2 => ⟨θ2, ρ, S2, u2.ren (u.ren n), s2, PostV.it s2 p2 fun v3 H3 θ3 S3 d3 u3 s3 r3 p3 => ?_⟩⟩⟩
  split at p3
  · rename_i tt
    obtain ⟨t1, t2, t3⟩ := tt
    split at p3
    · rename_i src ds src2 es src3 fs f1 f2 f3
      obtain ⟨a, rfl, q1, c1⟩ := seq_tup s3 (u3.rv (u2.rv r)) f1
      obtain ⟨b, rfl, q2, c2⟩ := seq_tup s3 (u3.rv r2) f2
      obtain ⟨c, rfl, q3, c3⟩ := seq_tup s3 r3 f3
      rw [t1] at q1
      rw [t2] at q2
      rw [t3] at q3
      obtain ⟨us, _, k1⟩ := q1.at_ θ3 H3 S3 (Up.refl s3) s3 c1
      obtain ⟨vs, _, k2⟩ := q2.at_ θ3 H3 S3 (Up.refl s3) s3 c2
      obtain ⟨ws, _, k3⟩ := q3.at_ θ3 H3 S3 (Up.refl s3) s3 c3
      rw [if_pos rfl] at k1 k2 k3
      exact ⟨a, b, c, us, vs, ws, rfl, k1, k2, k3, p3.here s3 (feeds_3 q1 q2 q3)⟩
    · exact p3.elim
  · exact p3.elim
end
end DL
set_option linter.all false
set_option maxRecDepth 100000
namespace LW
open DL PySem L2
def tb (cl : Nat → Addr) : KTab := [(.c (cl 0), .b "int", false), (.c (cl 0), .b "bool", false), (.c (cl 0), .b "str", false), (.c (cl 0), .b "tuple", false), (.c (cl 0), .b "list", false), (.c (cl 0), .b "dict", false)]
def etb (cl : Nat → Addr) : ETab := [(cl 2, .c (cl 2), true), (cl 2, .c (cl 1), true), (cl 3, .c (cl 3), true), (cl 3, .c (cl 1), true), (cl 2, .c (cl 3), false), (cl 3, .c (cl 2), false)]
def m_is_int (cl : Nat → Addr) : MS := (mRet (mAnd (mOn (liftL (opIsI (tb cl))) (mCons (mVar 0) (mCons (mC (.opq (.ty "int"))) mNil))) (mNot (mOn (liftL (opIsI (tb cl))) (mCons (mVar 0) (mCons (mC (.opq (.ty "bool"))) mNil))))))
def F_is_int (cl : Nat → Addr) : Fn := mDef false 1 1 (m_is_int cl)
def m_is_int_in (cl : Nat → Addr) : MS := (mRet (mAnd (mOn (F_is_int cl) (mCons (mVar 0) mNil)) (mChain (lift2 opLe) (lift2 opLe) (mVar 1) (mVar 0) (mVar 2))))
def F_is_int_in (cl : Nat → Addr) : Fn := mDef false 3 3 (m_is_int_in cl)
def m_is_row_of_ints (cl : Nat → Addr) : MS := (mRet (mAnd (mOn (liftL (opIsI (tb cl))) (mCons (mVar 0) (mCons (mC (.opq (.ty "tuple"))) mNil))) (mAnd (mBin (lift2 opEq) (mOn (liftL opLen) (mCons (mVar 0) mNil)) (mVar 1)) (mOn (liftL (opBools fun bs => bs.all id)) (mCons (mLc false (mIt (mVar 0)) (.nm 2) [2] (mC (.bl true)) (mOn (F_is_int cl) (mCons (mVar 2) mNil))) mNil)))))
def F_is_row_of_ints (cl : Nat → Addr) : Fn := mDef false 2 3 (m_is_row_of_ints cl)
def m_is_reading (cl : Nat → Addr) : MS := (mRet (mAnd (mOn (liftL (opIsI (tb cl))) (mCons (mVar 2) (mCons (mC (.opq (.ty "tuple"))) mNil))) (mAnd (mBin (lift2 opEq) (mOn (liftL opLen) (mCons (mVar 2) mNil)) (mC (.int 3))) (mAnd (mOn (F_is_int_in cl) (mCons (mBin (lift2 opIx) (mVar 2) (mC (.int 0))) (mCons (mC (.int 0)) (mCons (mBin (lift2 opSub) (mVar 1) (mC (.int 1))) mNil)))) (mAnd (mOn (F_is_int_in cl) (mCons (mBin (lift2 opIx) (mVar 2) (mC (.int 1))) (mCons (mC (.int 0)) (mCons (mBin (lift2 opSub) (mVar 1) (mC (.int 1))) mNil)))) (mAnd (mOn (F_is_row_of_ints cl) (mCons (mBin (lift2 opIx) (mVar 2) (mC (.int 2))) (mCons (mVar 0) mNil))) (mOn (liftL (opBools fun bs => bs.all id)) (mCons (mLc false (mIt (mBin (lift2 opIx) (mVar 2) (mC (.int 2)))) (.nm 3) [3] (mC (.bl true)) (mChain (lift2 opLe) (lift2 opLe) (mUn (lift1 opNeg) (mC (.int 1000000000000))) (mVar 3) (mC (.int 1000000000000)))) mNil))))))))
def F_is_reading (cl : Nat → Addr) : Fn := mDef false 3 4 (m_is_reading cl)
def m_Program___init__ (cl : Nat → Addr) : MS := (mSeq (mIf (mNot (mOn (F_is_int_in cl) (mCons (mVar 1) (mCons (mC (.int 1)) (mCons (mC (.int 4)) mNil)))))
  (mRaise1 (cl 2) "part" (mC (.str "sides")))
  mNext)
  (mSeq (mIf (mNot (mOn (F_is_int_in cl) (mCons (mVar 2) (mCons (mC (.int 1)) (mCons (mC (.int 8)) mNil)))))
  (mRaise1 (cl 2) "part" (mC (.str "tables")))
  mNext)
  (mSeq (mIf (mOr (mNot (mOn (liftL (opIsI (tb cl))) (mCons (mVar 3) (mCons (mC (.opq (.ty "tuple"))) mNil)))) (mBin (lift2 opGt) (mOn (liftL opLen) (mCons (mVar 3) mNil)) (mC (.int 24))))
  (mRaise1 (cl 2) "part" (mC (.str "readings")))
  mNext)
  (mSeq (mFor (mEnum (mVar 3)) (.tp [(.nm 4), (.nm 5)])
  (mSeq (mIf (mNot (mOn (F_is_reading cl) (mCons (mVar 1) (mCons (mVar 2) (mCons (mVar 5) mNil)))))
  (mRaise1 (cl 2) "part" (mVar 4))
  mNext)
  (mIf (mAnd (mBin (lift2 opGt) (mVar 4) (mC (.int 0))) (mBin (lift2 opLeD) (mVar 5) (mBin (lift2 opIx) (mVar 3) (mBin (lift2 opSub) (mVar 4) (mC (.int 1))))))
  (mRaise1 (cl 2) "part" (mVar 4))
  mNext)))
  (mSeq (mSetF [cl 0] "sides" (mVar 0) (mVar 1))
  (mSeq (mSetF [cl 0] "tables" (mVar 0) (mVar 2))
  (mSetF [cl 0] "readings" (mVar 0) (mVar 3))))))))
def F_Program___init__ (cl : Nat → Addr) : Fn := mDef false 4 6 (m_Program___init__ cl)
def m_is_number (cl : Nat → Addr) : MS := (mSeq (mSet 1 (mVar 0))
  (mSeq (mIf (mTxt (fun a b => .bl (Txt.startswith a b)) (mVar 0) (mC (.str "-")))
  (mSet 1 (mSl false (mVar 0) (some (mC (.int 1))) none))
  mNext)
  (mSeq (mIf (mOr (mNot (mChain (lift2 opLe) (lift2 opLe) (mC (.int 1)) (mOn (liftL opLen) (mCons (mVar 1) mNil)) (mC (.int 60)))) (mNot (mOn (liftL (opBools fun bs => bs.all id)) (mCons (mLc false (mSigns (mVar 1)) (.nm 2) [2] (mC (.bl true)) (mBin (lift2 (opIn false)) (mVar 2) (mC (.str "0123456789")))) mNil))))
  (mRet (mC (.bl false)))
  mNext)
  (mRet (mOr (mBin (lift2 opNe) (mBin (lift2 opIx) (mVar 1) (mC (.int 0))) (mC (.str "0"))) (mBin (lift2 opEq) (mVar 0) (mC (.str "0"))))))))
def F_is_number (cl : Nat → Addr) : Fn := mDef false 1 3 (m_is_number cl)
def m_reading_of (cl : Nat → Addr) : MS := (mSeq (mSet 1 (mLc false (mIt (mVar 0)) (.nm 2) [2] (mC (.bl true)) (mOn (liftL opIntT) (mCons (mVar 2) mNil))))
  (mRet (mTup (mCons (mBin (lift2 opIx) (mVar 1) (mC (.int 0))) (mCons (mBin (lift2 opIx) (mVar 1) (mC (.int 1))) (mCons (mOn (liftL opTuple) (mCons (mSl false (mVar 1) (some (mC (.int 2))) none) mNil)) mNil))))))
def F_reading_of (cl : Nat → Addr) : Fn := mDef false 1 3 (m_reading_of cl)
def m_is_line (cl : Nat → Addr) : MS := (mSeq (mIf (mBin (lift2 opLt) (mVar 0) (mOn (liftL opLen) (mCons (mC (.tup [.str "sides", .str "tables"])) mNil)))
  (mRet (mAnd (mBin (lift2 opEq) (mOn (liftL opLen) (mCons (mVar 1) mNil)) (mC (.int 2))) (mAnd (mBin (lift2 opEq) (mBin (lift2 opIx) (mVar 1) (mC (.int 0))) (mBin (lift2 opIx) (mC (.tup [.str "sides", .str "tables"])) (mVar 0))) (mOn (F_is_number cl) (mCons (mBin (lift2 opIx) (mVar 1) (mC (.int 1))) mNil)))))
  mNext)
  (mRet (mAnd (mBin (lift2 opGe) (mOn (liftL opLen) (mCons (mVar 1) mNil)) (mC (.int 2))) (mOn (liftL (opBools fun bs => bs.all id)) (mCons (mLc false (mIt (mVar 1)) (.nm 2) [2] (mC (.bl true)) (mOn (F_is_number cl) (mCons (mVar 2) mNil))) mNil)))))
def F_is_line (cl : Nat → Addr) : Fn := mDef false 2 3 (m_is_line cl)
def m_read_program (cl : Nat → Addr) : MS := (mSeq (mIf (mNot (mOn (liftL (opIsI (tb cl))) (mCons (mVar 0) (mCons (mC (.opq (.ty "str"))) mNil))))
  (mRaise1 (cl 3) "line" (mC (.int 0)))
  mNext)
  (mSeq (mSet 1 (mSplit true (mVar 0) (mC (.str "\n"))))
  (mSeq (mSet 2 (mMt opPop (mVar 1) mNil))
  (mSeq (mSet 3 (mLc false (mIt (mVar 1)) (.nm 4) [4] (mC (.bl true)) (mSplit false (mVar 4) (mC (.str " ")))))
  (mSeq (mFor (mEnum (mVar 3)) (.tp [(.nm 5), (.nm 6)])
  (mIf (mNot (mOn (F_is_line cl) (mCons (mVar 5) (mCons (mVar 6) mNil))))
  (mRaise1 (cl 3) "line" (mBin (lift2 opAdd) (mVar 5) (mC (.int 1))))
  mNext))
  (mSeq (mIf (mOr (mBin (lift2 opNe) (mVar 2) (mC (.str ""))) (mBin (lift2 opLt) (mOn (liftL opLen) (mCons (mVar 3) mNil)) (mOn (liftL opLen) (mCons (mC (.tup [.str "sides", .str "tables"])) mNil))))
  (mRaise1 (cl 3) "line" (mBin (lift2 opAdd) (mOn (liftL opLen) (mCons (mVar 3) mNil)) (mC (.int 1))))
  mNext)
  (mSeq (mSet 7 (mLc false (mIt (mSl false (mVar 3) (some (mC (.int 2))) none)) (.nm 6) [6] (mC (.bl true)) (mOn (F_reading_of cl) (mCons (mVar 6) mNil))))
  (mRet (mOn (mMake false (cl 0) (F_Program___init__ cl)) (mCons (mOn (liftL opIntT) (mCons (mBin (lift2 opIx) (mBin (lift2 opIx) (mVar 3) (mC (.int 0))) (mC (.int 1))) mNil)) (mCons (mOn (liftL opIntT) (mCons (mBin (lift2 opIx) (mBin (lift2 opIx) (mVar 3) (mC (.int 1))) (mC (.int 1))) mNil)) (mCons (mOn (liftL opTuple) (mCons (mVar 7) mNil)) mNil))))))))))))
def F_read_program (cl : Nat → Addr) : Fn := mDef false 1 8 (m_read_program cl)
def m__law_pool (cl : Nat → Addr) : MS := (mSeq (mSet 1 (mBin (lift2 opAdd) (mBin (lift2 opAdd) (mBin (lift2 opMod) (mOn (liftL opInt) (mCons (mOn (liftL opSum) (mCons (mSl false (mVar 0) none (some (mC (.int 1)))) mNil)) mNil)) (mC (.int 1000003))) (mOn (liftL opLen) (mCons (mVar 0) mNil))) (mC (.int 1))))
  (mSeq (mFor (mIt (mSl false (mVar 0) none (some (mC (.int 63))))) (.nm 2)
  (mSet 1 (mBin (lift2 opMod) (mOn (liftL opInt) (mCons (mBin (lift2 opAdd) (mBin (lift2 opAdd) (mBin (lift2 opMul) (mVar 1) (mC (.int 48271))) (mBin (lift2 opMod) (mOn (liftL opInt) (mCons (mVar 2) mNil)) (mC (.int 2147483629)))) (mC (.int 11))) mNil)) (mC (.int 2147483647)))))
  (mRet (mLst true (mCons (mVar 1) (mCons (mC (.int 0)) (mCons (mLc true (mIt (mSl false (mVar 0) none (some (mC (.int 63))))) (.nm 2) [2] (mBin (lift2 opGe) (mOn (liftL opAbs) (mCons (mVar 2) mNil)) (mBin (lift2 opPow) (mC (.int 10)) (mC (.int 18)))) (mOn (liftL opAbs) (mCons (mVar 2) mNil))) mNil)))))))
def F__law_pool (cl : Nat → Addr) : Fn := mDef true 1 3 (m__law_pool cl)
def m__law_draw (cl : Nat → Addr) : MS := (mSeq (mSetIx (mBin (lift2 opAdd) (mBin (lift2 opIx) (mVar 0) (mC (.int 1))) (mC (.int 1))) (mVar 0) (mC (.int 1)))
  (mSeq (mSet 2 (mBin (lift2 opIx) (mVar 0) (mC (.int 2))))
  (mSeq (mIf (mBin (lift2 opGt) (mOn (liftL opLen) (mCons (mVar 2) mNil)) (mC (.int 0)))
  (mSeq (mSet 3 (mBin (lift2 opMod) (mOn (liftL opInt) (mCons (mBin (lift2 opIx) (mVar 2) (mC (.int 0))) mNil)) (mVar 1)))
  (mSeq (mSetIx (mBin (lift2 opFdiv) (mOn (liftL opInt) (mCons (mBin (lift2 opIx) (mVar 2) (mC (.int 0))) mNil)) (mVar 1)) (mVar 2) (mC (.int 0)))
  (mSeq (mIf (mBin (lift2 opEq) (mBin (lift2 opIx) (mVar 2) (mC (.int 0))) (mC (.int 0)))
  (mDrop (mMt opPop (mVar 2) (mCons (mC (.int 0)) mNil)))
  mNext)
  (mRet (mVar 3)))))
  mNext)
  (mSeq (mSet 4 (mBin (lift2 opMod) (mOn (liftL opInt) (mCons (mBin (lift2 opMul) (mBin (lift2 opAdd) (mBin (lift2 opIx) (mVar 0) (mC (.int 0))) (mBin (lift2 opMul) (mC (.int 7919)) (mBin (lift2 opIx) (mVar 0) (mC (.int 1))))) (mC (.int 48271))) mNil)) (mC (.int 2147483647))))
  (mSeq (mSet 4 (mBin (lift2 opMod) (mOn (liftL opInt) (mCons (mBin (lift2 opMul) (mVar 4) (mBin (lift2 opAdd) (mBin (lift2 opFdiv) (mVar 4) (mC (.int 1009))) (mC (.int 69621)))) mNil)) (mC (.int 2147483647))))
  (mSeq (mSet 4 (mBin (lift2 opMod) (mOn (liftL opInt) (mCons (mBin (lift2 opMul) (mVar 4) (mBin (lift2 opAdd) (mBin (lift2 opFdiv) (mVar 4) (mC (.int 2003))) (mC (.int 40692)))) mNil)) (mC (.int 2147483399))))
  (mRet (mBin (lift2 opMod) (mOn (liftL opInt) (mCons (mBin (lift2 opFdiv) (mVar 4) (mC (.int 16))) mNil)) (mVar 1)))))))))
def F__law_draw (cl : Nat → Addr) : Fn := mDef false 2 5 (m__law_draw cl)
def m__law_some (cl : Nat → Addr) : MS := (mRet (mBin (lift2 opIx) (mVar 1) (mOn (F__law_draw cl) (mCons (mVar 0) (mCons (mOn (liftL opLen) (mCons (mVar 1) mNil)) mNil)))))
def F__law_some (cl : Nat → Addr) : Fn := mDef false 2 2 (m__law_some cl)
def m__law_integer (cl : Nat → Addr) : MS := (mRet (mAnd (mOn (liftL (opIsI (tb cl))) (mCons (mVar 0) (mCons (mC (.opq (.ty "int"))) mNil))) (mNot (mOn (liftL (opIsI (tb cl))) (mCons (mVar 0) (mCons (mC (.opq (.ty "bool"))) mNil))))))
def F__law_integer (cl : Nat → Addr) : Fn := mDef false 1 1 (m__law_integer cl)
def m__law_with (cl : Nat → Addr) : MS := (mRet (mOn (liftL opTuple) (mCons (mBin (lift2 opAdd) (mBin (lift2 opAdd) (mOn (newL false some) (mCons (mSl false (mVar 0) none (some (mVar 1))) mNil)) (mLst false (mCons (mVar 2) mNil))) (mOn (newL false some) (mCons (mSl false (mVar 0) (some (mBin (lift2 opAdd) (mVar 1) (mC (.int 1)))) none) mNil))) mNil)))
def F__law_with (cl : Nat → Addr) : Fn := mDef false 3 3 (m__law_with cl)
def m__law_step (cl : Nat → Addr) : MS := (mSeq (mSet 2 (mOn (F__law_draw cl) (mCons (mVar 0) (mCons (mC (.int 6)) mNil))))
  (mSeq (mIf (mBin (lift2 opEq) (mVar 2) (mC (.int 0)))
  (mRet (mBin (lift2 opMul) (mTup (mCons (mC (.int 0)) mNil)) (mVar 1)))
  mNext)
  (mSeq (mIf (mBin (lift2 opEq) (mVar 2) (mC (.int 1)))
  (mRet (mOn (liftL opTuple) (mCons (mLc false (mRng1 (mVar 1)) (.nm 3) [3] (mC (.bl true)) (mOn (F__law_some cl) (mCons (mVar 0) (mCons (mLst false (mCons (mUn (lift1 opNeg) (mBin (lift2 opPow) (mC (.int 10)) (mC (.int 12)))) (mCons (mBin (lift2 opPow) (mC (.int 10)) (mC (.int 12))) (mCons (mBin (lift2 opSub) (mC (.int 7)) (mBin (lift2 opPow) (mC (.int 10)) (mC (.int 11)))) (mCons (mC (.int 0)) (mCons (mC (.int 1)) mNil)))))) mNil)))) mNil)))
  mNext)
  (mRet (mOn (liftL opTuple) (mCons (mLc false (mRng1 (mVar 1)) (.nm 3) [3] (mC (.bl true)) (mBin (lift2 opSub) (mOn (F__law_draw cl) (mCons (mVar 0) (mCons (mC (.int 5)) mNil))) (mC (.int 2)))) mNil))))))
def F__law_step (cl : Nat → Addr) : Fn := mDef false 2 4 (m__law_step cl)
def m__law_parts (cl : Nat → Addr) : MS := (mSeq (mSet 1 (mBin (lift2 opAdd) (mC (.int 1)) (mOn (F__law_draw cl) (mCons (mVar 0) (mCons (mC (.int 4)) mNil)))))
  (mSeq (mSet 2 (mBin (lift2 opAdd) (mC (.int 1)) (mOn (F__law_some cl) (mCons (mVar 0) (mCons (mLst false (mCons (mC (.int 0)) (mCons (mC (.int 0)) (mCons (mC (.int 1)) (mCons (mC (.int 1)) (mCons (mC (.int 2)) (mCons (mC (.int 3)) (mCons (mC (.int 7)) mNil)))))))) mNil)))))
  (mSeq (mSet 3 (mLst true mNil))
  (mSeq (mFor (mRng1 (mOn (F__law_some cl) (mCons (mVar 0) (mCons (mLst false (mCons (mC (.int 0)) (mCons (mC (.int 1)) (mCons (mC (.int 2)) (mCons (mC (.int 3)) (mCons (mC (.int 4)) (mCons (mC (.int 5)) (mCons (mC (.int 6)) (mCons (mC (.int 24)) mNil))))))))) mNil)))) (.nm 4)
  (mDrop (mMt opAppend (mVar 3) (mCons (mTup (mCons (mOn (F__law_draw cl) (mCons (mVar 0) (mCons (mVar 2) mNil))) (mCons (mOn (F__law_draw cl) (mCons (mVar 0) (mCons (mVar 2) mNil))) (mCons (mOn (F__law_step cl) (mCons (mVar 0) (mCons (mVar 1) mNil))) mNil)))) mNil))))
  (mRet (mTup (mCons (mVar 1) (mCons (mVar 2) (mCons (mOn (liftL opTuple) (mCons (mOn (opSortSet false) (mCons (mVar 3) mNil)) mNil)) mNil)))))))))
def F__law_parts (cl : Nat → Addr) : Fn := mDef false 1 5 (m__law_parts cl)
def m__law_is_reading (cl : Nat → Addr) : MS := (mSeq (mIf (mOr (mNot (mOn (liftL (opIsI (tb cl))) (mCons (mVar 1) (mCons (mC (.opq (.ty "tuple"))) mNil)))) (mOr (mBin (lift2 opNe) (mOn (liftL opLen) (mCons (mVar 1) mNil)) (mC (.int 3))) (mOr (mNot (mOn (F__law_integer cl) (mCons (mBin (lift2 opIx) (mVar 1) (mC (.int 0))) mNil))) (mNot (mOn (F__law_integer cl) (mCons (mBin (lift2 opIx) (mVar 1) (mC (.int 1))) mNil))))))
  (mRet (mC (.bl false)))
  mNext)
  (mSeq (mIf (mOr (mBin (lift2 opLt) (mBin (lift2 opIx) (mVar 1) (mC (.int 0))) (mC (.int 0))) (mOr (mBin (lift2 opGeD) (mBin (lift2 opIx) (mVar 1) (mC (.int 0))) (mBin (lift2 opIx) (mVar 0) (mC (.int 1)))) (mOr (mBin (lift2 opLt) (mBin (lift2 opIx) (mVar 1) (mC (.int 1))) (mC (.int 0))) (mBin (lift2 opGeD) (mBin (lift2 opIx) (mVar 1) (mC (.int 1))) (mBin (lift2 opIx) (mVar 0) (mC (.int 1)))))))
  (mRet (mC (.bl false)))
  mNext)
  (mSeq (mIf (mOr (mNot (mOn (liftL (opIsI (tb cl))) (mCons (mBin (lift2 opIx) (mVar 1) (mC (.int 2))) (mCons (mC (.opq (.ty "tuple"))) mNil)))) (mBin (lift2 opNe) (mOn (liftL opLen) (mCons (mBin (lift2 opIx) (mVar 1) (mC (.int 2))) mNil)) (mBin (lift2 opIx) (mVar 0) (mC (.int 0)))))
  (mRet (mC (.bl false)))
  mNext)
  (mSeq (mFor (mIt (mBin (lift2 opIx) (mVar 1) (mC (.int 2)))) (.nm 2)
  (mIf (mOr (mNot (mOn (F__law_integer cl) (mCons (mVar 2) mNil))) (mBin (lift2 opGt) (mOn (liftL opAbs) (mCons (mVar 2) mNil)) (mBin (lift2 opPow) (mC (.int 10)) (mC (.int 12)))))
  (mRet (mC (.bl false)))
  mNext))
  (mRet (mC (.bl true)))))))
def F__law_is_reading (cl : Nat → Addr) : Fn := mDef false 2 3 (m__law_is_reading cl)
def m__law_text (cl : Nat → Addr) : MS := (mSeq (mSet 1 (mLst true (mCons (mBin (lift2 opAdd) (mC (.str "sides ")) (mOn (liftL opStr) (mCons (mBin (lift2 opIx) (mVar 0) (mC (.int 0))) mNil))) (mCons (mBin (lift2 opAdd) (mC (.str "tables ")) (mOn (liftL opStr) (mCons (mBin (lift2 opIx) (mVar 0) (mC (.int 1))) mNil))) mNil))))
  (mSeq (mFor (mIt (mBin (lift2 opIx) (mVar 0) (mC (.int 2)))) (.tp [(.nm 2), (.nm 3), (.nm 4)])
  (mDrop (mMt opAppend (mVar 1) (mCons (mJoin (mC (.str " ")) (mBin (lift2 opAdd) (mLst false (mCons (mOn (liftL opStr) (mCons (mVar 2) mNil)) (mCons (mOn (liftL opStr) (mCons (mVar 3) mNil)) mNil))) (mLc false (mIt (mVar 4)) (.nm 5) [5] (mC (.bl true)) (mOn (liftL opStr) (mCons (mVar 5) mNil))))) mNil))))
  (mRet (mJoin (mC (.str "")) (mLc false (mIt (mVar 1)) (.nm 6) [6] (mC (.bl true)) (mBin (lift2 opAdd) (mVar 6) (mC (.str "\n"))))))))
def F__law_text (cl : Nat → Addr) : Fn := mDef false 1 7 (m__law_text cl)
def m__law_program_part (cl : Nat → Addr) : MS := (mSeq (mIf (mOr (mBin (lift2 opLt) (mBin (lift2 opIx) (mVar 0) (mC (.int 0))) (mC (.int 1))) (mBin (lift2 opGt) (mBin (lift2 opIx) (mVar 0) (mC (.int 0))) (mC (.int 4))))
  (mRet (mC (.str "sides")))
  mNext)
  (mSeq (mIf (mOr (mBin (lift2 opLt) (mBin (lift2 opIx) (mVar 0) (mC (.int 1))) (mC (.int 1))) (mBin (lift2 opGt) (mBin (lift2 opIx) (mVar 0) (mC (.int 1))) (mC (.int 8))))
  (mRet (mC (.str "tables")))
  mNext)
  (mSeq (mIf (mBin (lift2 opGt) (mOn (liftL opLen) (mCons (mBin (lift2 opIx) (mVar 0) (mC (.int 2))) mNil)) (mC (.int 24)))
  (mRet (mC (.str "readings")))
  mNext)
  (mSeq (mFor (mRng1 (mOn (liftL opLen) (mCons (mBin (lift2 opIx) (mVar 0) (mC (.int 2))) mNil))) (.nm 1)
  (mIf (mOr (mNot (mOn (F__law_is_reading cl) (mCons (mVar 0) (mCons (mBin (lift2 opIx) (mBin (lift2 opIx) (mVar 0) (mC (.int 2))) (mVar 1)) mNil)))) (mAnd (mBin (lift2 opGt) (mVar 1) (mC (.int 0))) (mBin (lift2 opLeD) (mBin (lift2 opIx) (mBin (lift2 opIx) (mVar 0) (mC (.int 2))) (mVar 1)) (mBin (lift2 opIx) (mBin (lift2 opIx) (mVar 0) (mC (.int 2))) (mBin (lift2 opSub) (mVar 1) (mC (.int 1)))))))
  (mRet (mVar 1))
  mNext))
  (mRet (mC .non))))))
def F__law_program_part (cl : Nat → Addr) : Fn := mDef false 1 2 (m__law_program_part cl)
def m__law_read_told (cl : Nat → Addr) : MS := (mSeq (mSet 1 (mTup (mCons (mC (.str "other")) (mCons (mC .non) mNil))))
  (mSeq (mTry (etb cl) (mSeq (mSet 2 (mOn (F_read_program cl) (mCons (mVar 0) mNil)))
  (mSet 1 (mTup (mCons (mC (.str "told")) (mCons (mTup (mCons (mFld [cl 0] "sides" (mVar 2)) (mCons (mFld [cl 0] "tables" (mVar 2)) (mCons (mFld [cl 0] "readings" (mVar 2)) mNil)))) mNil)))))
  [⟨.c (cl 3), some 3, (mSet 1 (mTup (mCons (mC (.str "line")) (mCons (mExf [cl 3] "line" (mVar 3)) mNil))))⟩, ⟨.c (cl 2), some 3, (mSet 1 (mTup (mCons (mC (.str "part")) (mCons (mExf [cl 2] "part" (mVar 3)) mNil))))⟩, ⟨.c (cl 1), none, (mSet 1 (mTup (mCons (mC (.str "other")) (mCons (mC .non) mNil))))⟩])
  (mRet (mVar 1))))
def F__law_read_told (cl : Nat → Addr) : Fn := mDef false 1 4 (m__law_read_told cl)
def m__law_bent_parts (cl : Nat → Addr) : MS := (mSeq (mAsg (mVar 1) (.tp [(.nm 2), (.nm 3), (.nm 4)]))
  (mSeq (mSet 5 (mOn (F__law_draw cl) (mCons (mVar 0) (mCons (mC (.int 9)) mNil))))
  (mSeq (mIf (mBin (lift2 opEq) (mVar 5) (mC (.int 0)))
  (mRet (mTup (mCons (mOn (F__law_some cl) (mCons (mVar 0) (mCons (mLst false (mCons (mC (.int 0)) (mCons (mC (.int 5)) (mCons (mUn (lift1 opNeg) (mC (.int 1))) (mCons (mC (.int 1)) (mCons (mC (.int 2)) (mCons (mC (.int 3)) (mCons (mC (.int 4)) (mCons (mBin (lift2 opPow) (mC (.int 10)) (mC (.int 59))) mNil))))))))) mNil))) (mCons (mVar 3) (mCons (mVar 4) mNil)))))
  mNext)
  (mSeq (mIf (mBin (lift2 opEq) (mVar 5) (mC (.int 1)))
  (mRet (mTup (mCons (mVar 2) (mCons (mOn (F__law_some cl) (mCons (mVar 0) (mCons (mLst false (mCons (mC (.int 0)) (mCons (mC (.int 9)) (mCons (mUn (lift1 opNeg) (mC (.int 1))) (mCons (mC (.int 1)) (mCons (mC (.int 2)) (mCons (mC (.int 8)) (mCons (mBin (lift2 opPow) (mC (.int 10)) (mC (.int 59))) mNil)))))))) mNil))) (mCons (mVar 4) mNil)))))
  mNext)
  (mSeq (mIf (mBin (lift2 opEq) (mOn (liftL opLen) (mCons (mVar 4) mNil)) (mC (.int 0)))
  (mRet (mTup (mCons (mVar 2) (mCons (mVar 3) (mCons (mTup (mCons (mTup (mCons (mC (.int 0)) (mCons (mC (.int 0)) (mCons (mBin (lift2 opMulZ) (mTup (mCons (mC (.int 0)) mNil)) (mOn (F__law_draw cl) (mCons (mVar 0) (mCons (mC (.int 6)) mNil)))) mNil)))) mNil)) mNil)))))
  mNext)
  (mSeq (mSet 6 (mOn (F__law_draw cl) (mCons (mVar 0) (mCons (mOn (liftL opLen) (mCons (mVar 4) mNil)) mNil))))
  (mSeq (mAsg (mBin (lift2 opIx) (mVar 4) (mVar 6)) (.tp [(.nm 7), (.nm 8), (.nm 9)]))
  (mSeq (mIf (mBin (lift2 opEq) (mVar 5) (mC (.int 2)))
  (mRet (mTup (mCons (mVar 2) (mCons (mVar 3) (mCons (mBin (lift2 opAdd) (mBin (lift2 opAdd) (mSl false (mVar 4) none (some (mVar 6))) (mBin (lift2 opMulZ) (mSl false (mVar 4) (some (mVar 6)) (some (mBin (lift2 opAdd) (mVar 6) (mC (.int 1))))) (mOn (F__law_draw cl) (mCons (mVar 0) (mCons (mC (.int 30)) mNil))))) (mSl false (mVar 4) (some (mBin (lift2 opAdd) (mVar 6) (mC (.int 1)))) none)) mNil)))))
  mNext)
  (mSeq (mIf (mBin (lift2 opEq) (mVar 5) (mC (.int 3)))
  (mRet (mTup (mCons (mVar 2) (mCons (mVar 3) (mCons (mBin (lift2 opAdd) (mSl false (mVar 4) none (some (mVar 6))) (mRevS false (mSl false (mVar 4) (some (mVar 6)) none))) mNil)))))
  mNext)
  (mSeq (mIf (mBin (lift2 opEq) (mVar 5) (mC (.int 4)))
  (mRet (mTup (mCons (mVar 2) (mCons (mVar 3) (mCons (mOn (F__law_with cl) (mCons (mVar 4) (mCons (mVar 6) (mCons (mTup (mCons (mVar 7) (mCons (mVar 8) (mCons (mBin (lift2 opAdd) (mVar 9) (mBin (lift2 opMulZ) (mTup (mCons (mC (.int 1)) mNil)) (mOn (F__law_draw cl) (mCons (mVar 0) (mCons (mC (.int 3)) mNil))))) mNil)))) mNil)))) mNil)))))
  mNext)
  (mSeq (mIf (mBin (lift2 opEq) (mVar 5) (mC (.int 5)))
  (mRet (mTup (mCons (mVar 2) (mCons (mVar 3) (mCons (mOn (F__law_with cl) (mCons (mVar 4) (mCons (mVar 6) (mCons (mTup (mCons (mVar 7) (mCons (mVar 8) (mCons (mSl false (mVar 9) (some (mC (.int 1))) none) mNil)))) mNil)))) mNil)))))
  mNext)
  (mSeq (mIf (mBin (lift2 opEq) (mVar 5) (mC (.int 6)))
  (mRet (mTup (mCons (mVar 2) (mCons (mVar 3) (mCons (mOn (F__law_with cl) (mCons (mVar 4) (mCons (mVar 6) (mCons (mTup (mCons (mOn (F__law_some cl) (mCons (mVar 0) (mCons (mLst false (mCons (mUn (lift1 opNeg) (mC (.int 1))) (mCons (mVar 3) (mCons (mC (.int 0)) (mCons (mC (.int 7)) mNil))))) mNil))) (mCons (mVar 8) (mCons (mVar 9) mNil)))) mNil)))) mNil)))))
  mNext)
  (mSeq (mIf (mBin (lift2 opEq) (mVar 5) (mC (.int 7)))
  (mRet (mTup (mCons (mVar 2) (mCons (mVar 3) (mCons (mOn (F__law_with cl) (mCons (mVar 4) (mCons (mVar 6) (mCons (mTup (mCons (mVar 7) (mCons (mOn (F__law_some cl) (mCons (mVar 0) (mCons (mLst false (mCons (mUn (lift1 opNeg) (mC (.int 1))) (mCons (mVar 3) (mCons (mC (.int 0)) (mCons (mC (.int 7)) (mCons (mC (.int 8)) mNil)))))) mNil))) (mCons (mVar 9) mNil)))) mNil)))) mNil)))))
  mNext)
  (mSeq (mSet 10 (mOn (F__law_some cl) (mCons (mVar 0) (mCons (mLst false (mCons (mBin (lift2 opPow) (mC (.int 10)) (mC (.int 12))) (mCons (mBin (lift2 opAdd) (mBin (lift2 opPow) (mC (.int 10)) (mC (.int 12))) (mC (.int 1))) (mCons (mUn (lift1 opNeg) (mBin (lift2 opPow) (mC (.int 10)) (mC (.int 12)))) (mCons (mBin (lift2 opSub) (mUn (lift1 opNeg) (mBin (lift2 opPow) (mC (.int 10)) (mC (.int 12)))) (mC (.int 1))) (mCons (mBin (lift2 opPow) (mC (.int 10)) (mC (.int 59))) (mCons (mC (.int 0)) mNil))))))) mNil))))
  (mRet (mTup (mCons (mVar 2) (mCons (mVar 3) (mCons (mOn (F__law_with cl) (mCons (mVar 4) (mCons (mVar 6) (mCons (mTup (mCons (mVar 7) (mCons (mVar 8) (mCons (mSl false (mBin (lift2 opAdd) (mVar 9) (mTup (mCons (mVar 10) mNil))) (some (mUn (lift1 opNeg) (mOn (liftL opLen) (mCons (mVar 9) mNil)))) none) mNil)))) mNil)))) mNil)))))))))))))))))))
def F__law_bent_parts (cl : Nat → Addr) : Fn := mDef false 2 11 (m__law_bent_parts cl)
def m_law (cl : Nat → Addr) : MS := (mSeq (mSet 1 (mOn (F__law_pool cl) (mCons (mVar 0) mNil)))
  (mSeq (mFor (mRng1 (mC (.int 7))) (.nm 2)
  (mSeq (mSet 3 (mOn (F__law_parts cl) (mCons (mVar 1) mNil)))
  (mSeq (mSet 4 (mVar 3))
  (mSeq (mFor (mRng1 (mBin (lift2 opAdd) (mC (.int 1)) (mOn (F__law_draw cl) (mCons (mVar 1) (mCons (mC (.int 2)) mNil))))) (.nm 5)
  (mIf (mOr (mBin (lift2 opEq) (mOn (liftL opLen) (mCons (mBin (lift2 opIx) (mVar 4) (mC (.int 2))) mNil)) (mC (.int 0))) (mBin (lift2 opGt) (mOn (liftL opLen) (mCons (mBin (lift2 opIx) (mBin (lift2 opIx) (mBin (lift2 opIx) (mVar 4) (mC (.int 2))) (mC (.int 0))) (mC (.int 2))) mNil)) (mC (.int 0))))
  (mSet 4 (mOn (F__law_bent_parts cl) (mCons (mVar 1) (mCons (mVar 4) mNil))))
  mNext))
  (mSeq (mSet 6 (mOn (F__law_program_part cl) (mCons (mVar 4) mNil)))
  (mSeq (mSet 7 (mTup (mCons (mC (.str "told")) (mCons (mVar 4) mNil))))
  (mSeq (mIf (mBin (lift2 (opIs true)) (mVar 6) (mC .non))
  (mSet 7 (mTup (mCons (mC (.str "part")) (mCons (mVar 6) mNil))))
  mNext)
  (mSeq (mSet 8 (mOn (F__law_read_told cl) (mCons (mOn (F__law_text cl) (mCons (mVar 4) mNil)) mNil)))
  (mSeq (mIf (mOr (mBin (lift2 opNe) (mVar 8) (mVar 7)) (mBin (lift2 opNe) (mOn (liftL (opIsI (tb cl))) (mCons (mBin (lift2 opIx) (mVar 8) (mC (.int 1))) (mCons (mC (.opq (.ty "str"))) mNil))) (mOn (liftL (opIsI (tb cl))) (mCons (mBin (lift2 opIx) (mVar 7) (mC (.int 1))) (mCons (mC (.opq (.ty "str"))) mNil)))))
  (mRet (mC (.bl false)))
  mNext)
  (mIf (mBin (lift2 opNe) (mOn (F__law_read_told cl) (mCons (mOn (F__law_text cl) (mCons (mVar 3) mNil)) mNil)) (mTup (mCons (mC (.str "told")) (mCons (mVar 3) mNil))))
  (mRet (mC (.bl false)))
  mNext))))))))))
  (mRet (mC (.bl true)))))
def F_law (cl : Nat → Addr) : Fn := mDef false 1 9 (m_law cl)
end LW
set_option Elab.async false
set_option linter.all false
set_option maxRecDepth 100000
set_option maxHeartbeats 4000000
namespace LW
open DL PySem PySem.Spec PyProof.Rows L2
def topS (i : Nat) : Stmt := PySem.Challenge.pw_turnsneeded_k08_whole_spoilt_texts_of_pr.main.body.getD i (.Pass ⟨0, 0, 0, 0⟩)
abbrev s_is_int : Stmt := topS 5
theorem sc_is_int : FnScope ["thing"] ["thing"] (defScope s_is_int) := ⟨rfl, rfl, rfl, by decide +kernel, rfl, by decide +kernel, by decide +kernel⟩
abbrev s_is_int_in : Stmt := topS 6
theorem sc_is_int_in : FnScope ["thing", "least", "most"] ["thing", "least", "most"] (defScope s_is_int_in) := ⟨rfl, rfl, rfl, by decide +kernel, rfl, by decide +kernel, by decide +kernel⟩
abbrev s_is_row_of_ints : Stmt := topS 7
theorem sc_is_row_of_ints : FnScope ["thing", "many", "part"] ["thing", "many"] (defScope s_is_row_of_ints) := ⟨rfl, rfl, rfl, by decide +kernel, rfl, by decide +kernel, by decide +kernel⟩
abbrev s_Program___init__ : Stmt := inClass (topS 13) 0
theorem sc_Program___init__ : FnScope ["self", "sides", "tables", "readings", "k", "reading"] ["self", "sides", "tables", "readings"] (defScope s_Program___init__) := ⟨rfl, rfl, rfl, by decide +kernel, rfl, by decide +kernel, by decide +kernel⟩
abbrev s_is_reading : Stmt := topS 14
theorem sc_is_reading : FnScope ["sides", "tables", "thing", "part"] ["sides", "tables", "thing"] (defScope s_is_reading) := ⟨rfl, rfl, rfl, by decide +kernel, rfl, by decide +kernel, by decide +kernel⟩
abbrev s_is_number : Stmt := topS 19
theorem sc_is_number : FnScope ["word", "plain", "sign"] ["word"] (defScope s_is_number) := ⟨rfl, rfl, rfl, by decide +kernel, rfl, by decide +kernel, by decide +kernel⟩
abbrev s_read_program : Stmt := topS 20
theorem sc_read_program : FnScope ["text", "lines", "rest", "rows", "line", "place", "words", "readings"] ["text"] (defScope s_read_program) := ⟨rfl, rfl, rfl, by decide +kernel, rfl, by decide +kernel, by decide +kernel⟩
abbrev s_is_line : Stmt := topS 21
theorem sc_is_line : FnScope ["place", "words", "word"] ["place", "words"] (defScope s_is_line) := ⟨rfl, rfl, rfl, by decide +kernel, rfl, by decide +kernel, by decide +kernel⟩
abbrev s_reading_of : Stmt := topS 22
theorem sc_reading_of : FnScope ["words", "numbers", "word"] ["words"] (defScope s_reading_of) := ⟨rfl, rfl, rfl, by decide +kernel, rfl, by decide +kernel, by decide +kernel⟩
abbrev s__law_pool : Stmt := topS 24
theorem sc__law_pool : FnScope ["_law_script", "_law_seed", "_law_cell"] ["_law_script"] (defScope s__law_pool) := ⟨rfl, rfl, rfl, by decide +kernel, rfl, by decide +kernel, by decide +kernel⟩
abbrev s__law_draw : Stmt := topS 25
theorem sc__law_draw : FnScope ["_law_pool_here", "_law_many", "_law_cells", "_law_digit", "_law_mixed"] ["_law_pool_here", "_law_many"] (defScope s__law_draw) := ⟨rfl, rfl, rfl, by decide +kernel, rfl, by decide +kernel, by decide +kernel⟩
abbrev s__law_some : Stmt := topS 26
theorem sc__law_some : FnScope ["_law_pool_here", "_law_things"] ["_law_pool_here", "_law_things"] (defScope s__law_some) := ⟨rfl, rfl, rfl, by decide +kernel, rfl, by decide +kernel, by decide +kernel⟩
abbrev s__law_integer : Stmt := topS 27
theorem sc__law_integer : FnScope ["_law_thing"] ["_law_thing"] (defScope s__law_integer) := ⟨rfl, rfl, rfl, by decide +kernel, rfl, by decide +kernel, by decide +kernel⟩
abbrev s__law_with : Stmt := topS 28
theorem sc__law_with : FnScope ["_law_row", "_law_place", "_law_thing"] ["_law_row", "_law_place", "_law_thing"] (defScope s__law_with) := ⟨rfl, rfl, rfl, by decide +kernel, rfl, by decide +kernel, by decide +kernel⟩
abbrev s__law_step : Stmt := topS 29
theorem sc__law_step : FnScope ["_law_pool_here", "_law_sides", "_law_kind", "_law_k"] ["_law_pool_here", "_law_sides"] (defScope s__law_step) := ⟨rfl, rfl, rfl, by decide +kernel, rfl, by decide +kernel, by decide +kernel⟩
abbrev s__law_parts : Stmt := topS 30
theorem sc__law_parts : FnScope ["_law_pool_here", "_law_sides", "_law_tables", "_law_readings", "_law_k"] ["_law_pool_here"] (defScope s__law_parts) := ⟨rfl, rfl, rfl, by decide +kernel, rfl, by decide +kernel, by decide +kernel⟩
abbrev s__law_is_reading : Stmt := topS 31
theorem sc__law_is_reading : FnScope ["_law_parts_here", "_law_thing", "_law_item"] ["_law_parts_here", "_law_thing"] (defScope s__law_is_reading) := ⟨rfl, rfl, rfl, by decide +kernel, rfl, by decide +kernel, by decide +kernel⟩
abbrev s__law_text : Stmt := topS 32
theorem sc__law_text : FnScope ["_law_parts_here", "_law_lines", "_law_reader", "_law_read", "_law_step_here", "_law_item", "_law_line"] ["_law_parts_here"] (defScope s__law_text) := ⟨rfl, rfl, rfl, by decide +kernel, rfl, by decide +kernel, by decide +kernel⟩
abbrev s__law_program_part : Stmt := topS 33
theorem sc__law_program_part : FnScope ["_law_parts_here", "_law_k"] ["_law_parts_here"] (defScope s__law_program_part) := ⟨rfl, rfl, rfl, by decide +kernel, rfl, by decide +kernel, by decide +kernel⟩
abbrev s__law_read_told : Stmt := topS 34
theorem sc__law_read_told : FnScope ["_law_text_here", "_law_told", "_law_program", "error"] ["_law_text_here"] (defScope s__law_read_told) := ⟨rfl, rfl, rfl, by decide +kernel, rfl, by decide +kernel, by decide +kernel⟩
abbrev s__law_bent_parts : Stmt := topS 35
theorem sc__law_bent_parts : FnScope ["_law_pool_here", "_law_parts_here", "_law_sides", "_law_tables", "_law_readings", "_law_kind", "_law_place", "_law_reader", "_law_read", "_law_step_here", "_law_item"] ["_law_pool_here", "_law_parts_here"] (defScope s__law_bent_parts) := ⟨rfl, rfl, rfl, by decide +kernel, rfl, by decide +kernel, by decide +kernel⟩
abbrev s_law : Stmt := topS 36
theorem sc_law : FnScope ["_law_script", "_law_pool_here", "_law_turn", "_law_parts_here", "_law_bent", "_law_change", "_law_part", "_law_due", "_law_told"] ["_law_script"] (defScope s_law) := ⟨rfl, rfl, rfl, by decide +kernel, rfl, by decide +kernel, by decide +kernel⟩
abbrev s_BadProgram___init__ : Stmt := inClass (topS 2) 0
theorem sc_BadProgram___init__ : FnScope ["self", "part"] ["self", "part"] (defScope s_BadProgram___init__) := ⟨rfl, rfl, rfl, by decide +kernel, rfl, by decide +kernel, by decide +kernel⟩
abbrev s_BadText___init__ : Stmt := inClass (topS 3) 0
theorem sc_BadText___init__ : FnScope ["self", "line"] ["self", "line"] (defScope s_BadText___init__) := ⟨rfl, rfl, rfl, by decide +kernel, rfl, by decide +kernel, by decide +kernel⟩
structure TX (K : PySem.W.Frag) (mg : Str → Option Value) (cl : Nat → Addr) : Prop where
  b_ValueError : mg "ValueError" = none
  b_abs : mg "abs" = none
  b_all : mg "all" = none
  b_bool : mg "bool" = none
  b_enumerate : mg "enumerate" = none
  b_int : mg "int" = none
  b_isinstance : mg "isinstance" = none
  b_len : mg "len" = none
  b_list : mg "list" = none
  b_range : mg "range" = none
  b_set : mg "set" = none
  b_sorted : mg "sorted" = none
  b_str : mg "str" = none
  b_sum : mg "sum" = none
  b_tuple : mg "tuple" = none
  c_FIGURES : GC K mg "FIGURES" (.str "0123456789")
  c_HEADS : GC K mg "HEADS" (.tup [.str "sides", .str "tables"])
  c_LONGEST_STEP : GC K mg "LONGEST_STEP" (.int 1000000000000)
  c_MOST_FIGURES : GC K mg "MOST_FIGURES" (.int 60)
  c_MOST_READINGS : GC K mg "MOST_READINGS" (.int 24)
  c_MOST_SIDES : GC K mg "MOST_SIDES" (.int 4)
  c_MOST_TABLES : GC K mg "MOST_TABLES" (.int 8)
  m_Program : mg "Program" = some (.ref (cl 0))
  k_Program : GC K mg "Program" (.opq (.ref (cl 0)))
  f_readings : ∀ C ∈ [cl 0], Cls K C ∧ NoAttr K C "readings"
  f_sides : ∀ C ∈ [cl 0], Cls K C ∧ NoAttr K C "sides"
  f_tables : ∀ C ∈ [cl 0], Cls K C ∧ NoAttr K C "tables"
  m_TurnError : mg "TurnError" = some (.ref (cl 1))
  m_BadProgram : mg "BadProgram" = some (.ref (cl 2))
  m_BadText : mg "BadText" = some (.ref (cl 3))
  fx_line : ∀ C ∈ [cl 3], XfC K C ∧ PySem.W.findIn K (.ref C) "line" = some none
  fx_part : ∀ C ∈ [cl 2], XfC K C ∧ PySem.W.findIn K (.ref C) "part" = some none
  vV : PySem.W.findCls K (.type "ValueError") (.type "type") "__init__" = some (.val (.builtin "ValueError.__init__"))
  etb : ETOk K (LW.etb cl)
  tb : KTOk K (LW.tb cl)
variable {P : Program} {w : World} {K : PySem.W.Frag} {mg : Str → Option Value} {base : Heap} {cl : Nat → Addr}
theorem wi_BadProgram {f : Addr} {fd : FuncData} (F : Fun K "__init__" "BadProgram.__init__" s_BadProgram___init__ f fd) : FnOk P w K mg base (L2.CX P w) 1 f fd ["self", "part"] (spI1 K "part") :=
  F.okX sc_BadProgram___init__ (fun vs H Q E h => by obtain ⟨a, C, v, rfl, _⟩ := h; rfl) fun cdv A outer s H vs Q E hr h => by
    obtain ⟨a, C, v, rfl, oc, no, ha, hq⟩ := h
    exact ⟨_, pss_one (ps_ost (pv 0) (pv 1)), ⟨v, rfl, .ref a, rfl, a, C, rfl, oc, no, .inl ⟨ha, fun dx h1 h2 => hq dx h1 h2⟩⟩⟩
theorem wi_BadText {f : Addr} {fd : FuncData} (F : Fun K "__init__" "BadText.__init__" s_BadText___init__ f fd) : FnOk P w K mg base (L2.CX P w) 1 f fd ["self", "line"] (spI1 K "line") :=
  F.okX sc_BadText___init__ (fun vs H Q E h => by obtain ⟨a, C, v, rfl, _⟩ := h; rfl) fun cdv A outer s H vs Q E hr h => by
    obtain ⟨a, C, v, rfl, oc, no, ha, hq⟩ := h
    exact ⟨_, pss_one (ps_ost (pv 0) (pv 1)), ⟨v, rfl, .ref a, rfl, a, C, rfl, oc, no, .inl ⟨ha, fun dx h1 h2 => hq dx h1 h2⟩⟩⟩
theorem w_is_int (T : TX K mg cl) {f : Addr} {fd : FuncData} (D : LB.Df K mg "is_int" ["thing"] s_is_int f fd) : CaD P w K mg base 1 "is_int" (F_is_int cl) :=
  DBody.ca D sc_is_int false 1 1 rfl rfl ⟨fun cdv A outer s H E hr => (dss_one (ds_ret (de_and (de_callB (cd_isi T.tb) (nxL _) (by rfl) T.b_isinstance boot_isinstance (das_cons (dv 0) (das_cons (de_ty T.b_int boot_int) das_nil))) (de_one (de_not (de_callB (cd_isi T.tb) (nxL _) (by rfl) T.b_isinstance boot_isinstance (das_cons (dv 0) (das_cons (de_ty T.b_bool boot_bool) das_nil))))))))⟩
theorem w_is_int_in (T : TX K mg cl) {f : Addr} {fd : FuncData} (D : LB.Df K mg "is_int_in" ["thing", "least", "most"] s_is_int_in f fd) (c_is_int : CaD P w K mg base 1 "is_int" (F_is_int cl)) : CaD P w K mg base 2 "is_int_in" (F_is_int_in cl) :=
  DBody.ca D sc_is_int_in false 3 3 rfl rfl ⟨fun cdv A outer s H E hr => (dss_one (ds_ret (de_and (de_call c_is_int hr (by omega) (fun σ => L2.passAt (takes_of rfl rfl rfl rfl) σ) (by rfl) (das_cons (dv 0) das_nil)) (de_one (de_chain od_le od_le (nx2 _) (nx2 _) (dv 1) (dv 0) (dv 2))))))⟩
theorem w_is_row_of_ints (T : TX K mg cl) {f : Addr} {fd : FuncData} (D : LB.Df K mg "is_row_of_ints" ["thing", "many"] s_is_row_of_ints f fd) (c_is_int : CaD P w K mg base 1 "is_int" (F_is_int cl)) : CaD P w K mg base 2 "is_row_of_ints" (F_is_row_of_ints cl) :=
  DBody.ca D sc_is_row_of_ints false 2 3 rfl rfl ⟨fun cdv A outer s H E hr => (dss_one (ds_ret (de_and (de_callB (cd_isi T.tb) (nxL _) (by rfl) T.b_isinstance boot_isinstance (das_cons (dv 0) (das_cons (de_ty T.b_tuple boot_tuple) das_nil))) (de_and (de_cmp (od_eq (hu64 hr)) (nx2 _) (de_callB cd_len (nxL _) (by rfl) T.b_len boot_len (das_cons (dv 0) das_nil)) (dv 1) (nomark _)) (de_one (de_callB (cd_all rfl) (nxL _) (by rfl) T.b_all boot_all (das_cons (de_lc (al := false) (own := [("part", 2)]) rfl sc_is_row_of_ints.nd (di_seq (dv 0)) (blkOk_by (N := ["thing", "many", "part"]) (sc := defScope s_is_row_of_ints) (by decide +kernel)) (fun _ _ _ _ _ => (dp_nm (i := 2) sc_is_row_of_ints.nd rfl (by first | exact Or.inl rfl | exact Or.inr rfl))) (fun _ _ _ _ _ => dts_nil) (fun _ _ _ _ _ => (de_call c_is_int hr (by omega) (fun σ => DL.passAt0 (fun _ _ _ _ h => h) σ) (by rfl) (das_cons (dv 2) das_nil))) (by decide)) das_nil)))))))⟩
theorem w_is_reading (T : TX K mg cl) {f : Addr} {fd : FuncData} (D : LB.Df K mg "is_reading" ["sides", "tables", "thing"] s_is_reading f fd) (c_is_int_in : CaD P w K mg base 2 "is_int_in" (F_is_int_in cl)) (c_is_row_of_ints : CaD P w K mg base 2 "is_row_of_ints" (F_is_row_of_ints cl)) : CaD P w K mg base 3 "is_reading" (F_is_reading cl) :=
  DBody.ca D sc_is_reading false 3 4 rfl rfl ⟨fun cdv A outer s H E hr => (dss_one (ds_ret (de_and (de_callB (cd_isi T.tb) (nxL _) (by rfl) T.b_isinstance boot_isinstance (das_cons (dv 2) (das_cons (de_ty T.b_tuple boot_tuple) das_nil))) (de_and (de_cmp (od_eq (hu64 hr)) (nx2 _) (de_callB cd_len (nxL _) (by rfl) T.b_len boot_len (das_cons (dv 2) das_nil)) de_int (nomark _)) (de_and (de_call c_is_int_in hr (by omega) (fun σ => L2.passAt (takes_of rfl rfl rfl rfl) σ) (by rfl) (das_cons (de_ix id_seq (nx2 _) (dv 2) de_int (fun _ _ => rfl)) (das_cons de_int (das_cons (de_bin od_sub (nx2 _) (dv 1) de_int) das_nil)))) (de_and (de_call c_is_int_in hr (by omega) (fun σ => L2.passAt (takes_of rfl rfl rfl rfl) σ) (by rfl) (das_cons (de_ix id_seq (nx2 _) (dv 2) de_int (fun _ _ => rfl)) (das_cons de_int (das_cons (de_bin od_sub (nx2 _) (dv 1) de_int) das_nil)))) (de_and (de_call c_is_row_of_ints hr (by omega) (fun σ => L2.passAt (takes_of rfl rfl rfl rfl) σ) (by rfl) (das_cons (de_ix id_seq (nx2 _) (dv 2) de_int (fun _ _ => rfl)) (das_cons (dv 0) das_nil))) (de_one (de_callB (cd_all rfl) (nxL _) (by rfl) T.b_all boot_all (das_cons (de_lc (al := false) (own := [("part", 3)]) rfl sc_is_reading.nd (di_seq (de_ix id_seq (nx2 _) (dv 2) de_int (fun _ _ => rfl))) (blkOk_by (N := ["sides", "tables", "thing", "part"]) (sc := defScope s_is_reading) (by decide +kernel)) (fun _ _ _ _ _ => (dp_nm (i := 3) sc_is_reading.nd rfl (by first | exact Or.inl rfl | exact Or.inr rfl))) (fun _ _ _ _ _ => dts_nil) (fun _ _ _ _ _ => (de_chain od_le od_le (nx2 _) (nx2 _) (de_un od_neg (nx1 _) (de_g T.c_LONGEST_STEP)) (dv 3) (de_g T.c_LONGEST_STEP))) (by decide)) das_nil))))))))))⟩
theorem w_Program___init__ (T : TX K mg cl) {f : Addr} {fd : FuncData} (M : Mk K (cl 0) f) (F : Fun K "__init__" "Program.__init__" s_Program___init__ f fd) (B : Binds K fd ["self", "sides", "tables", "readings"] []) (c_is_int_in : CaD P w K mg base 2 "is_int_in" (F_is_int_in cl)) (c_is_reading : CaD P w K mg base 3 "is_reading" (F_is_reading cl)) (x_BadProgram : ExM1 P w K mg base 1 "BadProgram" (cl 2) "part") : MkD P w K mg base 4 "Program" (cl 0) (F_Program___init__ cl) :=
  DBody.mkd M F B T.m_Program sc_Program___init__ 4 6 rfl rfl ⟨fun cdv A outer s H E hr => (dss_cons (ds_if (dt_not (dt_val (de_call c_is_int_in hr (by omega) (fun σ => L2.passAt (takes_of rfl rfl rfl rfl) σ) (by rfl) (das_cons (dv 1) (das_cons de_int (das_cons (de_g T.c_MOST_SIDES) das_nil))))))
    (dss_one (ds_raise1 x_BadProgram hr (by omega) rfl (takes_of rfl rfl rfl rfl) (by rfl) (das_cons de_str das_nil)))
    dss_nil)
    (dss_cons (ds_if (dt_not (dt_val (de_call c_is_int_in hr (by omega) (fun σ => L2.passAt (takes_of rfl rfl rfl rfl) σ) (by rfl) (das_cons (dv 2) (das_cons de_int (das_cons (de_g T.c_MOST_TABLES) das_nil))))))
    (dss_one (ds_raise1 x_BadProgram hr (by omega) rfl (takes_of rfl rfl rfl rfl) (by rfl) (das_cons de_str das_nil)))
    dss_nil)
    (dss_cons (ds_if (dt_w (dw_or (dt_not (dt_val (de_callB (cd_isi T.tb) (nxL _) (by rfl) T.b_isinstance boot_isinstance (das_cons (dv 3) (das_cons (de_ty T.b_tuple boot_tuple) das_nil))))) (dw_or1 (dt_cmp od_gt (nx2 _) (de_callB cd_len (nxL _) (by rfl) T.b_len boot_len (das_cons (dv 3) das_nil)) (de_g T.c_MOST_READINGS) (nomark _)))))
    (dss_one (ds_raise1 x_BadProgram hr (by omega) rfl (takes_of rfl rfl rfl rfl) (by rfl) (das_cons de_str das_nil)))
    dss_nil)
    (dss_cons (ds_for (passes_of rfl) rfl (di_enum (by rfl) T.b_enumerate (dv 3)) (dp_tup rfl (dps_cons (dp_nm (i := 4) sc_Program___init__.nd rfl (by first | exact Or.inl rfl | exact Or.inr rfl)) (dps_cons (dp_nm (i := 5) sc_Program___init__.nd rfl (by first | exact Or.inl rfl | exact Or.inr rfl)) dps_nil)))
    (dss_cons (ds_if (dt_not (dt_val (de_call c_is_reading hr (by omega) (fun σ => L2.passAt (takes_of rfl rfl rfl rfl) σ) (by rfl) (das_cons (dv 1) (das_cons (dv 2) (das_cons (dv 5) das_nil))))))
    (dss_one (ds_raise1 x_BadProgram hr (by omega) rfl (takes_of rfl rfl rfl rfl) (by rfl) (das_cons (dv 4) das_nil)))
    dss_nil)
    (dss_one (ds_if (dt_w (dw_and (dt_cmp od_gt (nx2 _) (dv 4) de_int (nomark _)) (dw_and1 (dt_cmp (od_leD (hu64 hr)) (nx2 _) (dv 5) (de_ix id_seq (nx2 _) (dv 3) (de_bin od_sub (nx2 _) (dv 4) de_int) (fun _ _ => rfl)) (nomark _)))))
    (dss_one (ds_raise1 x_BadProgram hr (by omega) rfl (takes_of rfl rfl rfl rfl) (by rfl) (das_cons (dv 4) das_nil)))
    dss_nil))))
    (dss_cons (ds_setF (dv 0) (dv 1) T.f_sides)
    (dss_cons (ds_setF (dv 0) (dv 2) T.f_tables)
    (dss_one (ds_setF (dv 0) (dv 3) T.f_readings))))))))⟩
theorem w_is_number (T : TX K mg cl) {f : Addr} {fd : FuncData} (D : LB.Df K mg "is_number" ["word"] s_is_number f fd) : CaD P w K mg base 1 "is_number" (F_is_number cl) :=
  DBody.ca D sc_is_number false 1 3 rfl rfl ⟨fun cdv A outer s H E hr => (dss_cons (ds_set (i := 1) sc_is_number.nd rfl (by first | exact Or.inl rfl | exact Or.inr rfl) (dv 0))
    (dss_cons (ds_if (dt_val (de_startswith (dv 0) de_str))
    (dss_one (ds_set (i := 1) sc_is_number.nd rfl (by first | exact Or.inl rfl | exact Or.inr rfl) (de_sl (al := false) (ml := (some (mC (.int 1)))) (mh := none) (dv 0) de_int trivial)))
    dss_nil)
    (dss_cons (ds_if (dt_w (dw_or (dt_not (dt_chain od_le od_le (nx2 _) (nx2 _) de_int (de_callB cd_len (nxL _) (by rfl) T.b_len boot_len (das_cons (dv 1) das_nil)) (de_g T.c_MOST_FIGURES))) (dw_or1 (dt_not (dt_val (de_callB (cd_all rfl) (nxL _) (by rfl) T.b_all boot_all (das_cons (de_lc (al := false) (own := [("sign", 2)]) rfl sc_is_number.nd (di_str (dv 1)) (blkOk_by (N := ["word", "plain", "sign"]) (sc := defScope s_is_number) (by decide +kernel)) (fun _ _ _ _ _ => (dp_nm (i := 2) sc_is_number.nd rfl (by first | exact Or.inl rfl | exact Or.inr rfl))) (fun _ _ _ _ _ => dts_nil) (fun _ _ _ _ _ => (de_cmp (od_in (hu65 hr)) (nx2 _) (dv 2) (de_g T.c_FIGURES) (by rfl))) (by decide)) das_nil)))))))
    (dss_one (ds_ret de_bl))
    dss_nil)
    (dss_one (ds_ret (de_or (de_cmp (od_ne (hu64 hr)) (nx2 _) (de_ix id_seq (nx2 _) (dv 1) de_int (fun _ _ => rfl)) de_str (nomark _)) (de_one (de_cmp (od_eq (hu64 hr)) (nx2 _) (dv 0) de_str (nomark _)))))))))⟩
theorem w_reading_of (T : TX K mg cl) {f : Addr} {fd : FuncData} (D : LB.Df K mg "reading_of" ["words"] s_reading_of f fd) : CaD P w K mg base 1 "reading_of" (F_reading_of cl) :=
  DBody.ca D sc_reading_of false 1 3 rfl rfl ⟨fun cdv A outer s H E hr => (dss_cons (ds_setLc (i := 1) (al := false) (own := [("word", 2)]) rfl sc_reading_of.nd rfl rfl (sw_true rfl rfl rfl (by decide +kernel)) (di_seq (dv 0)) (blkOk_by (N := ["words", "numbers", "word"]) (sc := defScope s_reading_of) (by decide +kernel)) (fun _ _ _ _ _ => (dp_nm (i := 2) sc_reading_of.nd rfl (by first | exact Or.inl rfl | exact Or.inr rfl))) (fun _ _ _ _ _ => dts_nil) (fun _ _ _ _ _ => (de_callTy cd_intT (nxL _) (by rfl) T.b_int boot_int (das_cons (dv 2) das_nil))) (by decide))
    (dss_one (ds_ret (de_tup (das_cons (de_ix id_seq (nx2 _) (dv 1) de_int (fun _ _ => rfl)) (das_cons (de_ix id_seq (nx2 _) (dv 1) de_int (fun _ _ => rfl)) (das_cons (de_callTy cd_tuple (nxL _) (by rfl) T.b_tuple boot_tuple (das_cons (de_sl (al := false) (ml := (some (mC (.int 2)))) (mh := none) (dv 1) de_int trivial) das_nil)) das_nil)))))))⟩
theorem w_is_line (T : TX K mg cl) {f : Addr} {fd : FuncData} (D : LB.Df K mg "is_line" ["place", "words"] s_is_line f fd) (c_is_number : CaD P w K mg base 1 "is_number" (F_is_number cl)) : CaD P w K mg base 2 "is_line" (F_is_line cl) :=
  DBody.ca D sc_is_line false 2 3 rfl rfl ⟨fun cdv A outer s H E hr => (dss_cons (ds_if (dt_cmp od_lt (nx2 _) (dv 0) (de_callB cd_len (nxL _) (by rfl) T.b_len boot_len (das_cons (de_g T.c_HEADS) das_nil)) (nomark _))
    (dss_one (ds_ret (de_and (de_cmp (od_eq (hu64 hr)) (nx2 _) (de_callB cd_len (nxL _) (by rfl) T.b_len boot_len (das_cons (dv 1) das_nil)) de_int (nomark _)) (de_and (de_cmp (od_eq (hu64 hr)) (nx2 _) (de_ix id_seq (nx2 _) (dv 1) de_int (fun _ _ => rfl)) (de_ix id_seq (nx2 _) (de_g T.c_HEADS) (dv 0) (fun _ _ => rfl)) (nomark _)) (de_one (de_call c_is_number hr (by omega) (fun σ => L2.passAt (takes_of rfl rfl rfl rfl) σ) (by rfl) (das_cons (de_ix id_seq (nx2 _) (dv 1) de_int (fun _ _ => rfl)) das_nil)))))))
    dss_nil)
    (dss_one (ds_ret (de_and (de_cmp od_ge (nx2 _) (de_callB cd_len (nxL _) (by rfl) T.b_len boot_len (das_cons (dv 1) das_nil)) de_int (nomark _)) (de_one (de_callB (cd_all rfl) (nxL _) (by rfl) T.b_all boot_all (das_cons (de_lc (al := false) (own := [("word", 2)]) rfl sc_is_line.nd (di_seq (dv 1)) (blkOk_by (N := ["place", "words", "word"]) (sc := defScope s_is_line) (by decide +kernel)) (fun _ _ _ _ _ => (dp_nm (i := 2) sc_is_line.nd rfl (by first | exact Or.inl rfl | exact Or.inr rfl))) (fun _ _ _ _ _ => dts_nil) (fun _ _ _ _ _ => (de_call c_is_number hr (by omega) (fun σ => DL.passAt0 (fun _ _ _ _ h => h) σ) (by rfl) (das_cons (dv 2) das_nil))) (by decide)) das_nil)))))))⟩
theorem w_read_program (T : TX K mg cl) {f : Addr} {fd : FuncData} (D : LB.Df K mg "read_program" ["text"] s_read_program f fd) (mk_Program : MkD P w K mg base 4 "Program" (cl 0) (F_Program___init__ cl)) (c_reading_of : CaD P w K mg base 1 "reading_of" (F_reading_of cl)) (c_is_line : CaD P w K mg base 2 "is_line" (F_is_line cl)) (x_BadText : ExM1 P w K mg base 1 "BadText" (cl 3) "line") : CaD P w K mg base 6 "read_program" (F_read_program cl) :=
  DBody.ca D sc_read_program false 1 8 rfl rfl ⟨fun cdv A outer s H E hr => (dss_cons (ds_if (dt_not (dt_val (de_callB (cd_isi T.tb) (nxL _) (by rfl) T.b_isinstance boot_isinstance (das_cons (dv 0) (das_cons (de_ty T.b_str boot_str) das_nil)))))
    (dss_one (ds_raise1 x_BadText hr (by omega) rfl (takes_of rfl rfl rfl rfl) (by rfl) (das_cons de_int das_nil)))
    dss_nil)
    (dss_cons (ds_set (i := 1) sc_read_program.nd rfl (by first | exact Or.inl rfl | exact Or.inr rfl) (de_split (al := true) (dv 0) de_str))
    (dss_cons (ds_set (i := 2) sc_read_program.nd rfl (by first | exact Or.inl rfl | exact Or.inr rfl) (de_mt0 PySem.F.slot_list_pop PySem.F.type_list_pop md_pop nxPop (dv 1)))
    (dss_cons (ds_setLc (i := 3) (al := false) (own := [("line", 4)]) rfl sc_read_program.nd rfl rfl (sw_true rfl rfl rfl (by decide +kernel)) (di_seq (dv 1)) (blkOk_by (N := ["text", "lines", "rest", "rows", "line", "place", "words", "readings"]) (sc := defScope s_read_program) (by decide +kernel)) (fun _ _ _ _ _ => (dp_nm (i := 4) sc_read_program.nd rfl (by first | exact Or.inl rfl | exact Or.inr rfl))) (fun _ _ _ _ _ => dts_nil) (fun _ _ _ _ _ => (de_split (al := false) (dv 4) de_str)) (by decide))
    (dss_cons (ds_for (passes_of rfl) rfl (di_enum (by rfl) T.b_enumerate (dv 3)) (dp_tup rfl (dps_cons (dp_nm (i := 5) sc_read_program.nd rfl (by first | exact Or.inl rfl | exact Or.inr rfl)) (dps_cons (dp_nm (i := 6) sc_read_program.nd rfl (by first | exact Or.inl rfl | exact Or.inr rfl)) dps_nil)))
    (dss_one (ds_if (dt_not (dt_val (de_call c_is_line hr (by omega) (fun σ => L2.passAt (takes_of rfl rfl rfl rfl) σ) (by rfl) (das_cons (dv 5) (das_cons (dv 6) das_nil)))))
    (dss_one (ds_raise1 x_BadText hr (by omega) rfl (takes_of rfl rfl rfl rfl) (by rfl) (das_cons (de_bin od_add (nx2 _) (dv 5) de_int) das_nil)))
    dss_nil)))
    (dss_cons (ds_if (dt_w (dw_or (dt_cmp (od_ne (hu64 hr)) (nx2 _) (dv 2) de_str (nomark _)) (dw_or1 (dt_cmp od_lt (nx2 _) (de_callB cd_len (nxL _) (by rfl) T.b_len boot_len (das_cons (dv 3) das_nil)) (de_callB cd_len (nxL _) (by rfl) T.b_len boot_len (das_cons (de_g T.c_HEADS) das_nil)) (nomark _)))))
    (dss_one (ds_raise1 x_BadText hr (by omega) rfl (takes_of rfl rfl rfl rfl) (by rfl) (das_cons (de_bin od_add (nx2 _) (de_callB cd_len (nxL _) (by rfl) T.b_len boot_len (das_cons (dv 3) das_nil)) de_int) das_nil)))
    dss_nil)
    (dss_cons (ds_setLc (i := 7) (al := false) (own := [("words", 6)]) rfl sc_read_program.nd rfl rfl (sw_true rfl rfl rfl (by decide +kernel)) (di_seq (de_sl (al := false) (ml := (some (mC (.int 2)))) (mh := none) (dv 3) de_int trivial)) (blkOk_by (N := ["text", "lines", "rest", "rows", "line", "place", "words", "readings"]) (sc := defScope s_read_program) (by decide +kernel)) (fun _ _ _ _ _ => (dp_nm (i := 6) sc_read_program.nd rfl (by first | exact Or.inl rfl | exact Or.inr rfl))) (fun _ _ _ _ _ => dts_nil) (fun _ _ _ _ _ => (de_call c_reading_of hr (by omega) (fun σ => DL.passAt0 (fun _ _ _ _ h => h) σ) (by rfl) (das_cons (dv 6) das_nil))) (by decide))
    (dss_one (ds_ret (de_make mk_Program hr (by omega) (fun σ => L2.passAt (takes_of rfl rfl rfl rfl) σ) (by rfl) (das_cons (de_callTy cd_intT (nxL _) (by rfl) T.b_int boot_int (das_cons (de_ix id_seq (nx2 _) (de_ix id_seq (nx2 _) (dv 3) de_int (fun _ _ => rfl)) de_int (fun _ _ => rfl)) das_nil)) (das_cons (de_callTy cd_intT (nxL _) (by rfl) T.b_int boot_int (das_cons (de_ix id_seq (nx2 _) (de_ix id_seq (nx2 _) (dv 3) de_int (fun _ _ => rfl)) de_int (fun _ _ => rfl)) das_nil)) (das_cons (de_callTy cd_tuple (nxL _) (by rfl) T.b_tuple boot_tuple (das_cons (dv 7) das_nil)) das_nil)))))))))))))⟩
theorem w__law_pool (T : TX K mg cl) {f : Addr} {fd : FuncData} (D : LB.Df K mg "_law_pool" ["_law_script"] s__law_pool f fd) : CaD P w K mg base 1 "_law_pool" (F__law_pool cl) :=
  DBody.ca D sc__law_pool true 1 3 rfl rfl ⟨fun cdv A outer s H E hr => (dss_cons (ds_set (i := 1) sc__law_pool.nd rfl (by first | exact Or.inl rfl | exact Or.inr rfl) (de_bin od_add (nx2 _) (de_bin od_add (nx2 _) (de_bin od_mod (nx2 _) (de_callTy cd_int (nxL _) (by rfl) T.b_int boot_int (das_cons (de_callB (cd_sum rfl) (nxL _) (by rfl) T.b_sum boot_sum (das_cons (de_sl (al := false) (ml := none) (mh := (some (mC (.int 1)))) (dv 0) trivial de_int) das_nil)) das_nil)) de_int) (de_callB cd_len (nxL _) (by rfl) T.b_len boot_len (das_cons (dv 0) das_nil))) de_int))
    (dss_cons (ds_for (passes_of rfl) rfl (di_seq (de_sl (al := false) (ml := none) (mh := (some (mC (.int 63)))) (dv 0) trivial de_int)) (dp_nm (i := 2) sc__law_pool.nd rfl (by first | exact Or.inl rfl | exact Or.inr rfl))
    (dss_one (ds_set (i := 1) sc__law_pool.nd rfl (by first | exact Or.inl rfl | exact Or.inr rfl) (de_bin od_mod (nx2 _) (de_callTy cd_int (nxL _) (by rfl) T.b_int boot_int (das_cons (de_bin od_add (nx2 _) (de_bin od_add (nx2 _) (de_bin od_mul (nx2 _) (dv 1) de_int) (de_bin od_mod (nx2 _) (de_callTy cd_int (nxL _) (by rfl) T.b_int boot_int (das_cons (dv 2) das_nil)) de_int)) de_int) das_nil)) de_int))))
    (dss_one (ds_ret (de_lst (al := true) (das_cons (dv 1) (das_cons de_int (das_cons (de_lc (al := true) (own := [("_law_cell", 2)]) rfl sc__law_pool.nd (di_seq (de_sl (al := false) (ml := none) (mh := (some (mC (.int 63)))) (dv 0) trivial de_int)) (blkOk_by (N := ["_law_script", "_law_seed", "_law_cell"]) (sc := defScope s__law_pool) (by decide +kernel)) (fun _ _ _ _ _ => (dp_nm (i := 2) sc__law_pool.nd rfl (by first | exact Or.inl rfl | exact Or.inr rfl))) (fun _ _ _ _ _ => (dts_one (dt_cmp od_ge (nx2 _) (de_callB cd_abs (nxL _) (by rfl) T.b_abs boot_abs (das_cons (dv 2) das_nil)) (de_bin od_pow (nx2 _) de_int de_int) (nomark _)))) (fun _ _ _ _ _ => (de_callB cd_abs (nxL _) (by rfl) T.b_abs boot_abs (das_cons (dv 2) das_nil))) (by decide)) das_nil))))))))⟩
theorem w__law_draw (T : TX K mg cl) {f : Addr} {fd : FuncData} (D : LB.Df K mg "_law_draw" ["_law_pool_here", "_law_many"] s__law_draw f fd) : CaD P w K mg base 1 "_law_draw" (F__law_draw cl) :=
  DBody.ca D sc__law_draw false 2 5 rfl rfl ⟨fun cdv A outer s H E hr => (dss_cons (ds_setIx (de_bin od_add (nx2 _) (de_ix id_seq (nx2 _) (dv 0) de_int (fun _ _ => rfl)) de_int) (dv 0) de_int)
    (dss_cons (ds_set (i := 2) sc__law_draw.nd rfl (by first | exact Or.inl rfl | exact Or.inr rfl) (de_ix id_seq (nx2 _) (dv 0) de_int (fun _ _ => rfl)))
    (dss_cons (ds_if (dt_cmp od_gt (nx2 _) (de_callB cd_len (nxL _) (by rfl) T.b_len boot_len (das_cons (dv 2) das_nil)) de_int (nomark _))
    (dss_cons (ds_set (i := 3) sc__law_draw.nd rfl (by first | exact Or.inl rfl | exact Or.inr rfl) (de_bin od_mod (nx2 _) (de_callTy cd_int (nxL _) (by rfl) T.b_int boot_int (das_cons (de_ix id_seq (nx2 _) (dv 2) de_int (fun _ _ => rfl)) das_nil)) (dv 1)))
    (dss_cons (ds_setIx (de_bin od_fdiv (nx2 _) (de_callTy cd_int (nxL _) (by rfl) T.b_int boot_int (das_cons (de_ix id_seq (nx2 _) (dv 2) de_int (fun _ _ => rfl)) das_nil)) (dv 1)) (dv 2) de_int)
    (dss_cons (ds_if (dt_cmp (od_eq (hu64 hr)) (nx2 _) (de_ix id_seq (nx2 _) (dv 2) de_int (fun _ _ => rfl)) de_int (nomark _))
    (dss_one (ds_expr (de_mt PySem.F.slot_list_pop PySem.F.type_list_pop md_pop nxPop (dv 2) (das_cons de_int das_nil))))
    dss_nil)
    (dss_one (ds_ret (dv 3))))))
    dss_nil)
    (dss_cons (ds_set (i := 4) sc__law_draw.nd rfl (by first | exact Or.inl rfl | exact Or.inr rfl) (de_bin od_mod (nx2 _) (de_callTy cd_int (nxL _) (by rfl) T.b_int boot_int (das_cons (de_bin od_mul (nx2 _) (de_bin od_add (nx2 _) (de_ix id_seq (nx2 _) (dv 0) de_int (fun _ _ => rfl)) (de_bin od_mul (nx2 _) de_int (de_ix id_seq (nx2 _) (dv 0) de_int (fun _ _ => rfl)))) de_int) das_nil)) de_int))
    (dss_cons (ds_set (i := 4) sc__law_draw.nd rfl (by first | exact Or.inl rfl | exact Or.inr rfl) (de_bin od_mod (nx2 _) (de_callTy cd_int (nxL _) (by rfl) T.b_int boot_int (das_cons (de_bin od_mul (nx2 _) (dv 4) (de_bin od_add (nx2 _) (de_bin od_fdiv (nx2 _) (dv 4) de_int) de_int)) das_nil)) de_int))
    (dss_cons (ds_set (i := 4) sc__law_draw.nd rfl (by first | exact Or.inl rfl | exact Or.inr rfl) (de_bin od_mod (nx2 _) (de_callTy cd_int (nxL _) (by rfl) T.b_int boot_int (das_cons (de_bin od_mul (nx2 _) (dv 4) (de_bin od_add (nx2 _) (de_bin od_fdiv (nx2 _) (dv 4) de_int) de_int)) das_nil)) de_int))
    (dss_one (ds_ret (de_bin od_mod (nx2 _) (de_callTy cd_int (nxL _) (by rfl) T.b_int boot_int (das_cons (de_bin od_fdiv (nx2 _) (dv 4) de_int) das_nil)) (dv 1))))))))))⟩
theorem w__law_some (T : TX K mg cl) {f : Addr} {fd : FuncData} (D : LB.Df K mg "_law_some" ["_law_pool_here", "_law_things"] s__law_some f fd) (c__law_draw : CaD P w K mg base 1 "_law_draw" (F__law_draw cl)) : CaD P w K mg base 2 "_law_some" (F__law_some cl) :=
  DBody.ca D sc__law_some false 2 2 rfl rfl ⟨fun cdv A outer s H E hr => (dss_one (ds_ret (de_ix id_seq (nx2 _) (dv 1) (de_call c__law_draw hr (by omega) (fun σ => L2.passAt (takes_of rfl rfl rfl rfl) σ) (by rfl) (das_cons (dv 0) (das_cons (de_callB cd_len (nxL _) (by rfl) T.b_len boot_len (das_cons (dv 1) das_nil)) das_nil))) (fun _ _ => rfl))))⟩
theorem w__law_integer (T : TX K mg cl) {f : Addr} {fd : FuncData} (D : LB.Df K mg "_law_integer" ["_law_thing"] s__law_integer f fd) : CaD P w K mg base 1 "_law_integer" (F__law_integer cl) :=
  DBody.ca D sc__law_integer false 1 1 rfl rfl ⟨fun cdv A outer s H E hr => (dss_one (ds_ret (de_and (de_callB (cd_isi T.tb) (nxL _) (by rfl) T.b_isinstance boot_isinstance (das_cons (dv 0) (das_cons (de_ty T.b_int boot_int) das_nil))) (de_one (de_not (de_callB (cd_isi T.tb) (nxL _) (by rfl) T.b_isinstance boot_isinstance (das_cons (dv 0) (das_cons (de_ty T.b_bool boot_bool) das_nil))))))))⟩
theorem w__law_with (T : TX K mg cl) {f : Addr} {fd : FuncData} (D : LB.Df K mg "_law_with" ["_law_row", "_law_place", "_law_thing"] s__law_with f fd) : CaD P w K mg base 1 "_law_with" (F__law_with cl) :=
  DBody.ca D sc__law_with false 3 3 rfl rfl ⟨fun cdv A outer s H E hr => (dss_one (ds_ret (de_callTy cd_tuple (nxL _) (by rfl) T.b_tuple boot_tuple (das_cons (de_bin od_add (nx2 _) (de_bin od_add (nx2 _) (de_callTy cd_list (nxNewL _ _) (by rfl) T.b_list boot_list (das_cons (de_sl (al := false) (ml := none) (mh := (some (mVar 1))) (dv 0) trivial (dv 1)) das_nil)) (de_lst (al := false) (das_cons (dv 2) das_nil))) (de_callTy cd_list (nxNewL _ _) (by rfl) T.b_list boot_list (das_cons (de_sl (al := false) (ml := (some (mBin (lift2 opAdd) (mVar 1) (mC (.int 1))))) (mh := none) (dv 0) (de_bin od_add (nx2 _) (dv 1) de_int) trivial) das_nil))) das_nil))))⟩
theorem w__law_step (T : TX K mg cl) {f : Addr} {fd : FuncData} (D : LB.Df K mg "_law_step" ["_law_pool_here", "_law_sides"] s__law_step f fd) (c__law_draw : CaD P w K mg base 1 "_law_draw" (F__law_draw cl)) (c__law_some : CaD P w K mg base 2 "_law_some" (F__law_some cl)) : CaD P w K mg base 3 "_law_step" (F__law_step cl) :=
  DBody.ca D sc__law_step false 2 4 rfl rfl ⟨fun cdv A outer s H E hr => (dss_cons (ds_set (i := 2) sc__law_step.nd rfl (by first | exact Or.inl rfl | exact Or.inr rfl) (de_call c__law_draw hr (by omega) (fun σ => L2.passAt (takes_of rfl rfl rfl rfl) σ) (by rfl) (das_cons (dv 0) (das_cons de_int das_nil))))
    (dss_cons (ds_if (dt_cmp (od_eq (hu64 hr)) (nx2 _) (dv 2) de_int (nomark _))
    (dss_one (ds_ret (de_bin od_mul (nx2 _) (de_tup (das_cons de_int das_nil)) (dv 1))))
    dss_nil)
    (dss_cons (ds_if (dt_cmp (od_eq (hu64 hr)) (nx2 _) (dv 2) de_int (nomark _))
    (dss_one (ds_ret (de_callTy cd_tuple (nxL _) (by rfl) T.b_tuple boot_tuple (das_cons (de_lc (al := false) (own := [("_law_k", 3)]) rfl sc__law_step.nd (di_range1 (by rfl) T.b_range (dv 1)) (blkOk_by (N := ["_law_pool_here", "_law_sides", "_law_kind", "_law_k"]) (sc := defScope s__law_step) (by decide +kernel)) (fun _ _ _ _ _ => (dp_nm (i := 3) sc__law_step.nd rfl (by first | exact Or.inl rfl | exact Or.inr rfl))) (fun _ _ _ _ _ => dts_nil) (fun _ _ _ _ _ => (de_call c__law_some hr (by omega) (fun σ => DL.passAt0 (fun _ _ _ _ h => h) σ) (by rfl) (das_cons (dv 0) (das_cons (de_lst (al := false) (das_cons (de_un od_neg (nx1 _) (de_bin od_pow (nx2 _) de_int de_int)) (das_cons (de_bin od_pow (nx2 _) de_int de_int) (das_cons (de_bin od_sub (nx2 _) de_int (de_bin od_pow (nx2 _) de_int de_int)) (das_cons de_int (das_cons de_int das_nil)))))) das_nil)))) (by decide)) das_nil))))
    dss_nil)
    (dss_one (ds_ret (de_callTy cd_tuple (nxL _) (by rfl) T.b_tuple boot_tuple (das_cons (de_lc (al := false) (own := [("_law_k", 3)]) rfl sc__law_step.nd (di_range1 (by rfl) T.b_range (dv 1)) (blkOk_by (N := ["_law_pool_here", "_law_sides", "_law_kind", "_law_k"]) (sc := defScope s__law_step) (by decide +kernel)) (fun _ _ _ _ _ => (dp_nm (i := 3) sc__law_step.nd rfl (by first | exact Or.inl rfl | exact Or.inr rfl))) (fun _ _ _ _ _ => dts_nil) (fun _ _ _ _ _ => (de_bin od_sub (nx2 _) (de_call c__law_draw hr (by omega) (fun σ => DL.passAt0 (fun _ _ _ _ h => h) σ) (by rfl) (das_cons (dv 0) (das_cons de_int das_nil))) de_int)) (by decide)) das_nil)))))))⟩
theorem w__law_parts (T : TX K mg cl) {f : Addr} {fd : FuncData} (D : LB.Df K mg "_law_parts" ["_law_pool_here"] s__law_parts f fd) (c__law_draw : CaD P w K mg base 1 "_law_draw" (F__law_draw cl)) (c__law_some : CaD P w K mg base 2 "_law_some" (F__law_some cl)) (c__law_step : CaD P w K mg base 3 "_law_step" (F__law_step cl)) : CaD P w K mg base 4 "_law_parts" (F__law_parts cl) :=
  DBody.ca D sc__law_parts false 1 5 rfl rfl ⟨fun cdv A outer s H E hr => (dss_cons (ds_set (i := 1) sc__law_parts.nd rfl (by first | exact Or.inl rfl | exact Or.inr rfl) (de_bin od_add (nx2 _) de_int (de_call c__law_draw hr (by omega) (fun σ => L2.passAt (takes_of rfl rfl rfl rfl) σ) (by rfl) (das_cons (dv 0) (das_cons de_int das_nil)))))
    (dss_cons (ds_set (i := 2) sc__law_parts.nd rfl (by first | exact Or.inl rfl | exact Or.inr rfl) (de_bin od_add (nx2 _) de_int (de_call c__law_some hr (by omega) (fun σ => L2.passAt (takes_of rfl rfl rfl rfl) σ) (by rfl) (das_cons (dv 0) (das_cons (de_lst (al := false) (das_cons de_int (das_cons de_int (das_cons de_int (das_cons de_int (das_cons de_int (das_cons de_int (das_cons de_int das_nil)))))))) das_nil)))))
    (dss_cons (ds_set (i := 3) sc__law_parts.nd rfl (by first | exact Or.inl rfl | exact Or.inr rfl) (de_lst (al := true) das_nil))
    (dss_cons (ds_for (passes_of rfl) rfl (di_range1 (by rfl) T.b_range (de_call c__law_some hr (by omega) (fun σ => L2.passAt (takes_of rfl rfl rfl rfl) σ) (by rfl) (das_cons (dv 0) (das_cons (de_lst (al := false) (das_cons de_int (das_cons de_int (das_cons de_int (das_cons de_int (das_cons de_int (das_cons de_int (das_cons de_int (das_cons de_int das_nil))))))))) das_nil)))) (dp_nm (i := 4) sc__law_parts.nd rfl (by first | exact Or.inl rfl | exact Or.inr rfl))
    (dss_one (ds_expr (de_mt PySem.F.slot_list_append PySem.F.type_list_append md_append nxAppend (dv 3) (das_cons (de_tup (das_cons (de_call c__law_draw hr (by omega) (fun σ => L2.passAt (takes_of rfl rfl rfl rfl) σ) (by rfl) (das_cons (dv 0) (das_cons (dv 2) das_nil))) (das_cons (de_call c__law_draw hr (by omega) (fun σ => L2.passAt (takes_of rfl rfl rfl rfl) σ) (by rfl) (das_cons (dv 0) (das_cons (dv 2) das_nil))) (das_cons (de_call c__law_step hr (by omega) (fun σ => L2.passAt (takes_of rfl rfl rfl rfl) σ) (by rfl) (das_cons (dv 0) (das_cons (dv 1) das_nil))) das_nil)))) das_nil)))))
    (dss_one (ds_ret (de_tup (das_cons (dv 1) (das_cons (dv 2) (das_cons (de_callTy cd_tuple (nxL _) (by rfl) T.b_tuple boot_tuple (das_cons (de_sortSet (al := false) rfl (hu64 hr) (by rfl) T.b_sorted (by rfl) T.b_set (dv 3)) das_nil)) das_nil))))))))))⟩
theorem w__law_is_reading (T : TX K mg cl) {f : Addr} {fd : FuncData} (D : LB.Df K mg "_law_is_reading" ["_law_parts_here", "_law_thing"] s__law_is_reading f fd) (c__law_integer : CaD P w K mg base 1 "_law_integer" (F__law_integer cl)) : CaD P w K mg base 2 "_law_is_reading" (F__law_is_reading cl) :=
  DBody.ca D sc__law_is_reading false 2 3 rfl rfl ⟨fun cdv A outer s H E hr => (dss_cons (ds_if (dt_w (dw_or (dt_not (dt_val (de_callB (cd_isi T.tb) (nxL _) (by rfl) T.b_isinstance boot_isinstance (das_cons (dv 1) (das_cons (de_ty T.b_tuple boot_tuple) das_nil))))) (dw_or (dt_cmp (od_ne (hu64 hr)) (nx2 _) (de_callB cd_len (nxL _) (by rfl) T.b_len boot_len (das_cons (dv 1) das_nil)) de_int (nomark _)) (dw_or (dt_not (dt_val (de_call c__law_integer hr (by omega) (fun σ => L2.passAt (takes_of rfl rfl rfl rfl) σ) (by rfl) (das_cons (de_ix id_seq (nx2 _) (dv 1) de_int (fun _ _ => rfl)) das_nil)))) (dw_or1 (dt_not (dt_val (de_call c__law_integer hr (by omega) (fun σ => L2.passAt (takes_of rfl rfl rfl rfl) σ) (by rfl) (das_cons (de_ix id_seq (nx2 _) (dv 1) de_int (fun _ _ => rfl)) das_nil)))))))))
    (dss_one (ds_ret de_bl))
    dss_nil)
    (dss_cons (ds_if (dt_w (dw_or (dt_cmp od_lt (nx2 _) (de_ix id_seq (nx2 _) (dv 1) de_int (fun _ _ => rfl)) de_int (nomark _)) (dw_or (dt_cmp (od_geD (hu64 hr)) (nx2 _) (de_ix id_seq (nx2 _) (dv 1) de_int (fun _ _ => rfl)) (de_ix id_seq (nx2 _) (dv 0) de_int (fun _ _ => rfl)) (nomark _)) (dw_or (dt_cmp od_lt (nx2 _) (de_ix id_seq (nx2 _) (dv 1) de_int (fun _ _ => rfl)) de_int (nomark _)) (dw_or1 (dt_cmp (od_geD (hu64 hr)) (nx2 _) (de_ix id_seq (nx2 _) (dv 1) de_int (fun _ _ => rfl)) (de_ix id_seq (nx2 _) (dv 0) de_int (fun _ _ => rfl)) (nomark _)))))))
    (dss_one (ds_ret de_bl))
    dss_nil)
    (dss_cons (ds_if (dt_w (dw_or (dt_not (dt_val (de_callB (cd_isi T.tb) (nxL _) (by rfl) T.b_isinstance boot_isinstance (das_cons (de_ix id_seq (nx2 _) (dv 1) de_int (fun _ _ => rfl)) (das_cons (de_ty T.b_tuple boot_tuple) das_nil))))) (dw_or1 (dt_cmp (od_ne (hu64 hr)) (nx2 _) (de_callB cd_len (nxL _) (by rfl) T.b_len boot_len (das_cons (de_ix id_seq (nx2 _) (dv 1) de_int (fun _ _ => rfl)) das_nil)) (de_ix id_seq (nx2 _) (dv 0) de_int (fun _ _ => rfl)) (nomark _)))))
    (dss_one (ds_ret de_bl))
    dss_nil)
    (dss_cons (ds_for (passes_of rfl) rfl (di_seq (de_ix id_seq (nx2 _) (dv 1) de_int (fun _ _ => rfl))) (dp_nm (i := 2) sc__law_is_reading.nd rfl (by first | exact Or.inl rfl | exact Or.inr rfl))
    (dss_one (ds_if (dt_w (dw_or (dt_not (dt_val (de_call c__law_integer hr (by omega) (fun σ => L2.passAt (takes_of rfl rfl rfl rfl) σ) (by rfl) (das_cons (dv 2) das_nil)))) (dw_or1 (dt_cmp od_gt (nx2 _) (de_callB cd_abs (nxL _) (by rfl) T.b_abs boot_abs (das_cons (dv 2) das_nil)) (de_bin od_pow (nx2 _) de_int de_int) (nomark _)))))
    (dss_one (ds_ret de_bl))
    dss_nil)))
    (dss_one (ds_ret de_bl))))))⟩
theorem w__law_text (T : TX K mg cl) {f : Addr} {fd : FuncData} (D : LB.Df K mg "_law_text" ["_law_parts_here"] s__law_text f fd) : CaD P w K mg base 1 "_law_text" (F__law_text cl) :=
  DBody.ca D sc__law_text false 1 7 rfl rfl ⟨fun cdv A outer s H E hr => (dss_cons (ds_set (i := 1) sc__law_text.nd rfl (by first | exact Or.inl rfl | exact Or.inr rfl) (de_lst (al := true) (das_cons (de_bin od_add (nx2 _) de_str (de_callTy cd_str (nxL _) (by rfl) T.b_str boot_str (das_cons (de_ix id_seq (nx2 _) (dv 0) de_int (fun _ _ => rfl)) das_nil))) (das_cons (de_bin od_add (nx2 _) de_str (de_callTy cd_str (nxL _) (by rfl) T.b_str boot_str (das_cons (de_ix id_seq (nx2 _) (dv 0) de_int (fun _ _ => rfl)) das_nil))) das_nil))))
    (dss_cons (ds_for (passes_of rfl) rfl (di_seq (de_ix id_seq (nx2 _) (dv 0) de_int (fun _ _ => rfl))) (dp_tup rfl (dps_cons (dp_nm (i := 2) sc__law_text.nd rfl (by first | exact Or.inl rfl | exact Or.inr rfl)) (dps_cons (dp_nm (i := 3) sc__law_text.nd rfl (by first | exact Or.inl rfl | exact Or.inr rfl)) (dps_cons (dp_nm (i := 4) sc__law_text.nd rfl (by first | exact Or.inl rfl | exact Or.inr rfl)) dps_nil))))
    (dss_one (ds_expr (de_mt PySem.F.slot_list_append PySem.F.type_list_append md_append nxAppend (dv 1) (das_cons (de_join de_str (de_bin od_add (nx2 _) (de_lst (al := false) (das_cons (de_callTy cd_str (nxL _) (by rfl) T.b_str boot_str (das_cons (dv 2) das_nil)) (das_cons (de_callTy cd_str (nxL _) (by rfl) T.b_str boot_str (das_cons (dv 3) das_nil)) das_nil))) (de_lc (al := false) (own := [("_law_item", 5)]) rfl sc__law_text.nd (di_seq (dv 4)) (blkOk_by (N := ["_law_parts_here", "_law_lines", "_law_reader", "_law_read", "_law_step_here", "_law_item", "_law_line"]) (sc := defScope s__law_text) (by decide +kernel)) (fun _ _ _ _ _ => (dp_nm (i := 5) sc__law_text.nd rfl (by first | exact Or.inl rfl | exact Or.inr rfl))) (fun _ _ _ _ _ => dts_nil) (fun _ _ _ _ _ => (de_callTy cd_str (nxL _) (by rfl) T.b_str boot_str (das_cons (dv 5) das_nil))) (by decide)))) das_nil)))))
    (dss_one (ds_ret (de_join de_str (de_lc (al := false) (own := [("_law_line", 6)]) rfl sc__law_text.nd (di_seq (dv 1)) (blkOk_by (N := ["_law_parts_here", "_law_lines", "_law_reader", "_law_read", "_law_step_here", "_law_item", "_law_line"]) (sc := defScope s__law_text) (by decide +kernel)) (fun _ _ _ _ _ => (dp_nm (i := 6) sc__law_text.nd rfl (by first | exact Or.inl rfl | exact Or.inr rfl))) (fun _ _ _ _ _ => dts_nil) (fun _ _ _ _ _ => (de_bin od_add (nx2 _) (dv 6) de_str)) (by decide)))))))⟩
theorem w__law_program_part (T : TX K mg cl) {f : Addr} {fd : FuncData} (D : LB.Df K mg "_law_program_part" ["_law_parts_here"] s__law_program_part f fd) (c__law_is_reading : CaD P w K mg base 2 "_law_is_reading" (F__law_is_reading cl)) : CaD P w K mg base 3 "_law_program_part" (F__law_program_part cl) :=
  DBody.ca D sc__law_program_part false 1 2 rfl rfl ⟨fun cdv A outer s H E hr => (dss_cons (ds_if (dt_w (dw_or (dt_cmp od_lt (nx2 _) (de_ix id_seq (nx2 _) (dv 0) de_int (fun _ _ => rfl)) de_int (nomark _)) (dw_or1 (dt_cmp od_gt (nx2 _) (de_ix id_seq (nx2 _) (dv 0) de_int (fun _ _ => rfl)) de_int (nomark _)))))
    (dss_one (ds_ret de_str))
    dss_nil)
    (dss_cons (ds_if (dt_w (dw_or (dt_cmp od_lt (nx2 _) (de_ix id_seq (nx2 _) (dv 0) de_int (fun _ _ => rfl)) de_int (nomark _)) (dw_or1 (dt_cmp od_gt (nx2 _) (de_ix id_seq (nx2 _) (dv 0) de_int (fun _ _ => rfl)) de_int (nomark _)))))
    (dss_one (ds_ret de_str))
    dss_nil)
    (dss_cons (ds_if (dt_cmp od_gt (nx2 _) (de_callB cd_len (nxL _) (by rfl) T.b_len boot_len (das_cons (de_ix id_seq (nx2 _) (dv 0) de_int (fun _ _ => rfl)) das_nil)) de_int (nomark _))
    (dss_one (ds_ret de_str))
    dss_nil)
    (dss_cons (ds_for (passes_of rfl) rfl (di_range1 (by rfl) T.b_range (de_callB cd_len (nxL _) (by rfl) T.b_len boot_len (das_cons (de_ix id_seq (nx2 _) (dv 0) de_int (fun _ _ => rfl)) das_nil))) (dp_nm (i := 1) sc__law_program_part.nd rfl (by first | exact Or.inl rfl | exact Or.inr rfl))
    (dss_one (ds_if (dt_w (dw_or (dt_not (dt_val (de_call c__law_is_reading hr (by omega) (fun σ => L2.passAt (takes_of rfl rfl rfl rfl) σ) (by rfl) (das_cons (dv 0) (das_cons (de_ix id_seq (nx2 _) (de_ix id_seq (nx2 _) (dv 0) de_int (fun _ _ => rfl)) (dv 1) (fun _ _ => rfl)) das_nil))))) (dw_or1 (dt_w (dw_and (dt_cmp od_gt (nx2 _) (dv 1) de_int (nomark _)) (dw_and1 (dt_cmp (od_leD (hu64 hr)) (nx2 _) (de_ix id_seq (nx2 _) (de_ix id_seq (nx2 _) (dv 0) de_int (fun _ _ => rfl)) (dv 1) (fun _ _ => rfl)) (de_ix id_seq (nx2 _) (de_ix id_seq (nx2 _) (dv 0) de_int (fun _ _ => rfl)) (de_bin od_sub (nx2 _) (dv 1) de_int) (fun _ _ => rfl)) (nomark _))))))))
    (dss_one (ds_ret (dv 1)))
    dss_nil)))
    (dss_one (ds_ret de_non))))))⟩
theorem w__law_read_told (T : TX K mg cl) {f : Addr} {fd : FuncData} (D : LB.Df K mg "_law_read_told" ["_law_text_here"] s__law_read_told f fd) (c_read_program : CaD P w K mg base 6 "read_program" (F_read_program cl)) : CaD P w K mg base 7 "_law_read_told" (F__law_read_told cl) :=
  DBody.ca D sc__law_read_told false 1 4 rfl rfl ⟨fun cdv A outer s H E hr => (dss_cons (ds_set (i := 1) sc__law_read_told.nd rfl (by first | exact Or.inl rfl | exact Or.inr rfl) (de_tup (das_cons de_str (das_cons de_non das_nil))))
    (dss_cons (ds_try rfl rfl sc__law_read_told.nd (takes_of rfl rfl rfl rfl) T.etb (fun _ _ _ tk0 => (dss_cons (ds_set (i := 2) sc__law_read_told.nd rfl (by first | exact Or.inl rfl | exact Or.inr rfl) (de_call c_read_program hr (by omega) (fun σ => L2.passAt tk0 σ) (by rfl) (das_cons (dv 0) das_nil)))
    (dss_one (ds_set (i := 1) sc__law_read_told.nd rfl (by first | exact Or.inl rfl | exact Or.inr rfl) (de_tup (das_cons de_str (das_cons (de_tup (das_cons (de_fld (dv 2) T.f_sides) (das_cons (de_fld (dv 2) T.f_tables) (das_cons (de_fld (dv 2) T.f_readings) das_nil)))) das_nil)))))))
    (.named ⟨rfl, by decide, .inl T.m_BadText⟩ (by rfl) (by rfl) (fun _ _ => (dss_one (ds_set (i := 1) sc__law_read_told.nd rfl (by first | exact Or.inl rfl | exact Or.inr rfl) (de_tup (das_cons de_str (das_cons (de_exf (dv 3) T.fx_line) das_nil)))))) (.named ⟨rfl, by decide, .inl T.m_BadProgram⟩ (by rfl) (by rfl) (fun _ _ => (dss_one (ds_set (i := 1) sc__law_read_told.nd rfl (by first | exact Or.inl rfl | exact Or.inr rfl) (de_tup (das_cons de_str (das_cons (de_exf (dv 3) T.fx_part) das_nil)))))) (.plain ⟨rfl, by decide, .inl T.m_TurnError⟩ (fun _ _ => (dss_one (ds_set (i := 1) sc__law_read_told.nd rfl (by first | exact Or.inl rfl | exact Or.inr rfl) (de_tup (das_cons de_str (das_cons de_non das_nil)))))) .nil))))
    (dss_one (ds_ret (dv 1)))))⟩
theorem w__law_bent_parts (T : TX K mg cl) {f : Addr} {fd : FuncData} (D : LB.Df K mg "_law_bent_parts" ["_law_pool_here", "_law_parts_here"] s__law_bent_parts f fd) (c__law_draw : CaD P w K mg base 1 "_law_draw" (F__law_draw cl)) (c__law_some : CaD P w K mg base 2 "_law_some" (F__law_some cl)) (c__law_with : CaD P w K mg base 1 "_law_with" (F__law_with cl)) : CaD P w K mg base 3 "_law_bent_parts" (F__law_bent_parts cl) :=
  DBody.ca D sc__law_bent_parts false 2 11 rfl rfl ⟨fun cdv A outer s H E hr => (dss_cons (ds_asg (dv 1) (dp_tup rfl (dps_cons (dp_nm (i := 2) sc__law_bent_parts.nd rfl (by first | exact Or.inl rfl | exact Or.inr rfl)) (dps_cons (dp_nm (i := 3) sc__law_bent_parts.nd rfl (by first | exact Or.inl rfl | exact Or.inr rfl)) (dps_cons (dp_nm (i := 4) sc__law_bent_parts.nd rfl (by first | exact Or.inl rfl | exact Or.inr rfl)) dps_nil)))))
    (dss_cons (ds_set (i := 5) sc__law_bent_parts.nd rfl (by first | exact Or.inl rfl | exact Or.inr rfl) (de_call c__law_draw hr (by omega) (fun σ => L2.passAt (takes_of rfl rfl rfl rfl) σ) (by rfl) (das_cons (dv 0) (das_cons de_int das_nil))))
    (dss_cons (ds_if (dt_cmp (od_eq (hu64 hr)) (nx2 _) (dv 5) de_int (nomark _))
    (dss_one (ds_ret (de_tup (das_cons (de_call c__law_some hr (by omega) (fun σ => L2.passAt (takes_of rfl rfl rfl rfl) σ) (by rfl) (das_cons (dv 0) (das_cons (de_lst (al := false) (das_cons de_int (das_cons de_int (das_cons (de_un od_neg (nx1 _) de_int) (das_cons de_int (das_cons de_int (das_cons de_int (das_cons de_int (das_cons (de_bin od_pow (nx2 _) de_int de_int) das_nil))))))))) das_nil))) (das_cons (dv 3) (das_cons (dv 4) das_nil))))))
    dss_nil)
    (dss_cons (ds_if (dt_cmp (od_eq (hu64 hr)) (nx2 _) (dv 5) de_int (nomark _))
    (dss_one (ds_ret (de_tup (das_cons (dv 2) (das_cons (de_call c__law_some hr (by omega) (fun σ => L2.passAt (takes_of rfl rfl rfl rfl) σ) (by rfl) (das_cons (dv 0) (das_cons (de_lst (al := false) (das_cons de_int (das_cons de_int (das_cons (de_un od_neg (nx1 _) de_int) (das_cons de_int (das_cons de_int (das_cons de_int (das_cons (de_bin od_pow (nx2 _) de_int de_int) das_nil)))))))) das_nil))) (das_cons (dv 4) das_nil))))))
    dss_nil)
    (dss_cons (ds_if (dt_cmp (od_eq (hu64 hr)) (nx2 _) (de_callB cd_len (nxL _) (by rfl) T.b_len boot_len (das_cons (dv 4) das_nil)) de_int (nomark _))
    (dss_one (ds_ret (de_tup (das_cons (dv 2) (das_cons (dv 3) (das_cons (de_tup (das_cons (de_tup (das_cons de_int (das_cons de_int (das_cons (de_bin od_mulZ (nx2 _) (de_tup (das_cons de_int das_nil)) (de_call c__law_draw hr (by omega) (fun σ => L2.passAt (takes_of rfl rfl rfl rfl) σ) (by rfl) (das_cons (dv 0) (das_cons de_int das_nil)))) das_nil)))) das_nil)) das_nil))))))
    dss_nil)
    (dss_cons (ds_set (i := 6) sc__law_bent_parts.nd rfl (by first | exact Or.inl rfl | exact Or.inr rfl) (de_call c__law_draw hr (by omega) (fun σ => L2.passAt (takes_of rfl rfl rfl rfl) σ) (by rfl) (das_cons (dv 0) (das_cons (de_callB cd_len (nxL _) (by rfl) T.b_len boot_len (das_cons (dv 4) das_nil)) das_nil))))
    (dss_cons (ds_asg (de_ix id_seq (nx2 _) (dv 4) (dv 6) (fun _ _ => rfl)) (dp_tup rfl (dps_cons (dp_nm (i := 7) sc__law_bent_parts.nd rfl (by first | exact Or.inl rfl | exact Or.inr rfl)) (dps_cons (dp_nm (i := 8) sc__law_bent_parts.nd rfl (by first | exact Or.inl rfl | exact Or.inr rfl)) (dps_cons (dp_nm (i := 9) sc__law_bent_parts.nd rfl (by first | exact Or.inl rfl | exact Or.inr rfl)) dps_nil)))))
    (dss_cons (ds_if (dt_cmp (od_eq (hu64 hr)) (nx2 _) (dv 5) de_int (nomark _))
    (dss_one (ds_ret (de_tup (das_cons (dv 2) (das_cons (dv 3) (das_cons (de_bin od_add (nx2 _) (de_bin od_add (nx2 _) (de_sl (al := false) (ml := none) (mh := (some (mVar 6))) (dv 4) trivial (dv 6)) (de_bin od_mulZ (nx2 _) (de_sl (al := false) (ml := (some (mVar 6))) (mh := (some (mBin (lift2 opAdd) (mVar 6) (mC (.int 1))))) (dv 4) (dv 6) (de_bin od_add (nx2 _) (dv 6) de_int)) (de_call c__law_draw hr (by omega) (fun σ => L2.passAt (takes_of rfl rfl rfl rfl) σ) (by rfl) (das_cons (dv 0) (das_cons de_int das_nil))))) (de_sl (al := false) (ml := (some (mBin (lift2 opAdd) (mVar 6) (mC (.int 1))))) (mh := none) (dv 4) (de_bin od_add (nx2 _) (dv 6) de_int) trivial)) das_nil))))))
    dss_nil)
    (dss_cons (ds_if (dt_cmp (od_eq (hu64 hr)) (nx2 _) (dv 5) de_int (nomark _))
    (dss_one (ds_ret (de_tup (das_cons (dv 2) (das_cons (dv 3) (das_cons (de_bin od_add (nx2 _) (de_sl (al := false) (ml := none) (mh := (some (mVar 6))) (dv 4) trivial (dv 6)) (de_revS (al := false) (de_sl (al := false) (ml := (some (mVar 6))) (mh := none) (dv 4) (dv 6) trivial))) das_nil))))))
    dss_nil)
    (dss_cons (ds_if (dt_cmp (od_eq (hu64 hr)) (nx2 _) (dv 5) de_int (nomark _))
    (dss_one (ds_ret (de_tup (das_cons (dv 2) (das_cons (dv 3) (das_cons (de_call c__law_with hr (by omega) (fun σ => L2.passAt (takes_of rfl rfl rfl rfl) σ) (by rfl) (das_cons (dv 4) (das_cons (dv 6) (das_cons (de_tup (das_cons (dv 7) (das_cons (dv 8) (das_cons (de_bin od_add (nx2 _) (dv 9) (de_bin od_mulZ (nx2 _) (de_tup (das_cons de_int das_nil)) (de_call c__law_draw hr (by omega) (fun σ => L2.passAt (takes_of rfl rfl rfl rfl) σ) (by rfl) (das_cons (dv 0) (das_cons de_int das_nil))))) das_nil)))) das_nil)))) das_nil))))))
    dss_nil)
    (dss_cons (ds_if (dt_cmp (od_eq (hu64 hr)) (nx2 _) (dv 5) de_int (nomark _))
    (dss_one (ds_ret (de_tup (das_cons (dv 2) (das_cons (dv 3) (das_cons (de_call c__law_with hr (by omega) (fun σ => L2.passAt (takes_of rfl rfl rfl rfl) σ) (by rfl) (das_cons (dv 4) (das_cons (dv 6) (das_cons (de_tup (das_cons (dv 7) (das_cons (dv 8) (das_cons (de_sl (al := false) (ml := (some (mC (.int 1)))) (mh := none) (dv 9) de_int trivial) das_nil)))) das_nil)))) das_nil))))))
    dss_nil)
    (dss_cons (ds_if (dt_cmp (od_eq (hu64 hr)) (nx2 _) (dv 5) de_int (nomark _))
    (dss_one (ds_ret (de_tup (das_cons (dv 2) (das_cons (dv 3) (das_cons (de_call c__law_with hr (by omega) (fun σ => L2.passAt (takes_of rfl rfl rfl rfl) σ) (by rfl) (das_cons (dv 4) (das_cons (dv 6) (das_cons (de_tup (das_cons (de_call c__law_some hr (by omega) (fun σ => L2.passAt (takes_of rfl rfl rfl rfl) σ) (by rfl) (das_cons (dv 0) (das_cons (de_lst (al := false) (das_cons (de_un od_neg (nx1 _) de_int) (das_cons (dv 3) (das_cons de_int (das_cons de_int das_nil))))) das_nil))) (das_cons (dv 8) (das_cons (dv 9) das_nil)))) das_nil)))) das_nil))))))
    dss_nil)
    (dss_cons (ds_if (dt_cmp (od_eq (hu64 hr)) (nx2 _) (dv 5) de_int (nomark _))
    (dss_one (ds_ret (de_tup (das_cons (dv 2) (das_cons (dv 3) (das_cons (de_call c__law_with hr (by omega) (fun σ => L2.passAt (takes_of rfl rfl rfl rfl) σ) (by rfl) (das_cons (dv 4) (das_cons (dv 6) (das_cons (de_tup (das_cons (dv 7) (das_cons (de_call c__law_some hr (by omega) (fun σ => L2.passAt (takes_of rfl rfl rfl rfl) σ) (by rfl) (das_cons (dv 0) (das_cons (de_lst (al := false) (das_cons (de_un od_neg (nx1 _) de_int) (das_cons (dv 3) (das_cons de_int (das_cons de_int (das_cons de_int das_nil)))))) das_nil))) (das_cons (dv 9) das_nil)))) das_nil)))) das_nil))))))
    dss_nil)
    (dss_cons (ds_set (i := 10) sc__law_bent_parts.nd rfl (by first | exact Or.inl rfl | exact Or.inr rfl) (de_call c__law_some hr (by omega) (fun σ => L2.passAt (takes_of rfl rfl rfl rfl) σ) (by rfl) (das_cons (dv 0) (das_cons (de_lst (al := false) (das_cons (de_bin od_pow (nx2 _) de_int de_int) (das_cons (de_bin od_add (nx2 _) (de_bin od_pow (nx2 _) de_int de_int) de_int) (das_cons (de_un od_neg (nx1 _) (de_bin od_pow (nx2 _) de_int de_int)) (das_cons (de_bin od_sub (nx2 _) (de_un od_neg (nx1 _) (de_bin od_pow (nx2 _) de_int de_int)) de_int) (das_cons (de_bin od_pow (nx2 _) de_int de_int) (das_cons de_int das_nil))))))) das_nil))))
    (dss_one (ds_ret (de_tup (das_cons (dv 2) (das_cons (dv 3) (das_cons (de_call c__law_with hr (by omega) (fun σ => L2.passAt (takes_of rfl rfl rfl rfl) σ) (by rfl) (das_cons (dv 4) (das_cons (dv 6) (das_cons (de_tup (das_cons (dv 7) (das_cons (dv 8) (das_cons (de_sl (al := false) (ml := (some (mUn (lift1 opNeg) (mOn (liftL opLen) (mCons (mVar 9) mNil))))) (mh := none) (de_bin od_add (nx2 _) (dv 9) (de_tup (das_cons (dv 10) das_nil))) (de_un od_neg (nx1 _) (de_callB cd_len (nxL _) (by rfl) T.b_len boot_len (das_cons (dv 9) das_nil))) trivial) das_nil)))) das_nil)))) das_nil))))))))))))))))))))⟩
theorem w_law (T : TX K mg cl) {f : Addr} {fd : FuncData} (D : LB.Df K mg "law" ["_law_script"] s_law f fd) (c__law_pool : CaD P w K mg base 1 "_law_pool" (F__law_pool cl)) (c__law_parts : CaD P w K mg base 4 "_law_parts" (F__law_parts cl)) (c__law_program_part : CaD P w K mg base 3 "_law_program_part" (F__law_program_part cl)) (c__law_read_told : CaD P w K mg base 7 "_law_read_told" (F__law_read_told cl)) (c__law_text : CaD P w K mg base 1 "_law_text" (F__law_text cl)) (c__law_draw : CaD P w K mg base 1 "_law_draw" (F__law_draw cl)) (c__law_bent_parts : CaD P w K mg base 3 "_law_bent_parts" (F__law_bent_parts cl)) : FnOk P w K mg base (L2.CX P w) 8 f fd ["_law_script"] (spD K 1 (F_law cl)) :=
  DBody.fn D.fn sc_law false 1 9 rfl rfl ⟨fun cdv A outer s H E hr => (dss_cons (ds_set (i := 1) sc_law.nd rfl (by first | exact Or.inl rfl | exact Or.inr rfl) (de_call c__law_pool hr (by omega) (fun σ => L2.passAt (takes_of rfl rfl rfl rfl) σ) (by rfl) (das_cons (dv 0) das_nil)))
    (dss_cons (ds_for (passes_of rfl) rfl (di_range1 (by rfl) T.b_range de_int) (dp_nm (i := 2) sc_law.nd rfl (by first | exact Or.inl rfl | exact Or.inr rfl))
    (dss_cons (ds_set (i := 3) sc_law.nd rfl (by first | exact Or.inl rfl | exact Or.inr rfl) (de_call c__law_parts hr (by omega) (fun σ => L2.passAt (takes_of rfl rfl rfl rfl) σ) (by rfl) (das_cons (dv 1) das_nil)))
    (dss_cons (ds_set (i := 4) sc_law.nd rfl (by first | exact Or.inl rfl | exact Or.inr rfl) (dv 3))
    (dss_cons (ds_for (passes_of rfl) rfl (di_range1 (by rfl) T.b_range (de_bin od_add (nx2 _) de_int (de_call c__law_draw hr (by omega) (fun σ => L2.passAt (takes_of rfl rfl rfl rfl) σ) (by rfl) (das_cons (dv 1) (das_cons de_int das_nil))))) (dp_nm (i := 5) sc_law.nd rfl (by first | exact Or.inl rfl | exact Or.inr rfl))
    (dss_one (ds_if (dt_w (dw_or (dt_cmp (od_eq (hu64 hr)) (nx2 _) (de_callB cd_len (nxL _) (by rfl) T.b_len boot_len (das_cons (de_ix id_seq (nx2 _) (dv 4) de_int (fun _ _ => rfl)) das_nil)) de_int (nomark _)) (dw_or1 (dt_cmp od_gt (nx2 _) (de_callB cd_len (nxL _) (by rfl) T.b_len boot_len (das_cons (de_ix id_seq (nx2 _) (de_ix id_seq (nx2 _) (de_ix id_seq (nx2 _) (dv 4) de_int (fun _ _ => rfl)) de_int (fun _ _ => rfl)) de_int (fun _ _ => rfl)) das_nil)) de_int (nomark _)))))
    (dss_one (ds_set (i := 4) sc_law.nd rfl (by first | exact Or.inl rfl | exact Or.inr rfl) (de_call c__law_bent_parts hr (by omega) (fun σ => L2.passAt (takes_of rfl rfl rfl rfl) σ) (by rfl) (das_cons (dv 1) (das_cons (dv 4) das_nil)))))
    dss_nil)))
    (dss_cons (ds_set (i := 6) sc_law.nd rfl (by first | exact Or.inl rfl | exact Or.inr rfl) (de_call c__law_program_part hr (by omega) (fun σ => L2.passAt (takes_of rfl rfl rfl rfl) σ) (by rfl) (das_cons (dv 4) das_nil)))
    (dss_cons (ds_set (i := 7) sc_law.nd rfl (by first | exact Or.inl rfl | exact Or.inr rfl) (de_tup (das_cons de_str (das_cons (dv 4) das_nil))))
    (dss_cons (ds_if (dt_cmp od_isNot (nx2 _) (dv 6) de_non (nomark _))
    (dss_one (ds_set (i := 7) sc_law.nd rfl (by first | exact Or.inl rfl | exact Or.inr rfl) (de_tup (das_cons de_str (das_cons (dv 6) das_nil)))))
    dss_nil)
    (dss_cons (ds_set (i := 8) sc_law.nd rfl (by first | exact Or.inl rfl | exact Or.inr rfl) (de_call c__law_read_told hr (by omega) (fun σ => L2.passAt (takes_of rfl rfl rfl rfl) σ) (by rfl) (das_cons (de_call c__law_text hr (by omega) (fun σ => L2.passAt (takes_of rfl rfl rfl rfl) σ) (by rfl) (das_cons (dv 4) das_nil)) das_nil)))
    (dss_cons (ds_if (dt_w (dw_or (dt_cmp (od_ne (hu64 hr)) (nx2 _) (dv 8) (dv 7) (nomark _)) (dw_or1 (dt_cmp (od_ne (hu64 hr)) (nx2 _) (de_callB (cd_isi T.tb) (nxL _) (by rfl) T.b_isinstance boot_isinstance (das_cons (de_ix id_seq (nx2 _) (dv 8) de_int (fun _ _ => rfl)) (das_cons (de_ty T.b_str boot_str) das_nil))) (de_callB (cd_isi T.tb) (nxL _) (by rfl) T.b_isinstance boot_isinstance (das_cons (de_ix id_seq (nx2 _) (dv 7) de_int (fun _ _ => rfl)) (das_cons (de_ty T.b_str boot_str) das_nil))) (nomark _)))))
    (dss_one (ds_ret de_bl))
    dss_nil)
    (dss_one (ds_if (dt_cmp (od_ne (hu64 hr)) (nx2 _) (de_call c__law_read_told hr (by omega) (fun σ => L2.passAt (takes_of rfl rfl rfl rfl) σ) (by rfl) (das_cons (de_call c__law_text hr (by omega) (fun σ => L2.passAt (takes_of rfl rfl rfl rfl) σ) (by rfl) (das_cons (dv 3) das_nil)) das_nil)) (de_tup (das_cons de_str (das_cons (dv 3) das_nil))) (nomark _))
    (dss_one (ds_ret de_bl))
    dss_nil)))))))))))
    (dss_one (ds_ret de_bl))))⟩
end LW
set_option linter.all false
set_option maxRecDepth 100000
set_option autoImplicit false
/-! Data of one kind: in, ==. -/
namespace DL
open PySem L2
/-- values of one kind, told apart by their data -/
structure Enc (α : Type) [DecidableEq α] (f : α → D) (e : α → PyData) : Prop where
  py : ∀ (x : α) (g : Nat → Option PyData), D.py g (f x) = some (e x)
  lay : ∀ x : α, (e x).canLay0 = true
  dep : ∀ x : α, (e x).depth ≤ 60
  eq : ∀ x y : α, PyData.eqv (e x) (e y) = decide (x = y)
section
variable {α : Type} [DecidableEq α] {f : α → D} {e : α → PyData}
theorem Enc.pys (E : Enc α f e) (g : Nat → Option PyData) : ∀ l : List α, D.pys g (l.map f) = some (l.map e)
  | [] => rfl
  | x :: l => by simp only [List.map_cons, D.pys, E.py, E.pys g l, Option.map_some]
theorem Enc.lays (E : Enc α f e) : ∀ l : List α, PyData.canLayAll0 (l.map e) = true
  | [] => rfl
  | x :: l => by
    show ((e x).canLay0 && PyData.canLayAll0 (l.map e)) = true
    rw [E.lay, E.lays l]
    rfl
theorem Enc.deps (E : Enc α f e) : ∀ l : List α, PyData.depthAll (l.map e) ≤ 60
  | [] => Nat.zero_le _
  | x :: l => by
    show Nat.max (e x).depth (PyData.depthAll (l.map e)) ≤ 60
    exact Nat.max_le.mpr ⟨E.dep x, E.deps l⟩
theorem Enc.shp1 (E : Enc α f e) (x : α) : shp (e x) = true := by
  show ((e x).canLay0 && decide ((e x).depth ≤ 64)) = true
  rw [E.lay, decide_eq_true (Nat.le_trans (E.dep x) (by omega))]
  rfl
theorem Enc.shpT (E : Enc α f e) (l : List α) : shp (.tuple (l.map e)) = true := by
  show (PyData.canLayAll0 (l.map e) && decide (PyData.depthAll (l.map e) + 1 ≤ 64)) = true
  rw [E.lays, decide_eq_true (by have := E.deps l; omega)]
  rfl
theorem Enc.shpL (E : Enc α f e) (l : List α) : shp (.list (l.map e)) = true := E.shpT l
theorem Enc.anyE (E : Enc α f e) (x : α) : ∀ l : List α, ((l.map e).any fun z => PyData.eqv z (e x)) = decide (x ∈ l)
  | [] => by simp
  | y :: l => by
    rw [List.map_cons, List.any_cons, E.anyE x l, E.eq]
    by_cases h : y = x
    · subst h; simp
    · simp [h, fun z => h (Eq.symm z)]
      intro z
      exact absurd z.symm h
theorem Enc.in_t (E : Enc α f e) {S : St0} (x : α) (l : List α) : opIn false (f x) (.tup (l.map f)) S = some (.bl (decide (x ∈ l))) := by
  unfold opIn pyOf
  simp only [D.py, E.py, E.pys, Option.map_some, E.shp1, E.shpT, Bool.and_self, if_true, E.anyE, Bool.false_eq_true, if_false]
theorem Enc.in_l (E : Enc α f e) {S : St0} (x : α) (l : List α) : opIn false (f x) (.lst (l.map f)) S = some (.bl (decide (x ∈ l))) := by
  unfold opIn pyOf
  simp only [D.py, E.py, E.pys, Option.map_some, E.shp1, E.shpL, Bool.and_self, if_true, E.anyE, Bool.false_eq_true, if_false]
theorem Enc.eq_ (E : Enc α f e) {S : St0} (x y : α) : opEq (f x) (f y) S = some (.bl (decide (x = y))) := by
  unfold opEq pyOf
  simp only [E.py, E.shp1, Bool.and_self, if_true, E.eq]
theorem Enc.ne_ (E : Enc α f e) {S : St0} (x y : α) : opNe (f x) (f y) S = some (.bl (!decide (x = y))) := by
  unfold opNe pyOf
  simp only [E.py, E.shp1, Bool.and_self, if_true, E.eq]
end
theorem pys_ints (g : Nat → Option PyData) : ∀ l : List Int, D.pys g (l.map .int) = some (l.map .int)
  | [] => rfl
  | i :: l => by simp only [List.map_cons, D.pys, D.py, pys_ints g l, Option.map_some]
theorem enc_rk : Enc RS.RK rkD RS.enc := by
  refine ⟨fun x g => ?_, LB.lay_k, fun x => Nat.le_trans (RS.depth_enc x) (by omega), LB.eqv_k⟩
  unfold rkD RS.enc
  simp only [D.py, D.pys, pys_ints, Option.map_some]
/-- a table and a point -/
abbrev Pr := Int × List Int
def pD (x : Pr) : D := .tup [.int x.1, .tup (x.2.map .int)]
def pE (x : Pr) : PyData := .tuple [.int x.1, .tuple (x.2.map .int)]
theorem enc_pr : Enc Pr pD pE := by
  refine ⟨fun x g => ?_, fun x => ?_, fun x => ?_, fun x y => ?_⟩
  · unfold pD pE
    simp only [D.py, D.pys, pys_ints, Option.map_some]
  · show (true && (PyData.canLayAll0 (x.2.map PyData.int) && true)) = true
    rw [LB.lay_is]
    rfl
  · unfold pE
    simp [PyData.depth, PyData.depthAll, PySem.W.depth_ints]
  · unfold pE
    simp only [PyData.eqv, PyData.eqvAll, LB.eqv_is, Bool.and_true]
    obtain ⟨a, b⟩ := x
    obtain ⟨c, d⟩ := y
    by_cases h1 : a = c <;> by_cases h2 : b = d <;> simp [h1, h2]
end DL
set_option Elab.async false
set_option linter.all false
set_option maxRecDepth 100000
set_option maxHeartbeats 1000000
set_option autoImplicit false
/-! A tuple known to hold no names of its own (D.tupF): made by tuple(list), thawed where it is only looked at, asked for the place of a thing. -/
namespace LB
open PySem PySem.Spec PyProof.Rows L2 RS
variable {X : Cx}
/-- t.index(x): the first place of an equal one, data of any depth -/
def rIndexDT (K : PySem.W.Frag) : V → List V → Hp → VK → Prop := fun x xs H Q => ∃ (a : Addr) (y : V) (d : PyData) (ds : List PyData) (j : Nat) (z : PyData), x = V.ref a ∧ xs = [y] ∧ Dp K H (V.ref a) (.tuple ds) ∧ Dp K H y d ∧
  SeqAt.shaped (.tuple ds) = true ∧ SeqAt.shaped d = true ∧ ds[j]? = some z ∧ PyData.eqv z d = true ∧ (∀ (m : Nat) (z' : PyData), m < j → ds[m]? = some z' → PyData.eqv z' d = false) ∧ Q (.int (j : Nat)) H
theorem mt_indexDT (hu : X.A.units + 65 < cLine) : MtR X "tuple.index" (rIndexDT X.K) := by
  intro pins s σ H x xs v us Q I rx rxs h
  obtain ⟨a, y, d, ds, j, z, rfl, rfl, hl, hy, sl, sd, hz, hzj, hno, q⟩ := h
  cases rx
  cases rxs with
  | cons ry rt =>
    rename_i uy ut
    cases rt
    obtain ⟨bs, r1⟩ := Dp.reads I d y uy hy ry
    have hxs : PyData.canLayAll0 ds = true := SeqAt.canLay_of_shaped sl
    have hroom : X.A.units + 1 + min (PyData.depthAll ds) d.depth < cLine := room_in_shaped sd hu
    cases hl with
    | tup hs ha =>
      obtain ⟨its, rv, ⟨⟨cls, dd, data, sls⟩, ho, hc, n, hdt⟩, hlen⟩ := I.tuple hs
      simp only at hc hdt
      subst hc hdt
      obtain ⟨as, h4⟩ := Dp.readsAll I ds _ its ha rv
      have hn : its.length = ds.length := SeqAt.ReadsAll.length ds its as h4
      have hmap : its.map (SeqAt.readOf s.heap) = ds := SeqAt.readsAll_map ds its as hxs h4
      obtain ⟨hjd, _⟩ := List.getElem?_eq_some_iff.mp hz
      have hjl : j < its.length := by omega
      have hj : j < its.toArray.size := by simpa using hjl
      have at_ : ∀ (m : Nat) (hm : m < its.toArray.size) (z' : PyData), ds[m]? = some z' → SeqAt.readOf s.heap its.toArray[m] = z' := by
        intro m hm z' hz'
        have hml : m < its.length := by simpa using hm
        rw [← hmap, List.getElem?_map, List.getElem?_eq_getElem hml] at hz'
        have e1 : SeqAt.readOf s.heap its[m] = z' := Option.some.inj (show some (SeqAt.readOf s.heap its[m]) = some z' from hz')
        simpa using e1
      refine call_meets PySem.F.slot_tuple_index ⟨_, ho, rfl⟩ PySem.F.entry_tuple_index (PySem.F.args_tuple_index_2 _ _)
        (TI.tuple_indexAt a its.toArray n dd sls uy (fun u => PyData.eqv (SeqAt.readOf s.heap u) d) j hj ?_ ?_) ⟨ho, SeqAt.items_eqAt (vs := its.toArray) (show ReadsAll s.heap its.toArray.toList ds as from h4) r1 hxs (SeqAt.canLay_of_shaped sd) hroom, ?_⟩
      · show PyData.eqv (SeqAt.readOf s.heap its.toArray[j]) d = true
        rw [at_ j hj z hz]
        exact hzj
      · intro m hm hmj
        have hmd : m < ds.length := by omega
        have hz' : ds[m]? = some ds[m] := List.getElem?_eq_getElem hmd
        show PyData.eqv (SeqAt.readOf s.heap its.toArray[m]) d = false
        rw [at_ m hm _ hz']
        exact hno m _ hmj hz'
      · exact ⟨.int (j : Nat), H, I.tok _, ⟨_, rfl⟩, q⟩
/-- a tuple of written items, known to hold no names of its own -/
def tTupF (t : TA) : TE := fun σ H Q => t σ H fun xs H1 => xs.length ≤ sizeLine ∧ ∀ p o, o.dict = none → H1 p = none → Q (.ref p) (upd H1 p (.frz o (.tup xs)))
theorem pe_tupF {es : List Expr} {pos : Pos} {t : TA} {x1} (h : PA X es t) : PE X (.Tuple es x1 pos) (tTupF t) := by
  refine ⟨fun pins s σ H Q I hq => ?_⟩
  refine wpAny_Tuple_spliced (thn (h.run pos pins s σ H _ I hq) fun us s1 ⟨xs, H1, I1, r, z, q⟩ => ⟨by rw [← r.length]; exact z, ?_⟩)
  have hf : H1 s1.heap.objs.size = none := I1.hok.fresh (Nat.le_refl _)
  have hz : us.length ≤ sizeLine := by rw [← r.length]; exact z
  refine ⟨.ref s1.heap.objs.size, upd H1 s1.heap.objs.size (.frz { cls := .type "tuple", data := .seq us.toArray } (.tup xs)), I1.laid (t' := s1.toks) (fun b u e => Heap.get?_push_of_some _ e) (Nat.le_refl _) ?_, rfl, q _ _ rfl hf⟩
  exact ⟨Heap.get?_push_size _ rfl, z, us, r, IsTup.new _ _⟩
end LB
namespace DL
open PySem PySem.Spec L2 _root_.RS
open PyProof.Rows hiding St
variable {X : Cx} {W : WX}
/-- only looked at -/
def thaw : D → D
  | .tupF _ xs => .tup xs
  | d => d
theorem thaw_rv {K : PySem.W.Frag} {θ : Ad} {H : Hp} {v : V} {d : D} (h : RV K θ H v d) : RV K θ H v (thaw d) := by
  cases d with
  | tupF b xs => cases h with | tupF h1 _ h3 => exact .tup h1 h3
  | _ => exact h
def mThaw (m : ME) : ME := fun ρ S => (m ρ S).bind fun d S1 => .val (thaw d) S1
theorem de_thaw {e : Expr} {m : ME} (h : DE X W e m) : DE X W e (mThaw m) :=
  PE.imp h fun σ H Q ⟨θ, ρ, S, n, s, p⟩ => ⟨θ, ρ, S, n, s, PostV.binde s p fun v H1 θ1 S1 d u s1 rv p1 => p1.here s1 (thaw_rv rv)⟩
/-- tuple(xs) of a list -/
def opTupF : OL
  | [d], S => (lItems S d).map (.tupF true)
  | _, _ => none
theorem cd_tupF : CallD X (.type "tuple") (liftL opTupF) := by
  refine upL LB.call_tupF fun θ S H xs ds g Q s r h p => ?_
  unfold opTupF at h
  split at h
  · cases r with
    | cons r1 r =>
      cases r
      rename_i d _
      cases e : lItems S d with
      | none => rw [e] at h; cases h
      | some ds =>
        rw [e] at h; cases h
        obtain ⟨a, vs, rfl, rv, k⟩ := lItems_at s r1 e
        exact ⟨a, vs, rfl, k, fun l o hd hl => p.new s hl (.tupF (.inl (.inr ⟨o, upd_same⟩)) (fun _ => ⟨o, upd_same, hd⟩) (rv.laid s hl))⟩
  · cases h
/-- (a, b, ..) -/
def mTupF (ms : MA) : ME := fun ρ S => (ms ρ S).bind fun ds S1 => if ds.length ≤ 1000 then .val (.tupF true ds) S1 else .stuck
theorem de_tupF {es : List Expr} {pos : Pos} {ms : MA} {x1} (h : DAs X W es ms) : DE X W (.Tuple es x1 pos) (mTupF ms) := by
  refine PE.imp (LB.pe_tupF h) fun σ H Q ⟨θ, ρ, S, n, s, p⟩ => ⟨θ, ρ, S, n, s, PostA.bind s p fun vs H1 θ1 S1 ds u s1 rs p1 => ?_⟩
  split at p1
  · rename_i l
    exact ⟨by rw [rs.len]; exact Nat.le_trans l line1000, fun q o hd hq => p1.new s1 hq (.tupF (.inl (.inr ⟨o, upd_same⟩)) (fun _ => ⟨o, upd_same, hd⟩) (rs.laid s1 hq))⟩
  · exact p1.elim
/-- t.index(x) -/
def opIndexT (x : D) (ds : List D) (S : St0) : R := match pyOf S (thaw x), ds with
  | some (.tuple bs), [d] => match pyOf S d with
    | some a => if shp a && shp (.tuple bs) then match bs.findIdx? fun z => PyData.eqv z a with
      | some j => .val (.int (j : Nat)) S
      | none => .stuck
      else .stuck
    | none => .stuck
  | _, _ => .stuck
theorem nxIndexT : ∀ x ds S, NoX (opIndexT x ds S) := by
  intro x ds S C fs S' h; unfold opIndexT at h; split at h <;> (try split at h) <;> (try split at h) <;> (try split at h) <;> cases h
theorem md_indexT (hu : X.A.units + 65 < cLine) : MtD X "tuple.index" opIndexT := by
  intro pins s σ H x xs v us Q I rx rxs hh
  obtain ⟨θ, S, d, ds, st, hx, hs, p⟩ := hh
  refine LB.mt_indexDT hu pins s σ H x xs v us Q I rx rxs ?_
  unfold opIndexT at p
  split at p
  · rename_i bs d' e
    cases hs with
    | cons r1 r =>
      cases r
      split at p
      · rename_i a e2
        split at p
        · rename_i c
          simp only [shp, Bool.and_eq_true] at c
          split at p
          · rename_i j ej
            rw [List.findIdx?_eq_some_iff_getElem] at ej
            obtain ⟨l, h1, h2⟩ := ej
            have hD := py_at st (thaw_rv hx) e
            cases x with
            | ref b =>
              exact ⟨b, _, a, bs, j, bs[j], rfl, rfl, hD, py_at st r1 e2, c.2, c.1, List.getElem?_eq_getElem l, h1, fun m z hm hz => by
                have lm : m < bs.length := by omega
                rw [List.getElem?_eq_getElem lm] at hz
                cases hz
                simpa using h2 m hm, p.here st (.int _)⟩
            | _ => cases hD
          · exact p.elim
        · exact p.elim
      · exact p.elim
  · exact p.elim
/-- x.m(..), x a tuple known to hold no names of its own -/
def mMtF (o : D → List D → St0 → R) (m : ME) (ms : MA) : ME := fun ρ S => (m ρ S).bind fun x S1 => match x with
  | .tupF true _ => (ms ρ S1).bind fun ds S2 => o x ds S2
  | _ => .stuck
theorem de_mtF {op : D → List D → St0 → R} {name : Str} {id : String} {o e : Expr} {es : List Expr} {m : ME} {ms : MA} {apos cpos : Pos} (slot : Slot "tuple" name id) (hty : typeOf (.builtin id) = pure (.type "method_descriptor")) (hm : MtD X id op) (hx : ∀ x ds S, NoX (op x ds S)) (ho : DE X W o m) (ha : DAs X W (e :: es) ms)
    (hbase : attributeBase o name X.env (eval o X.env) = eval o X.env := by rfl)
    (hfew : ((backTo cpos (starEach (e :: es) X.env)).all (fun x => !x.1) && (backToKw cpos (keywordEach [] X.env)).all (fun x => x.1.isSome)
      && decide ((e :: es).length + ([] : List Keyword).length + (if ([] : List Keyword).isEmpty then 0 else 1) < 30)) = true := by rfl)
    (hline : (apos.endLine == cpos.line) = true := by rfl) (hs : starEach (e :: es) X.env = (false, eval e X.env) :: starEach es X.env := by rfl) (hplain : (backTo cpos (starEach es X.env)).any (·.1) = false := by rfl) :
    DE X W (.Call (.Attribute o name apos) (e :: es) [] cpos) (mMtF op m ms) := by
  refine PE.imp (LB.pe_bmT PySem.F.plainAttrs_tuple slot hty hm ho ha hbase hfew hline hs hplain) fun σ H Q ⟨θ, ρ, S, n, s, p⟩ => ⟨θ, ρ, S, n, s, PostV.binde s p fun x H1 θ1 S1 d u s1 rx p1 => ?_⟩
  split at p1
  · rename_i ds
    cases rx with
    | tupF h1 h2 h3 =>
      obtain ⟨o', ho', hd'⟩ := h2 rfl
      exact ⟨⟨_, o', _, rfl, ho', hd'⟩, θ1, ρ, S1, u.ren n, s1, PostA.bind s1 p1 fun vs H2 θ2 S2 ds' u2 s2 rs p2 => ⟨θ2, S2, _, ds', s2, u2.rv (.tupF h1 h2 h3), rs, p2.nox (hx _ _ _)⟩⟩
  · exact p1.elim
end DL
set_option linter.all false
set_option maxRecDepth 100000
set_option autoImplicit false
/-! What a text comes to, told from its end: weakest promises of the data layer's combinators, and the tactic that walks them. -/
namespace DL
open PySem L2
abbrev XP := Addr → List (Str × D) → St0 → Prop
def noX : XP := fun _ _ _ => False
inductive R.wp : R → XP → (D → St0 → Prop) → Prop
  | val {X : XP} {Q : D → St0 → Prop} {d : D} {S : St0} : Q d S → R.wp (.val d S) X Q
  | exc {X : XP} {Q : D → St0 → Prop} {C : Addr} {fs : List (Str × D)} {S : St0} : X C fs S → R.wp (.exc C fs S) X Q
inductive RA.wp : RA → XP → (List D → St0 → Prop) → Prop
  | vals {X : XP} {Q : List D → St0 → Prop} {d : List D} {S : St0} : Q d S → RA.wp (.vals d S) X Q
  | exc {X : XP} {Q : List D → St0 → Prop} {C : Addr} {fs : List (Str × D)} {S : St0} : X C fs S → RA.wp (.exc C fs S) X Q
inductive RI.wp : RI → XP → (List (Nat × List D) → List D → St0 → Prop) → Prop
  | it {X : XP} {Q : List (Nat × List D) → List D → St0 → Prop} {s : List (Nat × List D)} {d : List D} {S : St0} : Q s d S → RI.wp (.it s d S) X Q
  | exc {X : XP} {Q : List (Nat × List D) → List D → St0 → Prop} {C : Addr} {fs : List (Str × D)} {S : St0} : X C fs S → RI.wp (.exc C fs S) X Q
abbrev EP := Env0 → St0 → Prop
abbrev DP_ := D → St0 → Prop
/-- going on, handing back, breaking, continuing, raising -/
structure SK where
  nx : EP
  rt : DP_
  bk : EP
  ct : EP
  ex : XP
inductive RS.wp : RS → SK → Prop
  | nx {N : EP} {T : DP_} {B C : EP} {X : XP} {ρ : Env0} {S : St0} : N ρ S → RS.wp (.nx ρ S) ⟨N, T, B, C, X⟩
  | rt {N : EP} {T : DP_} {B C : EP} {X : XP} {d : D} {S : St0} : T d S → RS.wp (.rt d S) ⟨N, T, B, C, X⟩
  | bk {N : EP} {T : DP_} {B C : EP} {X : XP} {ρ : Env0} {S : St0} : B ρ S → RS.wp (.bk ρ S) ⟨N, T, B, C, X⟩
  | ct {N : EP} {T : DP_} {B C : EP} {X : XP} {ρ : Env0} {S : St0} : C ρ S → RS.wp (.ct ρ S) ⟨N, T, B, C, X⟩
  | exc {N : EP} {T : DP_} {B C : EP} {X : XP} {K : Addr} {fs : List (Str × D)} {ρ : Env0} {S : St0} : X K fs S → RS.wp (.exc K fs ρ S) ⟨N, T, B, C, X⟩
section
variable {X X' : XP} {Q Q' : D → St0 → Prop} {QA : List D → St0 → Prop} {N N' B B' C C' : EP} {T T' : DP_} {r : R} {ra : RA} {ρ : Env0} {S S1 : St0} {d x y z : D} {ds : List D} {i j : Nat} {a b c m : ME} {ms : MA} {s t : MS} {o1 : O1} {o2 o2' : O2} {oL : OL} {g : Pat}
theorem R.wp_iff {r : R} (h : r.wp X Q) : (∃ d S, r = .val d S ∧ Q d S) ∨ ∃ C fs S, r = .exc C fs S ∧ X C fs S := by
  cases h with
  | val h => exact .inl ⟨_, _, rfl, h⟩
  | exc h => exact .inr ⟨_, _, _, rfl, h⟩
theorem R.wp_val {r : R} (h : r.wp noX Q) : ∃ d S, r = .val d S ∧ Q d S := by
  cases h with
  | val h => exact ⟨_, _, rfl, h⟩
  | exc h => exact h.elim
theorem R.wp_mono {r : R} (h : r.wp X Q) (q : ∀ d S, Q d S → Q' d S) (x : ∀ C fs S, X C fs S → X' C fs S) : r.wp X' Q' := by
  cases h with
  | val h => exact .val (q _ _ h)
  | exc h => exact .exc (x _ _ _ h)
/-- .. of what raises nothing -/
theorem R.wp_mono0 {r : R} (h : r.wp noX Q) (q : ∀ d S, Q d S → Q' d S) : r.wp X Q' := R.wp_mono h q fun _ _ _ h => h.elim
theorem wp_eq {r : R} (h : r = .val d S) (q : Q d S) : r.wp X Q := by rw [h]; exact .val q
theorem R.wp_exc {r : R} {C : Addr} {fs : List (Str × D)} (h : r = .exc C fs S) (q : X C fs S) : r.wp X Q := by rw [h]; exact .exc q
theorem bind_wp {r : R} {k : D → St0 → R} (h : r.wp X fun d S => (k d S).wp X Q) : (r.bind k).wp X Q := by
  cases h with
  | val h => exact h
  | exc h => exact .exc h
theorem wp_var (h : ρ[i]? = some (some d)) (q : Q d S) : (mVar i ρ S).wp X Q := by unfold mVar; rw [h]; exact .val q
theorem wp_isvar (h : (mVar i ρ S).wp X Q) : (mVar i ρ S).wp X Q := h
theorem wp_c (q : Q d S) : (mC d ρ S).wp X Q := .val q
theorem wp_un {o : D → St0 → R} (h : (a ρ S).wp X fun x S1 => (o x S1).wp X Q) : (mUn o a ρ S).wp X Q := bind_wp h
theorem wp_bin {o : D → D → St0 → R} (h : (a ρ S).wp X fun x S1 => (b ρ S1).wp X fun y S2 => (o x y S2).wp X Q) : (mBin o a b ρ S).wp X Q :=
  bind_wp (R.wp_mono h (fun _ _ h => bind_wp h) fun _ _ _ h => h)
theorem wpa_nil (q : QA [] S) : (mNil ρ S).wp X QA := .vals q
theorem wpa_cons (h : (a ρ S).wp X fun x S1 => (ms ρ S1).wp X fun xs S2 => QA (x :: xs) S2) : (mCons a ms ρ S).wp X QA := by
  unfold mCons
  generalize a ρ S = r at h
  cases h with
  | val h =>
    show RA.wp ((ms ρ _).map _) X QA
    rename_i d S1
    generalize ms ρ S1 = r at h ⊢
    cases h with
    | vals h => exact .vals h
    | exc h => exact .exc h
  | exc h => exact .exc h
theorem wp_on {o : List D → St0 → R} (h : (ms ρ S).wp X fun xs S1 => (o xs S1).wp X Q) : (mOn o ms ρ S).wp X Q := by
  unfold mOn
  generalize ms ρ S = r at h
  cases h with
  | vals h => exact h
  | exc h => exact .exc h
theorem wp_test {r : R} {k : Bool → St0 → R} (h : r.wp X fun x S1 => ∃ t, x = .bl t ∧ (k t S1).wp X Q) : (r.test k).wp X Q := by
  cases h with
  | val h => obtain ⟨t, rfl, h⟩ := h; exact h
  | exc h => exact .exc h
/-- a test's two ways -/
inductive way : Bool → Prop → Prop → Prop
  | t {A B : Prop} : A → way true A B
  | f {A B : Prop} : B → way false A B
theorem way_i {t : Bool} {A B : Prop} (h : t = true → A) (h2 : t = false → B) : way t A B := by
  cases t
  · exact .f (h2 rfl)
  · exact .t (h rfl)
theorem way_t {A B : Prop} (h : A) : way true A B := .t h
theorem way_f {A B : Prop} (h : B) : way false A B := .f h
theorem way_d {p : Prop} [Decidable p] {A B : Prop} (h : p → A) (h2 : ¬ p → B) : way (decide p) A B := way_i (fun z => h (of_decide_eq_true z)) fun z => h2 (of_decide_eq_false z)
theorem way_nd {p : Prop} [Decidable p] {A B : Prop} (h : p → B) (h2 : ¬ p → A) : way (!decide p) A B := way_i (fun z => h2 (of_decide_eq_false (by simpa using z))) fun z => h (of_decide_eq_true (by simpa using z))
theorem way_dt {p : Prop} [Decidable p] {A B : Prop} (h : p) (h2 : A) : way (decide p) A B := way_d (fun _ => h2) fun z => absurd h z
theorem way_df {p : Prop} [Decidable p] {A B : Prop} (h : ¬ p) (h2 : B) : way (decide p) A B := way_d (fun z => absurd z h) fun _ => h2
theorem way_nt {p : Prop} [Decidable p] {A B : Prop} (h : ¬ p) (h2 : A) : way (!decide p) A B := way_nd (fun z => absurd z h) fun _ => h2
theorem way_nf {p : Prop} [Decidable p] {A B : Prop} (h : p) (h2 : B) : way (!decide p) A B := way_nd (fun _ => h2) fun z => absurd h z
theorem way_nT {A B : Prop} (h : B) : way (!true) A B := .f h
theorem way_nF {A B : Prop} (h : A) : way (!false) A B := .t h
theorem way_g {t : Bool} {A B : Prop} {P : Prop} (w : way t A B) (h : A → P) (h2 : B → P) : P := by
  cases w with
  | t a => exact h a
  | f b => exact h2 b
theorem wp_and (h : (a ρ S).wp X fun x S1 => ∃ t, x = .bl t ∧ way t ((b ρ S1).wp X Q) (Q (.bl false) S1)) : (mAnd a b ρ S).wp X Q :=
  wp_test (R.wp_mono h (fun _ _ ⟨t, e, h⟩ => ⟨t, e, by cases h with | t h => exact h | f h => exact .val h⟩) fun _ _ _ h => h)
theorem wp_or (h : (a ρ S).wp X fun x S1 => ∃ t, x = .bl t ∧ way t (Q (.bl true) S1) ((b ρ S1).wp X Q)) : (mOr a b ρ S).wp X Q :=
  wp_test (R.wp_mono h (fun _ _ ⟨t, e, h⟩ => ⟨t, e, by cases h with | t h => exact .val h | f h => exact h⟩) fun _ _ _ h => h)
theorem wp_not (h : (a ρ S).wp X fun x S1 => ∃ t, x = .bl t ∧ Q (.bl (!t)) S1) : (mNot a ρ S).wp X Q :=
  wp_test (R.wp_mono h (fun _ _ ⟨t, e, h⟩ => ⟨t, e, .val h⟩) fun _ _ _ h => h)
theorem wp_ifE (h : (c ρ S).wp X fun x S1 => ∃ t, x = .bl t ∧ way t ((a ρ S1).wp X Q) ((b ρ S1).wp X Q)) : (mIfE c a b ρ S).wp X Q :=
  wp_test (R.wp_mono h (fun _ _ ⟨t, e, h⟩ => ⟨t, e, by cases h with | t h => exact h | f h => exact h⟩) fun _ _ _ h => h)
theorem wp_l1 (h : o1 x S = some z) (q : Q z S) : (lift1 o1 x S).wp X Q := by unfold lift1; rw [h]; exact .val q
theorem wp_l2 (h : o2 x y S = some z) (q : Q z S) : (lift2 o2 x y S).wp X Q := by unfold lift2; rw [h]; exact .val q
theorem wp_lL (h : oL ds S = some z) (q : Q z S) : (liftL oL ds S).wp X Q := by unfold liftL; rw [h]; exact .val q
theorem wp_isl1 (h : (lift1 o1 x S).wp X Q) : (lift1 o1 x S).wp X Q := h
theorem wp_isl2 (h : (lift2 o2 x y S).wp X Q) : (lift2 o2 x y S).wp X Q := h
theorem wp_islL (h : (liftL oL ds S).wp X Q) : (liftL oL ds S).wp X Q := h
theorem wp_isIx (h : (lift2 opIx x y S).wp X Q) : (lift2 opIx x y S).wp X Q := h
theorem wp_finT (h : Q (.ref S.length) (S ++ [.lst ds])) : (finL true ds S).wp X Q := .val h
theorem wp_finF (h : Q (.lst ds) S) : (finL false ds S).wp X Q := .val h
theorem wp_tup (h : (ms ρ S).wp X fun xs S1 => xs.length ≤ 1000 ∧ Q (.tup xs) S1) : (mTup ms ρ S).wp X Q := by
  unfold mTup
  generalize ms ρ S = r at h
  cases h with
  | vals h => rename_i xs S1; show R.wp (if xs.length ≤ 1000 then _ else _) X Q; rw [if_pos h.1]; exact .val h.2
  | exc h => exact .exc h
theorem wp_lst {al : Bool} (h : (ms ρ S).wp X fun xs S1 => xs.length ≤ 1000 ∧ (finL al xs S1).wp X Q) : (mLst al ms ρ S).wp X Q := by
  unfold mLst
  generalize ms ρ S = r at h
  cases h with
  | vals h => rename_i xs S1; show R.wp (if xs.length ≤ 1000 then _ else _) X Q; rw [if_pos h.1]; exact h.2
  | exc h => exact .exc h
theorem wp_mt {o : D → List D → St0 → R} (h : (m ρ S).wp X fun x S1 => (∃ xs, lItems S1 x = some xs) ∧ (ms ρ S1).wp X fun ds S2 => (o x ds S2).wp X Q) : (mMt o m ms ρ S).wp X Q := by
  unfold mMt
  refine bind_wp (R.wp_mono h (fun x S1 ⟨⟨xs, e⟩, h⟩ => ?_) fun _ _ _ h => h)
  rw [e]
  show R.wp ((ms ρ S1).bind _) X Q
  generalize ms ρ S1 = r at h ⊢
  cases h with
  | vals h => exact h
  | exc h => exact .exc h
theorem wp_chain {o o' : D → D → St0 → R} (h : (a ρ S).wp X fun x S1 => (b ρ S1).wp X fun y S2 => (o x y S2).wp X fun w S3 => ∃ t, w = .bl t ∧ way t ((c ρ S3).wp X fun z S4 => (o' y z S4).wp X Q) (Q (.bl false) S3)) : (mChain o o' a b c ρ S).wp X Q :=
  bind_wp (R.wp_mono h (fun _ _ h => bind_wp (R.wp_mono h (fun _ _ h => wp_test (R.wp_mono h (fun _ _ ⟨t, e, h⟩ => ⟨t, e, by cases h with | t h => exact bind_wp h | f h => exact .val h⟩) fun _ _ _ h => h)) fun _ _ _ h => h)) fun _ _ _ h => h)
/-- what a field holds -/
def fldAt (cs : List Addr) (f : Str) (x : D) (S : St0) (T : D → Prop) : Prop := ∃ ns xs v, insOf cs S x = some (ns, xs) ∧ lookF f ns xs = some v ∧ T v
theorem wp_fld {cs : List Addr} {f : Str} (h : (m ρ S).wp X fun x S1 => fldAt cs f x S1 fun v => Q v S1) : (mFld cs f m ρ S).wp X Q :=
  wp_un (R.wp_mono h (fun _ _ ⟨ns, xs, v, e1, e2, q⟩ => wp_l1 (z := v) (by simp only [e1, e2]) q) fun _ _ _ h => h)
theorem RS.wp_mono {r : RS} (h : r.wp ⟨N, T, B, C, X⟩) (hn : ∀ ρ S, N ρ S → N' ρ S) (hr : ∀ d S, T d S → T' d S) (hb : ∀ ρ S, B ρ S → B' ρ S) (hc : ∀ ρ S, C ρ S → C' ρ S) (hx : ∀ C fs S, X C fs S → X' C fs S) : r.wp ⟨N', T', B', C', X'⟩ := by
  cases h with
  | nx h => exact .nx (hn _ _ h)
  | rt h => exact .rt (hr _ _ h)
  | bk h => exact .bk (hb _ _ h)
  | ct h => exact .ct (hc _ _ h)
  | exc h => exact .exc (hx _ _ _ h)
def noN : EP := fun _ _ => False
def noT : DP_ := fun _ _ => False
/-- only going on -/
abbrev nxK (N : EP) : SK := ⟨N, noT, noN, noN, noX⟩
/-- only handing back -/
abbrev rtK (T : DP_) : SK := ⟨noN, T, noN, noN, noX⟩
theorem RS.wp_rt {r : RS} (h : r.wp (rtK T)) (hr : ∀ d S, T d S → T' d S) : r.wp ⟨N', T', B', C', X'⟩ := RS.wp_mono h (fun _ _ h => h.elim) hr (fun _ _ h => h.elim) (fun _ _ h => h.elim) fun _ _ _ h => h.elim
theorem RS.wp_nx {r : RS} (h : r.wp (nxK N)) (hr : ∀ d S, N d S → N' d S) : r.wp ⟨N', T', B', C', X'⟩ := RS.wp_mono h hr (fun _ _ h => h.elim) (fun _ _ h => h.elim) (fun _ _ h => h.elim) fun _ _ _ h => h.elim
/-! ### statements -/
theorem wps_next (h : N ρ S) : (mNext ρ S).wp ⟨N, T, B, C, X⟩ := .nx h
theorem wps_break (h : B ρ S) : (mBreak ρ S).wp ⟨N, T, B, C, X⟩ := .bk h
theorem wps_cont (h : C ρ S) : (mCont ρ S).wp ⟨N, T, B, C, X⟩ := .ct h
theorem wps_retN (h : T .non S) : (mRetN ρ S).wp ⟨N, T, B, C, X⟩ := .rt h
theorem wps_seq (h : (s ρ S).wp ⟨fun ρ S => (t ρ S).wp ⟨N, T, B, C, X⟩, T, B, C, X⟩) : (mSeq s t ρ S).wp ⟨N, T, B, C, X⟩ := by
  unfold mSeq
  generalize s ρ S = r at h
  cases h with
  | nx h => exact h
  | rt h => exact .rt h
  | bk h => exact .bk h
  | ct h => exact .ct h
  | exc h => exact .exc h
theorem stm_wp {r : R} {k : D → St0 → RS} (h : r.wp X fun d S => (k d S).wp ⟨N, T, B, C, X⟩) : (r.stm ρ k).wp ⟨N, T, B, C, X⟩ := by
  cases h with
  | val h => exact h
  | exc h => exact .exc h
theorem wps_drop (h : (m ρ S).wp X fun _ S1 => N ρ S1) : (mDrop m ρ S).wp ⟨N, T, B, C, X⟩ := stm_wp (R.wp_mono h (fun _ _ h => .nx h) fun _ _ _ h => h)
theorem wps_ret (h : (m ρ S).wp X fun d S1 => T d S1) : (mRet m ρ S).wp ⟨N, T, B, C, X⟩ := stm_wp (R.wp_mono h (fun _ _ h => .rt h) fun _ _ _ h => h)
theorem wps_if (h : (m ρ S).wp X fun x S1 => ∃ b, x = .bl b ∧ way b ((s ρ S1).wp ⟨N, T, B, C, X⟩) ((t ρ S1).wp ⟨N, T, B, C, X⟩)) : (mIf m s t ρ S).wp ⟨N, T, B, C, X⟩ := by
  unfold mIf R.stmT
  refine stm_wp (R.wp_mono h (fun x S1 ⟨b, e, h⟩ => ?_) fun _ _ _ h => h)
  subst e
  cases h with
  | t h => exact h
  | f h => exact h
theorem wps_set (h : (m ρ S).wp X fun d S1 => N (ρ.set i (some d)) S1) : (mSet i m ρ S).wp ⟨N, T, B, C, X⟩ := stm_wp (R.wp_mono h (fun _ _ h => .nx h) fun _ _ _ h => h)
theorem wps_asg (h : (m ρ S).wp X fun d S1 => ∃ ρ1, g.put d ρ = some ρ1 ∧ N ρ1 S1) : (mAsg m g ρ S).wp ⟨N, T, B, C, X⟩ :=
  stm_wp (R.wp_mono h (fun d S1 ⟨ρ1, e, h⟩ => by rw [e]; exact .nx h) fun _ _ _ h => h)
theorem wps_par (h : (ms ρ S).wp X fun xs S1 => ∃ x y, xs = [x, y] ∧ N ((ρ.set i (some x)).set j (some y)) S1) : (mPar i j ms ρ S).wp ⟨N, T, B, C, X⟩ := by
  unfold mPar
  generalize ms ρ S = r at h
  cases h with
  | vals h => obtain ⟨x, y, rfl, h⟩ := h; exact .nx h
  | exc h => exact .exc h
theorem wps_aug {o : D → D → St0 → R} (hx : ρ[i]? = some (some x)) (h : (m ρ S).wp X fun y S1 => (o x y S1).wp X fun z S2 => N (ρ.set i (some z)) S2) : (mAug i o m ρ S).wp ⟨N, T, B, C, X⟩ := by
  unfold mAug
  rw [hx]
  exact stm_wp (R.wp_mono h (fun _ _ h => stm_wp (R.wp_mono h (fun _ _ h => .nx h) fun _ _ _ h => h)) fun _ _ _ h => h)
theorem wps_isaug {o : D → D → St0 → R} (h : (mAug i o m ρ S).wp ⟨N, T, B, C, X⟩) : (mAug i o m ρ S).wp ⟨N, T, B, C, X⟩ := h
theorem wps_setIx (h : (a ρ S).wp X fun v S1 => (b ρ S1).wp X fun x S2 => (c ρ S2).wp X fun k S3 => ∃ n xs w j, refL S3 x = some (n, xs) ∧ k = .int w ∧ ixN xs.length w = some j ∧ N ρ (S3.set n (.lst (xs.set j v)))) : (mSetIx a b c ρ S).wp ⟨N, T, B, C, X⟩ :=
  stm_wp (R.wp_mono h (fun v S1 h => stm_wp (R.wp_mono h (fun x S2 h => stm_wp (R.wp_mono h (fun k S3 ⟨n, xs, w, j, e1, e2, e3, h⟩ => by subst e2; simp only [e1, e3]; exact .nx h) fun _ _ _ h => h)) fun _ _ _ h => h)) fun _ _ _ h => h)
theorem wps_setF {cs : List Addr} {f : Str} (h : (b ρ S).wp X fun v S1 => (a ρ S1).wp X fun x S2 => ∃ n C ns xs, x = .ref n ∧ S2[n]? = some (.ins C ns xs) ∧ C ∈ cs ∧ ns.length < 1000 ∧ N ρ (S2.set n (.ins C (putN f v ns xs).1 (putN f v ns xs).2))) : (mSetF cs f a b ρ S).wp ⟨N, T, B, C, X⟩ :=
  stm_wp (R.wp_mono h (fun v S1 h => stm_wp (R.wp_mono h (fun x S2 ⟨n, C, ns, xs, e1, e2, e3, e4, h⟩ => by subst e1; simp only [e2]; rw [if_pos ⟨e3, e4⟩]; exact .nx h) fun _ _ _ h => h)) fun _ _ _ h => h)
/-! ### walks -/
variable {QI : List (Nat × List D) → List D → St0 → Prop}
theorem it_wp {r : R} {k : D → St0 → RI} (h : r.wp X fun d S => (k d S).wp X QI) : (r.it k).wp X QI := by
  cases h with
  | val h => exact h
  | exc h => exact .exc h
theorem wpi_it (h : (m ρ S).wp X fun d S1 => ∃ src ds, seqOf S1 d = some (src, ds) ∧ QI src ds S1) : (mIt m ρ S).wp X QI :=
  it_wp (R.wp_mono h (fun d S1 ⟨src, ds, e, h⟩ => by rw [e]; exact .it h) fun _ _ _ h => h)
theorem wpi_enum (h : (m ρ S).wp X fun d S1 => ∃ src ds, seqOf S1 d = some (src, ds) ∧ QI src (enums 0 ds) S1) : (mEnum m ρ S).wp X QI :=
  it_wp (R.wp_mono h (fun d S1 ⟨src, ds, e, h⟩ => by rw [e]; exact .it h) fun _ _ _ h => h)
theorem wpi_rev (h : (m ρ S).wp X fun d S1 => ∃ src ds, seqOf S1 d = some (src, ds) ∧ QI src ds.reverse S1) : (mRev m ρ S).wp X QI :=
  it_wp (R.wp_mono h (fun d S1 ⟨src, ds, e, h⟩ => by rw [e]; exact .it h) fun _ _ _ h => h)
theorem wpi_zip (h : (a ρ S).wp X fun x S1 => (b ρ S1).wp X fun y S2 => isTup x = isTup y ∧ ∃ src ds src2 es, seqOf S2 x = some (src, ds) ∧ seqOf S2 y = some (src2, es) ∧ QI (src ++ src2) (zips ds es) S2) : (mZip a b ρ S).wp X QI :=
  it_wp (R.wp_mono h (fun x S1 h => it_wp (R.wp_mono h (fun y S2 ⟨t, src, ds, src2, es, e, e2, h⟩ => by simp only [t, beq_self_eq_true, if_true, e, e2]; exact .it h) fun _ _ _ h => h)) fun _ _ _ h => h)
theorem wpi_rng1 (h : (m ρ S).wp X fun d S1 => ∃ n : Int, d = .int n ∧ -1000000 ≤ n ∧ n ≤ 1000000 ∧ QI [] (rng 0 n.toNat) S1) : (mRng1 m ρ S).wp X QI :=
  it_wp (R.wp_mono h (fun d S1 ⟨n, e, h1, h2, h⟩ => by
    subst e
    have : rngOk 0 n = true := by
      unfold rngOk
      rw [decide_eq_true (by omega), decide_eq_true (by omega), decide_eq_true (by omega), decide_eq_true (by omega)]
      rfl
    simp only [this, if_true]
    exact .it h) fun _ _ _ h => h)
theorem wpi_rng2 (h : (a ρ S).wp X fun x S1 => (b ρ S1).wp X fun y S2 => ∃ n k : Int, x = .int n ∧ y = .int k ∧ -1000000 ≤ n ∧ n ≤ 1000000 ∧ -1000000 ≤ k ∧ k ≤ 1000000 ∧ QI [] (rng n (k - n).toNat) S2) : (mRng2 a b ρ S).wp X QI :=
  it_wp (R.wp_mono h (fun x S1 h => it_wp (R.wp_mono h (fun y S2 ⟨n, k, e, e2, h1, h2, h3, h4, hq⟩ => by
    subst e e2
    have : rngOk n k = true := by
      unfold rngOk
      rw [decide_eq_true (by omega), decide_eq_true (by omega), decide_eq_true (by omega), decide_eq_true (by omega)]
      rfl
    simp only [this, if_true]
    exact .it hq) fun _ _ _ h => h)) fun _ _ _ h => h)
theorem wp_lc {al : Bool} {mi : MI} {own : List Nat} {mt me : ME} (h : (mi ρ S).wp X fun src ds S1 => (loopC al src g mt me (wipeE ρ own) ds [] S1).wp X Q) : (mLc al mi g own mt me ρ S).wp X Q := by
  unfold mLc
  generalize mi ρ S = r at h
  cases h with
  | it h => exact h
  | exc h => exact .exc h
theorem wps_for {mi : MI} (h : (mi ρ S).wp X fun src ds S1 => (loop src g s ds ρ S1).wp ⟨N, T, B, C, X⟩) : (mFor mi g s ρ S).wp ⟨N, T, B, C, X⟩ := by
  unfold mFor
  generalize mi ρ S = r at h
  cases h with
  | it h => exact h
  | exc h => exact .exc h
/-- a loop by its invariant: of what is still to come -/
theorem wp_loop {src : List (Nat × List D)} (I : List D → Env0 → St0 → Prop) (i0 : I ds ρ S)
    (h : ∀ d ds ρ S, I (d :: ds) ρ S → chk S src = true ∧ ∃ ρ1, g.put d ρ = some ρ1 ∧ (s ρ1 S).wp ⟨I ds, T, N, I ds, X⟩)
    (h0 : ∀ ρ S, I [] ρ S → chk S src = true ∧ N ρ S) : (loop src g s ds ρ S).wp ⟨N, T, B, C, X⟩ := by
  induction ds generalizing ρ S with
  | nil => unfold loop; rw [if_pos (h0 _ _ i0).1]; exact .nx (h0 _ _ i0).2
  | cons d ds ih =>
    obtain ⟨c, ρ1, e, w⟩ := h _ _ _ _ i0
    unfold loop
    rw [if_pos c, e]
    show RS.wp (match s ρ1 S with | _ => _) _
    generalize s ρ1 S = r at w
    cases w with
    | nx w => exact ih w
    | ct w => exact ih w
    | bk w => exact .nx w
    | rt w => exact .rt w
    | exc w => exact .exc w
/-- a while by its invariant and a measure -/
theorem wp_while {f : Nat} {c : ME} (I : Nat → Env0 → St0 → Prop) (n0 : Nat) (hn : n0 < f) (i0 : I n0 ρ S)
    (h : ∀ n ρ S, n ≤ n0 → I n ρ S → (c ρ S).wp X fun x S1 => ∃ b, x = .bl b ∧ way b ((s ρ S1).wp ⟨fun ρ S => ∃ k, k < n ∧ I k ρ S, T, N, fun ρ S => ∃ k, k < n ∧ I k ρ S, X⟩) (N ρ S1)) : (mWhile f c s ρ S).wp ⟨N, T, B, C, X⟩ := by
  unfold mWhile
  have key : ∀ f n ρ S, n < f → n ≤ n0 → I n ρ S → (whileN c s f ρ S).wp ⟨N, T, B, C, X⟩ := by
    intro f
    induction f with
    | zero => intro n _ _ h; omega
    | succ f ih =>
      intro n ρ S hf hn i
      unfold whileN R.stmT
      refine stm_wp (R.wp_mono (h n ρ S hn i) (fun x S1 ⟨b, e, w⟩ => ?_) fun _ _ _ h => h)
      subst e
      cases w with
      | f w => exact .nx w
      | t w =>
        show RS.wp (match s ρ S1 with | _ => _) _
        generalize s ρ S1 = r at w
        cases w with
        | nx w => obtain ⟨k, hk, w⟩ := w; exact ih k _ _ (by omega) (by omega) w
        | ct w => obtain ⟨k, hk, w⟩ := w; exact ih k _ _ (by omega) (by omega) w
        | bk w => exact .nx w
        | rt w => exact .rt w
        | exc w => exact .exc w
  exact key f n0 ρ S hn (Nat.le_refl _) i0
/-- a comprehension by its invariant: what is still to come, what there is -/
theorem wp_loopC {al : Bool} {src : List (Nat × List D)} {mt me : ME} {acc : List D} (I : List D → List D → St0 → Prop) (i0 : I ds acc S)
    (h : ∀ d ds acc S, I (d :: ds) acc S → chk S src = true ∧ ∃ ρ1, g.put d ρ = some ρ1 ∧ (mt ρ1 S).wp noX fun x S1 => ∃ t, x = .bl t ∧ way t ((me ρ1 S1).wp noX fun v S2 => acc.length < sizeLine ∧ I ds (acc ++ [v]) S2) (I ds acc S1))
    (h0 : ∀ acc S, I [] acc S → chk S src = true ∧ (finL al acc S).wp X Q) : (loopC al src g mt me ρ ds acc S).wp X Q := by
  induction ds generalizing acc S with
  | nil => unfold loopC; rw [if_pos (h0 _ _ i0).1]; exact (h0 _ _ i0).2
  | cons d ds ih =>
    obtain ⟨c, ρ1, e, w⟩ := h _ _ _ _ i0
    unfold loopC
    rw [if_pos c, e]
    obtain ⟨x, S1, e1, t, rfl, w⟩ := R.wp_val w
    simp only [R.test0, e1, R.bind0_val]
    cases w with
    | f w => exact ih w
    | t w =>
      obtain ⟨v, S2, e2, l, w⟩ := R.wp_val w
      simp only [if_true, e2, R.bind0_val]
      rw [if_pos l]
      exact ih w
/-- .. each item for itself, the store standing -/
theorem wp_map {al : Bool} {src : List (Nat × List D)} {me : ME} (f : D → D) (hl : ds.length ≤ 1000000) (hc : chk S src = true) (h : ∀ d ∈ ds, ∃ ρ1, g.put d ρ = some ρ1 ∧ (me ρ1 S).wp noX fun v S1 => v = f d ∧ S1 = S)
    (q : (finL al (ds.map f) S).wp X Q) : (loopC al src g (mC (.bl true)) me ρ ds [] S).wp X Q := by
  rw [loopC_map hc (le_line hl) (f := f) fun d hd => by
    obtain ⟨ρ1, e, w⟩ := h d hd
    obtain ⟨v, S1, e1, rfl, rfl⟩ := R.wp_val w
    exact ⟨ρ1, e, e1⟩]
  exact q
theorem wp_filter {al : Bool} {src : List (Nat × List D)} {mt me : ME} (t : D → Bool) (f : D → D) (hl : ds.length ≤ 1000000) (hc : chk S src = true) (h : ∀ d ∈ ds, ∃ ρ1, g.put d ρ = some ρ1 ∧ ((mt ρ1 S).wp noX fun v S1 => v = .bl (t d) ∧ S1 = S) ∧ (t d = true → (me ρ1 S).wp noX fun v S1 => v = f d ∧ S1 = S))
    (q : (finL al ((ds.filter t).map f) S).wp X Q) : (loopC al src g mt me ρ ds [] S).wp X Q := by
  rw [loopC_pure hc (t := t) (f := f) ds [] (by simpa using le_line hl) fun d hd => by
    obtain ⟨ρ1, e, w, w2⟩ := h d hd
    obtain ⟨v, S1, e1, rfl, rfl⟩ := R.wp_val w
    refine ⟨ρ1, e, e1, fun ht => ?_⟩
    obtain ⟨v, S2, e2, rfl, rfl⟩ := R.wp_val (w2 ht)
    exact e2]
  exact q
/-! ### defs -/
theorem wp_def {keep : Bool} {np N0 : Nat} (h : ds.length = np) (w : (s (ds.map some ++ List.replicate (N0 - np) none) S).wp
      ⟨fun _ S1 => (if keep = true then R.val .non S1 else finish S (.val .non S1)).wp X Q, fun d S1 => (if keep = true then R.val d S1 else finish S (.val d S1)).wp X Q, noN, noN,
        fun C fs S1 => (if keep = true then R.exc C fs S1 else finish S (.exc C fs S1)).wp X Q⟩) : (mDef keep np N0 s ds S).wp X Q := by
  unfold mDef
  rw [if_pos h]
  generalize s (ds.map some ++ List.replicate (N0 - np) none) S = r at w
  cases w with
  | nx w => exact w
  | rt w => exact w
  | bk w => exact w.elim
  | ct w => exact w.elim
  | exc w => exact w
/-- what a call hands back where the store stands -/
theorem wp_fin (q : Q d S) : (if false = true then R.val d S else finish S (.val d S)).wp X Q := by
  rw [if_neg Bool.false_ne_true, fin_same]; exact .val q
theorem fin_samex {C : Addr} {fs : List (Str × D)} : finish S (.exc C fs S) = .exc C fs S := by unfold finish; simp
theorem wp_finx {C : Addr} {fs : List (Str × D)} (q : X C fs S) : (if false = true then R.exc C fs S else finish S (.exc C fs S)).wp X Q := by
  rw [if_neg Bool.false_ne_true, fin_samex]; exact .exc q
end
end DL
namespace DL
open PySem L2
section
variable {S : St0} {X : XP} {Q : D → St0 → Prop} {xs ds : List D} {d x : D} {n : Nat} {i : Int}
theorem wp_append (h : S[n]? = some (.lst xs)) (hl : xs.length ≤ 1000000) (q : Q .non (S.set n (.lst (xs ++ [d])))) : (opAppend (.ref n) [d] S).wp X Q := by
  unfold opAppend refL
  simp only [h]
  rw [if_pos (by rw [sizeLine_eq]; omega)]
  exact .val q
theorem wp_extend (h : S[n]? = some (.lst xs)) (h2 : lstOf S x = some ds) (hl : xs.length + ds.length ≤ 1000000) (q : Q .non (S.set n (.lst (xs ++ ds)))) : (opExtend (.ref n) [x] S).wp X Q := by
  unfold opExtend refL
  simp only [h, h2]
  rw [if_pos (by rw [sizeLine_eq]; omega)]
  exact .val q
theorem wp_pop (h : S[n]? = some (.lst (xs ++ [d]))) (q : Q d (S.set n (.lst xs))) : (opPop (.ref n) [] S).wp X Q := by
  unfold opPop refL
  simp only [h]
  have e : (xs ++ [d])[(xs ++ [d]).length - 1]? = some d := by simp
  simp only [e, List.dropLast_concat]
  exact .val q
theorem wp_popAt (h : S[n]? = some (.lst xs)) {k : Nat} (hk : xs[k]? = some d) (hb : k ≤ 1000000) (q : Q d (S.set n (.lst (xs.eraseIdx k)))) : (opPop (.ref n) [.int k] S).wp X Q := by
  unfold opPop refL
  have l := (List.getElem?_eq_some_iff.mp hk).1
  have e : ixN xs.length (k : Int) = some k := by
    unfold ixN
    rw [if_pos (by omega), if_pos (by omega)]
    simp
  simp only [h, e, hk]
  rw [if_pos (by omega)]
  exact .val q
theorem ex_fld {cs : List Addr} {f : Str} {C : Addr} {ns : List Str} {T : D → Prop} (hC : C ∈ cs) (h : lookF f ns xs = some d) (q : T d) : fldAt cs f (.ins C ns xs) S T :=
  ⟨ns, xs, d, by simp [insOf, hC], h, q⟩
theorem tuple_t : opTuple [.tup ds] S = some (.tup ds) := rfl
theorem bools_l {f : List Bool → Bool} {bs : List Bool} (h : bls? xs = some bs) : opBools f [.lst xs] S = some (.bl (f bs)) := all_l h f
theorem abs_i : opAbs [.int i] S = some (.int (if i < 0 then -i else i)) := rfl
theorem min_i {j : Int} : opMin [.int i, .int j] S = some (.int (if j < i then j else i)) := rfl
theorem max_i {j : Int} : opMax [.int i, .int j] S = some (.int (if j > i then j else i)) := rfl
theorem is_nn : opIs false .non .non S = some (.bl true) := rfl
theorem isn_nn : opIs true .non .non S = some (.bl false) := rfl
theorem at3 {a b c d : D} : atI (a :: b :: c :: d :: ds) 3 = some d := atN (n := 3) rfl
theorem at4 {a b c e d : D} : atI (a :: b :: c :: e :: d :: ds) 4 = some d := atN (n := 4) rfl
theorem at5 {a b c e f d : D} : atI (a :: b :: c :: e :: f :: d :: ds) 5 = some d := atN (n := 5) rfl
theorem ixt0 : opIx (.tup (d :: ds)) (.int 0) S = some d := by rw [ix_t]; exact at0
theorem ixt1 {a : D} : opIx (.tup (a :: d :: ds)) (.int 1) S = some d := by rw [ix_t]; exact at1
theorem ixt2 {a b : D} : opIx (.tup (a :: b :: d :: ds)) (.int 2) S = some d := by rw [ix_t]; exact at2
theorem ixt3 {a b c : D} : opIx (.tup (a :: b :: c :: d :: ds)) (.int 3) S = some d := by rw [ix_t]; exact at3
theorem ixt4 {a b c e : D} : opIx (.tup (a :: b :: c :: e :: d :: ds)) (.int 4) S = some d := by rw [ix_t]; exact at4
theorem ixt5 {a b c e f : D} : opIx (.tup (a :: b :: c :: e :: f :: d :: ds)) (.int 5) S = some d := by rw [ix_t]; exact at5
theorem ixl0 : opIx (.lst (d :: ds)) (.int 0) S = some d := by rw [ix_l]; exact at0
theorem ixl1 {a : D} : opIx (.lst (a :: d :: ds)) (.int 1) S = some d := by rw [ix_l]; exact at1
theorem ixl2 {a b : D} : opIx (.lst (a :: b :: d :: ds)) (.int 2) S = some d := by rw [ix_l]; exact at2
theorem ixl3 {a b c : D} : opIx (.lst (a :: b :: c :: d :: ds)) (.int 3) S = some d := by rw [ix_l]; exact at3
theorem ixtN {k : Nat} (h : ds[k]? = some d) : opIx (.tup ds) (.int k) S = some d := by rw [ix_t]; exact atN h
theorem ixlN {k : Nat} (h : ds[k]? = some d) : opIx (.lst ds) (.int k) S = some d := by rw [ix_l]; exact atN h
end
/-- the draws' store: the great numbers, the bag, and what stands behind -/
abbrev bg (s k : Int) (g : List Int) (rest : St0) : St0 := .lst (g.map .int) :: .lst [.int s, .int k, .ref 0] :: rest
theorem wp_finTbg {s k : Int} {g : List Int} {rest : St0} {ds : List D} {X : XP} {Q : D → St0 → Prop} (q : Q (.ref (rest.length + 2)) (bg s k g (rest ++ [.lst ds]))) : (finL true ds (bg s k g rest)).wp X Q := .val q
section
variable {S : St0} {X : XP} {Q : D → St0 → Prop} {xs ys ds : List D} {d x : D} {ρ : Env0} {m a b : ME} {al : Bool} {i : Int}
theorem wp_sortset {l : List RS.RK} (h : lItems S x = some (l.map rkD)) (hr : rks? (l.map rkD) = some l) (hl : l.length < 64) (q : (finL al ((setR l).map rkD) S).wp X Q) : (opSortSet al [x] S).wp X Q := by
  unfold opSortSet
  simp only [h, hr]
  rw [if_pos hl]
  exact q
theorem wp_sorted {l : List RS.RK} (h : itemsOf S x = some (l.map rkD)) (ht : isTup x = false) (hr : rks? (l.map rkD) = some l) (hl : l.length ≤ 1000) (q : (finL al ((sortR l).map rkD) S).wp X Q) : (opSorted al [x] S).wp X Q := by
  unfold opSorted
  have : sortO false (l.map rkD) = some ((sortR l).map rkD) := by
    unfold sortO
    cases l with
    | nil => rfl
    | cons r l =>
      have e : ints? ((r :: l).map rkD) = none := by
        simp only [List.map_cons, rkD]
        rfl
      simp only [e, hr]
      rw [if_neg Bool.false_ne_true, if_pos hl]
  simp only [h, ht, this]
  exact q
theorem wp_slHi (h : (m ρ S).wp X fun x S1 => (b ρ S1).wp X fun y S2 => ∃ i, y = .int i ∧ (slS al x none (some i) S2).wp X Q) : (mSl al m none (some b) ρ S).wp X Q :=
  bind_wp (R.wp_mono h (fun x S1 h => bind_wp (R.wp_mono h (fun y S2 ⟨i, e, h⟩ => by subst e; exact h) fun _ _ _ h => h)) fun _ _ _ h => h)
theorem wp_slLo (h : (m ρ S).wp X fun x S1 => (a ρ S1).wp X fun y S2 => ∃ i, y = .int i ∧ (slS al x (some i) none S2).wp X Q) : (mSl al m (some a) none ρ S).wp X Q :=
  bind_wp (R.wp_mono h (fun x S1 h => bind_wp (R.wp_mono h (fun y S2 ⟨i, e, h⟩ => by subst e; exact h) fun _ _ _ h => h)) fun _ _ _ h => h)
theorem wp_slN (h : (m ρ S).wp X fun x S1 => (slS al x none none S1).wp X Q) : (mSl al m none none ρ S).wp X Q := bind_wp h
theorem wp_slBoth (h : (m ρ S).wp X fun x S1 => (a ρ S1).wp X fun y S2 => ∃ i, y = .int i ∧ (b ρ S2).wp X fun z S3 => ∃ j, z = .int j ∧ (slS al x (some i) (some j) S3).wp X Q) : (mSl al m (some a) (some b) ρ S).wp X Q :=
  bind_wp (R.wp_mono h (fun x S1 h => bind_wp (R.wp_mono h (fun y S2 ⟨i, e, h⟩ => by subst e; exact bind_wp (R.wp_mono h (fun z S3 ⟨j, e, h⟩ => by subst e; exact h) fun _ _ _ h => h)) fun _ _ _ h => h)) fun _ _ _ h => h)
theorem wp_slS_l {lo hi : Option Int} (q : (finL al (cut xs lo hi) S).wp X Q) : (slS al (.lst xs) lo hi S).wp X Q := q
theorem wp_slS_t {lo hi : Option Int} (q : Q (.tup (cut xs lo hi)) S) : (slS al (.tup xs) lo hi S).wp X Q := .val q
theorem wp_slS_f {lo hi : Option Int} (q : (finL al (cut xs lo hi) S).wp X Q) : (slS al (.fls xs) lo hi S).wp X Q := q
theorem cut_mem {α : Type} {xs : List α} {lo hi : Option Int} {x : α} (h : x ∈ cut xs lo hi) : x ∈ xs := List.mem_of_mem_drop (List.mem_of_mem_take h)
theorem cut_len {α : Type} {xs : List α} {lo hi : Option Int} : (cut xs lo hi).length ≤ xs.length := by simp [cut]; omega
theorem wp_revS_l (h : (m ρ S).wp X fun x S1 => ∃ xs, x = .lst xs ∧ (finL al xs.reverse S1).wp X Q) : (mRevS al m ρ S).wp X Q :=
  bind_wp (R.wp_mono h (fun x S1 ⟨xs, e, h⟩ => by subst e; exact h) fun _ _ _ h => h)
theorem wp_dct0 (q : Q (.dct [] []) S) : (mDct0 false ρ S).wp X Q := .val q
theorem wp_dct1 {k : Str} (h : (b ρ S).wp X fun y S1 => Q (.dct [.str k] [y]) S1) : (mDct false [(mC (.str k), b)] ρ S).wp X Q := by
  unfold mDct
  simp only [prs, mC, R.bind_val]
  refine bind_wp (R.wp_mono h (fun y S1 h => ?_) fun _ _ _ h => h)
  rw [if_pos (by rfl), if_pos (by simp)]
  exact .val h
theorem wp_newL_l (q : (finL al xs S).wp X Q) : (newL al some [.lst xs] S).wp X Q := q
theorem wp_newL_t (q : (finL al xs S).wp X Q) : (newL al some [.tup xs] S).wp X Q := q
theorem add_l (h : xs.length + ys.length ≤ 1000000) : opAdd (.lst xs) (.lst ys) S = some (.lst (xs ++ ys)) := by
  show (if _ then _ else _) = _
  rw [if_pos (by rw [sizeLine_eq]; omega)]
theorem add_t (h : xs.length + ys.length ≤ 1000000) : opAdd (.tup xs) (.tup ys) S = some (.tup (xs ++ ys)) := by
  show (if _ then _ else _) = _
  rw [if_pos (by rw [sizeLine_eq]; omega)]
theorem pow6 : opPow (.int 10) (.int 6) S = some (.int 1000000) := by simp [opPow]
theorem pow12 : opPow (.int 10) (.int 12) S = some (.int 1000000000000) := by simp [opPow]
theorem pow18 : opPow (.int 10) (.int 18) S = some (.int 1000000000000000000) := by simp [opPow]
end
end DL
namespace DL
theorem ex_g {α : Sort _} {p : α → Prop} (h : ∃ x, p x) : ∃ x, p x := h
theorem and_le {a b : Nat} {p : Prop} (h : a ≤ b) (q : p) : a ≤ b ∧ p := ⟨h, q⟩
theorem and_leI {a b : Int} {p : Prop} (h : a ≤ b) (q : p) : a ≤ b ∧ p := ⟨h, q⟩
theorem and_ltI {a b : Int} {p : Prop} (h : a < b) (q : p) : a < b ∧ p := ⟨h, q⟩
theorem and_eq {α : Sort _} {a : α} {p : Prop} (q : p) : a = a ∧ p := ⟨rfl, q⟩
theorem and_eqd {α : Sort _} {a b : α} {p : Prop} (h : a = b) (q : p) : a = b ∧ p := ⟨h, q⟩
theorem and_ex {α : Sort _} {r : α → Prop} {p : Prop} (h : ∃ x, r x) (q : p) : (∃ x, r x) ∧ p := ⟨h, q⟩
theorem le_g {a b : Nat} (h : a ≤ b) : a ≤ b := h
theorem le_gI {a b : Int} (h : a ≤ b) : a ≤ b := h
theorem lt_gI {a b : Int} (h : a < b) : a < b := h
theorem wp_thaw {m : ME} {ρ : Env0} {S : St0} {X : XP} {Q : D → St0 → Prop} (h : (m ρ S).wp X fun d S1 => ∃ b xs, d = .tupF b xs ∧ Q (.tup xs) S1) : (mThaw m ρ S).wp X Q :=
  bind_wp (R.wp_mono h (fun d S1 ⟨b, xs, e, q⟩ => by subst e; exact .val q) fun _ _ _ h => h)
end DL
local macro_rules | `(tactic| sizeOf_list_dec) => `(tactic| repeat1' (first | ((with_reducible refine DL.wp_isvar ?_); refine DL.wp_var rfl ?_) | with_reducible refine DL.wpa_cons ?_ | with_reducible refine DL.wpa_nil ?_ | with_reducible refine DL.wp_on ?_ | with_reducible refine DL.wp_c ?_ | with_reducible refine DL.wp_bin ?_ | with_reducible refine DL.wp_un ?_ | with_reducible refine DL.wps_seq ?_ | with_reducible refine DL.wps_set ?_ | with_reducible refine DL.wps_if ?_ | with_reducible refine DL.wps_ret ?_ | with_reducible refine DL.wps_next ?_ | with_reducible refine DL.wps_drop ?_ | with_reducible refine DL.wps_asg ?_ | with_reducible refine DL.wp_and ?_ | with_reducible refine DL.wp_or ?_ | with_reducible refine DL.wp_not ?_ | with_reducible refine DL.wp_ifE ?_ | with_reducible refine DL.wp_thaw ?_ | with_reducible refine DL.wp_tup ?_ | with_reducible refine DL.wp_lst ?_ | with_reducible refine DL.wp_mt ?_ | with_reducible refine DL.wp_chain ?_ | with_reducible refine DL.wp_fld ?_ | (refine DL.ex_fld ?_ rfl ?_; (focus (simp; done))) | with_reducible refine DL.wp_lc ?_ | with_reducible refine DL.wps_for ?_ | with_reducible refine DL.wpi_it ?_ | with_reducible refine DL.wpi_enum ?_ | with_reducible refine DL.wpi_rev ?_ | with_reducible refine DL.wpi_zip ?_ | with_reducible refine DL.wpi_rng1 ?_ | with_reducible refine DL.wpi_rng2 ?_ | with_reducible refine DL.wps_break ?_ | with_reducible refine DL.wps_cont ?_ | with_reducible refine DL.wps_retN ?_ | with_reducible refine DL.wps_par ?_ | with_reducible refine DL.wps_setIx ?_ | with_reducible refine DL.wps_setF ?_ | with_reducible refine DL.wp_finTbg ?_ | with_reducible refine DL.wp_finT ?_ | with_reducible refine DL.wp_finF ?_ | with_reducible refine DL.wp_slHi ?_ | with_reducible refine DL.wp_slLo ?_ | with_reducible refine DL.wp_slBoth ?_ | with_reducible refine DL.wp_slN ?_ | with_reducible refine DL.wp_slS_l ?_ | with_reducible refine DL.wp_slS_t ?_ | with_reducible refine DL.wp_slS_f ?_ | with_reducible refine DL.wp_newL_l ?_ | with_reducible refine DL.wp_newL_t ?_ | with_reducible refine DL.wp_dct0 ?_ | with_reducible refine DL.wp_dct1 ?_ | with_reducible refine DL.wp_revS_l ?_ | ((with_reducible refine DL.wps_isaug ?_); refine DL.wps_aug rfl ?_) | ((with_reducible refine DL.wp_isl2 ?_); first | with_reducible refine DL.wp_l2 DL.add_i ?_ | with_reducible refine DL.wp_l2 DL.sub_i ?_ | with_reducible refine DL.wp_l2 DL.eq_i ?_ | with_reducible refine DL.wp_l2 DL.ixt0 ?_ | with_reducible refine DL.wp_l2 DL.ixt1 ?_ | with_reducible refine DL.wp_l2 DL.ixt2 ?_ | with_reducible refine DL.wp_l2 DL.ixt3 ?_ | with_reducible refine DL.wp_l2 DL.ixt4 ?_ | with_reducible refine DL.wp_l2 DL.ixt5 ?_ | with_reducible refine DL.wp_l2 DL.ixl0 ?_ | with_reducible refine DL.wp_l2 DL.ixl1 ?_ | with_reducible refine DL.wp_l2 DL.ixl2 ?_ | with_reducible refine DL.wp_l2 DL.ixl3 ?_ | with_reducible refine DL.wp_l2 DL.lt_i ?_ | with_reducible refine DL.wp_l2 DL.le_i ?_ | with_reducible refine DL.wp_l2 DL.gt_i ?_ | with_reducible refine DL.wp_l2 DL.ge_i ?_ | with_reducible refine DL.wp_l2 DL.ne_i ?_ | with_reducible refine DL.wp_l2 DL.ltD_i ?_ | with_reducible refine DL.wp_l2 DL.leD_i ?_ | with_reducible refine DL.wp_l2 DL.gtD_i ?_ | with_reducible refine DL.wp_l2 DL.geD_i ?_ | with_reducible refine DL.wp_l2 DL.is_nn ?_ | with_reducible refine DL.wp_l2 DL.isn_nn ?_ | with_reducible refine DL.wp_l2 DL.pow6 ?_ | with_reducible refine DL.wp_l2 DL.pow12 ?_ | with_reducible refine DL.wp_l2 DL.pow18 ?_ | ((with_reducible refine DL.wp_l2 (DL.mod_i ?_) ?_); omega) | ((with_reducible refine DL.wp_l2 (DL.fdiv_i ?_ ?_) ?_); omega; omega) | ((with_reducible refine DL.wp_l2 (DL.mul_l ?_ ?_) ?_); omega; omega) | ((with_reducible refine DL.wp_l2 (DL.mul_r ?_ ?_) ?_); omega; omega) | (refine DL.wp_l2 ?_ ?_; with_reducible assumption) | ((with_reducible refine DL.wp_isIx ?_); first | refine DL.wp_l2 DL.ixt0 ?_ | refine DL.wp_l2 DL.ixt1 ?_ | refine DL.wp_l2 DL.ixt2 ?_ | refine DL.wp_l2 DL.ixt3 ?_ | refine DL.wp_l2 DL.ixt4 ?_ | refine DL.wp_l2 DL.ixt5 ?_)) | ((with_reducible refine DL.wp_islL ?_); first | with_reducible refine DL.wp_lL DL.tuple_l ?_ | with_reducible refine DL.wp_lL DL.tuple_t ?_ | with_reducible refine DL.wp_lL DL.len_t ?_ | with_reducible refine DL.wp_lL DL.len_l ?_ | with_reducible refine DL.wp_lL DL.int_i ?_ | with_reducible refine DL.wp_lL DL.abs_i ?_ | with_reducible refine DL.wp_lL DL.min_i ?_ | with_reducible refine DL.wp_lL DL.max_i ?_ | (refine DL.wp_lL ?_ ?_; with_reducible assumption)) | ((with_reducible refine DL.wp_isl1 ?_); first | with_reducible refine DL.wp_l1 DL.neg_i ?_) | with_reducible exact DL.wp_fin rfl | with_reducible refine DL.wp_fin ?_ | with_reducible refine DL.way_t ?_ | with_reducible refine DL.way_f ?_ | with_reducible refine DL.way_nT ?_ | with_reducible refine DL.way_nF ?_ | ((with_reducible refine DL.way_dt ?_ ?_); (first | assumption | omega | (focus (simp; done)) | rfl)) | ((with_reducible refine DL.way_df ?_ ?_); (first | assumption | omega | (focus (simp; done)) | rfl)) | ((with_reducible refine DL.way_nt ?_ ?_); (first | assumption | omega | (focus (simp; done)) | rfl)) | ((with_reducible refine DL.way_nf ?_ ?_); (first | assumption | omega | (focus (simp; done)) | rfl)) | ((with_reducible refine DL.and_le ?_ ?_); (first | exact Nat.le_of_ble_eq_true rfl | omega | (focus (simp; done)))) | ((with_reducible refine DL.and_leI ?_ ?_); (first | exact Nat.le_of_ble_eq_true rfl | omega | (focus (simp; done)))) | ((with_reducible refine DL.and_ltI ?_ ?_); (first | exact Nat.le_of_ble_eq_true rfl | omega | (focus (simp; done)))) | ((with_reducible refine DL.and_ex ⟨_, ?_⟩ ?_); (first | rfl | (focus (simp [DL.lItems, DL.isTup, DL.itemsOf, DL.seqOf]; done)))) | with_reducible refine DL.and_eq ?_ | ((with_reducible refine DL.and_eqd ?_ ?_); rfl) | ((with_reducible refine DL.ex_g ?_); first | refine ⟨_, rfl, ?_⟩ | refine ⟨_, _, rfl, ?_⟩ | refine ⟨_, _, _, rfl, rfl, ?_⟩ | (refine ⟨_, _, rfl, rfl, ?_, ?_, ?_, ?_, ?_⟩; omega; omega; omega; omega) | (refine ⟨_, rfl, ?_, ?_, ?_⟩; omega; omega) | refine ⟨_, _, _, _, rfl, rfl, ?_⟩) | with_reducible rfl | ((with_reducible refine DL.le_g ?_); omega) | ((with_reducible refine DL.le_gI ?_); omega) | ((with_reducible refine DL.lt_gI ?_); omega)))
set_option linter.all false
set_option maxRecDepth 100000
set_option autoImplicit false
/-! Walking: what is raised, try. -/
namespace DL
open PySem L2
section
variable {X : XP} {Q : D → St0 → Prop} {N B C : EP} {T : DP_} {ρ : Env0} {S : St0} {d : D} {E : Addr} {f : Str} {m : ME} {i : Nat} {tb : ETab} {fs : List (Str × D)} {hs : List MCl} {q : MCl}
theorem wp_to {r : R} (h : r.wp noX fun x S' => x = d ∧ S' = S) : r = .val d S := by
  obtain ⟨x, S', e, rfl, rfl⟩ := R.wp_val h
  exact e
theorem wps_raise0 (h : X E [] S) : (mRaise0 E ρ S).wp ⟨N, T, B, C, X⟩ := .exc h
theorem wps_raise1 (h : (m ρ S).wp X fun d S1 => X E [(f, d)] S1) : (mRaise1 E f m ρ S).wp ⟨N, T, B, C, X⟩ := stm_wp (R.wp_mono h (fun _ _ h => .exc h) fun _ _ _ h => h)
/-- try: a = e -/
theorem wps_try1 (h : (m ρ S).wp (fun E fs S1 => (hands tb E fs hs ρ S1).wp ⟨N, T, B, C, X⟩) fun d S1 => N (ρ.set i (some d)) S1) : (mTry tb (mSet i m) hs ρ S).wp ⟨N, T, B, C, X⟩ := by
  unfold mTry mSet
  generalize m ρ S = r at h
  cases h with
  | val h => exact .nx h
  | exc h => exact h
/-- try: e -/
theorem wps_tryD (h : (m ρ S).wp (fun E fs S1 => (hands tb E fs hs ρ S1).wp ⟨N, T, B, C, X⟩) fun d S1 => N ρ S1) : (mTry tb (mDrop m) hs ρ S).wp ⟨N, T, B, C, X⟩ := by
  unfold mTry mDrop
  generalize m ρ S = r at h
  cases h with
  | val h => exact .nx h
  | exc h => exact h
theorem wps_handT {c : Kd} {mm : MS} (e : exmD tb E c = some true) (h : (mm (ρ.set i (some (.exn E (fs.map (·.1)) (fs.map (·.2))))) S).wp ⟨fun ρ S => N (ρ.set i none) S, T, fun ρ S => B (ρ.set i none) S, fun ρ S => C (ρ.set i none) S, noX⟩) : (hands tb E fs (⟨c, some i, mm⟩ :: hs) ρ S).wp ⟨N, T, B, C, X⟩ := by
  unfold hands
  rw [e]
  show RS.wp (goneS (some i) (mm (slotE (some i) ρ E fs) S)) _
  have h : (mm (slotE (some i) ρ E fs) S).wp _ := h
  generalize mm (slotE (some i) ρ E fs) S = r at h
  cases h with
  | nx h => exact .nx h
  | rt h => exact .rt h
  | bk h => exact .bk h
  | ct h => exact .ct h
  | exc h => exact h.elim
theorem wps_handT0 {c : Kd} {mm : MS} (e : exmD tb E c = some true) (h : (mm ρ S).wp ⟨N, T, B, C, noX⟩) : (hands tb E fs (⟨c, none, mm⟩ :: hs) ρ S).wp ⟨N, T, B, C, X⟩ := by
  unfold hands
  rw [e]
  show RS.wp (goneS none (mm ρ S)) _
  generalize mm ρ S = r at h
  cases h with
  | nx h => exact .nx h
  | rt h => exact .rt h
  | bk h => exact .bk h
  | ct h => exact .ct h
  | exc h => exact h.elim
theorem wps_handF (e : exmD tb E q.c = some false) (h : (hands tb E fs hs ρ S).wp ⟨N, T, B, C, X⟩) : (hands tb E fs (q :: hs) ρ S).wp ⟨N, T, B, C, X⟩ := by
  unfold hands
  rw [e]
  exact h
theorem wp_exf {cs : List Addr} (h : (m ρ S).wp X fun x S1 => ∃ E ns xs v, x = .exn E ns xs ∧ E ∈ cs ∧ lookF f ns xs = some v ∧ Q v S1) : (mExf cs f m ρ S).wp X Q :=
  wp_un (R.wp_mono h (fun x S1 ⟨E, ns, xs, v, e, mem, l, q⟩ => wp_l1 (z := v) (by subst e; simp only [if_pos mem, l]) q) fun _ _ _ h => h)
/-- an object made; what its __init__ leaves of it -/
theorem make_ok {C' : Addr} {F : Fn} {ds xs : List D} {ns : List Str} (hx : D.clos 0 xs = true) (h : F (.ref S.length :: ds) (S ++ [.ins C' [] []]) = .val .non (S ++ [.ins C' ns xs])) : mMake false C' F ds S = .val (.ins C' ns xs) S := by
  unfold mMake
  simp only [h, if_true, if_neg Bool.false_ne_true]
  refine fin_app (S := S) (S1 := S) (E := [.ins C' ns xs]) (d := .ref S.length) (d' := .ins C' ns xs) rfl (fun i o o' h1 h2 => .inl (by rw [h1] at h2; cases h2; rfl)) ?_
  show refAt _ _ _ _ = _
  have l : (S ++ [Ob.ins C' ns xs]).length = S.length + 1 := by simp
  rw [l]
  unfold refAt
  rw [if_neg (Nat.lt_irrefl _)]
  have e : (S ++ [Ob.ins C' ns xs])[S.length]? = some (.ins C' ns xs) := by simp
  simp only [e]
  rw [mapRs_id (n := 0) (fun _ h => by cases h) _ hx]
  rfl
/-- a def that changes the one object that is new -/
theorem fin_ins {C' : Addr} {xs : List D} {ns : List Str} (hx : D.clos 0 xs = true) : finish (S ++ [.ins C' [] []]) (.val .non (S ++ [.ins C' ns xs])) = .val .non (S ++ [.ins C' ns xs]) := by
  have := fin_app (S := S ++ [.ins C' [] []]) (S1 := S ++ [.ins C' ns xs]) (E := []) (d := .non) (d' := .non) (by simp) (fun i o o' h1 h2 => ?_) rfl
  · rw [List.append_nil] at this
    exact this
  · by_cases hi : i < S.length
    · rw [List.getElem?_append_left hi] at h1 h2
      rw [h1] at h2
      cases h2
      exact .inl rfl
    · rw [List.getElem?_append_right (by omega)] at h2
      right
      obtain ⟨j, rfl⟩ : ∃ j, i = S.length + j := ⟨i - S.length, by omega⟩
      rw [Nat.add_sub_cancel_left] at h2
      cases j with
      | zero => cases h2; exact clos_mono (Nat.zero_le _) _ hx
      | succ j => cases h2
/-- .. raised out of a call: what is new falls away -/
theorem fin_exc {C' : Addr} {ds : List D} {ns : List Str} {E : St0} (h : D.clos 0 ds = true) (hl : ns.length = ds.length) : finish S (.exc C' (ns.zip ds) (S ++ E)) = .exc C' (ns.zip ds) S := by
  unfold finish
  simp only
  by_cases z : S ++ E = S
  · rw [if_pos z]
  · rw [if_neg z, trunc_id (n := 0) (fun k hk => by cases hk) E S S rfl fun i o o' h1 h2 => .inl (by rw [h1] at h2; cases h2; rfl)]
    have e2 : (ns.zip ds).map (·.2) = ds := by rw [List.map_snd_zip]; omega
    have e1 : (ns.zip ds).map (·.1) = ns := by rw [List.map_fst_zip]; omega
    have e3 := mapRs_id (n := 0) (g := refAt (S ++ E) S.length (S ++ E).length) (fun _ h => by cases h) ds h
    simp only [e2, e3, e1]
theorem make_exc {C' E : Addr} {F : Fn} {ds xs : List D} {ns : List Str} (hx : D.clos 0 xs = true) (hl : ns.length = xs.length) (h : F (.ref S.length :: ds) (S ++ [.ins C' [] []]) = .exc E (ns.zip xs) (S ++ [.ins C' [] []])) : mMake false C' F ds S = .exc E (ns.zip xs) S := by
  unfold mMake
  simp only [h, if_neg Bool.false_ne_true]
  exact fin_exc hx hl
end
end DL
set_option linter.all false
set_option maxRecDepth 100000
namespace LW
open DL PySem L2
variable {cl : Nat → Addr} {d d' : D} {S : St0} {X : XP} {Q : D → St0 → Prop}
mutual
/-- a thing that may be judged: of built-in kinds, or a program -/
def okd (C : Addr) : D → Bool
  | .non => true
  | .bl _ => true
  | .int _ => true
  | .str _ => true
  | .tup xs => decide (xs.length ≤ 1000000) && okds C xs
  | .lst xs => decide (xs.length ≤ 1000000) && okds C xs
  | .dct _ _ => true
  | .ins C' _ _ => decide (C' = C)
  | _ => false
def okds (C : Addr) : List D → Bool
  | [] => true
  | x :: xs => okd C x && okds C xs
end
theorem okds_iff {C : Addr} : ∀ {ds : List D}, okds C ds = true ↔ ∀ d ∈ ds, okd C d = true
  | [] => by simp [okds]
  | d :: ds => by simp [okds, okds_iff (ds := ds)]
def kk : D → String
  | .ins _ _ _ => "ins"
  | d => kn d
theorem isiK (h : okd (cl 0) d = true) {U : String} (hT : U ∈ sixT) : opIsI (tb cl) [d, .opq (.ty U)] S = some (.bl (builtinIs (kk d) U)) := by
  cases d <;> try (simp only [okd, Bool.false_eq_true] at h)
  case ins C ns xs =>
    have e := of_decide_eq_true h
    subst e
    simp only [opIsI, kindOf, clsOf]
    simp only [sixT, List.mem_cons, List.mem_nil_iff, or_false] at hT
    rcases hT with rfl | rfl | rfl | rfl | rfl | rfl <;> simp [kitD, tb, kk, builtinIs, List.find?]
  all_goals
    simp only [opIsI, kindOf, clsOf, kitD]
    rw [if_pos ⟨by simp [kindsT], hT⟩]
    rfl
theorem okd_tup {C : Addr} {xs : List D} (h : okd C (.tup xs) = true) : xs.length ≤ 1000000 ∧ ∀ x ∈ xs, okd C x = true := by
  simp only [okd, Bool.and_eq_true, decide_eq_true_eq] at h
  exact ⟨h.1, okds_iff.mp h.2⟩
def isI : D → Bool
  | .int _ => true
  | _ => false
theorem f_is_int (h : okd (cl 0) d = true) : F_is_int cl [d] S = .val (.bl (isI d)) S := by
  refine mDef_pure rfl ?_
  unfold m_is_int
  (simp only [mSeq, mDrop, mRet, mRetN, mBreak, mCont, mNext, mIf, mSet, mVar, mC, mUn, mBin, mOn, mCons, mNil, mAnd, mOr, mNot, mIfE, mTup, mLst, R.bind_val, R.stm_val, R.stmT, R.test, RS.seq_nx, RS.seq_rt, RS.seq_bk, RS.seq_ct, RA.bind_vals, RA.map_vals, R.bindA_val, R.bind0_val, R.test0, lift1, lift2, liftL, List.getElem?_cons_zero, List.getElem?_cons_succ, List.set_cons_zero, List.set_cons_succ, List.length_cons, List.length_nil, RS.toR_nx, RS.toR_rt, if_true, if_false, Bool.false_eq_true, reduceCtorEq, List.map_cons, List.map_nil, List.cons_append, List.nil_append, List.replicate_succ, List.replicate_zero, Nat.sub_self, Bool.not_true, Bool.not_false, Nat.reduceSub, Nat.reduceAdd, Nat.reduceEqDiff, List.append_nil, isiK h (U := "int") (by decide), isiK h (U := "bool") (by decide)])
  cases d <;> first | rfl | (simp only [okd, Bool.false_eq_true] at h)
theorem f_law_integer (h : okd (cl 0) d = true) : F__law_integer cl [d] S = .val (.bl (isI d)) S := f_is_int (cl := cl) h
def isIn (a b : Int) : D → Bool
  | .int i => decide (a ≤ i) && decide (i ≤ b)
  | _ => false
theorem f_is_int_in (h : okd (cl 0) d = true) {a b : Int} : F_is_int_in cl [d, .int a, .int b] S = .val (.bl (isIn a b d)) S := by
  refine wp_to ?_
  unfold F_is_int_in
  refine wp_def rfl ?_
  unfold m_is_int_in
  sizeOf_list_dec
  refine wp_eq (f_is_int h) ?_
  show ∃ t, D.bl (isI d) = D.bl t ∧ _
  cases d with
  | int i =>
    refine ⟨_, rfl, way_t ?_⟩
    sizeOf_list_dec
    refine way_d (fun h1 => ?_) (fun h1 => ?_)
    · sizeOf_list_dec
      exact ⟨by simp [isIn, h1], rfl⟩
    · exact wp_fin ⟨by simp [isIn, h1], rfl⟩
  | _ => exact ⟨_, rfl, way_f (wp_fin ⟨rfl, rfl⟩)⟩
def isRow (n : Nat) : D → Bool
  | .tup xs => decide (xs.length = n) && xs.all isI
  | _ => false
theorem cast_d {a b : Nat} : decide ((a : Int) = (b : Int)) = decide (a = b) := decide_eq_decide.mpr (by omega)
theorem f_is_row (h : okd (cl 0) d = true) {n : Nat} : F_is_row_of_ints cl [d, .int n] S = .val (.bl (isRow n d)) S := by
  refine wp_to ?_
  unfold F_is_row_of_ints
  refine wp_def rfl ?_
  unfold m_is_row_of_ints
  sizeOf_list_dec
  refine wp_lL (isiK h (by decide)) ?_
  cases d with
  | tup xs =>
    obtain ⟨l, hx⟩ := okd_tup h
    refine ⟨_, rfl, way_t ?_⟩
    sizeOf_list_dec
    refine way_d (fun h1 => ?_) (fun h1 => ?_)
    · sizeOf_list_dec
      refine wp_map (fun x => .bl (isI x)) (by omega) rfl (fun x hx' => ⟨_, rfl, ?_⟩) ?_
      · sizeOf_list_dec
        exact wp_eq (f_is_int (hx x hx')) ⟨rfl, rfl⟩
      · sizeOf_list_dec
        refine wp_lL (bools_l (bls_of isI xs)) ?_
        sizeOf_list_dec
        have h1' : xs.length = n := by omega
        exact ⟨by simp [isRow, h1'], rfl⟩
    · have h1' : ¬ xs.length = n := by omega
      exact wp_fin ⟨by simp [isRow, h1'], rfl⟩
  | _ => first | (refine ⟨_, rfl, way_f ?_⟩; exact wp_fin ⟨rfl, rfl⟩) | (simp [okd] at h; done)
abbrev LL : Int := 1000000000000
def isSm : D → Bool
  | .int i => decide (-LL ≤ i) && decide (i ≤ LL)
  | _ => false
def isRd (n t : Nat) : D → Bool
  | .tup [a, b, .tup v] => isIn 0 (t - 1) a && (isIn 0 (t - 1) b && (decide (v.length = n) && v.all isSm))
  | _ => false
theorem three_of {xs : List D} (h : xs.length = 3) : ∃ a b c, xs = [a, b, c] := by
  match xs, h with
  | [a, b, c], _ => exact ⟨a, b, c, rfl⟩
theorem isT {d : D} : (∃ xs, d = .tup xs) ∨ (builtinIs (kk d) "tuple" = false ∧ ∀ n t, isRd n t d = false ∧ isRow n d = false) := by
  cases d <;> first | exact .inl ⟨_, rfl⟩ | exact .inr ⟨rfl, fun n t => ⟨rfl, rfl⟩⟩
theorem rd_len {xs : List D} {n t : Nat} (h : ¬ xs.length = 3) : isRd n t (.tup xs) = false := by
  unfold isRd
  split
  · rename_i e
    cases e
    exact absurd rfl h
  · rfl
theorem rd_nt {a b c : D} {n t : Nat} (h : isRow n c = false) : isRd n t (.tup [a, b, c]) = false := by
  cases c <;> try rfl
  rename_i v
  simp only [isRow] at h
  simp only [isRd]
  cases e : decide (v.length = n)
  · simp
  · rw [e, Bool.true_and] at h
    have : v.all isSm = false := by
      cases e2 : v.all isSm
      · rfl
      · have : v.all isI = true := List.all_eq_true.mpr fun x hx => by
          have := List.all_eq_true.mp e2 x hx
          cases x <;> first | rfl | (simp [isSm] at this)
        rw [this] at h
        cases h
    simp [this]
theorem f_is_reading (h : okd (cl 0) d = true) {n t : Nat} : F_is_reading cl [.int n, .int t, d] S = .val (.bl (isRd n t d)) S := by
  refine wp_to ?_
  unfold F_is_reading
  refine wp_def rfl ?_
  unfold m_is_reading
  sizeOf_list_dec
  refine wp_lL (isiK h (by decide)) ?_
  rcases isT (d := d) with ⟨xs, rfl⟩ | ⟨z1, z2⟩
  rotate_left
  · rw [z1]
    exact ⟨_, rfl, way_f (wp_fin ⟨by rw [(z2 n t).1], rfl⟩)⟩
  refine ⟨_, rfl, way_t ?_⟩
  obtain ⟨l, hx⟩ := okd_tup h
  sizeOf_list_dec
  refine way_d (fun h1 => ?_) (fun h1 => ?_)
  rotate_left
  · exact wp_fin ⟨by rw [rd_len (by omega)], rfl⟩
  obtain ⟨a, b, c, rfl⟩ := three_of (by omega : xs.length = 3)
  sizeOf_list_dec
  refine wp_eq (f_is_int_in (hx a (by simp))) ?_
  cases ea : isIn 0 (t - 1) a
  · exact ⟨_, rfl, way_f (wp_fin ⟨by cases c <;> simp [isRd, ea], rfl⟩)⟩
  refine ⟨_, rfl, way_t ?_⟩
  sizeOf_list_dec
  refine wp_eq (f_is_int_in (hx b (by simp))) ?_
  cases eb : isIn 0 (t - 1) b
  · exact ⟨_, rfl, way_f (wp_fin ⟨by cases c <;> simp [isRd, ea, eb], rfl⟩)⟩
  refine ⟨_, rfl, way_t ?_⟩
  sizeOf_list_dec
  refine wp_eq (f_is_row (hx c (by simp))) ?_
  cases ec : isRow n c
  · exact ⟨_, rfl, way_f (wp_fin ⟨by rw [rd_nt ec], rfl⟩)⟩
  refine ⟨_, rfl, way_t ?_⟩
  cases c with
  | tup v =>
    simp only [isRow, Bool.and_eq_true, decide_eq_true_eq] at ec
    obtain ⟨lv, _⟩ := okd_tup (hx _ (by simp : D.tup v ∈ [a, b, D.tup v]))
    sizeOf_list_dec
    refine wp_map (fun x => .bl (isSm x)) (by omega) rfl (fun x hx' => ⟨_, rfl, ?_⟩) ?_
    · have := List.all_eq_true.mp ec.2 x hx'
      cases x with
      | int i =>
        sizeOf_list_dec
        refine way_d (fun h1 => ?_) (fun h1 => ?_)
        · sizeOf_list_dec
          have : -LL ≤ i := by omega
          exact ⟨by simp [isSm, this], rfl⟩
        · have : ¬ -LL ≤ i := by omega
          exact ⟨by simp [isSm, this], rfl⟩
      | _ => cases this
    · sizeOf_list_dec
      refine wp_lL (bools_l (bls_of isSm v)) ?_
      sizeOf_list_dec
      exact ⟨by simp [isRd, ea, eb, ec.1], rfl⟩
  | _ => cases ec
theorem f_law_is_reading (h : okd (cl 0) d = true) {n t : Nat} {more : List D} : F__law_is_reading cl [.tup (.int n :: .int t :: more), d] S = .val (.bl (isRd n t d)) S := by
  refine wp_to ?_
  unfold F__law_is_reading
  refine wp_def rfl ?_
  unfold m__law_is_reading
  sizeOf_list_dec
  refine wp_lL (isiK h (by decide)) ?_
  rcases isT (d := d) with ⟨xs, rfl⟩ | ⟨z1, z2⟩
  rotate_left
  · rw [z1]
    sizeOf_list_dec
    exact ⟨by rw [(z2 n t).1], rfl⟩
  refine ⟨_, rfl, ?_⟩
  rw [show (!builtinIs (kk (D.tup xs)) "tuple") = false from rfl]
  obtain ⟨l, hx⟩ := okd_tup h
  sizeOf_list_dec
  refine way_nd (fun h1 => ?_) (fun h1 => ?_)
  rotate_left
  · sizeOf_list_dec
    exact ⟨by rw [rd_len (by omega)], rfl⟩
  obtain ⟨a, b, c, rfl⟩ := three_of (by omega : xs.length = 3)
  sizeOf_list_dec
  refine wp_eq (f_law_integer (hx a (by simp))) ?_
  sizeOf_list_dec
  have aI : isI a = false → isRd n t (.tup [a, b, c]) = false := fun e => by cases a <;> first | (cases e; done) | (cases c <;> rfl)
  have bI : isI b = false → isRd n t (.tup [a, b, c]) = false := fun e => by cases b <;> first | (cases e; done) | (cases c <;> first | rfl | simp [isRd, isIn])
  cases ea : isI a
  · sizeOf_list_dec
    exact ⟨by rw [aI ea], rfl⟩
  sizeOf_list_dec
  refine wp_eq (f_law_integer (hx b (by simp))) ?_
  sizeOf_list_dec
  cases eb : isI b
  · sizeOf_list_dec
    exact ⟨by rw [bI eb], rfl⟩
  sizeOf_list_dec
  cases a with
  | int i =>
    cases b with
    | int j =>
      have no : isIn 0 (t - 1) (.int i) = false ∨ isIn 0 (t - 1) (.int j) = false → isRd n t (.tup [.int i, .int j, c]) = false := fun e => by
        rcases e with e | e <;> cases c <;> simp [isRd, e]
      sizeOf_list_dec
      refine way_d (fun h1 => ?_) (fun h1 => ?_)
      · sizeOf_list_dec
        exact ⟨by rw [no (.inl (by have : ¬ 0 ≤ i := by omega
                                   simp [isIn, this]))], rfl⟩
      sizeOf_list_dec
      refine way_d (fun h2 => ?_) (fun h2 => ?_)
      · sizeOf_list_dec
        exact ⟨by rw [no (.inl (by have : ¬ i ≤ (t : Int) - 1 := by omega
                                   simp [isIn, this]))], rfl⟩
      sizeOf_list_dec
      refine way_d (fun h3 => ?_) (fun h3 => ?_)
      · sizeOf_list_dec
        exact ⟨by rw [no (.inr (by have : ¬ 0 ≤ j := by omega
                                   simp [isIn, this]))], rfl⟩
      sizeOf_list_dec
      refine way_d (fun h4 => ?_) (fun h4 => ?_)
      · sizeOf_list_dec
        exact ⟨by rw [no (.inr (by have : ¬ j ≤ (t : Int) - 1 := by omega
                                   simp [isIn, this]))], rfl⟩
      have yes : isIn 0 (t - 1) (.int i) = true ∧ isIn 0 (t - 1) (.int j) = true := by
        have a1 : 0 ≤ i := by omega
        have a2 : i ≤ (t : Int) - 1 := by omega
        have a3 : 0 ≤ j := by omega
        have a4 : j ≤ (t : Int) - 1 := by omega
        simp [isIn, a1, a2, a3, a4]
      sizeOf_list_dec
      refine wp_lL (isiK (hx c (by simp)) (by decide)) ?_
      rcases isT (d := c) with ⟨v, rfl⟩ | ⟨y1, y2⟩
      rotate_left
      · rw [y1]
        sizeOf_list_dec
        exact ⟨by rw [rd_nt (y2 n t).2], rfl⟩
      · obtain ⟨lv, hv⟩ := okd_tup (hx _ (by simp : D.tup v ∈ [D.int i, D.int j, D.tup v]))
        refine ⟨_, rfl, ?_⟩
        rw [show (!builtinIs (kk (D.tup v)) "tuple") = false from rfl]
        sizeOf_list_dec
        refine way_nd (fun h5 => ?_) (fun h5 => ?_)
        rotate_left
        · sizeOf_list_dec
          have : ¬ v.length = n := by omega
          exact ⟨by simp [isRd, this], rfl⟩
        sizeOf_list_dec
        have h5' : v.length = n := by omega
        refine wp_loop (fun ds ρ S1 => ∃ (done : List D) (a : Option D), v = done ++ ds ∧ done.all isSm = true ∧ ρ = [some (.tup (.int n :: .int t :: more)), some (.tup [.int i, .int j, .tup v]), a] ∧ S1 = S) ⟨[], _, rfl, rfl, rfl, rfl⟩ ?_ ?_
        · rintro x ds _ _ ⟨done, a, e1, e2, rfl, rfl⟩
          refine ⟨rfl, _, rfl, ?_⟩
          have hxx := hv x (by rw [e1]; simp)
          have bad : isSm x = false → isRd n t (.tup [.int i, .int j, .tup v]) = false := fun e => by
            have : v.all isSm = false := by rw [e1]; simp [e]
            simp [isRd, this]
          sizeOf_list_dec
          refine wp_eq (f_law_integer hxx) ?_
          sizeOf_list_dec
          cases ex : isI x
          · sizeOf_list_dec
            exact ⟨by rw [bad (by cases x <;> first | rfl | cases ex)], rfl⟩
          cases x with
          | int z =>
            sizeOf_list_dec
            refine way_d (fun h6 => ?_) (fun h6 => ?_)
            · sizeOf_list_dec
              exact ⟨by rw [bad (by simp only [isSm, Bool.and_eq_false_iff, decide_eq_false_iff_not]; have hL : LL = 1000000000000 := rfl; omega)], rfl⟩
            · sizeOf_list_dec
              exact ⟨done ++ [.int z], _, by rw [e1]; simp, by rw [List.all_append, e2]; simp only [List.all_cons, List.all_nil, isSm, Bool.true_and, Bool.and_true, Bool.and_eq_true, decide_eq_true_eq]; have hL : LL = 1000000000000 := rfl; omega, rfl, rfl⟩
          | _ => cases ex
        · rintro _ _ ⟨done, a, e1, e2, rfl, rfl⟩
          refine ⟨rfl, ?_⟩
          sizeOf_list_dec
          rw [List.append_nil] at e1
          subst e1
          exact ⟨by simp [isRd, yes.1, yes.2, h5', e2], rfl⟩
    | _ => cases eb
  | _ => cases ea
end LW
set_option linter.all false
set_option maxRecDepth 100000
namespace LW
open DL PySem L2
variable {cl : Nat → Addr} {d d' : D} {S : St0} {X : XP} {Q : D → St0 → Prop}
theorem leD_rk (a b : RS.RK) : opLeD (rkD a) (rkD b) S = some (.bl (!decide (RS.rlt b a))) := by
  have e1 : opLe (rkD a) (rkD b) S = none := rfl
  have p1 : ∀ a : RS.RK, pyOf S (rkD a) = some (.tuple [.int a.1, .int a.2.1, .tuple (a.2.2.map .int)]) := fun a => enc_rk.py a _
  unfold opLeD ordD
  simp only [e1, p1]
  have h1 : PySem.W.alike (.tuple [.int a.1, .int a.2.1, .tuple (a.2.2.map .int)]) (.tuple [.int b.1, .int b.2.1, .tuple (b.2.2.map .int)]) = true := RS.alike_enc a b
  have h2 : (PyData.tuple [.int a.1, .int a.2.1, .tuple (a.2.2.map .int)]).depth ≤ 60 := enc_rk.dep a
  rw [if_pos ⟨h1, h2⟩]
  have := RS.lt_enc b a
  unfold RS.enc at this
  rw [this]
def intOf : D → Int
  | .int i => i
  | _ => 0
def rdOf : D → RS.RK
  | .tup [a, b, .tup v] => (intOf a, intOf b, v.map intOf)
  | _ => (0, 0, [])
theorem sm_ints : ∀ {v : List D}, v.all isSm = true → (v.map intOf).map D.int = v
  | [], _ => rfl
  | x :: xs, h => by
    simp only [List.all_cons, Bool.and_eq_true] at h
    simp only [List.map_cons, sm_ints h.2]
    cases x <;> first | rfl | (simp [isSm] at h)
theorem rd_is {n t : Nat} (h : isRd n t d = true) : d = rkD (rdOf d) := by
  unfold isRd at h
  split at h
  · rename_i a b v
    simp only [Bool.and_eq_true] at h
    obtain ⟨h1, h2, h3, h4⟩ := h
    show _ = D.tup [.int (intOf a), .int (intOf b), .tup ((v.map intOf).map .int)]
    rw [sm_ints h4]
    cases a <;> first | (cases h1; done) | skip
    cases b <;> first | (cases h2; done) | rfl
  · cases h
def upOk : Option D → D → Bool
  | none, _ => true
  | some p, x => decide (RS.rlt (rdOf p) (rdOf x))
def bad (n t : Nat) : Nat → Option D → List D → Option Nat
  | _, _, [] => none
  | k, p, x :: xs => if isRd n t x = true ∧ upOk p x = true then bad n t (k + 1) (some x) xs else some k
def noted : Option Nat → D
  | none => .non
  | some k => .int k
def natOf (d : D) : Nat := (intOf d).toNat
/-- what is told of the three parts -/
def partD (a b r : D) : D := if isIn 1 4 a = true then (if isIn 1 8 b = true then (match r with
    | .tup xs => if xs.length ≤ 24 then noted (bad (natOf a) (natOf b) 0 none xs) else .str "readings"
    | _ => .str "readings") else .str "tables") else .str "sides"
theorem isIn_is {a b : Int} (h0 : 0 ≤ a) (h : isIn a b d = true) : d = .int (natOf d) ∧ a ≤ natOf d ∧ (natOf d : Int) ≤ b := by
  cases d <;> try cases h
  rename_i i
  simp only [isIn, Bool.and_eq_true, decide_eq_true_eq] at h
  have : ((intOf (.int i)).toNat : Int) = i := by show (i.toNat : Int) = i; omega
  unfold natOf
  rw [this]
  exact ⟨rfl, h⟩
theorem part_clo (a b r : D) : (partD a b r).clo 0 = true := by
  unfold partD
  repeat' split
  all_goals first | rfl | skip
  rename_i xs _
  cases bad (natOf a) (natOf b) 0 none xs <;> rfl
def prgD (C : Addr) (a b r : D) : D := .ins C ["sides", "tables", "readings"] [a, b, r]
theorem bad_rd {n t : Nat} : ∀ {xs : List D} {k : Nat} {p : Option D}, bad n t k p xs = none → ∀ x ∈ xs, isRd n t x = true
  | [], _, _, _ => by simp
  | x :: xs, k, p, h => by
    unfold bad at h
    split at h
    · rename_i c
      intro y hy
      rcases List.mem_cons.mp hy with rfl | hy
      · exact c.1
      · exact bad_rd h y hy
    · cases h
theorem rd_clo {n t : Nat} (h : isRd n t d = true) : d.clo 0 = true := by
  rw [rd_is h]
  refine clos_all fun x hx => ?_
  simp only [List.mem_cons, List.mem_nil_iff, or_false] at hx
  rcases hx with rfl | rfl | rfl
  · rfl
  · rfl
  · exact clos_all fun x hx => by obtain ⟨i, _, rfl⟩ := List.mem_map.mp hx; rfl
theorem part_non {a b r : D} (h : partD a b r = .non) : ∃ (n t : Nat) (xs : List D), a = .int n ∧ b = .int t ∧ r = .tup xs ∧ 1 ≤ n ∧ n ≤ 4 ∧ 1 ≤ t ∧ t ≤ 8 ∧ xs.length ≤ 24 ∧ bad n t 0 none xs = none := by
  unfold partD at h
  split at h
  · rename_i h1
    split at h
    · rename_i h2
      obtain ⟨e1, e2, e3⟩ := isIn_is (by decide) h1
      obtain ⟨e4, e5, e6⟩ := isIn_is (by decide) h2
      split at h
      · rename_i xs
        split at h
        · rename_i hl
          refine ⟨_, _, xs, e1, e4, rfl, by omega, by omega, by omega, by omega, hl, ?_⟩
          cases e : bad (natOf a) (natOf b) 0 none xs with
          | none => rfl
          | some k => rw [e] at h; cases h
        · cases h
      · cases h
    · cases h
  · cases h
theorem prg_clo {a b r : D} (h : partD a b r = .non) : D.clos 0 [a, b, r] = true := by
  obtain ⟨n, t, xs, rfl, rfl, rfl, _, _, _, _, _, h⟩ := part_non h
  have : (D.tup xs).clo 0 = true := clos_all fun x hx => rd_clo (bad_rd h x hx)
  simp [D.clos, D.clo] at this ⊢
  exact this
theorem enums_cons {x : D} {xs : List D} {k : Nat} : enums k (x :: xs) = .tup [.int k, x] :: enums (k + 1) xs := rfl
theorem f_init_run {a b r : D} (ha : okd (cl 0) a = true) (hb : okd (cl 0) b = true) (hr : okd (cl 0) r = true) :
    F_Program___init__ cl [.ref S.length, a, b, r] (S ++ [.ins (cl 0) [] []]) = if partD a b r = .non then .val .non (S ++ [.ins (cl 0) ["sides", "tables", "readings"] [a, b, r]]) else .exc (cl 2) [(Str.ofString "part", partD a b r)] (S ++ [.ins (cl 0) [] []]) := by
  have main : (m_Program___init__ cl [some (.ref S.length), some a, some b, some r, none, none] (S ++ [.ins (cl 0) [] []])).wp ⟨fun ρ S' => partD a b r = .non ∧ S' = S ++ [.ins (cl 0) ["sides", "tables", "readings"] [a, b, r]], noT, noN, noN, fun E fs S' => partD a b r ≠ .non ∧ E = cl 2 ∧ fs = [(Str.ofString "part", partD a b r)] ∧ S' = S ++ [.ins (cl 0) [] []]⟩ := by
    unfold m_Program___init__
    sizeOf_list_dec
    refine wp_eq (f_is_int_in ha) ?_
    sizeOf_list_dec
    cases e1 : isIn 1 4 a
    · sizeOf_list_dec
      have b1 : partD a b r = .str "sides" := by simp [partD, e1]
      refine wps_raise1 (wp_c ⟨by rw [b1]; simp, rfl, by rw [b1], rfl⟩)
    sizeOf_list_dec
    refine wp_eq (f_is_int_in hb) ?_
    sizeOf_list_dec
    cases e2 : isIn 1 8 b
    · sizeOf_list_dec
      have b1 : partD a b r = .str "tables" := by simp [partD, e1, e2]
      refine wps_raise1 (wp_c ⟨by rw [b1]; simp, rfl, by rw [b1], rfl⟩)
    sizeOf_list_dec
    refine wp_lL (isiK hr (by decide)) ?_
    rcases isT (d := r) with ⟨xs, rfl⟩ | ⟨z1, z2⟩
    rotate_left
    · rw [z1]
      sizeOf_list_dec
      have b1 : partD a b r = .str "readings" := by
        unfold partD
        rw [e1, e2, if_pos rfl, if_pos rfl]
        cases r <;> first | rfl | (cases z1; done)
      refine wps_raise1 (wp_c ⟨by rw [b1]; simp, rfl, by rw [b1], rfl⟩)
    refine ⟨_, rfl, ?_⟩
    rw [show (!builtinIs (kk (D.tup xs)) "tuple") = false from rfl]
    sizeOf_list_dec
    obtain ⟨lr, hx⟩ := okd_tup hr
    refine way_d (fun h1 => ?_) (fun h1 => ?_)
    · have b1 : partD a b (.tup xs) = .str "readings" := by
        have : ¬ xs.length ≤ 24 := by omega
        simp [partD, e1, e2, this]
      refine wps_raise1 (wp_c ⟨by rw [b1]; simp, rfl, by rw [b1], rfl⟩)
    obtain ⟨ea, a1, a2⟩ := isIn_is (by decide) e1
    obtain ⟨eb, b1, b2⟩ := isIn_is (by decide) e2
    have pd : partD a b (.tup xs) = noted (bad (natOf a) (natOf b) 0 none xs) := by
      have : xs.length ≤ 24 := by omega
      simp [partD, e1, e2, this]
    generalize natOf a = n at *
    generalize natOf b = t at *
    subst ea
    subst eb
    sizeOf_list_dec
    refine wp_loop (fun ds ρ S1 => ∃ (done todo : List D) (a b : Option D), xs = done ++ todo ∧ ds = enums done.length todo ∧ (∀ x ∈ done, isRd n t x = true) ∧ bad n t 0 none xs = bad n t done.length done.getLast? todo ∧ ρ = [some (.ref S.length), some (.int n), some (.int t), some (.tup xs), a, b] ∧ S1 = S ++ [.ins (cl 0) [] []]) ⟨[], xs, _, _, rfl, rfl, by simp, rfl, rfl, rfl⟩ ?_ ?_
    · rintro d ds _ _ ⟨done, todo, u, v, g1, g2, g3, g4, rfl, rfl⟩
      cases todo with
      | nil => cases g2
      | cons x todo =>
        obtain ⟨rfl, rfl⟩ : d = .tup [.int done.length, x] ∧ ds = enums (done.length + 1) todo := by
          rw [enums_cons] at g2
          exact List.cons.inj g2
        refine ⟨rfl, _, rfl, ?_⟩
        have stop : ¬ (isRd n t x = true ∧ upOk done.getLast? x = true) → partD (.int n) (.int t) (.tup xs) = .int done.length := fun h => by
          rw [pd, g4]
          unfold bad
          rw [if_neg h]
          rfl
        sizeOf_list_dec
        refine wp_eq (f_is_reading (hx x (by rw [g1]; simp))) ?_
        sizeOf_list_dec
        cases er : isRd n t x
        · sizeOf_list_dec
          have b1 := stop (by rw [er]; simp)
          refine wps_raise1 ?_
          sizeOf_list_dec
          exact ⟨by rw [b1]; simp, rfl, by rw [b1], rfl⟩
        sizeOf_list_dec
        have fin : upOk done.getLast? x = true → ∃ (done' todo' : List D) (a' b' : Option D), xs = done' ++ todo' ∧ enums (done.length + 1) todo = enums done'.length todo' ∧ (∀ x ∈ done', isRd n t x = true) ∧ bad n t 0 none xs = bad n t done'.length done'.getLast? todo' ∧ [some (D.ref S.length), some (.int n), some (.int t), some (.tup xs), some (.int done.length), some x] = [some (.ref S.length), some (.int n), some (.int t), some (.tup xs), a', b'] ∧ S ++ [.ins (cl 0) [] []] = S ++ [Ob.ins (cl 0) [] []] := fun hu =>
          ⟨done ++ [x], todo, _, _, by rw [g1]; simp, by simp, fun y hy => by
            rcases List.mem_append.mp hy with hy | hy
            · exact g3 y hy
            · cases List.mem_singleton.mp hy; exact er, by
            rw [g4]
            conv => lhs; unfold bad
            rw [if_pos ⟨er, hu⟩]
            simp, rfl, rfl⟩
        refine way_d (fun hz => ?_) (fun hz => ?_)
        · sizeOf_list_dec
          obtain ⟨init, y, rfl⟩ : ∃ init y, done = init ++ [y] := ⟨_, _, (List.dropLast_concat_getLast (by intro z; rw [z] at hz; simp at hz)).symm⟩
          have ix : ∀ S, opIx (.tup xs) (.int (((init ++ [y]).length : Int) - 1)) S = some y := fun S => by
            rw [show (((init ++ [y]).length : Int) - 1) = ((init.length : Nat) : Int) from by simp]
            refine ixtN ?_
            rw [g1]
            simp
          refine wp_l2 (ix _) ?_
          have ry := rd_is (g3 y (by simp))
          have rx := rd_is er
          have le : opLeD x y = opLeD (rkD (rdOf x)) (rkD (rdOf y)) := by rw [← ry, ← rx]
          refine wp_l2 (z := .bl (!decide (RS.rlt (rdOf y) (rdOf x)))) (by rw [le]; exact leD_rk _ _) ?_
          have gl : (init ++ [y]).getLast? = some y := by simp
          cases eu : decide (RS.rlt (rdOf y) (rdOf x))
          · sizeOf_list_dec
            have b1 := stop (by rw [gl]; simp only [upOk, eu]; simp)
            refine wps_raise1 ?_
            sizeOf_list_dec
            exact ⟨by rw [b1]; simp, rfl, by rw [b1], rfl⟩
          · sizeOf_list_dec
            exact fin (by rw [gl]; exact eu)
        · sizeOf_list_dec
          refine fin ?_
          have : done = [] := List.eq_nil_of_length_eq_zero (by omega)
          rw [this]
          rfl
    · rintro _ _ ⟨done, todo, u, v, g1, g2, g3, g4, rfl, rfl⟩
      have td : todo = [] := by
        cases todo with
        | nil => rfl
        | cons x xs => cases g2
      subst td
      refine ⟨rfl, ?_⟩
      have ok : partD (.int n) (.int t) (.tup xs) = .non := by
        rw [pd, g4]
        rfl
      have g0 : ∀ ns xs, (S ++ [Ob.ins (cl 0) ns xs])[S.length]? = some (.ins (cl 0) ns xs) := fun ns xs => by simp
      have st : ∀ ns xs o, (S ++ [Ob.ins (cl 0) ns xs]).set S.length o = S ++ [o] := fun ns xs o => by rw [List.set_append_right _ _ (Nat.le_refl _), Nat.sub_self]; rfl
      sizeOf_list_dec
      refine ⟨_, _, _, _, rfl, g0 _ _, by simp, by simp, ?_⟩
      rw [st]
      sizeOf_list_dec
      refine ⟨_, _, _, _, rfl, g0 _ _, by simp, ?_, ?_⟩
      · show 1 < 1000; decide
      rw [st]
      sizeOf_list_dec
      refine ⟨_, _, _, _, rfl, g0 _ _, by simp, ?_, ?_⟩
      · show 2 < 1000; decide
      rw [st]
      exact ⟨ok, rfl⟩
  have run : F_Program___init__ cl [.ref S.length, a, b, r] (S ++ [.ins (cl 0) [] []]) = if partD a b r = .non then .val .non (S ++ [.ins (cl 0) ["sides", "tables", "readings"] [a, b, r]]) else .exc (cl 2) [(Str.ofString "part", partD a b r)] (S ++ [.ins (cl 0) [] []]) := by
    unfold F_Program___init__
    rw [mDef_at (np := 4) (by rfl), if_neg Bool.false_ne_true]
    show finish _ (m_Program___init__ cl [some (.ref S.length), some a, some b, some r, none, none] _).toR = _
    generalize m_Program___init__ cl [some (.ref S.length), some a, some b, some r, none, none] (S ++ [.ins (cl 0) [] []]) = q at main
    cases main with
    | nx h => obtain ⟨h, rfl⟩ := h; rw [if_pos h]; exact fin_ins (prg_clo h)
    | rt h => exact h.elim
    | bk h => exact h.elim
    | ct h => exact h.elim
    | exc h =>
      obtain ⟨h, rfl, rfl, rfl⟩ := h
      rw [if_neg h]
      exact fin_samex
  exact run
theorem f_init {a b r : D} (ha : okd (cl 0) a = true) (hb : okd (cl 0) b = true) (hr : okd (cl 0) r = true) :
    mMake false (cl 0) (F_Program___init__ cl) [a, b, r] S = if partD a b r = .non then .val (prgD (cl 0) a b r) S else .exc (cl 2) [(Str.ofString "part", partD a b r)] S := by
  have run := f_init_run (cl := cl) (S := S) ha hb hr
  by_cases h : partD a b r = .non
  · rw [if_pos h] at run ⊢
    exact make_ok (prg_clo h) run
  · rw [if_neg h] at run ⊢
    exact make_exc (ns := [Str.ofString "part"]) (xs := [partD a b r]) (by simp [D.clos, part_clo]) rfl run
end LW
set_option linter.all false
set_option maxRecDepth 100000
namespace LW
open DL PySem L2
variable {cl : Nat → Addr} {d d' : D} {s k : Int} {g : List Int} {rest E : St0}
theorem fin_bg {k' : Int} {g' : List Int} (hd : d.mapR (refAt (bg s k' g' rest ++ E) (bg s k g rest).length (bg s k' g' rest ++ E).length) = some d') : finish (bg s k g rest) (.val d (bg s k' g' (rest ++ E))) = .val d' (bg s k' g' rest) := by
  refine fin_app (S1 := bg s k' g' rest) (E := E) rfl (fun i o o' h1 h2 => ?_) hd
  match i with
  | 0 => cases h2; exact .inr (clos_ints _ _)
  | 1 => cases h2; exact .inr (by simp [Ob.clo, D.clos, D.clo])
  | i + 2 => exact .inl (by simp only [List.getElem?_cons_succ] at h1 h2; rw [h1] at h2; cases h2; rfl)
/-- .. a value -/
theorem fin_bg0 {k' : Int} {g' : List Int} (hd : d.clo 0 = true) : finish (bg s k g rest) (.val d (bg s k' g' rest)) = .val d (bg s k' g' rest) := by
  have := fin_bg (s := s) (k := k) (g := g) (k' := k') (g' := g') (rest := rest) (E := []) (d := d) (d' := d) (mapR_id (n := 0) (fun _ h => by cases h) d hd)
  rwa [List.append_nil] at this
theorem b0 : opIx (.ref 1) (.int 0) (bg s k g rest) = some (.int s) := by rw [ix_r rfl]; exact at0
theorem b1 : opIx (.ref 1) (.int 1) (bg s k g rest) = some (.int k) := by rw [ix_r rfl]; exact at1
theorem b2 : opIx (.ref 1) (.int 2) (bg s k g rest) = some (.ref 0) := by rw [ix_r rfl]; exact at2
theorem fdiv_b {i j : Int} {S : St0} (h : 0 < j) (h2 : j.natAbs.log2 < 9000) : opFdiv (.int i) (.int j) S = some (.int (i / j)) := by simp only [opFdiv, if_pos (And.intro h h2)]
theorem draw {m : Int} (h0 : 0 < m) (h1 : m.natAbs.log2 < 9000) (s0 : 0 ≤ s) (s1 : s < 2147483647) : ∃ r k' g', F__law_draw cl [.ref 1, .int m] (bg s k g rest) = .val (.int r) (bg s k' g' rest) ∧ 0 ≤ r ∧ r < m := by
  have x0 : ixN 3 1 = some 1 := by unfold ixN; simp
  have r1 : refL (bg s k g rest) (.ref 1) = some (1, [.int s, .int k, .ref 0]) := rfl
  unfold F__law_draw mDef
  rw [if_pos (by rfl), if_neg Bool.false_ne_true]
  unfold m__law_draw
  have st1 : ∀ a b c, mSetIx (mBin (lift2 opAdd) (mBin (lift2 opIx) (mVar 0) (mC (.int 1))) (mC (.int 1))) (mVar 0) (mC (.int 1)) [some (.ref 1), some (.int m), a, b, c] (bg s k g rest) = .nx [some (.ref 1), some (.int m), a, b, c] (bg s (k + 1) g rest) := fun a b c => by
    (simp only [mSeq, mDrop, mRet, mRetN, mBreak, mCont, mNext, mIf, mSet, mVar, mC, mUn, mBin, mOn, mCons, mNil, mAnd, mOr, mNot, mIfE, mTup, mLst, R.bind_val, R.stm_val, R.stmT, R.test, RS.seq_nx, RS.seq_rt, RS.seq_bk, RS.seq_ct, RA.bind_vals, RA.map_vals, R.bindA_val, R.bind0_val, R.test0, lift1, lift2, liftL, List.getElem?_cons_zero, List.getElem?_cons_succ, List.set_cons_zero, List.set_cons_succ, List.length_cons, List.length_nil, RS.toR_nx, RS.toR_rt, if_true, if_false, Bool.false_eq_true, reduceCtorEq, List.map_cons, List.map_nil, List.cons_append, List.nil_append, List.replicate_succ, List.replicate_zero, Nat.sub_self, Bool.not_true, Bool.not_false, Nat.reduceSub, Nat.reduceAdd, Nat.reduceEqDiff, List.append_nil, mSetIx, b1, add_i, r1, x0])
  have st2 : ∀ a b c, mSet 2 (mBin (lift2 opIx) (mVar 0) (mC (.int 2))) [some (.ref 1), some (.int m), a, b, c] (bg s (k + 1) g rest) = .nx [some (.ref 1), some (.int m), some (.ref 0), b, c] (bg s (k + 1) g rest) := fun a b c => by
    (simp only [mSeq, mDrop, mRet, mRetN, mBreak, mCont, mNext, mIf, mSet, mVar, mC, mUn, mBin, mOn, mCons, mNil, mAnd, mOr, mNot, mIfE, mTup, mLst, R.bind_val, R.stm_val, R.stmT, R.test, RS.seq_nx, RS.seq_rt, RS.seq_bk, RS.seq_ct, RA.bind_vals, RA.map_vals, R.bindA_val, R.bind0_val, R.test0, lift1, lift2, liftL, List.getElem?_cons_zero, List.getElem?_cons_succ, List.set_cons_zero, List.set_cons_succ, List.length_cons, List.length_nil, RS.toR_nx, RS.toR_rt, if_true, if_false, Bool.false_eq_true, reduceCtorEq, List.map_cons, List.map_nil, List.cons_append, List.nil_append, List.replicate_succ, List.replicate_zero, Nat.sub_self, Bool.not_true, Bool.not_false, Nat.reduceSub, Nat.reduceAdd, Nat.reduceEqDiff, List.append_nil, b2])
  show ∃ r k' g', finish _ (mSeq _ _ [some (.ref 1), some (.int m), none, none, none] _).toR = _ ∧ _
  rw [mseq_at (st1 none none none), mseq_at (st2 none none none)]
  cases g with
  | nil =>
    have st3 : ∀ A, mIf (mBin (lift2 opGt) (mOn (liftL opLen) (mCons (mVar 2) mNil)) (mC (.int 0))) A mNext [some (.ref 1), some (.int m), some (.ref 0), none, none] (bg s (k + 1) [] rest) = .nx [some (.ref 1), some (.int m), some (.ref 0), none, none] (bg s (k + 1) [] rest) := fun A => by
      (simp only [mSeq, mDrop, mRet, mRetN, mBreak, mCont, mNext, mIf, mSet, mVar, mC, mUn, mBin, mOn, mCons, mNil, mAnd, mOr, mNot, mIfE, mTup, mLst, R.bind_val, R.stm_val, R.stmT, R.test, RS.seq_nx, RS.seq_rt, RS.seq_bk, RS.seq_ct, RA.bind_vals, RA.map_vals, R.bindA_val, R.bind0_val, R.test0, lift1, lift2, liftL, List.getElem?_cons_zero, List.getElem?_cons_succ, List.set_cons_zero, List.set_cons_succ, List.length_cons, List.length_nil, RS.toR_nx, RS.toR_rt, if_true, if_false, Bool.false_eq_true, reduceCtorEq, List.map_cons, List.map_nil, List.cons_append, List.nil_append, List.replicate_succ, List.replicate_zero, Nat.sub_self, Bool.not_true, Bool.not_false, Nat.reduceSub, Nat.reduceAdd, Nat.reduceEqDiff, List.append_nil, len_r (S := bg s (k + 1) [] rest) (n := 0) (xs := []) rfl, gt_i])
      rfl
    rw [mseq_at (st3 _)]
    (simp only [mSeq, mDrop, mRet, mRetN, mBreak, mCont, mNext, mIf, mSet, mVar, mC, mUn, mBin, mOn, mCons, mNil, mAnd, mOr, mNot, mIfE, mTup, mLst, R.bind_val, R.stm_val, R.stmT, R.test, RS.seq_nx, RS.seq_rt, RS.seq_bk, RS.seq_ct, RA.bind_vals, RA.map_vals, R.bindA_val, R.bind0_val, R.test0, lift1, lift2, liftL, List.getElem?_cons_zero, List.getElem?_cons_succ, List.set_cons_zero, List.set_cons_succ, List.length_cons, List.length_nil, RS.toR_nx, RS.toR_rt, if_true, if_false, Bool.false_eq_true, reduceCtorEq, List.map_cons, List.map_nil, List.cons_append, List.nil_append, List.replicate_succ, List.replicate_zero, Nat.sub_self, Bool.not_true, Bool.not_false, Nat.reduceSub, Nat.reduceAdd, Nat.reduceEqDiff, List.append_nil, b0, b1, add_i, mul_l (i := 7919) (by decide) (by decide), mul_r (j := 48271) (by decide) (by decide), int_i, mod_i (j := 2147483647) (by decide)])
    generalize hz : (s + 7919 * (k + 1)) * 48271 % 2147483647 = z
    have z0 : 0 ≤ z := by rw [← hz]; exact Int.emod_nonneg _ (by decide)
    have z1 : z < 2147483647 := by rw [← hz]; exact Int.emod_lt_of_pos _ (by decide)
    (simp only [mSeq, mDrop, mRet, mRetN, mBreak, mCont, mNext, mIf, mSet, mVar, mC, mUn, mBin, mOn, mCons, mNil, mAnd, mOr, mNot, mIfE, mTup, mLst, R.bind_val, R.stm_val, R.stmT, R.test, RS.seq_nx, RS.seq_rt, RS.seq_bk, RS.seq_ct, RA.bind_vals, RA.map_vals, R.bindA_val, R.bind0_val, R.test0, lift1, lift2, liftL, List.getElem?_cons_zero, List.getElem?_cons_succ, List.set_cons_zero, List.set_cons_succ, List.length_cons, List.length_nil, RS.toR_nx, RS.toR_rt, if_true, if_false, Bool.false_eq_true, reduceCtorEq, List.map_cons, List.map_nil, List.cons_append, List.nil_append, List.replicate_succ, List.replicate_zero, Nat.sub_self, Bool.not_true, Bool.not_false, Nat.reduceSub, Nat.reduceAdd, Nat.reduceEqDiff, List.append_nil, fdiv_i (j := 1009) (by decide) (by decide), add_i, mul_l (i := z) (by omega) (by omega), int_i, mod_i (j := 2147483647) (by decide)])
    generalize hy : z * (z / 1009 + 69621) % 2147483647 = y
    have y0 : 0 ≤ y := by rw [← hy]; exact Int.emod_nonneg _ (by decide)
    have y1 : y < 2147483647 := by rw [← hy]; exact Int.emod_lt_of_pos _ (by decide)
    (simp only [mSeq, mDrop, mRet, mRetN, mBreak, mCont, mNext, mIf, mSet, mVar, mC, mUn, mBin, mOn, mCons, mNil, mAnd, mOr, mNot, mIfE, mTup, mLst, R.bind_val, R.stm_val, R.stmT, R.test, RS.seq_nx, RS.seq_rt, RS.seq_bk, RS.seq_ct, RA.bind_vals, RA.map_vals, R.bindA_val, R.bind0_val, R.test0, lift1, lift2, liftL, List.getElem?_cons_zero, List.getElem?_cons_succ, List.set_cons_zero, List.set_cons_succ, List.length_cons, List.length_nil, RS.toR_nx, RS.toR_rt, if_true, if_false, Bool.false_eq_true, reduceCtorEq, List.map_cons, List.map_nil, List.cons_append, List.nil_append, List.replicate_succ, List.replicate_zero, Nat.sub_self, Bool.not_true, Bool.not_false, Nat.reduceSub, Nat.reduceAdd, Nat.reduceEqDiff, List.append_nil, fdiv_i (j := 2003) (by decide) (by decide), add_i, mul_l (i := y) (by omega) (by omega), int_i, mod_i (j := 2147483399) (by decide)])
    generalize y * (y / 2003 + 40692) % 2147483399 = x
    (simp only [mSeq, mDrop, mRet, mRetN, mBreak, mCont, mNext, mIf, mSet, mVar, mC, mUn, mBin, mOn, mCons, mNil, mAnd, mOr, mNot, mIfE, mTup, mLst, R.bind_val, R.stm_val, R.stmT, R.test, RS.seq_nx, RS.seq_rt, RS.seq_bk, RS.seq_ct, RA.bind_vals, RA.map_vals, R.bindA_val, R.bind0_val, R.test0, lift1, lift2, liftL, List.getElem?_cons_zero, List.getElem?_cons_succ, List.set_cons_zero, List.set_cons_succ, List.length_cons, List.length_nil, RS.toR_nx, RS.toR_rt, if_true, if_false, Bool.false_eq_true, reduceCtorEq, List.map_cons, List.map_nil, List.cons_append, List.nil_append, List.replicate_succ, List.replicate_zero, Nat.sub_self, Bool.not_true, Bool.not_false, Nat.reduceSub, Nat.reduceAdd, Nat.reduceEqDiff, List.append_nil, fdiv_i (j := 16) (by decide) (by decide), int_i, mod_i h0])
    exact ⟨x / 16 % m, k + 1, [], fin_bg0 rfl, Int.emod_nonneg _ (by omega), Int.emod_lt_of_pos _ h0⟩
  | cons x g =>
    have g0 : ∀ (k : Int) (l : List D), opIx (.ref 0) (.int 0) ((.lst (.int x :: l) :: .lst [.int s, .int k, .ref 0] :: rest : St0)) = some (.int x) := fun k l => by rw [ix_r rfl]; exact at0
    have st3 : ∀ A c, mIf (mBin (lift2 opGt) (mOn (liftL opLen) (mCons (mVar 2) mNil)) (mC (.int 0))) A mNext [some (.ref 1), some (.int m), some (.ref 0), none, c] (bg s (k + 1) (x :: g) rest) = A [some (.ref 1), some (.int m), some (.ref 0), none, c] (bg s (k + 1) (x :: g) rest) := fun A c => by
      (simp only [mSeq, mDrop, mRet, mRetN, mBreak, mCont, mNext, mIf, mSet, mVar, mC, mUn, mBin, mOn, mCons, mNil, mAnd, mOr, mNot, mIfE, mTup, mLst, R.bind_val, R.stm_val, R.stmT, R.test, RS.seq_nx, RS.seq_rt, RS.seq_bk, RS.seq_ct, RA.bind_vals, RA.map_vals, R.bindA_val, R.bind0_val, R.test0, lift1, lift2, liftL, List.getElem?_cons_zero, List.getElem?_cons_succ, List.set_cons_zero, List.set_cons_succ, List.length_cons, List.length_nil, RS.toR_nx, RS.toR_rt, if_true, if_false, Bool.false_eq_true, reduceCtorEq, List.map_cons, List.map_nil, List.cons_append, List.nil_append, List.replicate_succ, List.replicate_zero, Nat.sub_self, Bool.not_true, Bool.not_false, Nat.reduceSub, Nat.reduceAdd, Nat.reduceEqDiff, List.append_nil, len_r (S := bg s (k + 1) (x :: g) rest) (n := 0) (xs := (x :: g).map .int) rfl, gt_i])
      rw [decide_eq_true (by simp)]
      rfl
    have i0 : ∀ n : Nat, ixN (n + 1) 0 = some 0 := fun n => by unfold ixN; simp
    have q0 : ∀ (k y : Int), refL (bg s k (y :: g) rest) (.ref 0) = some (0, (y :: g).map .int) := fun k y => rfl
    have g1 : ∀ (k y : Int), opIx (.ref 0) (.int 0) (bg s k (y :: g) rest) = some (.int y) := fun k y => by rw [ix_r rfl]; exact at0
    have st4 : ∀ c, ∃ g', (mSeq (mSet 3 (mBin (lift2 opMod) (mOn (liftL opInt) (mCons (mBin (lift2 opIx) (mVar 2) (mC (.int 0))) mNil)) (mVar 1)))
        (mSeq (mSetIx (mBin (lift2 opFdiv) (mOn (liftL opInt) (mCons (mBin (lift2 opIx) (mVar 2) (mC (.int 0))) mNil)) (mVar 1)) (mVar 2) (mC (.int 0)))
        (mSeq (mIf (mBin (lift2 opEq) (mBin (lift2 opIx) (mVar 2) (mC (.int 0))) (mC (.int 0))) (mDrop (mMt opPop (mVar 2) (mCons (mC (.int 0)) mNil))) mNext) (mRet (mVar 3)))))
        [some (.ref 1), some (.int m), some (.ref 0), none, c] (bg s (k + 1) (x :: g) rest) = .rt (.int (x % m)) (bg s (k + 1) g' rest) := fun c => by
      (simp only [mSeq, mDrop, mRet, mRetN, mBreak, mCont, mNext, mIf, mSet, mVar, mC, mUn, mBin, mOn, mCons, mNil, mAnd, mOr, mNot, mIfE, mTup, mLst, R.bind_val, R.stm_val, R.stmT, R.test, RS.seq_nx, RS.seq_rt, RS.seq_bk, RS.seq_ct, RA.bind_vals, RA.map_vals, R.bindA_val, R.bind0_val, R.test0, lift1, lift2, liftL, List.getElem?_cons_zero, List.getElem?_cons_succ, List.set_cons_zero, List.set_cons_succ, List.length_cons, List.length_nil, RS.toR_nx, RS.toR_rt, if_true, if_false, Bool.false_eq_true, reduceCtorEq, List.map_cons, List.map_nil, List.cons_append, List.nil_append, List.replicate_succ, List.replicate_zero, Nat.sub_self, Bool.not_true, Bool.not_false, Nat.reduceSub, Nat.reduceAdd, Nat.reduceEqDiff, List.append_nil, g1, int_i, mod_i h0, mSetIx, fdiv_b h0 h1, q0, List.length_map, i0])
      have e : ((.lst (.int (x / m) :: g.map .int) :: .lst [.int s, .int (k + 1), .ref 0] :: rest : St0)) = bg s (k + 1) ((x / m) :: g) rest := rfl
      rw [e]
      (simp only [mSeq, mDrop, mRet, mRetN, mBreak, mCont, mNext, mIf, mSet, mVar, mC, mUn, mBin, mOn, mCons, mNil, mAnd, mOr, mNot, mIfE, mTup, mLst, R.bind_val, R.stm_val, R.stmT, R.test, RS.seq_nx, RS.seq_rt, RS.seq_bk, RS.seq_ct, RA.bind_vals, RA.map_vals, R.bindA_val, R.bind0_val, R.test0, lift1, lift2, liftL, List.getElem?_cons_zero, List.getElem?_cons_succ, List.set_cons_zero, List.set_cons_succ, List.length_cons, List.length_nil, RS.toR_nx, RS.toR_rt, if_true, if_false, Bool.false_eq_true, reduceCtorEq, List.map_cons, List.map_nil, List.cons_append, List.nil_append, List.replicate_succ, List.replicate_zero, Nat.sub_self, Bool.not_true, Bool.not_false, Nat.reduceSub, Nat.reduceAdd, Nat.reduceEqDiff, List.append_nil, g1, eq_i])
      by_cases z : x / m = 0
      · rw [decide_eq_true z]
        refine ⟨g, ?_⟩
        have li : ∀ y, lItems (bg s (k + 1) (y :: g) rest) (.ref 0) = some ((y :: g).map .int) := fun y => rfl
        (simp only [mSeq, mDrop, mRet, mRetN, mBreak, mCont, mNext, mIf, mSet, mVar, mC, mUn, mBin, mOn, mCons, mNil, mAnd, mOr, mNot, mIfE, mTup, mLst, R.bind_val, R.stm_val, R.stmT, R.test, RS.seq_nx, RS.seq_rt, RS.seq_bk, RS.seq_ct, RA.bind_vals, RA.map_vals, R.bindA_val, R.bind0_val, R.test0, lift1, lift2, liftL, List.getElem?_cons_zero, List.getElem?_cons_succ, List.set_cons_zero, List.set_cons_succ, List.length_cons, List.length_nil, RS.toR_nx, RS.toR_rt, if_true, if_false, Bool.false_eq_true, reduceCtorEq, List.map_cons, List.map_nil, List.cons_append, List.nil_append, List.replicate_succ, List.replicate_zero, Nat.sub_self, Bool.not_true, Bool.not_false, Nat.reduceSub, Nat.reduceAdd, Nat.reduceEqDiff, List.append_nil, mMt, li, opPop, q0, List.length_map, i0, List.eraseIdx_cons_zero])
        rfl
      · rw [decide_eq_false z]
        exact ⟨x / m :: g, rfl⟩
    obtain ⟨g', e⟩ := st4 none
    refine ⟨x % m, k + 1, g', ?_, Int.emod_nonneg _ (by omega), Int.emod_lt_of_pos _ h0⟩
    rw [show ∀ (a b : MS) (ρ : Env0) (S : St0), mSeq a b ρ S = (a ρ S).seq b from fun _ _ _ _ => rfl, st3, e]
    exact fin_bg0 rfl
variable {X : XP} {Q : D → St0 → Prop} {S : St0}
theorem draww {m : Int} (h0 : 0 < m) (h1 : m.natAbs.log2 < 9000) (s0 : 0 ≤ s) (s1 : s < 2147483647) : (F__law_draw cl [.ref 1, .int m] (bg s k g rest)).wp noX fun d S' => ∃ r k' g', d = .int r ∧ S' = bg s k' g' rest ∧ 0 ≤ r ∧ r < m := by
  obtain ⟨r, k', g', e, h⟩ := draw (cl := cl) (k := k) (g := g) (rest := rest) h0 h1 s0 s1
  exact wp_eq e ⟨r, k', g', rfl, rfl, h⟩
theorem pickw {m : Int} (h0 : 0 < m) (h1 : m < 1000000000) (s0 : 0 ≤ s) (s1 : s < 2147483647) : (F__law_draw cl [.ref 1, .int m] (bg s k g rest)).wp noX fun d S' => ∃ r k' g', d = .int r ∧ S' = bg s k' g' rest ∧ 0 ≤ r ∧ r < m :=
  draww h0 (log_small h0 (by omega)) s0 s1
theorem ints_ofP {Q : Int → Prop} : ∀ {ds : List D}, (∀ x ∈ ds, ∃ i : Int, x = .int i ∧ Q i) → ∃ v : List Int, ds = v.map .int ∧ ∀ i ∈ v, Q i
  | [], _ => ⟨[], rfl, fun _ h => by cases h⟩
  | d :: ds, h => by
    obtain ⟨i, rfl, q⟩ := h d List.mem_cons_self
    obtain ⟨v, rfl, qs⟩ := ints_ofP fun x hx => h x (List.mem_cons_of_mem _ hx)
    refine ⟨i :: v, rfl, fun j hj => ?_⟩
    rcases List.mem_cons.mp hj with rfl | hj
    · exact q
    · exact qs j hj
inductive All2 {α β : Type} (P : α → β → Prop) : List α → List β → Prop
  | nil : All2 P [] []
  | cons {a : α} {b : β} {as : List α} {bs : List β} : P a b → All2 P as bs → All2 P (a :: as) (b :: bs)
theorem All2.len {α β : Type} {P : α → β → Prop} {as : List α} {bs : List β} (h : All2 P as bs) : as.length = bs.length := by
  induction h with
  | nil => rfl
  | cons _ _ ih => simp [ih]
theorem All2.snoc {α β : Type} {P : α → β → Prop} {as : List α} {bs : List β} {a : α} {b : β} (h : All2 P as bs) (p : P a b) : All2 P (as ++ [a]) (bs ++ [b]) := by
  induction h with
  | nil => exact .cons p .nil
  | cons q _ ih => exact .cons q ih
theorem All2.all {α β : Type} {P : α → β → Prop} {T : β → Prop} {as : List α} {bs : List β} (h : All2 P as bs) (t : ∀ a b, P a b → T b) : ∀ b ∈ bs, T b := by
  induction h with
  | nil => exact fun _ m => nomatch m
  | cons q _ ih =>
    intro b m
    rcases List.mem_cons.mp m with rfl | m
    · exact t _ _ q
    · exact ih b m
/-- a comprehension that draws, item by item -/
theorem wp_draws {P : D → D → Prop} {al : Bool} {gp : Pat} {me : ME} {ρ : Env0} {ds : List D} (hl : ds.length ≤ 1000000)
    (h : ∀ d ∈ ds, ∀ k g, ∃ ρ1, gp.put d ρ = some ρ1 ∧ (me ρ1 (bg s k g rest)).wp noX fun v S' => ∃ k' g', S' = bg s k' g' rest ∧ P d v)
    (q : ∀ out k' g', All2 P ds out → (finL al out (bg s k' g' rest)).wp X Q) : (loopC al [] gp (mC (.bl true)) me ρ ds [] (bg s k g rest)).wp X Q := by
  refine wp_loopC (fun ds' acc S => ∃ k g done, S = bg s k g rest ∧ ds = done ++ ds' ∧ All2 P done acc) ⟨k, g, [], rfl, rfl, .nil⟩ ?_ ?_
  · rintro d ds' acc _ ⟨k, g, done, rfl, e, a⟩
    obtain ⟨ρ1, h1, h2⟩ := h d (by rw [e]; simp) k g
    refine ⟨rfl, ρ1, h1, wp_c ⟨true, rfl, way_t (R.wp_mono0 h2 ?_)⟩⟩
    rintro v _ ⟨k', g', rfl, p⟩
    refine ⟨?_, k', g', done ++ [d], rfl, by simp [e], a.snoc p⟩
    have := a.len
    have h3 : ds.length = done.length + ds'.length + 1 := by rw [e]; simp; omega
    rw [sizeLine_eq]
    omega
  · rintro acc _ ⟨k, g, done, rfl, e, a⟩
    rw [List.append_nil] at e
    subst e
    exact ⟨rfl, q acc k g a⟩
theorem ints_P {Q : Int → Prop} {ds out : List D} (h : All2 (fun _ x => ∃ i : Int, x = .int i ∧ Q i) ds out) : ∃ v : List Int, out = v.map .int ∧ v.length = ds.length ∧ ∀ i ∈ v, Q i := by
  obtain ⟨v, e, h2⟩ := ints_ofP (h.all fun _ _ h => h)
  exact ⟨v, e, by rw [h.len, e]; simp, h2⟩
theorem gl2 (xs : List D) : (bg s k g (rest ++ [.lst xs]))[rest.length + 2]? = some (.lst xs) := by simp
theorem st2 (xs ys : List D) : (bg s k g (rest ++ [.lst xs])).set (rest.length + 2) (.lst ys) = bg s k g (rest ++ [.lst ys]) := by
  show _ :: _ :: (rest ++ [Ob.lst xs]).set rest.length (.lst ys) = _
  rw [List.set_append_right _ _ (Nat.le_refl _), Nat.sub_self]
  rfl
theorem bgE (xs : List D) : bg s k g rest ++ [.lst xs] = bg s k g (rest ++ [.lst xs]) := rfl
theorem bgL : (bg s k g rest).length = rest.length + 2 := rfl
theorem li2 (xs : List D) : lItems (bg s k g (rest ++ [.lst xs])) (.ref (rest.length + 2)) = some xs := by simp [lItems, isTup, itemsOf, seqOf]
theorem fin_bag {k' : Int} {g' : List Int} (hd : d.clo 0 = true) (q : Q d (bg s k' g' rest)) : (if false = true then R.val d (bg s k' g' rest) else finish (bg s k g rest) (.val d (bg s k' g' rest))).wp X Q := by
  rw [if_neg Bool.false_ne_true, fin_bg0 hd]
  exact wp_eq rfl q
theorem rng_len (a : Int) (n : Nat) : (rng a n).length = n := by simp [rng]
end LW
set_option linter.all false
set_option maxRecDepth 100000
namespace LW
open DL PySem L2
variable {cl : Nat → Addr} {d d' : D} {S : St0} {s k : Int} {g : List Int} {rest : St0} {X : XP} {Q : D → St0 → Prop}
theorem ix_mem {ds : List D} {r : Int} (h0 : 0 ≤ r) (h1 : r < (ds.length : Nat)) : ∃ x ∈ ds, ∀ S, opIx (.lst ds) (.int r) S = some x := by
  obtain ⟨n, rfl⟩ : ∃ n : Nat, r = n := ⟨r.toNat, by omega⟩
  have l : n < ds.length := by omega
  exact ⟨ds[n], List.getElem_mem l, fun S => ixlN (List.getElem?_eq_getElem l)⟩
theorem ixt_mem {ds : List D} {r : Int} (h0 : 0 ≤ r) (h1 : r < (ds.length : Nat)) : ∃ x ∈ ds, ∀ S, opIx (.tup ds) (.int r) S = some x := by
  obtain ⟨n, rfl⟩ : ∃ n : Nat, r = n := ⟨r.toNat, by omega⟩
  have l : n < ds.length := by omega
  exact ⟨ds[n], List.getElem_mem l, fun S => ixtN (List.getElem?_eq_getElem l)⟩
/-- a thing to be judged, that stands by itself -/
def Fit (C : Addr) (d : D) : Prop := okd C d = true ∧ d.clo 0 = true
theorem fit_tup {C : Addr} {xs : List D} (h : ∀ x ∈ xs, Fit C x) (l : xs.length ≤ 1000000) : Fit C (.tup xs) := by
  refine ⟨?_, clos_all fun x hx => (h x hx).2⟩
  simp only [okd, decide_eq_true l, Bool.true_and]
  exact okds_iff.mpr fun x hx => (h x hx).1
theorem fit_lst {C : Addr} {xs : List D} (h : ∀ x ∈ xs, Fit C x) (l : xs.length ≤ 1000000) : Fit C (.lst xs) := by
  refine ⟨?_, clos_all fun x hx => (h x hx).2⟩
  simp only [okd, decide_eq_true l, Bool.true_and]
  exact okds_iff.mpr fun x hx => (h x hx).1
theorem sum_l {v : List Int} : opSum [.lst (v.map .int)] S = some (.int v.sum) := by
  simp [opSum, lItems, isTup, itemsOf, seqOf, ints_map]
theorem cut_map {α β : Type} (f : α → β) (xs : List α) (lo hi : Option Int) : cut (xs.map f) lo hi = (cut xs lo hi).map f := by
  simp [cut]
theorem pool_ {ns : List Int} (hl : ns.length ≤ 63) : (F__law_pool cl [.fls (ns.map .int)] []).wp noX fun d S' => d = .ref 1 ∧ ∃ (s : Int) (g : List Int), S' = bg s 0 g [] ∧ 0 ≤ s ∧ s < 2147483647 := by
  unfold F__law_pool
  refine wp_def rfl ?_
  unfold m__law_pool
  have lf : opLen [.fls (ns.map .int)] [] = some (.int (ns.length : Nat)) := by simp [opLen, itemsOf, seqOf]
  sizeOf_list_dec
  rw [cut_map]
  refine wp_lL sum_l ?_
  sizeOf_list_dec
  refine wp_lL lf ?_
  sizeOf_list_dec
  have ci : ∀ d ∈ cut (ns.map D.int) none (some 63), ∃ i : Int, d = .int i := fun d hd => by
    obtain ⟨i, _, rfl⟩ := List.mem_map.mp (cut_mem hd)
    exact ⟨i, rfl⟩
  have cl2 : (cut (ns.map D.int) none (some 63)).length ≤ 63 := Nat.le_trans cut_len (by simpa using hl)
  generalize (cut ns none (some 1)).sum = z
  have z0 : 0 ≤ z % 1000003 := Int.emod_nonneg _ (by decide)
  have z1 : z % 1000003 < 1000003 := Int.emod_lt_of_pos _ (by decide)
  refine wp_loop (fun ds ρ S1 => ∃ (s : Int) (a : Option D), ρ = [some (.fls (ns.map .int)), some (.int s), a] ∧ S1 = [] ∧ 0 ≤ s ∧ s < 2147483647 ∧ ∀ d ∈ ds, ∃ i : Int, d = .int i) ⟨_, _, rfl, rfl, by omega, by omega, ci⟩ ?_ ?_
  · rintro d ds _ _ ⟨s, a, rfl, rfl, s0, s1, hd⟩
    obtain ⟨i, rfl⟩ := hd d List.mem_cons_self
    refine ⟨rfl, _, rfl, ?_⟩
    sizeOf_list_dec
    exact fun x hx => hd x (List.mem_cons_of_mem _ hx)
  · rintro _ _ ⟨s, a, rfl, rfl, s0, s1, hd⟩
    refine ⟨rfl, ?_⟩
    sizeOf_list_dec
    refine wp_filter (fun d => match d with | .int i => decide (1000000000000000000 ≤ if i < 0 then -i else i) | _ => false) (fun d => match d with | .int i => .int (if i < 0 then -i else i) | d => d) (by omega) rfl (fun d hd => ?_) ?_
    · obtain ⟨i, rfl⟩ := ci d hd
      refine ⟨_, rfl, ?_, fun _ => ?_⟩
      · sizeOf_list_dec
      · sizeOf_list_dec
    · have : ∃ g : List Int, ((cut (ns.map D.int) none (some 63)).filter fun d => match d with | .int i => decide (1000000000000000000 ≤ if i < 0 then -i else i) | _ => false).map (fun d => match d with | .int i => .int (if i < 0 then -i else i) | d => d) = g.map D.int := by
        obtain ⟨v, e, _⟩ := ints_ofP (Q := fun _ => True) (ds := ((cut (ns.map D.int) none (some 63)).filter fun d => match d with | .int i => decide (1000000000000000000 ≤ if i < 0 then -i else i) | _ => false).map (fun d => match d with | .int i => .int (if i < 0 then -i else i) | d => d)) fun x hx => by
          obtain ⟨d, hd, rfl⟩ := List.mem_map.mp hx
          obtain ⟨i, rfl⟩ := ci d (List.mem_filter.mp hd).1
          exact ⟨_, rfl, True.intro⟩
        exact ⟨v, e⟩
      obtain ⟨g, hg⟩ := this
      rw [hg]
      sizeOf_list_dec
      refine wp_eq (if_pos rfl) ⟨rfl, _, _, rfl, s0, s1⟩
theorem clos_mem : ∀ {ds : List D} {x : D}, D.clos 0 ds = true → x ∈ ds → x.clo 0 = true
  | [], _, _, h => by cases h
  | y :: ds, x, hc, h => by
    simp only [D.clos, Bool.and_eq_true] at hc
    rcases List.mem_cons.mp h with rfl | h
    · exact hc.1
    · exact clos_mem hc.2 h
theorem somew {ds : List D} (h0 : ds ≠ []) (h1 : ds.length < 1000000000) (hc : D.clos 0 ds = true) (s0 : 0 ≤ s) (s1 : s < 2147483647) : (F__law_some cl [.ref 1, .lst ds] (bg s k g rest)).wp noX fun d S' => ∃ k' g', S' = bg s k' g' rest ∧ d ∈ ds := by
  have l0 : 0 < ds.length := List.length_pos_iff.mpr h0
  unfold F__law_some
  refine wp_def rfl ?_
  unfold m__law_some
  sizeOf_list_dec
  refine R.wp_mono0 (pickw (by omega) (by omega) s0 s1) ?_
  rintro _ _ ⟨r, k, g, rfl, rfl, h0, h1⟩
  obtain ⟨x, hx, e⟩ := ix_mem h0 h1
  refine wp_l2 (e _) ?_
  exact fin_bag (clos_mem hc hx) ⟨_, _, rfl, hx⟩
theorem mul_t {xs : List D} {m : Int} (h : 0 < xs.length) (h1 : 1 ≤ m) (h2 : m.toNat * xs.length ≤ 1000000) : opMul (.tup xs) (.int m) S = some (.tup (List.replicate m.toNat xs).flatten) := by
  simp only [opMul]
  rw [if_pos ⟨h, h1, h2⟩]
theorem flat_one {α : Type} (x : α) (n : Nat) : (List.replicate n [x]).flatten = List.replicate n x := by
  induction n with
  | zero => rfl
  | succ n ih => simp [List.replicate_succ, ih]
theorem stepw {n : Nat} (hn0 : 1 ≤ n) (hn : n ≤ 4) (s0 : 0 ≤ s) (s1 : s < 2147483647) : (F__law_step cl [.ref 1, .int n] (bg s k g rest)).wp noX fun d S' => ∃ (v : List Int) (k' : Int) (g' : List Int), d = .tup (v.map .int) ∧ S' = bg s k' g' rest ∧ v.length = n ∧ ∀ i ∈ v, -LL ≤ i ∧ i ≤ LL := by
  have hL : LL = 1000000000000 := rfl
  unfold F__law_step
  refine wp_def rfl ?_
  unfold m__law_step
  sizeOf_list_dec
  refine R.wp_mono0 (pickw (by decide) (by decide) s0 s1) ?_
  rintro _ _ ⟨r, k, g, rfl, rfl, h0, h1⟩
  sizeOf_list_dec
  refine way_d (fun hz => ?_) (fun hz => ?_)
  · sizeOf_list_dec
    refine wp_l2 (mul_t (by simp) (by omega) (by simp; omega)) ?_
    rw [flat_one, Int.toNat_natCast]
    refine fin_bag (clos_all fun x hx => by rw [List.eq_of_mem_replicate hx]; rfl) ⟨List.replicate n 0, _, _, by simp, rfl, by simp, fun i hi => ?_⟩
    rw [List.eq_of_mem_replicate hi]
    omega
  sizeOf_list_dec
  refine way_d (fun hz => ?_) (fun hz => ?_)
  · sizeOf_list_dec
    refine wp_draws (P := fun _ x => ∃ i : Int, x = .int i ∧ (-LL ≤ i ∧ i ≤ LL)) (by rw [rng_len]; omega) (fun d _ k g => ⟨_, rfl, ?_⟩) ?_
    · sizeOf_list_dec
      refine wp_l2 (z := .int 100000000000) (by simp [opPow]) ?_
      sizeOf_list_dec
      refine R.wp_mono0 (somew (by simp) (by simp) (by rfl) s0 s1) ?_
      rintro x _ ⟨k, g, rfl, hx⟩
      refine ⟨_, _, rfl, ?_⟩
      simp only [List.mem_cons, List.mem_nil_iff, or_false] at hx
      rcases hx with rfl | rfl | rfl | rfl | rfl <;> exact ⟨_, rfl, by omega, by omega⟩
    · intro out k g a
      obtain ⟨v, rfl, hl, hv⟩ := ints_P a
      rw [rng_len, Int.toNat_natCast] at hl
      sizeOf_list_dec
      exact fin_bag (clos_ints 0 v) ⟨v, _, _, rfl, rfl, hl, hv⟩
  · sizeOf_list_dec
    refine wp_draws (P := fun _ x => ∃ i : Int, x = .int i ∧ (-LL ≤ i ∧ i ≤ LL)) (by rw [rng_len]; omega) (fun d _ k g => ⟨_, rfl, ?_⟩) ?_
    · sizeOf_list_dec
      refine R.wp_mono0 (pickw (by decide) (by decide) s0 s1) ?_
      rintro _ _ ⟨r, k, g, rfl, rfl, h0, h1⟩
      sizeOf_list_dec
    · intro out k g a
      obtain ⟨v, rfl, hl, hv⟩ := ints_P a
      rw [rng_len, Int.toNat_natCast] at hl
      sizeOf_list_dec
      exact fin_bag (clos_ints 0 v) ⟨v, _, _, rfl, rfl, hl, hv⟩
def RkOk (n t : Nat) (r : RS.RK) : Prop := 0 ≤ r.1 ∧ r.1 < t ∧ 0 ≤ r.2.1 ∧ r.2.1 < t ∧ r.2.2.length = n ∧ ∀ i ∈ r.2.2, -LL ≤ i ∧ i ≤ LL
theorem rks_map : ∀ l : List RS.RK, rks? (l.map rkD) = some l
  | [] => rfl
  | x :: l => by
    have : rk? (rkD x) = some x := by simp [rk?, rkD, ints_map]
    simp only [List.map_cons, rks?, this, rks_map l]
theorem insU_len (x : RS.RK) : ∀ ys : List RS.RK, (insU x ys).length ≤ ys.length + 1
  | [] => by simp [insU]
  | y :: ys => by
    unfold insU
    have := insU_len x ys
    split
    · simp
    · split <;> simp <;> omega
theorem setR_len : ∀ l : List RS.RK, (setR l).length ≤ l.length
  | [] => by simp [setR]
  | x :: l => by
    unfold setR
    have h1 := insU_len x (setR l)
    have h2 := setR_len l
    simp only [List.length_cons]
    omega
/-- what a def hands back that has a list of its own in the store: it falls away -/
theorem fin_new {k' : Int} {g' : List Int} {o : Ob} (hd : d.clo 0 = true) (q : Q d (bg s k' g' rest)) : (if false = true then R.val d (bg s k' g' (rest ++ [o])) else finish (bg s k g rest) (.val d (bg s k' g' (rest ++ [o])))).wp X Q := by
  rw [if_neg Bool.false_ne_true, fin_bg (E := [o]) (mapR_id (n := 0) (fun _ h => by cases h) d hd)]
  exact wp_eq rfl q

theorem rng_cons {a : Int} {n : Nat} : rng a (n + 1) = .int a :: rng (a + 1) n := by
  simp only [rng, List.range_succ_eq_map, List.map_cons, List.map_map, List.cons.injEq, Function.comp_def]
  refine ⟨by simp, List.map_congr_left fun k _ => ?_⟩
  rw [show a + ((k.succ : Nat) : Int) = a + 1 + (k : Nat) from by omega]
theorem fit_3 {C : Addr} {x y z : D} (hx : Fit C x) (hy : Fit C y) (hz : Fit C z) : Fit C (.tup [x, y, z]) := fit_tup (fun w hw => by
  simp only [List.mem_cons, List.mem_nil_iff, or_false] at hw
  rcases hw with rfl | rfl | rfl <;> assumption) (by simp)
theorem fit_i (C : Addr) {i : Int} : Fit C (.int i) := ⟨rfl, rfl⟩
theorem fit_ints (C : Addr) {v : List Int} (l : v.length ≤ 1000000) : Fit C (.tup (v.map .int)) := fit_tup (fun x hx => by obtain ⟨i, _, rfl⟩ := List.mem_map.mp hx; exact ⟨rfl, rfl⟩) (by simpa using l)
abbrev rksD (R : List RS.RK) : D := .tup (R.map rkD)
abbrev WW : Int := 1000000000000000000
/-- a reading of a program that was returned -/
def RkW (n t : Nat) (r : RS.RK) : Prop := 0 ≤ r.1 ∧ r.1 < t ∧ 0 ≤ r.2.1 ∧ r.2.1 < t ∧ r.2.2.length = n ∧ ∀ i ∈ r.2.2, -WW ≤ i ∧ i ≤ WW
theorem RkOk.w {n t : Nat} {r : RS.RK} (h : RkOk n t r) : RkW n t r := ⟨h.1, h.2.1, h.2.2.1, h.2.2.2.1, h.2.2.2.2.1, fun i hi => ⟨Int.le_trans (by decide) (h.2.2.2.2.2 i hi).1, Int.le_trans (h.2.2.2.2.2 i hi).2 (by decide)⟩⟩
def rksE (R : List RS.RK) : PyData := .tuple (R.map RS.enc)
theorem dep_rks : ∀ R : List RS.RK, PyData.depthAll (R.map RS.enc) ≤ 3
  | [] => Nat.zero_le _
  | x :: l => by
    show Nat.max (RS.enc x).depth (PyData.depthAll (l.map RS.enc)) ≤ 3
    exact Nat.max_le.mpr ⟨Nat.le_trans (RS.depth_enc x) (by omega), dep_rks l⟩
theorem eqv_list {α : Type} [DecidableEq α] {f : α → D} {e : α → PyData} (E : Enc α f e) : ∀ l m : List α, PyData.eqvAll (l.map e) (m.map e) = decide (l = m)
  | [], [] => by simp [PyData.eqvAll]
  | [], _ :: _ => by simp [PyData.eqvAll]
  | _ :: _, [] => by simp [PyData.eqvAll]
  | x :: l, y :: m => by
    simp only [List.map_cons, PyData.eqvAll, E.eq, eqv_list E l m]
    by_cases h1 : x = y <;> by_cases h2 : l = m <;> simp [h1, h2]
theorem enc_rks : Enc (List RS.RK) rksD rksE := by
  refine ⟨fun x g => ?_, fun x => ?_, fun x => ?_, fun x y => ?_⟩
  · unfold rksD rksE
    simp only [D.py, enc_rk.pys, Option.map_some]
  · exact enc_rk.lays x
  · unfold rksE
    have := dep_rks x
    simp only [PyData.depth]
    omega
  · unfold rksE
    simp only [PyData.eqv, eqv_list enc_rk]
def pgD (C : Addr) (n t : Nat) (R : List RS.RK) : D := prgD C (.int n) (.int t) (rksD R)
theorem rd_rk {r : RS.RK} : rdOf (rkD r) = r := by
  obtain ⟨a, b, v⟩ := r
  show (a, b, (v.map D.int).map intOf) = (a, b, v)
  rw [List.map_map, show (intOf ∘ D.int) = id from rfl, List.map_id]
theorem isRd_rk {n t : Nat} {r : RS.RK} (h : RkOk n t r) : isRd n t (rkD r) = true := by
  obtain ⟨h0, h1, h2, h3, h4, h5⟩ := h
  have a1 : isIn 0 (t - 1) (.int r.1) = true := by
    have : r.1 ≤ (t : Int) - 1 := by omega
    simp [isIn, h0, this]
  have a2 : isIn 0 (t - 1) (.int r.2.1) = true := by
    have : r.2.1 ≤ (t : Int) - 1 := by omega
    simp [isIn, h2, this]
  have a3 : (r.2.2.map D.int).all isSm = true := List.all_eq_true.mpr fun x hx => by
    obtain ⟨i, hi, rfl⟩ := List.mem_map.mp hx
    have := h5 i hi
    simp [isSm, this.1, this.2]
  unfold rkD isRd
  simp [a1, a2, a3, h4]
theorem bad_none {n t : Nat} : ∀ (R : List RS.RK) (k : Nat) (p : Option RS.RK), (∀ r ∈ R, RkOk n t r) → R.Pairwise RS.rlt → (∀ q, p = some q → ∀ r ∈ R, RS.rlt q r) → bad n t k (p.map rkD) (R.map rkD) = none
  | [], _, _, _, _, _ => rfl
  | r :: R, k, p, h, hp, hq => by
    rw [List.pairwise_cons] at hp
    have up : upOk (p.map rkD) (rkD r) = true := by
      cases p with
      | none => rfl
      | some q =>
        show decide (RS.rlt (rdOf (rkD q)) (rdOf (rkD r))) = true
        rw [rd_rk, rd_rk]
        exact decide_eq_true (hq q rfl r (by simp))
    show (if isRd n t (rkD r) = true ∧ upOk (p.map rkD) (rkD r) = true then bad n t (k + 1) ((some r).map rkD) (R.map rkD) else some k) = none
    rw [if_pos ⟨isRd_rk (h r (by simp)), up⟩]
    exact bad_none R (k + 1) (some r) (fun x hx => h x (by simp [hx])) hp.2 (fun q e x hx => by cases e; exact hp.1 x hx)
theorem part_ok {n t : Nat} {R : List RS.RK} (hn0 : 1 ≤ n) (hn : n ≤ 4) (ht0 : 1 ≤ t) (ht : t ≤ 8) (hl : R.length ≤ 24) (hp : R.Pairwise RS.rlt) (h : ∀ r ∈ R, RkOk n t r) : partD (.int n) (.int t) (rksD R) = .non := by
  have e1 : isIn 1 4 (.int n) = true := by
    have a1 : (1 : Int) ≤ n := by omega
    have a2 : (n : Int) ≤ 4 := by omega
    simp [isIn, a1, a2]
  have e2 : isIn 1 8 (.int t) = true := by
    have a1 : (1 : Int) ≤ t := by omega
    have a2 : (t : Int) ≤ 8 := by omega
    simp [isIn, a1, a2]
  have : bad n t 0 none (R.map rkD) = none := bad_none R 0 none h hp (fun q e => by cases e)
  unfold partD rksD
  rw [if_pos e1, if_pos e2]
  simp only [List.length_map]
  rw [if_pos hl]
  show noted (bad n t 0 none (R.map rkD)) = .non
  rw [this]
  rfl
theorem mk_prog {n t : Nat} {R : List RS.RK} (h : partD (.int n) (.int t) (rksD R) = .non) (ok : okd (cl 0) (rksD R) = true) : mMake false (cl 0) (F_Program___init__ cl) [.int n, .int t, .tup (R.map rkD)] S = .val (pgD (cl 0) n t R) S := by
  have := f_init (cl := cl) (S := S) (a := .int n) (b := .int t) rfl rfl ok
  rw [if_pos h] at this
  exact this
theorem fit_rks {n t : Nat} {R : List RS.RK} (l : R.length ≤ 24) (hn : n ≤ 4) (hR : ∀ q ∈ R, RkOk n t q) : Fit (cl 0) (.tup (R.map rkD)) := (fit_tup (C := cl 0) (fun x hx => by
  obtain ⟨q, hq, rfl⟩ := List.mem_map.mp hx
  have := (hR q hq).2.2.2.2.1
  exact fit_3 (fit_i _) (fit_i _) (fit_ints _ (by omega))) (by simp; omega))
end LW
set_option linter.all false
set_option maxRecDepth 100000
set_option maxHeartbeats 2000000
namespace LW
open DL PySem L2
variable {cl : Nat → Addr} {d d' : D} {S : St0} {s k : Int} {g : List Int} {rest : St0} {X : XP} {Q : D → St0 → Prop}
theorem parts_ (s0 : 0 ≤ s) (s1 : s < 2147483647) : (F__law_parts cl [.ref 1] (bg s k g rest)).wp noX fun d S' => ∃ (n t : Nat) (rs : List RS.RK) (k' : Int) (g' : List Int), d = .tup [.int n, .int t, .tup (rs.map rkD)] ∧ S' = bg s k' g' rest ∧ 1 ≤ n ∧ n ≤ 4 ∧ 1 ≤ t ∧ t ≤ 8 ∧ rs.length ≤ 24 ∧ rs.Pairwise RS.rlt ∧ ∀ r ∈ rs, RkOk n t r := by
  unfold F__law_parts
  refine wp_def rfl ?_
  unfold m__law_parts
  sizeOf_list_dec
  refine R.wp_mono0 (pickw (by decide) (by decide) s0 s1) ?_
  rintro _ _ ⟨r, k, g, rfl, rfl, h0, h1⟩
  sizeOf_list_dec
  refine R.wp_mono0 (somew (by simp) (by simp) (by rfl) s0 s1) ?_
  rintro x _ ⟨k, g, rfl, hx⟩
  obtain ⟨t0, rfl, ht⟩ : ∃ t0 : Nat, x = .int t0 ∧ t0 ≤ 7 := by
    simp only [List.mem_cons, List.mem_nil_iff, or_false] at hx
    rcases hx with rfl | rfl | rfl | rfl | rfl | rfl | rfl <;> first | exact ⟨0, rfl, by omega⟩ | exact ⟨1, rfl, by omega⟩ | exact ⟨2, rfl, by omega⟩ | exact ⟨3, rfl, by omega⟩ | exact ⟨7, rfl, by omega⟩
  sizeOf_list_dec
  refine R.wp_mono0 (somew (by simp) (by simp) (by rfl) s0 s1) ?_
  rintro x _ ⟨k, g, rfl, hx⟩
  obtain ⟨m, rfl, hm⟩ : ∃ m : Nat, x = .int m ∧ m ≤ 24 := by
    simp only [List.mem_cons, List.mem_nil_iff, or_false] at hx
    rcases hx with rfl | rfl | rfl | rfl | rfl | rfl | rfl | rfl <;> first | exact ⟨0, rfl, by omega⟩ | exact ⟨1, rfl, by omega⟩ | exact ⟨2, rfl, by omega⟩ | exact ⟨3, rfl, by omega⟩ | exact ⟨4, rfl, by omega⟩ | exact ⟨5, rfl, by omega⟩ | exact ⟨6, rfl, by omega⟩ | exact ⟨24, rfl, by omega⟩
  obtain ⟨n, hn⟩ : ∃ n : Nat, 1 + r = n := ⟨(1 + r).toNat, by omega⟩
  obtain ⟨t, ht'⟩ : ∃ t : Nat, 1 + (t0 : Int) = t := ⟨1 + t0, by omega⟩
  rw [hn, ht']
  sizeOf_list_dec
  refine wp_loop (fun ds ρ S => ∃ (k : Int) (g : List Int) (rs : List RS.RK) (a : Option D), ρ = [some (.ref 1), some (.int n), some (.int t), some (.ref (rest.length + 2)), a] ∧ S = bg s k g (rest ++ [.lst (rs.map rkD)]) ∧ rs.length + ds.length = m ∧ ∀ r ∈ rs, RkOk n t r) ⟨k, g, [], _, rfl, rfl, by simp [rng], by simp⟩ ?_ ?_
  · rintro d ds _ _ ⟨k, g, rs, a, rfl, rfl, hlen, hrs⟩
    simp only [List.length_cons] at hlen
    refine ⟨rfl, _, rfl, ?_⟩
    sizeOf_list_dec
    refine ⟨⟨_, li2 _⟩, ?_⟩
    sizeOf_list_dec
    refine R.wp_mono0 (pickw (by omega) (by omega) s0 s1) ?_
    rintro _ _ ⟨r1, k, g, rfl, rfl, p0, p1⟩
    sizeOf_list_dec
    refine R.wp_mono0 (pickw (by omega) (by omega) s0 s1) ?_
    rintro _ _ ⟨r2, k, g, rfl, rfl, q0, q1⟩
    sizeOf_list_dec
    refine R.wp_mono0 (stepw (n := n) (by omega) (by omega) s0 s1) ?_
    rintro _ _ ⟨v, k, g, rfl, rfl, hv, hvb⟩
    sizeOf_list_dec
    refine wp_append (gl2 (rs.map rkD)) (by simp; omega) ?_
    rw [st2]
    refine ⟨k, g, rs ++ [(r1, r2, v)], _, rfl, by simp [rkD], by simp; omega, fun x hx => ?_⟩
    rcases List.mem_append.mp hx with hx | hx
    · exact hrs x hx
    · rw [List.mem_singleton.mp hx]; exact ⟨p0, p1, q0, q1, hv, hvb⟩
  · rintro _ _ ⟨k, g, rs, a, rfl, rfl, hlen, hrs⟩
    refine ⟨rfl, ?_⟩
    simp only [List.length_nil, Nat.add_zero] at hlen
    sizeOf_list_dec
    refine wp_sortset (li2 _) (rks_map rs) (by omega) ?_
    sizeOf_list_dec
    refine fin_new ?_ ⟨n, t, _, _, _, rfl, rfl, by omega, by omega, by omega, by omega, ?_, setR_up rs, fun r hr => hrs r (setR_mem.mp hr)⟩
    · simp only [D.clo, D.clos, Bool.true_and, Bool.and_true]
      refine clos_all fun d hd => ?_
      obtain ⟨r, _, rfl⟩ := List.mem_map.mp hd
      simp [rkD, D.clo, D.clos, clos_ints]
    · have := setR_len rs
      omega
theorem with_ {xs : List D} {i : Int} {x : D} (hl : xs.length ≤ 10000) : F__law_with cl [.tup xs, .int i, x] S = .val (.tup (cut xs none (some i) ++ [x] ++ cut xs (some (i + 1)) none)) S := by
  refine wp_to ?_
  unfold F__law_with
  refine wp_def rfl ?_
  unfold m__law_with
  have l1 : (cut xs none (some i)).length ≤ 10000 := Nat.le_trans cut_len hl
  have l2 : (cut xs (some (i + 1)) none).length ≤ 10000 := Nat.le_trans cut_len hl
  sizeOf_list_dec
  refine wp_l2 (add_l (by simp; omega)) ?_
  sizeOf_list_dec
  refine wp_l2 (add_l (by simp; omega)) ?_
  sizeOf_list_dec
theorem somewF {C : Addr} {ds : List D} (h0 : ds ≠ []) (h1 : ds.length < 1000000000) (hc : ∀ x ∈ ds, Fit C x) (s0 : 0 ≤ s) (s1 : s < 2147483647) : (F__law_some cl [.ref 1, .lst ds] (bg s k g rest)).wp noX fun d S' => ∃ k' g', S' = bg s k' g' rest ∧ Fit C d ∧ d ∈ ds :=
  R.wp_mono0 (somew h0 h1 (clos_all fun x hx => (hc x hx).2) s0 s1) fun d S' ⟨k, g, e, h⟩ => ⟨k, g, e, hc d h, h⟩
end LW
set_option linter.all false
set_option maxRecDepth 100000
set_option maxHeartbeats 2000000
set_option autoImplicit false
/-! Numbers written as texts; texts of lines and words. -/
namespace DL
open PySem PySem.Spec L2 TL
def numS (i : Int) : Str := Str.ofString (toString i)
def sgL (i : Int) : List Nat := if i < 0 then 45 :: numL i.natAbs else numL i.natAbs
theorem tl_numS (i : Int) : tl (numS i) = sgL i := by
  cases i with
  | ofNat n =>
    have h : ¬ (Int.ofNat n < 0) := Int.not_lt.mpr (Int.natCast_nonneg n)
    rw [sgL, if_neg h]
    exact tl_num n
  | negSucc n =>
    have h : Int.negSucc n < 0 := Int.negSucc_lt_zero n
    rw [sgL, if_pos h]
    show tl (Str.ofString (toString (Int.negSucc n))) = 45 :: numL (n + 1)
    rw [← tl_num (n + 1), tl_ofString, tl_ofString]
    have e : (toString (Int.negSucc n)) = "-" ++ toString (((n + 1 : Nat)) : Int) := rfl
    rw [e, String.toList_append, List.map_append]
    rfl
theorem numL60 {n : Nat} (h : n < 10 ^ 60) : (numL n).length ≤ 60 := numL_len (by decide) h
theorem len_numS {i : Int} (h : i.natAbs < 10 ^ 60) : (numS i).length ≤ 61 := by
  rw [len_tl, tl_numS, sgL]
  have := numL60 h
  split
  · rw [List.length_cons]; omega
  · omega
theorem int_numS {i : Int} (h : i.natAbs < 10 ^ 60) : PySem.intText? (numS i) = some i := by
  have hl := numL60 h
  have h2 := len_numS h
  cases i with
  | ofNat n => exact int_num (by have : (numL n).length ≤ 60 := hl; omega)
  | negSucc n =>
    have hx : (numS (Int.negSucc n)).cps.toList = 45 :: numL (n + 1) := by
      have := tl_numS (Int.negSucc n)
      rw [sgL, if_pos (Int.negSucc_lt_zero n)] at this
      exact this
    have e := intText_neg hx (numL_digits (n + 1)) (numL_ne (n + 1)) (by omega)
    rw [e, numL_val]
    rfl
theorem opIntT_num {i : Int} {S : St0} (h : i.natAbs < 10 ^ 60) : opIntT [.str (numS i)] S = some (.int i) := by
  simp only [opIntT, int_numS h]
  rw [if_pos (by have := len_numS h; omega)]
theorem free_num {i : Int} {s : Nat} (h : s < 45 ∨ 57 < s) : s ∉ tl (numS i) := by
  rw [tl_numS, sgL]
  have := numL_free (n := i.natAbs) (s := s) (by omega)
  split
  · rw [List.mem_cons]
    rintro (h1 | h1)
    · omega
    · exact this h1
  · exact this
/-- begins with a dash -/
theorem sw_dash {x : Str} {c : Nat} {l : List Nat} (h : tl x = c :: l) : Txt.startswith x "-" = decide (c = 45) := by
  have e : x = ⟨(c :: l).toArray⟩ := by rw [← mk_tl x, h]
  subst e
  unfold Txt.startswith Builtin.Str.subAt
  have e2 : (Str.ofString "-").cps = #[45] := by decide +kernel
  have e3 : (Str.ofString "-").length = 1 := by decide +kernel
  rw [e2, e3]
  have e4 : Str.length ⟨(c :: l).toArray⟩ = l.length + 1 := by simp [Str.length]
  rw [e4]
  have e5 : (c :: l).toArray.extract 0 (0 + 1) = #[c] := by simp
  rw [e5]
  have e6 : decide (0 + 1 ≤ l.length + 1) = true := decide_eq_true (by omega)
  rw [e6, Bool.true_and]
  by_cases hc : c = 45
  · subst hc; rfl
  · rw [decide_eq_false hc]
    refine beq_eq_false_iff_ne.mpr fun z => hc ?_
    have := congrArg Array.toList z
    simpa using this
theorem tl_cut1 {x : Str} {c : Nat} {l : List Nat} (h : tl x = c :: l) : tl (cutS x (some 1) none) = l := by
  have hl : x.length = l.length + 1 := by rw [len_tl, h]; rfl
  have e1 : HT.sIx x.length 0 (some 1) = 1 := by
    unfold HT.sIx
    simp
    omega
  have e2 : HT.sIx x.length x.length none = x.length := rfl
  have e3 : (tl x).drop 1 = l := by rw [h]; rfl
  have e4 : HT.sIx x.length x.length none - 1 = l.length := by
    have : HT.sIx x.length x.length none = l.length + 1 := e2.trans hl
    rw [this]
    rfl
  show (((tl x).drop (HT.sIx x.length 0 (some 1))).take (HT.sIx x.length x.length none - HT.sIx x.length 0 (some 1))).toArray.toList = l
  rw [e1, e3, e4]
  simp
theorem num_head : ∀ {n : Nat}, 0 < n → ∃ c l, numL n = c :: l ∧ c ≠ 48 := fun {n} => by
  induction n using Nat.strongRecOn with
  | _ n ih =>
    intro h
    by_cases h10 : n < 10
    · exact ⟨48 + n, [], numL_lt h10, by omega⟩
    · obtain ⟨c, l, e, hc⟩ := ih (n / 10) (by omega) (by omega)
      exact ⟨c, l ++ [48 + n % 10], by rw [numL_step (by omega), e]; rfl, hc⟩
theorem fig_in {c : Nat} {S : St0} (h0 : 48 ≤ c) (h1 : c ≤ 57) : opIn false (.str ⟨#[c]⟩) (.str "0123456789") S = some (.bl true) := by
  obtain rfl | rfl | rfl | rfl | rfl | rfl | rfl | rfl | rfl | rfl : c = 48 ∨ c = 49 ∨ c = 50 ∨ c = 51 ∨ c = 52 ∨ c = 53 ∨ c = 54 ∨ c = 55 ∨ c = 56 ∨ c = 57 := by omega
  all_goals
    show some (D.bl (!(Builtin.Str.occurrences _ _ 0 _ 1).isEmpty)) = some (.bl true)
    congr 2
    decide +kernel
theorem eq_s {a b : Str} {S : St0} (ha : PyData.strOk a = true) (hb : PyData.strOk b = true) : opEq (.str a) (.str b) S = some (.bl (decide (a = b))) := by
  have s1 : shp (.str a) = true := by
    show (PyData.strOk a && decide _) = true
    rw [ha]; rfl
  have s2 : shp (.str b) = true := by
    show (PyData.strOk b && decide _) = true
    rw [hb]; rfl
  simp only [opEq, pyOf, D.py, s1, s2, Bool.and_self, if_true, PyData.eqv]
  rfl
theorem ne_s {a b : Str} {S : St0} (ha : PyData.strOk a = true) (hb : PyData.strOk b = true) : opNe (.str a) (.str b) S = some (.bl (!decide (a = b))) := by
  have s1 : shp (.str a) = true := by
    show (PyData.strOk a && decide _) = true
    rw [ha]; rfl
  have s2 : shp (.str b) = true := by
    show (PyData.strOk b && decide _) = true
    rw [hb]; rfl
  simp only [opNe, pyOf, D.py, s1, s2, Bool.and_self, if_true, PyData.eqv]
  rfl
theorem ok_tl {x : Str} (h : ∀ c ∈ tl x, c < 0x110000) : PyData.strOk x = true := by
  unfold PyData.strOk
  rw [← Array.all_toList]
  exact List.all_eq_true.mpr fun c hc => decide_eq_true (h c hc)
theorem ok_num (i : Int) : PyData.strOk (numS i) = true := ok_tl fun c hc => by
  rw [tl_numS, sgL] at hc
  have := numL_digits i.natAbs
  split at hc
  · rcases List.mem_cons.mp hc with rfl | hc
    · decide
    · have := this c hc; omega
  · have := this c hc; omega
/-! ### lines and words -/
theorem join_lines : ∀ ls : List (List Nat), joinL [] (ls.map (· ++ [10])) = joinL [10] (ls ++ [[]])
  | [] => rfl
  | [p] => by simp [joinL]
  | p :: q :: r => by
    have ih := join_lines (q :: r)
    rw [List.map_cons, List.map_cons] at *
    show p ++ [10] ++ ([] ++ joinL [] ((q ++ [10]) :: r.map (· ++ [10]))) = p ++ ([10] ++ joinL [10] (q :: (r ++ [[]])))
    rw [List.nil_append, ih]
    simp
def nl : Str := "\n"
def sp : Str := " "
theorem tl_nl : tl nl = [10] := by decide +kernel
theorem tl_sp : tl sp = [32] := by decide +kernel
/-- a text of lines, each ended -/
def linesS (ls : List Str) : Str := Txt.join Str.empty (ls.map (· ++ nl))
theorem lines_split {ls : List Str} (h : ∀ p ∈ ls, 10 ∉ tl p) : Txt.split (linesS ls) nl = ls ++ [Str.empty] := by
  have e : linesS ls = Txt.join nl (ls ++ [Str.empty]) := by
    refine ext_tl ?_
    rw [linesS, join_eq, join_eq, tl_join, tl_join, tl_nl]
    have e1 : (ls.map (· ++ nl)).map tl = (ls.map tl).map (· ++ [10]) := by
      rw [List.map_map, List.map_map]
      refine List.map_congr_left fun p _ => ?_
      show tl (p ++ nl) = tl p ++ [10]
      rw [tl_append, tl_nl]
    have e2 : (ls ++ [Str.empty]).map tl = ls.map tl ++ [[]] := by rw [List.map_append]; rfl
    rw [e1, e2]
    exact join_lines _
  rw [e]
  refine split_join tl_nl (by decide +kernel) (by simp) fun p hp => ?_
  rcases List.mem_append.mp hp with hp | hp
  · exact h p hp
  · rw [List.mem_singleton.mp hp]
    decide +kernel
theorem words_split {ws : List Str} (hne : ws ≠ []) (h : ∀ p ∈ ws, 32 ∉ tl p) : Txt.split (Txt.join sp ws) sp = ws := split_join tl_sp (by decide +kernel) hne h
theorem free_join {S : List Nat} {s : Nat} (hS : s ∉ S) : ∀ {ps : List (List Nat)}, (∀ p ∈ ps, s ∉ p) → s ∉ joinL S ps
  | [], _ => by simp [joinL]
  | [p], h => h p (by simp)
  | p :: q :: r, h => by
    show s ∉ p ++ (S ++ joinL S (q :: r))
    rw [List.mem_append, List.mem_append]
    rintro (h1 | h1 | h1)
    · exact h p (by simp) h1
    · exact hS h1
    · exact free_join hS (fun z hz => h z (List.mem_cons_of_mem _ hz)) h1
theorem len_join {S : List Nat} {m : Nat} : ∀ {ps : List (List Nat)}, (∀ p ∈ ps, p.length ≤ m) → (joinL S ps).length ≤ ps.length * (m + S.length)
  | [], _ => by simp [joinL]
  | [p], h => by have := h p (by simp); simp [joinL]; omega
  | p :: q :: r, h => by
    have h1 := h p (by simp)
    have h2 := len_join (S := S) (m := m) (ps := q :: r) fun z hz => h z (List.mem_cons_of_mem _ hz)
    show (p ++ (S ++ joinL S (q :: r))).length ≤ _
    rw [List.length_append, List.length_append, List.length_cons, Nat.succ_mul]
    omega
theorem strs_map (ys : List Str) : strs? (ys.map D.str) = some ys := by
  induction ys with
  | nil => rfl
  | cons y ys ih => simp [strs?, ih]
end DL
set_option linter.all false
set_option maxRecDepth 100000
set_option maxHeartbeats 2000000
set_option exponentiation.threshold 4000
/-! Words that are numbers. -/
namespace LW
open DL PySem L2 TL
variable {cl : Nat → Addr} {d d' : D} {S : St0} {X : XP} {Q : D → St0 → Prop}
theorem wp_txt {f : Str → Str → D} {mo me : ME} {ρ : Env0} (h : (mo ρ S).wp X fun x S1 => ∃ a, x = .str a ∧ (me ρ S1).wp X fun y S2 => ∃ b, y = .str b ∧ Q (f a b) S2) : (mTxt f mo me ρ S).wp X Q := by
  unfold mTxt
  refine bind_wp (R.wp_mono h (fun x S1 hx => ?_) fun _ _ _ h => h)
  obtain ⟨a, rfl, hx⟩ := hx
  refine bind_wp (R.wp_mono hx (fun y S2 hy => ?_) fun _ _ _ h => h)
  obtain ⟨b, rfl, hy⟩ := hy
  exact .val hy
theorem wp_split {al : Bool} {mo me : ME} {ρ : Env0} (h : (mo ρ S).wp X fun x S1 => ∃ a, x = .str a ∧ (me ρ S1).wp X fun y S2 => ∃ b, y = .str b ∧ ((b.length == 0) = false ∧ a.length + 2 ≤ sizeLine) ∧ (finL al ((Txt.split a b).map .str) S2).wp X Q) : (mSplit al mo me ρ S).wp X Q := by
  unfold mSplit
  refine bind_wp (R.wp_mono h (fun x S1 hx => ?_) fun _ _ _ h => h)
  obtain ⟨a, rfl, hx⟩ := hx
  refine bind_wp (R.wp_mono hx (fun y S2 hy => ?_) fun _ _ _ h => h)
  obtain ⟨b, rfl, hz, hy⟩ := hy
  simp only [hz.1, hz.2, and_self, if_true]
  exact hy
theorem wps_cut {s t : MS} {ρ : Env0} {N N1 B C : EP} {T : DP_} (h : (s ρ S).wp ⟨N1, T, B, C, X⟩) (h2 : ∀ ρ S, N1 ρ S → (t ρ S).wp ⟨N, T, B, C, X⟩) : (mSeq s t ρ S).wp ⟨N, T, B, C, X⟩ :=
  wps_seq (RS.wp_mono h h2 (fun _ _ h => h) (fun _ _ h => h) (fun _ _ h => h) fun _ _ _ h => h)
theorem wpi_signs {m : ME} {ρ : Env0} {Q : List (Nat × List D) → List D → St0 → Prop} (h : (m ρ S).wp X fun d S1 => ∃ x, d = .str x ∧ Q [] (signs x) S1) : (mSigns m ρ S).wp X Q :=
  it_wp (R.wp_mono h (fun d S1 ⟨x, e, h⟩ => by subst e; exact .it h) fun _ _ _ h => h)
theorem wp_slS_s {z : Str} {al : Bool} {lo hi : Option Int} (h : z.length ≤ sizeLine) (q : Q (.str (cutS z lo hi)) S) : (slS al (.str z) lo hi S).wp X Q := by
  unfold slS
  simp only [if_pos h]
  exact .val q
theorem len_s {z : Str} (h : z.length ≤ sizeLine) : opLen [.str z] S = some (.int z.length) := by simp only [opLen, if_pos h]
theorem wp_mapA {α : Type} {al : Bool} {src : List (Nat × List D)} {gp : Pat} {ds : List D} {ρ : Env0} {me : ME} (xs : List α) (e f : α → D) (hds : ds = xs.map e) (hl : xs.length ≤ 1000000) (hc : chk S src = true) (h : ∀ a ∈ xs, ∃ ρ1, gp.put (e a) ρ = some ρ1 ∧ (me ρ1 S).wp noX fun v S1 => v = f a ∧ S1 = S)
    (q : (finL al (xs.map f) S).wp X Q) : (loopC al src gp (mC (.bl true)) me ρ ds [] S).wp X Q := by
  refine wp_loopC (fun ds acc S1 => ∃ done todo, xs = done ++ todo ∧ ds = todo.map e ∧ acc = done.map f ∧ S1 = S) ⟨[], xs, rfl, hds, rfl, rfl⟩ ?_ ?_
  · rintro d ds acc _ ⟨done, todo, e1, e2, rfl, rfl⟩
    cases todo with
    | nil => cases e2
    | cons a todo =>
      obtain ⟨rfl, rfl⟩ := List.cons.inj e2
      obtain ⟨ρ1, h1, h2⟩ := h a (by rw [e1]; simp)
      refine ⟨hc, ρ1, h1, wp_c ⟨true, rfl, way_t (R.wp_mono0 h2 ?_)⟩⟩
      rintro v _ ⟨rfl, rfl⟩
      refine ⟨?_, done ++ [a], todo, by rw [e1]; simp, rfl, by simp, rfl⟩
      rw [sizeLine_eq, List.length_map]
      have : xs.length = done.length + todo.length + 1 := by rw [e1]; simp; omega
      omega
  · rintro acc _ ⟨done, todo, e1, e2, rfl, rfl⟩
    have td : todo = [] := by
      cases todo with
      | nil => rfl
      | cons x xs => cases e2
    subst td
    rw [List.append_nil] at e1
    subst e1
    exact ⟨hc, q⟩
theorem wp_filterA {α : Type} {al : Bool} {src : List (Nat × List D)} {gp : Pat} {ds : List D} {ρ : Env0} {mt me : ME} (xs : List α) (e f : α → D) (t : α → Bool) (hds : ds = xs.map e) (hl : xs.length ≤ 1000000) (hc : chk S src = true) (h : ∀ a ∈ xs, ∃ ρ1, gp.put (e a) ρ = some ρ1 ∧ ((mt ρ1 S).wp noX fun v S1 => v = .bl (t a) ∧ S1 = S) ∧ (t a = true → (me ρ1 S).wp noX fun v S1 => v = f a ∧ S1 = S))
    (q : (finL al ((xs.filter t).map f) S).wp X Q) : (loopC al src gp mt me ρ ds [] S).wp X Q := by
  refine wp_loopC (fun ds acc S1 => ∃ done todo, xs = done ++ todo ∧ ds = todo.map e ∧ acc = (done.filter t).map f ∧ S1 = S) ⟨[], xs, rfl, hds, rfl, rfl⟩ ?_ ?_
  · rintro d ds acc _ ⟨done, todo, e1, e2, rfl, rfl⟩
    cases todo with
    | nil => cases e2
    | cons a todo =>
      obtain ⟨rfl, rfl⟩ := List.cons.inj e2
      obtain ⟨ρ1, h1, h2, h3⟩ := h a (by rw [e1]; simp)
      refine ⟨hc, ρ1, h1, R.wp_mono0 h2 ?_⟩
      rintro v _ ⟨rfl, rfl⟩
      refine ⟨_, rfl, way_i (fun z => R.wp_mono0 (h3 z) ?_) fun z => ?_⟩
      · rintro v _ ⟨rfl, rfl⟩
        refine ⟨?_, done ++ [a], todo, by rw [e1]; simp, rfl, by simp [z], rfl⟩
        rw [sizeLine_eq, List.length_map]
        have l1 := List.length_filter_le t done
        have : xs.length = done.length + todo.length + 1 := by rw [e1]; simp; omega
        omega
      · exact ⟨done ++ [a], todo, by rw [e1]; simp, rfl, by simp [z], rfl⟩
  · rintro acc _ ⟨done, todo, e1, e2, rfl, rfl⟩
    have td : todo = [] := by
      cases todo with
      | nil => rfl
      | cons x xs => cases e2
    subst td
    rw [List.append_nil] at e1
    subst e1
    exact ⟨hc, q⟩
theorem sign_ne {c : Nat} : decide ((⟨#[c]⟩ : Str) = "0") = decide (c = 48) := by
  refine decide_eq_decide.mpr ⟨fun h => ?_, fun h => by subst h; decide +kernel⟩
  have := congrArg tl h
  have e : tl (Str.ofString "0") = [48] := by decide +kernel
  rw [e] at this
  exact (List.cons.inj this).1
theorem f_is_number {i : Int} (h : i.natAbs < 10 ^ 60) : F_is_number cl [.str (numS i)] S = .val (.bl true) S := by
  refine wp_to ?_
  unfold F_is_number
  refine wp_def rfl ?_
  unfold m_is_number
  have ne := numL_ne i.natAbs
  have dg := numL_digits i.natAbs
  have l60 := numL60 h
  have hl := tl_numS i
  unfold sgL at hl
  refine wps_seq (wps_set (wp_var rfl ?_))
  refine wps_cut (N1 := fun ρ S1 => ∃ p : Str, ρ = [some (.str (numS i)), some (.str p), none] ∧ S1 = S ∧ tl p = numL i.natAbs) ?_ ?_
  · refine wps_if (wp_txt ?_)
    sizeOf_list_dec
    by_cases hi : i < 0
    · rw [if_pos hi] at hl
      rw [sw_dash hl]
      refine way_t ?_
      sizeOf_list_dec
      refine wp_slS_s (by have := len_numS h; rw [sizeLine_eq]; omega) ?_
      exact ⟨_, rfl, rfl, tl_cut1 hl⟩
    · rw [if_neg hi] at hl
      obtain ⟨c, l, e⟩ : ∃ c l, tl (numS i) = c :: l := by
        cases hq : tl (numS i) with
        | nil => rw [hq] at hl; exact absurd hl.symm ne
        | cons c l => exact ⟨c, l, rfl⟩
      have hc := dg c (by rw [← hl, e]; simp)
      rw [sw_dash e, decide_eq_false (by omega)]
      refine way_f ?_
      sizeOf_list_dec
      exact hl
  rintro _ _ ⟨p, rfl, rfl, hp⟩
  have pl : p.length = (numL i.natAbs).length := by rw [len_tl, hp]
  have p1 : 1 ≤ p.length := by
    rw [pl]
    exact List.length_pos_iff.mpr ne
  have p60 : p.length ≤ 60 := by omega
  have ol : ∀ T, opLen [.str p] T = some (.int p.length) := fun T => len_s (by rw [sizeLine_eq]; omega)
  have ep : ∃ c l, tl p = c :: l ∧ (c = 48 → i = 0) := by
    by_cases h0 : i.natAbs = 0
    · rw [h0] at hp
      exact ⟨48, [], hp, fun _ => by omega⟩
    · obtain ⟨c, l, e, hc⟩ := num_head (n := i.natAbs) (by omega)
      exact ⟨c, l, hp.trans e, fun h => absurd h hc⟩
  obtain ⟨c, l, ec, c0⟩ := ep
  have ox : ∀ T, opIx (.str p) (.int 0) T = some (.str ⟨#[c]⟩) := fun T => by
    have e1 : p.cps.toList = c :: l := ec
    simp only [opIx]
    rw [if_pos (by rw [sizeLine_eq]; omega), e1]
    have e2 : atI (c :: l) 0 = some c := by simp [atI, ixN]
    rw [e2]
    rfl
  sizeOf_list_dec
  refine wp_lL (ol _) ?_
  sizeOf_list_dec
  refine wpi_signs ?_
  sizeOf_list_dec
  refine wp_mapA (tl p) (fun c => D.str ⟨#[c]⟩) (fun _ => .bl true) rfl (by rw [← len_tl]; omega) rfl (fun c hc => ⟨_, rfl, ?_⟩) ?_
  · have hd := dg c (by rw [← hp]; exact hc)
    sizeOf_list_dec
    exact wp_l2 (fig_in hd.1 hd.2) ⟨rfl, rfl⟩
  sizeOf_list_dec
  refine wp_lL (bools_l (bls_of (fun _ => true) (tl p))) ?_
  rw [show ((tl p).map fun _ => true).all id = true from List.all_eq_true.mpr fun b hb => by
    obtain ⟨_, _, rfl⟩ := List.mem_map.mp hb
    rfl]
  refine ⟨_, rfl, _, rfl, way_nT ?_⟩
  sizeOf_list_dec
  refine wp_l2 (ox _) ?_
  sizeOf_list_dec
  have okc : PyData.strOk (⟨#[c]⟩ : Str) = true := ok_tl fun x hx => by
    have e1 : x = c := List.mem_singleton.mp hx
    have := dg c (by rw [← hp, ec]; simp)
    omega
  refine wp_l2 (ne_s okc (by decide +kernel)) ?_
  rw [sign_ne]
  refine ⟨_, rfl, way_nd (fun h48 => ?_) (fun h48 => ?_)⟩
  · sizeOf_list_dec
    refine wp_l2 (eq_s (ok_num i) (by decide +kernel)) ?_
    refine wp_fin ⟨?_, rfl⟩
    rw [c0 h48]
    rfl
  · exact wp_fin ⟨rfl, rfl⟩
end LW
set_option linter.all false
set_option maxRecDepth 100000
set_option maxHeartbeats 2000000
set_option exponentiation.threshold 4000
/-! A program's parts as a text. -/
namespace LW
open DL PySem L2 TL
variable {cl : Nat → Addr} {d d' : D} {S : St0} {X : XP} {Q : D → St0 → Prop}
theorem log2_b {x : Nat} {e : Nat} (h : x ≤ 2 ^ e) : x.log2 ≤ e := by
  by_cases z : x = 0
  · subst z; simp
  · have := (Nat.log2_lt z (k := e + 1)).mpr (Nat.lt_of_le_of_lt h (Nat.pow_lt_pow_right (by decide) (by omega)))
    omega
section
variable {o o' : Ob}
theorem l_at : (S ++ [o])[S.length]? = some o := by rw [List.getElem?_append_right (Nat.le_refl _), Nat.sub_self]; rfl
theorem l_set : (S ++ [o]).set S.length o' = S ++ [o'] := by rw [List.set_append_right _ _ (Nat.le_refl _), Nat.sub_self]; rfl

end
def Bd (i : Int) : Prop := i.natAbs < 10 ^ 60
def BR (r : RS.RK) : Prop := Bd r.1 ∧ Bd r.2.1 ∧ r.2.2.length ≤ 50 ∧ ∀ i ∈ r.2.2, Bd i
structure Raw (a b : Int) (R : List RS.RK) : Prop where
  a : Bd a
  b : Bd b
  ok : ∀ r ∈ R, BR r
  l : R.length ≤ 500
abbrev rwD (a b : Int) (R : List RS.RK) : D := .tup [.int a, .int b, .tup (R.map rkD)]
def wordsR (r : RS.RK) : List Str := numS r.1 :: numS r.2.1 :: r.2.2.map numS
def lineR (r : RS.RK) : Str := Txt.join sp (wordsR r)
def hd1 : Str := "sides"
def hd2 : Str := "tables"
def linesR (a b : Int) (R : List RS.RK) : List Str := Txt.join sp [hd1, numS a] :: Txt.join sp [hd2, numS b] :: R.map lineR
def textR (a b : Int) (R : List RS.RK) : Str := linesS (linesR a b R)
theorem str_i {i : Int} (h : Bd i) : opStr [.int i] S = some (.str (numS i)) := by
  have h2 : i.natAbs.log2 ≤ 200 := log2_b (Nat.le_of_lt (Nat.lt_of_lt_of_le h (by decide +kernel)))
  simp only [opStr]
  rw [if_pos (by omega)]
  rfl
theorem head1 (x : Str) : ("sides " : Str) ++ x = Txt.join sp [hd1, x] := by
  refine ext_tl ?_
  rw [join_eq, tl_join, tl_append, tl_sp]
  show tl (Str.ofString "sides ") ++ tl x = tl hd1 ++ ([32] ++ tl x)
  rw [show tl (Str.ofString "sides ") = tl hd1 ++ [32] from by decide +kernel, List.append_assoc]
theorem head2 (x : Str) : ("tables " : Str) ++ x = Txt.join sp [hd2, x] := by
  refine ext_tl ?_
  rw [join_eq, tl_join, tl_append, tl_sp]
  show tl (Str.ofString "tables ") ++ tl x = tl hd2 ++ ([32] ++ tl x)
  rw [show tl (Str.ofString "tables ") = tl hd2 ++ [32] from by decide +kernel, List.append_assoc]
theorem len_words {ws : List Str} {m : Nat} (h : ∀ w ∈ ws, w.length ≤ m) : (Txt.join sp ws).length ≤ ws.length * (m + 1) := by
  rw [len_tl, join_eq, tl_join, tl_sp]
  have := len_join (S := [32]) (m := m) (ps := ws.map tl) fun p hp => by
    obtain ⟨w, hw, rfl⟩ := List.mem_map.mp hp
    rw [← len_tl]
    exact h w hw
  simpa using this
theorem len_lineR {r : RS.RK} (h : BR r) : (lineR r).length ≤ 3300 := by
  have := len_words (ws := wordsR r) (m := 61) fun w hw => by
    simp only [wordsR, List.mem_cons, List.mem_map] at hw
    rcases hw with rfl | rfl | ⟨i, hi, rfl⟩
    · exact len_numS h.1
    · exact len_numS h.2.1
    · exact len_numS (h.2.2.2 i hi)
  have h2 := h.2.2.1
  have e : (wordsR r).length = r.2.2.length + 2 := by simp [wordsR]
  unfold lineR
  rw [e] at this
  have : (r.2.2.length + 2) * 62 ≤ 52 * 62 := Nat.mul_le_mul (by omega) (Nat.le_refl _)
  omega
theorem len_lines {a b : Int} {R : List RS.RK} (h : Raw a b R) : ∀ p ∈ linesR a b R, p.length ≤ 3300 := fun p hp => by
  simp only [linesR, List.mem_cons, List.mem_map] at hp
  have l1 : hd1.length = 5 := by decide +kernel
  have l2 : hd2.length = 6 := by decide +kernel
  rcases hp with rfl | rfl | ⟨r, hr, rfl⟩
  · have := len_words (ws := [hd1, numS a]) (m := 61) fun w hw => by
      simp only [List.mem_cons, List.mem_nil_iff, or_false] at hw
      rcases hw with rfl | rfl
      · omega
      · exact len_numS h.a
    simp at this
    omega
  · have := len_words (ws := [hd2, numS b]) (m := 61) fun w hw => by
      simp only [List.mem_cons, List.mem_nil_iff, or_false] at hw
      rcases hw with rfl | rfl
      · omega
      · exact len_numS h.b
    simp at this
    omega
  · exact len_lineR (h.ok r hr)
theorem sum_len {m : Nat} : ∀ {ys : List Str}, (∀ y ∈ ys, y.length ≤ m) → (ys.map (·.length)).sum ≤ ys.length * m
  | [], _ => by simp
  | y :: ys, h => by
    have h1 := h y (by simp)
    have h2 := sum_len (m := m) (ys := ys) fun z hz => h z (List.mem_cons_of_mem _ hz)
    rw [List.map_cons, List.sum_cons, List.length_cons, Nat.succ_mul]
    omega
theorem wp_joinL {mo me : ME} {ρ : Env0} (h : (mo ρ S).wp X fun x S1 => ∃ a, x = .str a ∧ (me ρ S1).wp X fun y S2 => ∃ ys : List Str, itemsOf S2 y = some (ys.map D.str) ∧ (ys.map (·.length)).sum + ys.length * a.length ≤ 16777216 ∧ Q (.str (Txt.join a ys)) S2) : (mJoin mo me ρ S).wp X Q := by
  unfold mJoin
  refine bind_wp (R.wp_mono h (fun x S1 hx => ?_) fun _ _ _ h => h)
  obtain ⟨a, rfl, hx⟩ := hx
  refine bind_wp (R.wp_mono hx (fun y S2 hy => ?_) fun _ _ _ h => h)
  obtain ⟨ys, e, hz, q⟩ := hy
  simp only [e, strs_map, if_pos hz]
  exact .val q
theorem f_law_text {a b : Int} {R : List RS.RK} (h : Raw a b R) : F__law_text cl [rwD a b R] S = .val (.str (textR a b R)) S := by
  refine wp_to ?_
  unfold F__law_text
  refine wp_def rfl ?_
  unfold m__law_text
  have la := len_numS h.a
  have lb := len_numS h.b
  have c1 : Str.length (Str.ofString "sides ") = 6 := by decide +kernel
  have c2 : Str.length (Str.ofString "tables ") = 7 := by decide +kernel
  have ad1 : ∀ T, opAdd (.str "sides ") (.str (numS a)) T = some (.str (Txt.join sp [hd1, numS a])) := fun T => by
    rw [← head1]
    simp only [opAdd]
    rw [if_pos (by rw [sizeLine_eq]; omega)]
  have ad2 : ∀ T, opAdd (.str "tables ") (.str (numS b)) T = some (.str (Txt.join sp [hd2, numS b])) := fun T => by
    rw [← head2]
    simp only [opAdd]
    rw [if_pos (by rw [sizeLine_eq]; omega)]
  sizeOf_list_dec
  refine wp_lL (str_i h.a) ?_
  refine wp_l2 (ad1 _) ?_
  sizeOf_list_dec
  refine wp_lL (str_i h.b) ?_
  refine wp_l2 (ad2 _) ?_
  sizeOf_list_dec
  have e0 : [D.str (Txt.join sp [hd1, numS a]), D.str (Txt.join sp [hd2, numS b])] = (linesR a b []).map D.str := rfl
  rw [e0]
  refine wp_loop (fun ds ρ S1 => ∃ (done todo : List RS.RK) (a2 a3 a4 a5 a6 : Option D), R = done ++ todo ∧ ds = todo.map rkD ∧ ρ = [some (rwD a b R), some (.ref S.length), a2, a3, a4, a5, a6] ∧ S1 = S ++ [.lst ((linesR a b done).map D.str)]) ⟨[], R, _, _, _, _, _, rfl, rfl, rfl, rfl⟩ ?_ ?_
  · rintro d ds _ _ ⟨done, todo, a2, a3, a4, a5, a6, e, hds, rfl, rfl⟩
    cases todo with
    | nil => cases hds
    | cons r todo =>
    rw [List.map_cons] at hds
    obtain ⟨rfl, rfl⟩ := List.cons.inj hds
    have hr : BR r := h.ok r (by rw [e]; simp)
    refine ⟨rfl, _, rfl, ?_⟩
    sizeOf_list_dec
    refine ⟨⟨(linesR a b done).map D.str, by simp [lItems, isTup, itemsOf, seqOf]⟩, ?_⟩
    refine wpa_cons (wp_joinL ?_)
    sizeOf_list_dec
    refine wp_lL (str_i hr.1) ?_
    sizeOf_list_dec
    refine wp_lL (str_i hr.2.1) ?_
    sizeOf_list_dec
    refine wp_mapA r.2.2 D.int (fun i => .str (numS i)) rfl (by have := hr.2.2.1; omega) rfl (fun i hi => ⟨_, rfl, ?_⟩) ?_
    · sizeOf_list_dec
      exact wp_lL (str_i (hr.2.2.2 i hi)) ⟨rfl, rfl⟩
    sizeOf_list_dec
    refine wp_l2 (add_l (by have := hr.2.2.1; simp; omega)) ?_
    have e1 : [D.str (numS r.1), .str (numS r.2.1)] ++ r.2.2.map (fun i => D.str (numS i)) = (wordsR r).map D.str := by
      rw [wordsR, List.map_cons, List.map_cons, List.map_map]
      rfl
    rw [e1]
    have lw := len_words (ws := wordsR r) (m := 61) 
    refine ⟨wordsR r, rfl, ?_, ?_⟩
    · have hm : ∀ w ∈ wordsR r, w.length ≤ 61 := fun w hw => by
        simp only [wordsR, List.mem_cons, List.mem_map] at hw
        rcases hw with rfl | rfl | ⟨i, hi, rfl⟩
        · exact len_numS hr.1
        · exact len_numS hr.2.1
        · exact len_numS (hr.2.2.2 i hi)
      have s1 := sum_len hm
      have e2 : (wordsR r).length = r.2.2.length + 2 := by simp [wordsR]
      have e3 := hr.2.2.1
      have e4 : Str.length (Str.ofString " ") = 1 := by decide +kernel
      rw [e4]
      have : (r.2.2.length + 2) * 61 ≤ 52 * 61 := Nat.mul_le_mul (by omega) (Nat.le_refl _)
      rw [e2] at s1 ⊢
      omega
    sizeOf_list_dec
    refine wp_append l_at (by have := h.l; have e2 := congrArg List.length e; simp at e2; simp [linesR]; omega) ?_
    rw [l_set]
    refine ⟨done ++ [r], todo, _, _, _, _, _, by rw [e]; simp, rfl, rfl, ?_⟩
    congr 3
    simp [linesR, lineR]
    rfl
  · rintro _ _ ⟨done, todo, a2, a3, a4, a5, a6, e, hds, rfl, rfl⟩
    have td : todo = [] := by
      cases todo with
      | nil => rfl
      | cons x xs => cases hds
    subst td
    rw [List.append_nil] at e
    subst e
    refine ⟨rfl, ?_⟩
    have ll := len_lines h
    have lr : (linesR a b R).length ≤ 502 := by have := h.l; simp [linesR]; omega
    refine wps_ret (wp_joinL ?_)
    sizeOf_list_dec
    refine ⟨[(S.length, (linesR a b R).map D.str)], (linesR a b R).map D.str, by simp [seqOf], ?_⟩
    refine wp_mapA (linesR a b R) D.str (fun p => .str (p ++ nl)) rfl (by omega) (by simp [chk]) (fun p hp => ⟨_, rfl, ?_⟩) ?_
    · sizeOf_list_dec
      have hp := ll p hp
      have e5 : Str.length (Str.ofString "\n") = 1 := by decide +kernel
      refine wp_l2 (z := .str (p ++ nl)) ?_ ⟨rfl, rfl⟩
      simp only [opAdd]
      rw [if_pos (by rw [sizeLine_eq, e5]; omega)]
      rfl
    refine wp_finF ⟨(linesR a b R).map (· ++ nl), ?_, ?_, ?_⟩
    · rw [List.map_map]
      rfl
    · have s1 := sum_len (m := 3301) (ys := (linesR a b R).map (· ++ nl)) fun p hp => by
        obtain ⟨q, hq, rfl⟩ := List.mem_map.mp hp
        have := ll q hq
        have e6 : tl nl = [10] := tl_nl
        rw [len_tl, tl_append, e6, List.length_append, ← len_tl]
        simp
        omega
      have e4 : Str.length (Str.ofString "") = 0 := by decide +kernel
      rw [e4]
      rw [List.length_map] at s1 ⊢
      have : (linesR a b R).length * 3301 ≤ 502 * 3301 := Nat.mul_le_mul lr (Nat.le_refl _)
      omega
    · rw [if_neg Bool.false_ne_true]
      have := fin_app (S := S) (S1 := S) (E := [.lst ((linesR a b R).map D.str)]) (d := .str (textR a b R)) (d' := .str (textR a b R)) rfl (fun i o o' h1 h2 => .inl (by rw [h1] at h2; cases h2; rfl)) rfl
      exact wp_eq this ⟨rfl, rfl⟩
end LW
set_option linter.all false
set_option maxRecDepth 100000
set_option maxHeartbeats 2000000
set_option exponentiation.threshold 4000
/-! A text is read. -/
namespace LW
open DL PySem L2 TL
variable {cl : Nat → Addr} {d d' : D} {S : St0} {X : XP} {Q : D → St0 → Prop}
theorem cut_from {α : Type} {xs : List α} {j : Nat} (h : j ≤ xs.length) : cut xs (some (j : Int)) none = xs.drop j := by
  unfold cut
  have e : HT.sIx xs.length 0 (some (j : Int)) = j := by
    unfold HT.sIx
    simp
    rw [if_neg (by omega)]
    omega
  have e2 : HT.sIx xs.length xs.length none = xs.length := rfl
  rw [e, e2]
  exact List.take_of_length_le (by rw [List.length_drop]; omega)
theorem f_reading_of {r : RS.RK} (h : BR r) : F_reading_of cl [.lst ((wordsR r).map D.str)] S = .val (rkD r) S := by
  refine wp_to ?_
  unfold F_reading_of
  refine wp_def rfl ?_
  unfold m_reading_of
  sizeOf_list_dec
  have e : (wordsR r).map D.str = (r.1 :: r.2.1 :: r.2.2).map fun i => D.str (numS i) := by
    rw [wordsR, List.map_cons, List.map_cons, List.map_map]
    rfl
  rw [e]
  have hb : ∀ i ∈ r.1 :: r.2.1 :: r.2.2, Bd i := fun i hi => by
    simp only [List.mem_cons] at hi
    rcases hi with rfl | rfl | hi
    · exact h.1
    · exact h.2.1
    · exact h.2.2.2 i hi
  refine wp_mapA (r.1 :: r.2.1 :: r.2.2) (fun i => D.str (numS i)) D.int rfl (by have := h.2.2.1; simp; omega) rfl (fun i hi => ⟨_, rfl, ?_⟩) ?_
  · sizeOf_list_dec
    exact wp_lL (opIntT_num (hb i hi)) ⟨rfl, rfl⟩
  have e2 : cut (D.int r.1 :: .int r.2.1 :: r.2.2.map D.int) (some 2) none = r.2.2.map D.int := by
    have := cut_from (xs := D.int r.1 :: .int r.2.1 :: r.2.2.map D.int) (j := 2) (by simp)
    exact this
  rw [show List.map D.int (r.1 :: r.2.1 :: r.2.2) = D.int r.1 :: .int r.2.1 :: r.2.2.map D.int from rfl]
  sizeOf_list_dec
  rw [e2]
  sizeOf_list_dec
theorem f_is_lineR {r : RS.RK} (h : BR r) {k : Nat} (hk : 2 ≤ k) : F_is_line cl [.int k, .lst ((wordsR r).map D.str)] S = .val (.bl true) S := by
  refine wp_to ?_
  unfold F_is_line
  refine wp_def rfl ?_
  unfold m_is_line
  have e : (wordsR r).map D.str = (r.1 :: r.2.1 :: r.2.2).map fun i => D.str (numS i) := by
    rw [wordsR, List.map_cons, List.map_cons, List.map_map]
    rfl
  have hb : ∀ i ∈ r.1 :: r.2.1 :: r.2.2, Bd i := fun i hi => by
    simp only [List.mem_cons] at hi
    rcases hi with rfl | rfl | hi
    · exact h.1
    · exact h.2.1
    · exact h.2.2.2 i hi
  rw [e]
  have l2 : 2 ≤ (r.1 :: r.2.1 :: r.2.2).length := by simp
  have l3 : (r.1 :: r.2.1 :: r.2.2).length ≤ 52 := by have := h.2.2.1; simp; omega
  generalize r.1 :: r.2.1 :: r.2.2 = v at hb l2 l3
  sizeOf_list_dec
  refine way_df (by simp; omega) ?_
  sizeOf_list_dec
  rw [List.length_map]
  refine way_dt (by omega) ?_
  sizeOf_list_dec
  refine wp_mapA v (fun i => D.str (numS i)) (fun _ => .bl true) rfl (by omega) rfl (fun i hi => ⟨_, rfl, ?_⟩) ?_
  · sizeOf_list_dec
    exact wp_eq (f_is_number (hb i hi)) ⟨rfl, rfl⟩
  sizeOf_list_dec
  refine wp_lL (bools_l (bls_of (fun _ => true) v)) ?_
  rw [show (v.map fun _ => true).all id = true from List.all_eq_true.mpr fun b hb => by
    obtain ⟨_, _, rfl⟩ := List.mem_map.mp hb
    rfl]
  exact wp_fin ⟨rfl, rfl⟩
theorem f_is_line0 {a : Int} (h : Bd a) : F_is_line cl [.int 0, .lst [.str hd1, .str (numS a)]] S = .val (.bl true) S := by
  refine wp_to ?_
  unfold F_is_line
  refine wp_def rfl ?_
  unfold m_is_line
  sizeOf_list_dec
  refine wp_l2 (eq_s (by decide +kernel) (by decide +kernel)) ?_
  rw [decide_eq_true (show hd1 = Str.ofString "sides" from rfl)]
  refine ⟨_, rfl, way_t ?_⟩
  sizeOf_list_dec
  refine wp_eq (f_is_number h) ?_
  exact wp_fin ⟨rfl, rfl⟩
theorem f_is_line1 {a : Int} (h : Bd a) : F_is_line cl [.int 1, .lst [.str hd2, .str (numS a)]] S = .val (.bl true) S := by
  refine wp_to ?_
  unfold F_is_line
  refine wp_def rfl ?_
  unfold m_is_line
  sizeOf_list_dec
  refine wp_l2 (eq_s (by decide +kernel) (by decide +kernel)) ?_
  rw [decide_eq_true (show hd2 = Str.ofString "tables" from rfl)]
  refine ⟨_, rfl, way_t ?_⟩
  sizeOf_list_dec
  refine wp_eq (f_is_number h) ?_
  exact wp_fin ⟨rfl, rfl⟩
theorem len_text {a b : Int} {R : List RS.RK} (h : Raw a b R) : (textR a b R).length ≤ 1660000 := by
  have ll := len_lines h
  have lr : (linesR a b R).length ≤ 502 := by have := h.l; simp [linesR]; omega
  unfold textR linesS
  rw [len_tl, join_eq, tl_join]
  have := len_join (S := tl Str.empty) (m := 3301) (ps := ((linesR a b R).map (· ++ nl)).map tl) fun p hp => by
    obtain ⟨w, hw, rfl⟩ := List.mem_map.mp hp
    obtain ⟨q, hq, rfl⟩ := List.mem_map.mp hw
    have := ll q hq
    rw [tl_append, tl_nl, List.length_append, ← len_tl]
    simp
    omega
  have e : (tl Str.empty).length = 0 := rfl
  rw [e] at this
  rw [List.length_map, List.length_map] at this
  have : (linesR a b R).length * (3301 + 0) ≤ 502 * 3301 := Nat.mul_le_mul lr (Nat.le_refl _)
  omega
def rowsR (a b : Int) (R : List RS.RK) : List (List Str) := [hd1, numS a] :: [hd2, numS b] :: R.map wordsR
theorem lines_rows (a b : Int) (R : List RS.RK) : linesR a b R = (rowsR a b R).map (Txt.join sp) := by
  simp only [linesR, rowsR, List.map_cons, List.map_map]
  rfl
theorem word_free {a b : Int} {R : List RS.RK} : ∀ ws ∈ rowsR a b R, ws ≠ [] ∧ ∀ w ∈ ws, 32 ∉ tl w ∧ 10 ∉ tl w := fun ws hw => by
  have f : ∀ i : Int, 32 ∉ tl (numS i) ∧ 10 ∉ tl (numS i) := fun i => ⟨free_num (by omega), free_num (by omega)⟩
  have h1 : 32 ∉ tl hd1 ∧ 10 ∉ tl hd1 := by decide +kernel
  have h2 : 32 ∉ tl hd2 ∧ 10 ∉ tl hd2 := by decide +kernel
  simp only [rowsR, List.mem_cons, List.mem_map] at hw
  rcases hw with rfl | rfl | ⟨r, hr, rfl⟩
  · refine ⟨by simp, fun w hw => ?_⟩
    simp only [List.mem_cons, List.mem_nil_iff, or_false] at hw
    rcases hw with rfl | rfl
    · exact h1
    · exact f a
  · refine ⟨by simp, fun w hw => ?_⟩
    simp only [List.mem_cons, List.mem_nil_iff, or_false] at hw
    rcases hw with rfl | rfl
    · exact h2
    · exact f b
  · refine ⟨by simp [wordsR], fun w hw => ?_⟩
    simp only [wordsR, List.mem_cons, List.mem_map] at hw
    rcases hw with rfl | rfl | ⟨i, hi, rfl⟩
    · exact f _
    · exact f _
    · exact f i
theorem text_split {a b : Int} {R : List RS.RK} : Txt.split (textR a b R) nl = linesR a b R ++ [Str.empty] := by
  refine lines_split fun p hp => ?_
  rw [lines_rows] at hp
  obtain ⟨ws, hw, rfl⟩ := List.mem_map.mp hp
  have := (word_free ws hw).2
  rw [join_eq, tl_join, tl_sp]
  refine free_join (by decide) fun q hq => ?_
  obtain ⟨w, hw, rfl⟩ := List.mem_map.mp hq
  exact (this w hw).2
theorem row_split {a b : Int} {R : List RS.RK} {ws : List Str} (h : ws ∈ rowsR a b R) : Txt.split (Txt.join sp ws) sp = ws := words_split (word_free ws h).1 fun w hw => ((word_free ws h).2 w hw).1
end LW
set_option linter.all false
set_option maxRecDepth 100000
set_option maxHeartbeats 2000000
set_option exponentiation.threshold 4000
/-! A text of parts is read. -/
namespace LW
open DL PySem L2 TL
variable {cl : Nat → Addr} {d d' : D} {S : St0} {X : XP} {Q : D → St0 → Prop}
def Rd (cl : Nat → Addr) (a b : Int) (R : List RS.RK) (S : St0) : DL.R := if partD (.int a) (.int b) (rksD R) = .non then .val (prgD (cl 0) (.int a) (.int b) (rksD R)) S else .exc (cl 2) [(Str.ofString "part", partD (.int a) (.int b) (rksD R))] S
theorem okd_raw {a b : Int} {R : List RS.RK} (h : Raw a b R) : okd (cl 0) (rksD R) = true := (fit_tup (C := cl 0) (fun x hx => by
  obtain ⟨r, hr, rfl⟩ := List.mem_map.mp hx
  exact fit_3 (fit_i _) (fit_i _) (fit_ints _ (by have := (h.ok r hr).2.2.1; omega))) (by have := h.l; simp; omega)).1
theorem f_read {a b : Int} {R : List RS.RK} (h : Raw a b R) : F_read_program cl [.str (textR a b R)] S = Rd cl a b R S := by
  have run : (F_read_program cl [.str (textR a b R)] S).wp (fun C fs S' => DL.R.exc C fs S' = Rd cl a b R S) fun d S' => DL.R.val d S' = Rd cl a b R S := by
    unfold F_read_program
    refine wp_def rfl ?_
    unfold m_read_program
    sizeOf_list_dec
    refine wp_lL (isiK (d := .str (textR a b R)) rfl (by decide)) ?_
    refine ⟨_, rfl, _, rfl, way_nT ?_⟩
    have lt := len_text h
    have lr : (rowsR a b R).length ≤ 502 := by have := h.l; simp [rowsR]; omega
    have lr2 : 2 ≤ (rowsR a b R).length := by simp [rowsR]
    sizeOf_list_dec
    refine wp_split ?_
    sizeOf_list_dec
    refine ⟨⟨by decide +kernel, by rw [sizeLine_eq]; omega⟩, ?_⟩
    rw [show Str.ofString "\n" = nl from rfl, text_split, List.map_append]
    sizeOf_list_dec
    refine ⟨⟨(linesR a b R).map D.str ++ [.str Str.empty], by simp [lItems, isTup, itemsOf, seqOf]⟩, ?_⟩
    sizeOf_list_dec
    refine wp_pop (xs := (linesR a b R).map D.str) (d := .str Str.empty) l_at ?_
    rw [l_set]
    sizeOf_list_dec
    have hls : (linesR a b R).map D.str = (rowsR a b R).map fun ws => D.str (Txt.join sp ws) := by rw [lines_rows, List.map_map]; rfl
    rw [hls]
    refine ⟨[(S.length, (rowsR a b R).map fun ws => D.str (Txt.join sp ws))], (rowsR a b R).map fun ws => D.str (Txt.join sp ws), by simp [seqOf], ?_⟩
    have ll : ∀ ws ∈ rowsR a b R, (Txt.join sp ws).length ≤ 3300 := fun ws hw => len_lines h _ (by rw [lines_rows]; exact List.mem_map.mpr ⟨ws, hw, rfl⟩)
    refine wp_mapA (rowsR a b R) (fun ws => D.str (Txt.join sp ws)) (fun ws => .lst (ws.map D.str)) rfl (by omega) (by simp [chk]) (fun ws hw => ⟨_, rfl, ?_⟩) ?_
    · have := ll ws hw
      refine wp_split ?_
      sizeOf_list_dec
      refine ⟨⟨by decide +kernel, by rw [sizeLine_eq]; omega⟩, ?_⟩
      rw [show Str.ofString " " = sp from rfl, row_split hw]
      exact wp_finF ⟨rfl, rfl⟩
    sizeOf_list_dec
    generalize (rowsR a b R).map (fun ws => D.str (Txt.join sp ws)) = xs0
    refine wp_loop (fun ds ρ S1 => ∃ (done todo : List (List Str)) (a5 a6 : Option D), rowsR a b R = done ++ todo ∧ ds = enums done.length (todo.map fun ws => D.lst (ws.map D.str)) ∧ ρ = [some (.str (textR a b R)), some (.ref S.length), some (.str Str.empty), some (.lst ((rowsR a b R).map fun ws => D.lst (ws.map D.str))), none, a5, a6, none] ∧ S1 = S ++ [.lst xs0]) ⟨[], rowsR a b R, _, _, rfl, rfl, rfl, rfl⟩ ?_ ?_
    · rintro d ds _ _ ⟨done, todo, a5, a6, e, hds, rfl, rfl⟩
      cases todo with
      | nil => cases hds
      | cons ws todo =>
      rw [List.map_cons, enums_cons] at hds
      obtain ⟨rfl, rfl⟩ := List.cons.inj hds
      refine ⟨rfl, _, rfl, ?_⟩
      have il : ∀ T, F_is_line cl [.int done.length, .lst (ws.map D.str)] T = .val (.bl true) T := fun T => by
        rw [rowsR] at e
        match done, e with
        | [], e =>
          obtain ⟨rfl, _⟩ := List.cons.inj e
          exact f_is_line0 h.a
        | [x], e =>
          obtain ⟨_, e⟩ := List.cons.inj e
          obtain ⟨rfl, _⟩ := List.cons.inj e
          exact f_is_line1 h.b
        | x :: y :: z, e =>
          obtain ⟨_, e⟩ := List.cons.inj e
          obtain ⟨_, e⟩ := List.cons.inj e
          have hm : ws ∈ R.map wordsR := by rw [e]; simp
          obtain ⟨r, hr, rfl⟩ := List.mem_map.mp hm
          exact f_is_lineR (h.ok r hr) (by simp)
      sizeOf_list_dec
      refine wp_eq (il _) ?_
      refine ⟨_, rfl, _, rfl, way_nT ?_⟩
      sizeOf_list_dec
      exact ⟨done ++ [ws], todo, _, _, by rw [e]; simp, by simp, rfl, rfl⟩
    · rintro _ _ ⟨done, todo, a5, a6, e, hds, rfl, rfl⟩
      clear e hds
      refine ⟨rfl, ?_⟩
      have er : (rowsR a b R).map (fun ws => D.lst (ws.map D.str)) = D.lst [.str hd1, .str (numS a)] :: .lst [.str hd2, .str (numS b)] :: R.map fun r => D.lst ((wordsR r).map D.str) := by
        simp only [rowsR, List.map_cons, List.map_map, List.map_nil]
        rfl
      rw [er]
      sizeOf_list_dec
      refine wp_l2 (ne_s (by decide +kernel) (by decide +kernel)) ?_
      rw [decide_eq_true (show Str.empty = Str.ofString "" by decide +kernel)]
      refine ⟨_, rfl, way_f ?_⟩
      sizeOf_list_dec
      refine way_df (by simp; omega) ?_
      sizeOf_list_dec
      have ec : cut (D.lst [.str hd1, .str (numS a)] :: .lst [.str hd2, .str (numS b)] :: R.map fun r => D.lst ((wordsR r).map D.str)) (some 2) none = R.map fun r => D.lst ((wordsR r).map D.str) := by
        have := cut_from (xs := D.lst [.str hd1, .str (numS a)] :: .lst [.str hd2, .str (numS b)] :: R.map fun r => D.lst ((wordsR r).map D.str)) (j := 2) (by simp)
        exact this
      rw [ec]
      refine wp_mapA R (fun r => D.lst ((wordsR r).map D.str)) rkD rfl (by have := h.l; omega) rfl (fun r hr => ⟨_, rfl, ?_⟩) ?_
      · sizeOf_list_dec
        exact wp_eq (f_reading_of (h.ok r hr)) ⟨rfl, rfl⟩
      sizeOf_list_dec
      refine wp_lL (opIntT_num h.a) ?_
      sizeOf_list_dec
      refine wp_lL (opIntT_num h.b) ?_
      sizeOf_list_dec
      have mk := f_init (cl := cl) (S := S ++ [.lst xs0]) (a := .int a) (b := .int b) (r := rksD R) rfl rfl (okd_raw h)
      unfold Rd
      by_cases hp : partD (.int a) (.int b) (rksD R) = .non
      · rw [if_pos hp] at mk ⊢
        refine wp_eq mk ?_
        rw [if_neg Bool.false_ne_true]
        have hc : (prgD (cl 0) (.int a) (.int b) (rksD R)).clo 0 = true := by
          have := prg_clo hp
          simpa [prgD, D.clo] using this
        have := fin_app (S := S) (S1 := S) (E := [.lst xs0]) (d := prgD (cl 0) (.int a) (.int b) (rksD R)) (d' := prgD (cl 0) (.int a) (.int b) (rksD R)) rfl (fun i o o' h1 h2 => .inl (by rw [h1] at h2; cases h2; rfl)) (mapR_id (n := 0) (fun _ h => by cases h) _ hc)
        exact wp_eq this rfl
      · rw [if_neg hp] at mk ⊢
        rw [show mMake false (cl 0) (F_Program___init__ cl) [.int a, .int b, .tup (R.map rkD)] (S ++ [.lst xs0]) = _ from mk]
        refine .exc ?_
        rw [if_neg Bool.false_ne_true]
        have := fin_exc (S := S) (E := [.lst xs0]) (C' := cl 2) (ns := [Str.ofString "part"]) (ds := [partD (.int a) (.int b) (rksD R)]) (by simp [D.clos, part_clo]) rfl
        rw [show DL.finish S (DL.R.exc (cl 2) [(Str.ofString "part", partD (.int a) (.int b) (rksD R))] (S ++ [.lst xs0])) = _ from this]
        exact .exc rfl
  cases hq : F_read_program cl [.str (textR a b R)] S with
  | val d S' => rw [hq] at run; cases run with | val h => exact h
  | exc C fs S' => rw [hq] at run; cases run with | exc h => exact h
  | stuck => rw [hq] at run; cases run
end LW
set_option linter.all false
set_option maxRecDepth 100000
set_option maxHeartbeats 2000000
set_option exponentiation.threshold 4000
/-! The law's judge of parts; what is told of a text. -/
namespace LW
open DL PySem L2 TL
variable {cl : Nat → Addr} {d d' : D} {S : St0} {X : XP} {Q : D → St0 → Prop}
theorem f_part {i j : Int} {xs : List D} (hr : okd (cl 0) (.tup xs) = true) : F__law_program_part cl [.tup [.int i, .int j, .tup xs]] S = .val (partD (.int i) (.int j) (.tup xs)) S := by
  refine wp_to ?_
  unfold F__law_program_part
  refine wp_def rfl ?_
  unfold m__law_program_part
  sizeOf_list_dec
  have bad1 : isIn 1 4 (.int i) = false → D.str "sides" = partD (.int i) (.int j) (.tup xs) := fun h => by simp [partD, h]
  refine way_d (fun h1 => ?_) (fun h1 => ?_)
  · sizeOf_list_dec
    exact ⟨bad1 (by have : ¬ 1 ≤ i := by omega
                    simp [isIn, this]), rfl⟩
  sizeOf_list_dec
  refine way_d (fun h2 => ?_) (fun h2 => ?_)
  · sizeOf_list_dec
    exact ⟨bad1 (by have : ¬ i ≤ 4 := by omega
                    simp [isIn, this]), rfl⟩
  have e1 : isIn 1 4 (.int i) = true := by
    have a1 : 1 ≤ i := by omega
    have a2 : i ≤ 4 := by omega
    simp [isIn, a1, a2]
  have bad2 : isIn 1 8 (.int j) = false → D.str "tables" = partD (.int i) (.int j) (.tup xs) := fun h => by simp [partD, e1, h]
  sizeOf_list_dec
  refine way_d (fun h3 => ?_) (fun h3 => ?_)
  · sizeOf_list_dec
    exact ⟨bad2 (by have : ¬ 1 ≤ j := by omega
                    simp [isIn, this]), rfl⟩
  sizeOf_list_dec
  refine way_d (fun h4 => ?_) (fun h4 => ?_)
  · sizeOf_list_dec
    exact ⟨bad2 (by have : ¬ j ≤ 8 := by omega
                    simp [isIn, this]), rfl⟩
  have e2 : isIn 1 8 (.int j) = true := by
    have a1 : 1 ≤ j := by omega
    have a2 : j ≤ 8 := by omega
    simp [isIn, a1, a2]
  sizeOf_list_dec
  obtain ⟨lr, hx⟩ := okd_tup hr
  refine way_d (fun h1 => ?_) (fun h1 => ?_)
  · sizeOf_list_dec
    have b1 : partD (.int i) (.int j) (.tup xs) = .str "readings" := by
      have : ¬ xs.length ≤ 24 := by omega
      simp [partD, e1, e2, this]
    exact ⟨by rw [b1], rfl⟩
  have pd : partD (.int i) (.int j) (.tup xs) = noted (bad (natOf (.int i)) (natOf (.int j)) 0 none xs) := by
    have : xs.length ≤ 24 := by omega
    simp [partD, e1, e2, this]
  obtain ⟨ea, a1, a2⟩ := isIn_is (by decide) e1
  obtain ⟨eb, b1, b2⟩ := isIn_is (by decide) e2
  generalize natOf (.int i) = n at *
  generalize natOf (.int j) = t at *
  cases ea
  cases eb
  sizeOf_list_dec
  refine wp_loop (fun ds ρ S1 => ∃ (done todo : List D) (u : Option D), xs = done ++ todo ∧ ds = rng done.length todo.length ∧ (∀ x ∈ done, isRd n t x = true) ∧ bad n t 0 none xs = bad n t done.length done.getLast? todo ∧ ρ = [some (.tup [.int n, .int t, .tup xs]), u] ∧ S1 = S) ⟨[], xs, _, rfl, rfl, by simp, rfl, rfl, rfl⟩ ?_ ?_
  · rintro d ds _ _ ⟨done, todo, u, g1, g2, g3, g4, rfl, rfl⟩
    cases todo with
    | nil => cases g2
    | cons x todo =>
      rw [List.length_cons, rng_cons] at g2
      obtain ⟨rfl, rfl⟩ := List.cons.inj g2
      refine ⟨rfl, _, rfl, ?_⟩
      have stop : ¬ (isRd n t x = true ∧ upOk done.getLast? x = true) → D.int done.length = partD (.int n) (.int t) (.tup xs) := fun h => by
        rw [pd, g4]
        unfold bad
        rw [if_neg h]
        rfl
      have ixx : ∀ S, opIx (.tup xs) (.int done.length) S = some x := fun S => by
        refine ixtN ?_
        rw [g1]
        simp
      sizeOf_list_dec
      refine wp_l2 (ixx _) ?_
      sizeOf_list_dec
      refine wp_eq (f_law_is_reading (hx x (by rw [g1]; simp))) ?_
      sizeOf_list_dec
      cases er : isRd n t x
      · sizeOf_list_dec
        exact ⟨stop (by rw [er]; simp), rfl⟩
      sizeOf_list_dec
      have fin : upOk done.getLast? x = true → ∃ (done' todo' : List D) (u' : Option D), xs = done' ++ todo' ∧ rng ((done.length : Int) + 1) todo.length = rng done'.length todo'.length ∧ (∀ x ∈ done', isRd n t x = true) ∧ bad n t 0 none xs = bad n t done'.length done'.getLast? todo' ∧ [some (D.tup [.int n, .int t, .tup xs]), some (.int done.length)] = [some (.tup [.int n, .int t, .tup xs]), u'] := fun hu =>
        ⟨done ++ [x], todo, _, by rw [g1]; simp, by simp, fun y hy => by
          rcases List.mem_append.mp hy with hy | hy
          · exact g3 y hy
          · cases List.mem_singleton.mp hy; exact er, by
          rw [g4]
          conv => lhs; unfold bad
          rw [if_pos ⟨er, hu⟩]
          simp, rfl⟩
      refine way_d (fun hz => ?_) (fun hz => ?_)
      · sizeOf_list_dec
        obtain ⟨init, y, rfl⟩ : ∃ init y, done = init ++ [y] := ⟨_, _, (List.dropLast_concat_getLast (by intro z; rw [z] at hz; simp at hz)).symm⟩
        have ix : ∀ S, opIx (.tup xs) (.int (((init ++ [y]).length : Int) - 1)) S = some y := fun S => by
          rw [show (((init ++ [y]).length : Int) - 1) = ((init.length : Nat) : Int) from by simp]
          refine ixtN ?_
          rw [g1]
          simp
        refine wp_l2 (ixx _) ?_
        sizeOf_list_dec
        refine wp_l2 (ix _) ?_
        have ry := rd_is (g3 y (by simp))
        have rx := rd_is er
        have le : opLeD x y = opLeD (rkD (rdOf x)) (rkD (rdOf y)) := by rw [← ry, ← rx]
        refine wp_l2 (z := .bl (!decide (RS.rlt (rdOf y) (rdOf x)))) (by rw [le]; exact leD_rk _ _) ?_
        have gl : (init ++ [y]).getLast? = some y := by simp
        cases eu : decide (RS.rlt (rdOf y) (rdOf x))
        · sizeOf_list_dec
          exact ⟨stop (by rw [gl]; simp only [upOk, eu]; simp), rfl⟩
        · sizeOf_list_dec
          obtain ⟨a, b, c, q1, q2, q3, q4, q5⟩ := fin (by rw [gl]; exact eu)
          exact ⟨a, b, c, q1, q2, q3, q4, q5, rfl⟩
      · sizeOf_list_dec
        obtain ⟨a, b, c, q1, q2, q3, q4, q5⟩ := fin (by
          have : done = [] := List.eq_nil_of_length_eq_zero (by omega)
          rw [this]
          rfl)
        exact ⟨a, b, c, q1, q2, q3, q4, q5, rfl⟩
  · rintro _ _ ⟨done, todo, u, g1, g2, g3, g4, rfl, rfl⟩
    have td : todo = [] := by
      cases todo with
      | nil => rfl
      | cons x xs => rw [List.length_cons, rng_cons] at g2; cases g2
    subst td
    refine ⟨rfl, ?_⟩
    sizeOf_list_dec
    exact ⟨by rw [pd, g4]; rfl, rfl⟩
end LW
set_option linter.all false
set_option maxRecDepth 100000
set_option maxHeartbeats 2000000
set_option exponentiation.threshold 4000
/-! What is told of a text. -/
namespace LW
open DL PySem L2 TL
variable {cl : Nat → Addr} {d d' : D} {S : St0} {X : XP} {Q : D → St0 → Prop}
theorem wps_try2v {tb : ETab} {i : Nat} {m : ME} {s2 : MS} {hs : List MCl} {ρ : Env0} {S1 : St0} {N B C : EP} {T : DP_} (h : m ρ S = .val d S1) (q : (s2 (ρ.set i (some d)) S1).wp ⟨N, T, B, C, noX⟩) : (mTry tb (mSeq (mSet i m) s2) hs ρ S).wp ⟨N, T, B, C, X⟩ := by
  have e : mSeq (mSet i m) s2 ρ S = s2 (ρ.set i (some d)) S1 := by
    unfold mSeq mSet
    rw [h]
    rfl
  unfold mTry
  rw [e]
  generalize s2 (ρ.set i (some d)) S1 = r at q
  cases q with
  | nx h => exact .nx h
  | rt h => exact .rt h
  | bk h => exact .bk h
  | ct h => exact .ct h
  | exc h => exact h.elim
theorem wps_try2x {tb : ETab} {i : Nat} {m : ME} {s2 : MS} {hs : List MCl} {ρ : Env0} {S1 : St0} {E : Addr} {fs : List (Str × D)} {P : _} (h : m ρ S = .exc E fs S1) (q : (hands tb E fs hs ρ S1).wp P) : (mTry tb (mSeq (mSet i m) s2) hs ρ S).wp P := by
  have e : mSeq (mSet i m) s2 ρ S = .exc E fs ρ S1 := by
    unfold mSeq mSet
    rw [h]
    rfl
  unfold mTry
  rw [e]
  exact q
def toldR (a b : Int) (R : List RS.RK) : D := if partD (.int a) (.int b) (rksD R) = .non then .tup [.str "told", rwD a b R] else .tup [.str "part", partD (.int a) (.int b) (rksD R)]
theorem f_told (n13 : cl 1 ≠ cl 3) (n23 : cl 2 ≠ cl 3) {a b : Int} {R : List RS.RK} (h : Raw a b R) : F__law_read_told cl [.str (textR a b R)] S = .val (toldR a b R) S := by
  refine wp_to ?_
  unfold F__law_read_told
  refine wp_def rfl ?_
  unfold m__law_read_told
  have rd := f_read (cl := cl) (S := S) h
  unfold Rd at rd
  refine wps_seq (wps_set ?_)
  sizeOf_list_dec
  unfold toldR
  by_cases hp : partD (.int a) (.int b) (rksD R) = .non
  · rw [if_pos hp] at rd ⊢
    refine wps_try2v (d := prgD (cl 0) (.int a) (.int b) (rksD R)) (S1 := S) rd ?_
    unfold prgD
    sizeOf_list_dec
  · rw [if_neg hp] at rd ⊢
    refine wps_try2x rd ?_
    have x3 : exmD (etb cl) (cl 2) (.c (cl 3)) = some false := by
      simp [exmD, etb, List.find?, n13, n23, Ne.symm n23]
    have x2 : exmD (etb cl) (cl 2) (.c (cl 2)) = some true := by
      simp [exmD, etb, List.find?]
    refine wps_handF x3 (wps_handT x2 ?_)
    sizeOf_list_dec
    refine wp_exf ?_
    refine wp_var rfl ?_
    refine ⟨cl 2, _, _, partD (.int a) (.int b) (rksD R), rfl, by simp, by rfl, ?_⟩
    sizeOf_list_dec
end LW
set_option linter.all false
set_option maxRecDepth 100000
set_option maxHeartbeats 4000000
set_option exponentiation.threshold 4000
/-! Parts that are bent. -/
namespace LW
open DL PySem L2 TL
variable {cl : Nat → Addr} {d d' : D} {S : St0} {s k : Int} {g : List Int} {rest : St0} {X : XP} {Q : D → St0 → Prop}
/-- parts whose readings' steps are as long as told, and so many -/
structure RawN (m c : Nat) (a b : Int) (R : List RS.RK) : Prop where
  a : Bd a
  b : Bd b
  ok : ∀ r ∈ R, Bd r.1 ∧ Bd r.2.1 ∧ r.2.2.length ≤ c ∧ ∀ i ∈ r.2.2, Bd i
  l : R.length ≤ m
theorem RawN.raw {m c : Nat} {a b : Int} {R : List RS.RK} (h : RawN m c a b R) (hm : m ≤ 500) (hc : c ≤ 50) : Raw a b R := ⟨h.a, h.b, fun r hr => ⟨(h.ok r hr).1, (h.ok r hr).2.1, by have := (h.ok r hr).2.2.1; omega, (h.ok r hr).2.2.2⟩, by have := h.l; omega⟩
theorem bd_small {i : Int} (h : i.natAbs ≤ 1000000000000000000) : Bd i := Nat.lt_of_le_of_lt h (by decide +kernel)
theorem ints_some {ds : List Int} (h0 : ds ≠ []) (hb : ∀ i ∈ ds, Bd i) (hl : ds.length ≤ 100) (s0 : 0 ≤ s) (s1 : s < 2147483647) : (F__law_some cl [.ref 1, .lst (ds.map .int)] (bg s k g rest)).wp noX fun d S' => ∃ (i : Int) (k' : Int) (g' : List Int), d = .int i ∧ S' = bg s k' g' rest ∧ Bd i := by
  refine DL.R.wp_mono0 (somew (by simpa using h0) (by simp; omega) (clos_ints _ _) s0 s1) ?_
  rintro x _ ⟨k, g, rfl, hx⟩
  obtain ⟨i, hi, rfl⟩ := List.mem_map.mp hx
  exact ⟨i, _, _, rfl, rfl, hb i hi⟩
theorem mulz_t {xs : List D} {m : Int} {T : St0} (h : 0 < xs.length) (h1 : 0 ≤ m) (h2 : m.toNat * xs.length ≤ 1000000) : opMulZ (.tup xs) (.int m) T = some (.tup (List.replicate m.toNat xs).flatten) := by
  simp only [opMulZ, if_pos (And.intro h (And.intro h1 h2))]
theorem cut_hi {α : Type} {xs : List α} {j : Nat} (h : j ≤ xs.length) : cut xs none (some (j : Int)) = xs.take j := by
  unfold cut
  have e : HT.sIx xs.length xs.length (some (j : Int)) = j := by
    unfold HT.sIx
    simp
    rw [if_neg (by omega)]
    omega
  have e2 : HT.sIx xs.length 0 none = 0 := rfl
  rw [e, e2]
  simp
theorem wp_revS_t {m : ME} {al : Bool} {ρ : Env0} (h : (m ρ S).wp X fun x S1 => ∃ xs, x = .tup xs ∧ Q (.tup xs.reverse) S1) : (mRevS al m ρ S).wp X Q :=
  bind_wp (R.wp_mono h (fun x S1 ⟨xs, e, h⟩ => by subst e; exact .val h) fun _ _ _ h => h)
theorem cut_one {α : Type} {xs : List α} {p : Nat} (h : p < xs.length) : cut xs (some (p : Int)) (some ((p : Int) + 1)) = [xs[p]] := by
  unfold cut
  have e1 : HT.sIx xs.length 0 (some (p : Int)) = p := by
    unfold HT.sIx
    simp
    rw [if_neg (by omega)]
    omega
  have e2 : HT.sIx xs.length xs.length (some ((p : Int) + 1)) = p + 1 := by
    unfold HT.sIx
    simp
    rw [if_neg (by omega)]
    omega
  rw [e1, e2, show p + 1 - p = 1 from by omega, List.drop_eq_getElem_cons h]
  rfl
theorem bent_ {m c : Nat} {a b : Int} {R : List RS.RK} (h : RawN m c a b R) (hm : m ≤ 400) (hc : c ≤ 20) (s0 : 0 ≤ s) (s1 : s < 2147483647) : (F__law_bent_parts cl [.ref 1, rwD a b R] (bg s k g rest)).wp noX fun d S' => ∃ (a' b' : Int) (R' : List RS.RK) (k' : Int) (g' : List Int), d = rwD a' b' R' ∧ S' = bg s k' g' rest ∧ RawN (m + 40) (c + 8) a' b' R' := by
  unfold F__law_bent_parts
  refine wp_def rfl ?_
  unfold m__law_bent_parts
  generalize hrev : mRevS false (mSl false (mVar 4) (some (mVar 6)) none) = rv
  have fin : ∀ {a' b' : Int} {R' : List RS.RK} {k' : Int} {g' : List Int} {k2 : Int} {g2 : List Int}, RawN (m + 40) (c + 8) a' b' R' → (if false = true then DL.R.val (rwD a' b' R') (bg s k' g' rest) else DL.finish (bg s k2 g2 rest) (.val (rwD a' b' R') (bg s k' g' rest))).wp noX fun d S' => ∃ (a' b' : Int) (R' : List RS.RK) (k' : Int) (g' : List Int), d = rwD a' b' R' ∧ S' = bg s k' g' rest ∧ RawN (m + 40) (c + 8) a' b' R' := fun {a' b' R' k' g' k2 g2} hr => by
    refine fin_bag ?_ ⟨a', b', R', k', g', rfl, rfl, hr⟩
    simp only [D.clo, D.clos, Bool.true_and, Bool.and_true]
    refine clos_all fun d hd => ?_
    obtain ⟨r, _, rfl⟩ := List.mem_map.mp hd
    simp [rkD, D.clo, D.clos, clos_ints]
  have up : ∀ r ∈ R, Bd r.1 ∧ Bd r.2.1 ∧ r.2.2.length ≤ c + 8 ∧ ∀ i ∈ r.2.2, Bd i := fun r hr => ⟨(h.ok r hr).1, (h.ok r hr).2.1, by have := (h.ok r hr).2.2.1; omega, (h.ok r hr).2.2.2⟩
  have hl := h.l
  sizeOf_list_dec
  refine DL.R.wp_mono0 (draww (by decide) (by decide) s0 s1) ?_
  rintro _ _ ⟨kd, k, g, rfl, rfl, k0, k1⟩
  sizeOf_list_dec
  refine way_d (fun hz => ?_) (fun hz => ?_)
  · sizeOf_list_dec
    refine wp_l2 (z := .int (10 ^ 59)) (by simp [opPow]) ?_
    sizeOf_list_dec
    refine DL.R.wp_mono0 (ints_some (ds := [0, 5, -1, 1, 2, 3, 4, 10 ^ 59]) (by simp) (fun i hi => ?_) (by simp) s0 s1) ?_
    · simp only [List.mem_cons, List.mem_nil_iff, or_false] at hi
      rcases hi with rfl | rfl | rfl | rfl | rfl | rfl | rfl | rfl <;> first | exact bd_small (by decide) | (unfold Bd; decide +kernel)
    rintro _ _ ⟨i, k, g, rfl, rfl, bi⟩
    sizeOf_list_dec
    exact fin ⟨bi, h.b, up, by omega⟩
  sizeOf_list_dec
  refine way_d (fun hz1 => ?_) (fun hz1 => ?_)
  · sizeOf_list_dec
    refine wp_l2 (z := .int (10 ^ 59)) (by simp [opPow]) ?_
    sizeOf_list_dec
    refine DL.R.wp_mono0 (ints_some (ds := [0, 9, -1, 1, 2, 8, 10 ^ 59]) (by simp) (fun i hi => ?_) (by simp) s0 s1) ?_
    · simp only [List.mem_cons, List.mem_nil_iff, or_false] at hi
      rcases hi with rfl | rfl | rfl | rfl | rfl | rfl | rfl <;> first | exact bd_small (by decide) | (unfold Bd; decide +kernel)
    rintro _ _ ⟨i, k, g, rfl, rfl, bi⟩
    sizeOf_list_dec
    exact fin ⟨h.a, bi, up, by omega⟩
  sizeOf_list_dec
  refine way_d (fun hz2 => ?_) (fun hz2 => ?_)
  · sizeOf_list_dec
    refine DL.R.wp_mono0 (draww (by decide) (by decide) s0 s1) ?_
    rintro _ _ ⟨q, k, g, rfl, rfl, q0, q1⟩
    refine wp_l2 (mulz_t (by simp) q0 (by simp; omega)) ?_
    rw [flat_one]
    sizeOf_list_dec
    have e : D.tup [.int a, .int b, .tup [.tup [.int 0, .int 0, .tup (List.replicate q.toNat (D.int 0))]]] = rwD a b [(0, 0, List.replicate q.toNat 0)] := by simp [rwD, rkD, List.map_replicate]
    rw [e]
    refine fin ⟨h.a, h.b, fun r hr => ?_, by simp⟩
    rw [List.mem_singleton.mp hr]
    refine ⟨bd_small (i := 0) (by decide), bd_small (i := 0) (by decide), by simp; omega, fun i hi => ?_⟩
    rw [List.eq_of_mem_replicate hi]
    exact bd_small (by decide)
  have hR : 0 < R.length := by simp at hz2; exact List.length_pos_iff.mpr hz2
  sizeOf_list_dec
  rw [List.length_map]
  refine DL.R.wp_mono0 (pickw (by omega) (by omega) s0 s1) ?_
  rintro _ _ ⟨p', k, g, rfl, rfl, p0, p1⟩
  obtain ⟨p, rfl⟩ := Int.eq_ofNat_of_zero_le p0
  have hp : p < R.length := by omega
  have hpm : p < (R.map rkD).length := by rw [List.length_map]; exact hp
  obtain ⟨r, hr⟩ : ∃ r, r = R[p] := ⟨_, rfl⟩
  have rm : r ∈ R := by rw [hr]; exact List.getElem_mem hp
  have rok := h.ok r rm
  have ixr : ∀ T, opIx (.tup (R.map rkD)) (.int (p : Nat)) T = some (rkD r) := fun T => ixtN (by rw [List.getElem?_map, List.getElem?_eq_getElem hp, hr]; rfl)
  have ehi : cut (R.map rkD) none (some (p : Int)) = (R.take p).map rkD := by rw [cut_hi (by omega), List.map_take]
  have efr : cut (R.map rkD) (some ((p : Int) + 1)) none = (R.drop (p + 1)).map rkD := by
    have := cut_from (xs := R.map rkD) (j := p + 1) (by omega)
    rw [List.map_drop]
    exact this
  have eon : cut (R.map rkD) (some (p : Int)) (some ((p : Int) + 1)) = [rkD r] := by rw [cut_one hpm, hr]; simp
  have lt : (R.take p).length = p := by rw [List.length_take]; omega
  have ld : (R.drop (p + 1)).length = R.length - (p + 1) := List.length_drop
  have put : ∀ q : RS.RK, Bd q.1 ∧ Bd q.2.1 ∧ q.2.2.length ≤ c + 8 ∧ (∀ i ∈ q.2.2, Bd i) → RawN (m + 40) (c + 8) a b (R.take p ++ [q] ++ R.drop (p + 1)) := fun q hq => ⟨h.a, h.b, fun z hz => by
    rcases List.mem_append.mp hz with hz | hz
    · rcases List.mem_append.mp hz with hz | hz
      · exact up z (List.mem_of_mem_take hz)
      · rw [List.mem_singleton.mp hz]; exact hq
    · exact up z (List.mem_of_mem_drop hz), by simp only [List.length_append, List.length_singleton]; omega⟩
  have wth : ∀ (q : RS.RK) (T : St0), F__law_with cl [.tup (R.map rkD), .int (p : Nat), rkD q] T = .val (.tup ((R.take p ++ [q] ++ R.drop (p + 1)).map rkD)) T := fun q T => by
    rw [with_ (by simp; omega), ehi, efr, List.map_append, List.map_append]
    rfl
  sizeOf_list_dec
  refine wp_l2 (ixr _) ?_
  have tail : ∀ {q : RS.RK} {k' : Int} {g' : List Int} {k2 : Int} {g2 : List Int}, Bd q.1 ∧ Bd q.2.1 ∧ q.2.2.length ≤ c + 8 ∧ (∀ i ∈ q.2.2, Bd i) → (if false = true then DL.R.val (rwD a b (R.take p ++ [q] ++ R.drop (p + 1))) (bg s k' g' rest) else DL.finish (bg s k2 g2 rest) (.val (rwD a b (R.take p ++ [q] ++ R.drop (p + 1))) (bg s k' g' rest))).wp noX fun d S' => ∃ (a' b' : Int) (R' : List RS.RK) (k' : Int) (g' : List Int), d = rwD a' b' R' ∧ S' = bg s k' g' rest ∧ RawN (m + 40) (c + 8) a' b' R' := fun {q k' g' k2 g2} hq => fin (put q hq)
  sizeOf_list_dec
  refine way_d (fun hz3 => ?_) (fun hz3 => ?_)
  · sizeOf_list_dec
    refine DL.R.wp_mono0 (draww (by decide) (by decide) s0 s1) ?_
    rintro _ _ ⟨q, k, g, rfl, rfl, q0, q1⟩
    rw [eon]
    refine wp_l2 (mulz_t (by simp) q0 (by simp; omega)) ?_
    rw [flat_one, ehi]
    refine wp_l2 (add_t (by rw [List.length_map, lt, List.length_replicate]; omega)) ?_
    sizeOf_list_dec
    rw [efr]
    refine wp_l2 (add_t (by rw [List.length_append, List.length_map, List.length_map, lt, ld, List.length_replicate]; omega)) ?_
    sizeOf_list_dec
    have e : (R.take p).map rkD ++ List.replicate q.toNat (rkD r) ++ (R.drop (p + 1)).map rkD = (R.take p ++ List.replicate q.toNat r ++ R.drop (p + 1)).map rkD := by simp [List.map_replicate]
    rw [e]
    refine fin ⟨h.a, h.b, fun z hz => ?_, by simp only [List.length_append, List.length_replicate]; omega⟩
    rcases List.mem_append.mp hz with hz | hz
    · rcases List.mem_append.mp hz with hz | hz
      · exact up z (List.mem_of_mem_take hz)
      · rw [List.eq_of_mem_replicate hz]; exact up r rm
    · exact up z (List.mem_of_mem_drop hz)
  sizeOf_list_dec
  refine way_d (fun hz4 => ?_) (fun hz4 => ?_)
  · sizeOf_list_dec
    rw [← hrev]
    refine wp_revS_t ?_
    sizeOf_list_dec
    have e1 : cut (R.map rkD) (some (p : Int)) none = (R.drop p).map rkD := by
      rw [List.map_drop]
      exact cut_from (xs := R.map rkD) (j := p) (by omega)
    rw [e1, ehi]
    refine wp_l2 (add_t (by simp; omega)) ?_
    sizeOf_list_dec
    rw [← List.map_reverse, ← List.map_append]
    refine fin ⟨h.a, h.b, fun z hz => ?_, by simp; omega⟩
    rcases List.mem_append.mp hz with hz | hz
    · exact up z (List.mem_of_mem_take hz)
    · exact up z (List.mem_of_mem_drop (List.mem_reverse.mp hz))
  sizeOf_list_dec
  refine way_d (fun hz5 => ?_) (fun hz5 => ?_)
  · sizeOf_list_dec
    refine DL.R.wp_mono0 (draww (by decide) (by decide) s0 s1) ?_
    rintro _ _ ⟨q, k, g, rfl, rfl, q0, q1⟩
    refine wp_l2 (mulz_t (by simp) q0 (by simp; omega)) ?_
    rw [flat_one]
    have l2 := rok.2.2.1
    refine wp_l2 (add_t (by simp; omega)) ?_
    sizeOf_list_dec
    have e : D.tup [.int r.1, .int r.2.1, .tup (r.2.2.map D.int ++ List.replicate q.toNat (.int 1))] = rkD (r.1, r.2.1, r.2.2 ++ List.replicate q.toNat 1) := by simp [rkD, List.map_replicate]
    rw [e]
    refine wp_eq (wth _ _) ?_
    sizeOf_list_dec
    refine tail ⟨rok.1, rok.2.1, by simp; omega, fun i hi => ?_⟩
    rcases List.mem_append.mp hi with hi | hi
    · exact rok.2.2.2 i hi
    · rw [List.eq_of_mem_replicate hi]; exact bd_small (i := 1) (by decide)
  sizeOf_list_dec
  refine way_d (fun hz6 => ?_) (fun hz6 => ?_)
  · sizeOf_list_dec
    have e : D.tup [.int r.1, .int r.2.1, .tup (cut (r.2.2.map D.int) (some 1) none)] = rkD (r.1, r.2.1, cut r.2.2 (some 1) none) := by rw [cut_map]; rfl
    rw [e]
    refine wp_eq (wth _ _) ?_
    sizeOf_list_dec
    refine tail ⟨rok.1, rok.2.1, ?_, fun i hi => rok.2.2.2 i (cut_mem hi)⟩
    have := cut_len (xs := r.2.2) (lo := some 1) (hi := none)
    have l2 := rok.2.2.1
    show (cut r.2.2 (some 1) none).length ≤ c + 8
    omega
  sizeOf_list_dec
  refine way_d (fun hz7 => ?_) (fun hz7 => ?_)
  · sizeOf_list_dec
    refine DL.R.wp_mono0 (ints_some (ds := [-1, b, 0, 7]) (by simp) (fun i hi => ?_) (by simp) s0 s1) ?_
    · simp only [List.mem_cons, List.mem_nil_iff, or_false] at hi
      rcases hi with rfl | rfl | rfl | rfl
      · exact bd_small (by decide)
      · exact h.b
      · exact bd_small (by decide)
      · exact bd_small (by decide)
    rintro _ _ ⟨i, k, g, rfl, rfl, bi⟩
    sizeOf_list_dec
    refine wp_eq (wth (i, r.2.1, r.2.2) _) ?_
    sizeOf_list_dec
    exact tail ⟨bi, rok.2.1, by have := rok.2.2.1; show r.2.2.length ≤ c + 8; omega, rok.2.2.2⟩
  sizeOf_list_dec
  refine way_d (fun hz8 => ?_) (fun hz8 => ?_)
  · sizeOf_list_dec
    refine DL.R.wp_mono0 (ints_some (ds := [-1, b, 0, 7, 8]) (by simp) (fun i hi => ?_) (by simp) s0 s1) ?_
    · simp only [List.mem_cons, List.mem_nil_iff, or_false] at hi
      rcases hi with rfl | rfl | rfl | rfl | rfl
      · exact bd_small (by decide)
      · exact h.b
      · exact bd_small (by decide)
      · exact bd_small (by decide)
      · exact bd_small (by decide)
    rintro _ _ ⟨i, k, g, rfl, rfl, bi⟩
    sizeOf_list_dec
    refine wp_eq (wth (r.1, i, r.2.2) _) ?_
    sizeOf_list_dec
    exact tail ⟨rok.1, bi, by have := rok.2.2.1; show r.2.2.length ≤ c + 8; omega, rok.2.2.2⟩
  sizeOf_list_dec
  refine wp_l2 (z := .int (10 ^ 59)) (by simp [opPow]) ?_
  sizeOf_list_dec
  refine DL.R.wp_mono0 (ints_some (ds := [1000000000000, 1000000000000 + 1, -1000000000000, -1000000000000 - 1, 10 ^ 59, 0]) (by simp) (fun i hi => ?_) (by simp) s0 s1) ?_
  · simp only [List.mem_cons, List.mem_nil_iff, or_false] at hi
    rcases hi with rfl | rfl | rfl | rfl | rfl | rfl <;> first | exact bd_small (by decide) | (unfold Bd; decide +kernel)
  rintro _ _ ⟨i, k, g, rfl, rfl, bi⟩
  have l2 := rok.2.2.1
  sizeOf_list_dec
  refine wp_l2 (add_t (by simp; omega)) ?_
  sizeOf_list_dec
  have e0 : r.2.2.map D.int ++ [.int i] = (r.2.2 ++ [i]).map D.int := by simp
  rw [e0]
  have e1 : ∀ lo : Option Int, D.tup [.int r.1, .int r.2.1, .tup (cut ((r.2.2 ++ [i]).map D.int) lo none)] = rkD (r.1, r.2.1, cut (r.2.2 ++ [i]) lo none) := fun lo => by rw [cut_map]; rfl
  rw [e1]
  refine wp_eq (wth _ _) ?_
  sizeOf_list_dec
  refine tail ⟨rok.1, rok.2.1, ?_, fun j hj => ?_⟩
  · refine Nat.le_trans cut_len ?_
    simp
    omega
  · rcases List.mem_append.mp (cut_mem hj) with hj | hj
    · exact rok.2.2.2 j hj
    · rw [List.mem_singleton.mp hj]; exact bi
end LW
set_option linter.all false
set_option maxRecDepth 100000
set_option maxHeartbeats 4000000
set_option exponentiation.threshold 4000
/-! The law. -/
namespace LW
open DL PySem L2 TL
variable {cl : Nat → Addr} {d d' : D} {S : St0} {s k : Int} {g : List Int} {rest : St0} {X : XP} {Q : D → St0 → Prop}
theorem noted_is (o : Option Nat) : noted o = .non ∨ ∃ i : Int, noted o = .int i := by
  cases o
  · exact .inl rfl
  · exact .inr ⟨_, rfl⟩
theorem part_is (a b r : D) : partD a b r = .non ∨ (∃ z : Str, partD a b r = .str z ∧ PyData.strOk z = true) ∨ ∃ i : Int, partD a b r = .int i := by
  unfold partD
  split
  · split
    · split
      · split
        · rcases noted_is (bad (natOf a) (natOf b) 0 none _) with h | ⟨i, h⟩
          · exact .inl h
          · exact .inr (.inr ⟨i, h⟩)
        · exact .inr (.inl ⟨_, rfl, by decide +kernel⟩)
      · exact .inr (.inl ⟨_, rfl, by decide +kernel⟩)
    · exact .inr (.inl ⟨_, rfl, by decide +kernel⟩)
  · exact .inr (.inl ⟨_, rfl, by decide +kernel⟩)
def dueR (a b : Int) (R : List RS.RK) : D := toldR a b R
theorem ne_self {p : PyData} (hp : pyOf S d = some p) (hs : shp p = true) : opNe d d S = some (.bl false) := by
  have hl : p.canLay0 = true := by
    unfold shp SeqAt.shaped at hs
    simp only [Bool.and_eq_true] at hs
    exact hs.1
  unfold opNe
  simp only [hp, hs, Bool.and_self, if_true, PySem.SeqAt.eqv_refl p hl, Bool.not_true]
/-- what is told is alike itself -/
theorem ne_raw {w : Str} (hw : PyData.strOk w = true) {a b : Int} {R : List RS.RK} : opNe (.tup [.str w, rwD a b R]) (.tup [.str w, rwD a b R]) S = some (.bl false) := by
  refine ne_self (p := .tuple [.str w, .tuple [.int a, .int b, rksE R]]) ?_ ?_
  · unfold pyOf rksE
    simp only [D.py, D.pys, enc_rk.pys, Option.map_some]
  · show (PyData.canLayAll0 [.str w, .tuple [.int a, .int b, rksE R]] && decide (PyData.depthAll [.str w, .tuple [.int a, .int b, rksE R]] + 1 ≤ 64)) = true
    have d1 := enc_rks.dep R
    have l1 := enc_rks.lay R
    have d2 : PyData.depthAll [PyData.int a, .int b, rksE R] ≤ 60 := Nat.max_le.mpr ⟨Nat.zero_le _, Nat.max_le.mpr ⟨Nat.zero_le _, Nat.max_le.mpr ⟨d1, Nat.zero_le _⟩⟩⟩
    have d3 : PyData.depthAll [PyData.str w, .tuple [.int a, .int b, rksE R]] ≤ 61 := Nat.max_le.mpr ⟨Nat.zero_le _, Nat.max_le.mpr ⟨by show PyData.depthAll [PyData.int a, .int b, rksE R] + 1 ≤ 61; omega, Nat.zero_le _⟩⟩
    simp only [PyData.canLayAll0, PyData.canLay0, l1, hw, Bool.and_true, Bool.true_and]
    exact decide_eq_true (by omega)
theorem ne_part {w : Str} (hw : PyData.strOk w = true) {x : D} (hx : (∃ z : Str, x = .str z ∧ PyData.strOk z = true) ∨ ∃ i : Int, x = .int i) : opNe (.tup [.str w, x]) (.tup [.str w, x]) S = some (.bl false) := by
  rcases hx with ⟨z, rfl, hz⟩ | ⟨i, rfl⟩
  · refine ne_self (p := .tuple [.str w, .str z]) rfl ?_
    show (PyData.canLayAll0 [.str w, .str z] && decide _) = true
    simp only [PyData.canLayAll0, PyData.canLay0, hz, hw, Bool.and_true, Bool.true_and]
    rfl
  · refine ne_self (p := .tuple [.str w, .int i]) rfl ?_
    show (PyData.canLayAll0 [.str w, .int i] && decide _) = true
    simp only [PyData.canLayAll0, PyData.canLay0, hw, Bool.and_true, Bool.true_and]
    rfl
theorem ne_bl (b : Bool) : opNe (.bl b) (.bl b) S = some (.bl false) := by cases b <;> rfl
def LI (cl : Nat → Addr) (sc : D) (s : Int) (ds : List D) (ρ : Env0) (S : St0) : Prop := ∃ (i l : Nat) (k : Int) (g : List Int) (rest : St0) (a2 a3 a4 a5 a6 a7 a8 : Option D), ds = rng i l ∧ i + l = 7 ∧ ρ = [some sc, some (.ref 1), a2, a3, a4, a5, a6, a7, a8] ∧ S = bg s k g rest
theorem law_true (cl : Nat → Addr) (n13 : cl 1 ≠ cl 3) (n23 : cl 2 ≠ cl 3) (ns : List Int) (hl : ns.length ≤ 63) (_ : ∀ z ∈ ns, Builtin.Int.intBits z ≤ 1048576) : ∃ S', F_law cl [.fls (ns.map .int)] [] = .val (.bl true) S' := by
  obtain ⟨d, S', e, rfl⟩ := DL.R.wp_val (r := F_law cl [.fls (ns.map .int)] []) (Q := fun d S' => d = .bl true) (by
    unfold F_law
    refine wp_def rfl ?_
    unfold m_law
    sizeOf_list_dec
    refine DL.R.wp_mono0 (pool_ hl) ?_
    rintro _ _ ⟨rfl, s, g, rfl, s0, s1⟩
    sizeOf_list_dec
    have fin : ∀ (S : St0), (if false = true then DL.R.val (.bl true) S else DL.finish [] (DL.R.val (.bl true) S)).wp noX fun d _ => d = .bl true := by
      intro S
      rw [if_neg Bool.false_ne_true]
      have := fin_app (S := []) (S1 := []) (E := S) (d := .bl true) (d' := .bl true) rfl (fun i o o' h1 h2 => by cases h2) rfl
      exact wp_eq this rfl
    refine wp_loop (LI cl (.fls (ns.map .int)) s) ⟨0, 7, 0, g, [], _, _, _, _, _, _, _, rfl, rfl, rfl, rfl⟩ ?_ ?_
    · rintro d ds _ _ ⟨x, l, k, g, rest, a2, a3, a4, a5, a6, a7, a8, hds, hl, rfl, rfl⟩
      cases l with
      | zero => cases hds
      | succ l =>
      rw [rng_cons] at hds
      obtain ⟨rfl, rfl⟩ := List.cons.inj hds
      refine ⟨rfl, _, rfl, ?_⟩
      sizeOf_list_dec
      refine DL.R.wp_mono0 (parts_ s0 s1) ?_
      rintro _ _ ⟨n, t, R, k, g, rfl, rfl, n0, n4, t0, t8, lR, up, hR⟩
      have raw0 : RawN 24 4 n t R := ⟨bd_small (by omega), bd_small (by omega), fun r hr => by
        obtain ⟨h1, h2, h3, h4, h5, h6⟩ := hR r hr
        exact ⟨bd_small (by omega), bd_small (by omega), by omega, fun i hi => bd_small (by have := h6 i hi; have : LL = 1000000000000 := rfl; omega)⟩, lR⟩
      sizeOf_list_dec
      refine DL.R.wp_mono0 (pickw (by decide) (by decide) s0 s1) ?_
      rintro _ _ ⟨q, k, g, rfl, rfl, q0, q1⟩
      sizeOf_list_dec
      have pok := part_ok n0 n4 t0 t8 lR up hR
      refine wp_loop (fun ds ρ S1 => ∃ (i l : Nat) (a b : Int) (R' : List RS.RK) (k : Int) (g : List Int) (a5 : Option D), ds = rng i l ∧ i + l = (1 + q).toNat ∧ RawN (24 + 40 * i) (4 + 8 * i) a b R' ∧ ρ = [some (.fls (ns.map .int)), some (.ref 1), some (.int x), some (rwD n t R), some (rwD a b R'), a5, a6, a7, a8] ∧ S1 = bg s k g rest) ⟨0, (1 + q).toNat, n, t, R, k, g, _, rfl, by omega, raw0, rfl, rfl⟩ ?_ ?_
      · rintro d ds _ _ ⟨i, j, a, b, R', k, g, a5, hds, hij, raw, rfl, rfl⟩
        cases j with
        | zero => cases hds
        | succ j =>
        rw [rng_cons] at hds
        obtain ⟨rfl, rfl⟩ := List.cons.inj hds
        refine ⟨rfl, _, rfl, ?_⟩
        have i1 : i ≤ 1 := by omega
        have nx : RawN (24 + 40 * (i + 1)) (4 + 8 * (i + 1)) a b R' := ⟨raw.a, raw.b, fun r hr => ⟨(raw.ok r hr).1, (raw.ok r hr).2.1, by have := (raw.ok r hr).2.2.1; omega, (raw.ok r hr).2.2.2⟩, by have := raw.l; omega⟩
        have bn := bent_ (cl := cl) (s := s) (k := k) (g := g) (rest := rest) raw (by omega) (by omega) s0 s1
        sizeOf_list_dec
        refine way_d (fun h0 => ?_) (fun h0 => ?_)
        · sizeOf_list_dec
          refine DL.R.wp_mono0 bn ?_
          rintro _ _ ⟨a', b', R2, k, g, rfl, rfl, raw2⟩
          exact ⟨i + 1, j, a', b', R2, k, g, _, by simp, by omega, raw2, rfl, rfl⟩
        · obtain ⟨r, R3, rfl⟩ : ∃ r R3, R' = r :: R3 := by
            cases R' with
            | nil => simp at h0
            | cons r R3 => exact ⟨r, R3, rfl⟩
          sizeOf_list_dec
          refine way_d (fun h1 => ?_) (fun h1 => ?_)
          · sizeOf_list_dec
            refine DL.R.wp_mono0 bn ?_
            rintro _ _ ⟨a', b', R2, k, g, rfl, rfl, raw2⟩
            exact ⟨i + 1, j, a', b', R2, k, g, _, by simp, by omega, raw2, rfl, rfl⟩
          · sizeOf_list_dec
            exact ⟨i + 1, j, a, b, _, k, g, _, by simp, by omega, nx, rfl, rfl⟩
      · rintro _ _ ⟨i, j, a, b, R', k, g, a5, hds, hij, rawn, rfl, rfl⟩
        have j0 : j = 0 := by
          cases j with
          | zero => rfl
          | succ j => rw [rng_cons] at hds; cases hds
        subst j0
        have raw := rawn.raw (by omega) (by omega)
        have rawp := raw0.raw (by omega) (by omega)
        refine ⟨rfl, ?_⟩
        have told2 : ∀ T, F__law_read_told cl [.str (textR n t R)] T = .val (.tup [.str "told", rwD n t R]) T := fun T => by
          rw [f_told n13 n23 rawp, toldR, if_pos pok]
        have okp : okd (cl 0) (rwD a b R') = true := (fit_3 (fit_i _) (fit_i _) (fit_tup (C := cl 0) (fun x hx => by
          obtain ⟨r, hr, rfl⟩ := List.mem_map.mp hx
          exact fit_3 (fit_i _) (fit_i _) (fit_ints _ (by have := (raw.ok r hr).2.2.1; omega))) (by have := raw.l; simp; omega))).1
        have told1 := fun T => f_told (S := T) n13 n23 raw
        unfold toldR at told1
        sizeOf_list_dec
        refine wp_eq (f_part (okd_raw raw)) ?_
        sizeOf_list_dec
        rcases part_is (.int a) (.int b) (rksD R') with hp | hx
        · rw [if_pos hp] at told1
          rw [hp]
          refine wp_l2 (z := .bl false) rfl ?_
          refine ⟨_, rfl, way_f ?_⟩
          sizeOf_list_dec
          refine wp_eq (f_law_text raw) ?_
          sizeOf_list_dec
          refine wp_eq (told1 _) ?_
          sizeOf_list_dec
          refine wp_l2 (ne_raw (by decide +kernel)) ?_
          refine ⟨_, rfl, way_f ?_⟩
          sizeOf_list_dec
          refine wp_lL (isiK (d := rwD a b R') okp (by decide)) ?_
          sizeOf_list_dec
          refine wp_lL (isiK (d := rwD a b R') okp (by decide)) ?_
          refine wp_l2 (ne_bl _) ?_
          refine ⟨_, rfl, way_f ?_⟩
          sizeOf_list_dec
          refine wp_eq (f_law_text rawp) ?_
          sizeOf_list_dec
          refine wp_eq (told2 _) ?_
          sizeOf_list_dec
          refine wp_l2 (ne_raw (by decide +kernel)) ?_
          refine ⟨_, rfl, way_f ?_⟩
          sizeOf_list_dec
          exact ⟨x + 1, l, k, g, rest, _, _, _, _, _, _, _, by simp, by omega, rfl, rfl⟩
        · have hno : ¬ partD (.int a) (.int b) (rksD R') = .non := by
            rcases hx with ⟨z, hx, _⟩ | ⟨z, hx⟩ <;> rw [hx] <;> exact fun h => by cases h
          have hok : okd (cl 0) (partD (.int a) (.int b) (rksD R')) = true := by
            rcases hx with ⟨z, hx, _⟩ | ⟨z, hx⟩ <;> rw [hx] <;> rfl
          have his : ∀ T, opIs true (partD (.int a) (.int b) (rksD R')) .non T = some (.bl true) := fun T => by
            rcases hx with ⟨z, hx, _⟩ | ⟨z, hx⟩ <;> rw [hx] <;> rfl
          rw [if_neg hno] at told1
          generalize partD (.int a) (.int b) (rksD R') = pt at hx hok his told1 ⊢
          clear hno
          refine wp_l2 (his _) ?_
          refine ⟨_, rfl, way_t ?_⟩
          sizeOf_list_dec
          refine wp_eq (f_law_text raw) ?_
          sizeOf_list_dec
          refine wp_eq (told1 _) ?_
          sizeOf_list_dec
          refine wp_l2 (ne_part (by decide +kernel) hx) ?_
          refine ⟨_, rfl, way_f ?_⟩
          sizeOf_list_dec
          refine wp_lL (isiK hok (by decide)) ?_
          sizeOf_list_dec
          refine wp_lL (isiK hok (by decide)) ?_
          refine wp_l2 (ne_bl _) ?_
          refine ⟨_, rfl, way_f ?_⟩
          sizeOf_list_dec
          refine wp_eq (f_law_text rawp) ?_
          sizeOf_list_dec
          refine wp_eq (told2 _) ?_
          sizeOf_list_dec
          refine wp_l2 (ne_raw (by decide +kernel)) ?_
          refine ⟨_, rfl, way_f ?_⟩
          sizeOf_list_dec
          exact ⟨x + 1, l, k, g, rest, _, _, _, _, _, _, _, by simp, by omega, rfl, rfl⟩
    · rintro _ _ ⟨x, l, k, g, rest, a2, a3, a4, a5, a6, a7, a8, hds, hl, rfl, rfl⟩
      refine ⟨rfl, ?_⟩
      sizeOf_list_dec
      exact fin _)
  exact ⟨S', e⟩
end LW
set_option Elab.async false
set_option linter.all false
set_option maxRecDepth 100000
set_option maxHeartbeats 1000000
set_option autoImplicit false
/-! The layer of data: x(lambda: body), the def x being: w = text; try: a() except ..; rest. -/
namespace DL
open PySem PySem.Spec L2 LamX
open PyProof.Rows hiding St
/-! ### the store's table -/
theorem RSt.tabAt {K : PySem.W.Frag} {θ : Ad} {S : St0} {H : Hp} {P : Addr} {q : Str} {n : Nat} (s : RSt K θ S H) (h : S[n]? = some (.tbl P q)) : θ.ix[n]? = some P ∧ TabS H P q := by
  have l : n < θ.ix.length := by rw [s.len]; exact (List.getElem?_eq_some_iff.mp h).1
  have e : θ.ix[n]? = some θ.ix[n] := List.getElem?_eq_getElem l
  have r := s.ob n _ _ e h
  generalize θ.ix[n] = a at e r
  cases r with
  | tbl t => exact ⟨e, t⟩
theorem updC {H : Hp} {a b : Addr} {o u : HO} (n : a ≠ b) : upd (upd H a o) b u = upd (upd H b u) a o := by
  funext x
  by_cases h1 : x = a
  · subst h1; rw [upd_ne n, upd_same, upd_same]
  · by_cases h2 : x = b
    · subst h2; rw [upd_same, upd_ne h1, upd_same]
    · rw [upd_ne h2, upd_ne h1, upd_ne h1, upd_ne h2]
theorem RSt.tab {K : PySem.W.Frag} {θ : Ad} {S : St0} {H : Hp} {P c' : Addr} {q : Str} {n : Nat} {ps : Array Value} (s : RSt K θ S H) (h : S[n]? = some (.tbl P q)) (hc : H c' = none) (t : TabS (upd (upd H P (.tbl ps)) c' (CodeO c' q)) P q) :
    RSt K θ S (upd (upd H P (.tbl ps)) c' (CodeO c' q)) ∧ Ext θ [] H (upd (upd H P (.tbl ps)) c' (CodeO c' q)) := by
  obtain ⟨e, _⟩ := s.tabAt h
  have m : P ∈ θ.ix := List.mem_of_getElem? e
  have nP : H P ≠ none := s.nn (List.mem_append_left _ m)
  have ne : c' ≠ P := fun z => nP (by rw [← z]; exact hc)
  have e1 : Ext θ [] H (upd H c' (CodeO c' q)) := Ext.laid θ hc
  have s1 : RSt K θ S (upd H c' (CodeO c' q)) := s.laid hc
  have e2 : Ext θ [] (upd H c' (CodeO c' q)) (upd (upd H c' (CodeO c' q)) P (.tbl ps)) := Ext.put m (s1.nn (List.mem_append_left _ m))
  rw [updC (Ne.symm ne)] at t ⊢
  refine ⟨?_, ?_⟩
  · have s2 := s1.put e (.tbl t)
    have : S.set n (.tbl P q) = S := by
      refine List.ext_getElem? fun i => ?_
      by_cases z : n = i
      · subst z
        rw [List.getElem?_set_self (List.getElem?_eq_some_iff.mp h).1, h]
      · rw [List.getElem?_set_ne z]
    rwa [this] at s2
  · have := e1.trans (n2 := []) (by rw [Ad.up_nil]; exact e2)
    rwa [List.append_nil] at this
/-! ### the lambda made -/
section
variable {X : Cx} {pins : List (Addr × Obj)} {σ : L2.St} {H : Hp} {s : Shared}
theorem lamMk {q : Str} {c P : Addr} {params : Arguments} {body : Expr} {scope : Scope} {pos : Pos} {E : Value → Shared → Prop} {Q : Value → Shared → Prop} (I : Inv X pins σ H s) (TB : TabB X.base X.mg c P) (hcode : X.env.code = .ref c) (hq : X.env.qual ++ "<lambda>" = q)
    (hT : TabS H P q) (hdef : defaultsOf params X.env = ([], [])) (hfree : ∀ y ∈ scope.names, y.2 = .free → ∃ d, X.env.cells.lookup y.1 = some d)
    (h : ∀ (f c' : Addr) (pm ctv : Value) (H1 : Hp) (s' : Shared), Inv X pins σ H1 s' → (H1 = H ∨ ∃ ps, H c' = none ∧ H1 = upd (upd H P (.tbl ps)) c' (CodeO c' q)) → TabS H1 P q →
      s'.heap.get? f = some (PySem.W.kla_obj "<lambda>" (X.env.qual ++ "<lambda>") params body scope (cloFrom X.env.cells scope.names []) pm c' ctv) → H1 f = none → f ∉ frs X.stack → H1 c' = some (CodeO c' (X.env.qual ++ "<lambda>")) → Q (.ref f) s') :
    wpAny (model X.prog X.w) X.A (eval (.Lambda params body scope pos) X.env) Q E s := by
  subst hq
  obtain ⟨ps, hP, ht, ha⟩ := hT
  refine PySem.W.kla_eval hdef ?_
  have kB : s.heap.BuiltinsAt X.mg P := TB.bm.keeps I.bk
  have kP : s.heap.get? P = some { cls := .none, data := .fields ps } := I.hok P _ hP
  have away : ∀ d, s.heap.objs.size ≤ d → d ∉ frs X.stack := fun d hd z => by
    rcases List.mem_cons.mp (I.stkSub _ z) with e | e
    · exact absurd (Nat.lt_of_lt_of_le I.lt (by rw [← e]; exact hd)) (Nat.lt_irrefl _)
    · exact I.nofs hd e
  cases hc : codeAmong pos ps.toList with
  | some cv =>
    obtain ⟨c', rfl, hco⟩ := ha pos cv hc
    refine PySem.W.kla_makeFunctionHit (mg := X.mg) (c := c) (P := P) (ps := ps) (closure_ok hfree) I.ok.glob (I.mod.glob.keeps I.bk) hcode (TB.code.keeps I.bk) kP ht hc kB fun ctv h' tk hx hsz => ?_
    exact h h'.objs.size c' _ ctv H _ (I.kept fun b o e => Heap.get?_push_of_some _ (hx b o e)) (.inl rfl) ⟨ps, hP, ht, ha⟩ (Heap.get?_push_size _ rfl) (I.hok.fresh hsz) (away _ hsz) hco
  | none =>
    refine PySem.W.kla_makeFunction (mg := X.mg) (c := c) (P := P) (ps := ps) (closure_ok hfree) I.ok.glob (I.mod.glob.keeps I.bk) hcode (TB.code.keeps I.bk) kP ht hc TB.gP kB fun c' ctv h' tk hx hge hlt hrec htb => ?_
    obtain ⟨_, oc, vs, t, e2, hoc, hd, hv⟩ := hrec
    cases e2
    have sz : s.heap.objs.size ≤ h'.objs.size := Nat.le_trans hge (Nat.le_of_lt hlt)
    have nC : H c' = none := I.hok.fresh hge
    have nPc : P ≠ c' := fun z => by rw [z, nC] at hP; cases hP
    have I1 := inv_table (t' := tk) (q := X.env.qual ++ "<lambda>") (more := #[rawInt pos.line, rawInt pos.col, .ref c']) (h' := h'.push (PySem.W.kla_obj "<lambda>" (X.env.qual ++ "<lambda>") params body scope (cloFrom X.env.cells scope.names []) ((X.mg "__name__").getD .none) c' ctv)) I hP
      (fun b o hb e => Heap.get?_push_of_some _ (hx b o hb e)) (Heap.get?_push_of_some _ htb) hge ⟨oc, vs, t, Heap.get?_push_of_some _ hoc, hd, hv⟩
    have eL : (ps ++ #[rawInt pos.line, rawInt pos.col, .ref c']).toList = ps.toList ++ [rawInt pos.line, rawInt pos.col, .ref c'] := by simp
    have n1 : h'.objs.size ≠ c' := Nat.ne_of_gt hlt
    have n2 : h'.objs.size ≠ P := Nat.ne_of_gt (Nat.lt_of_lt_of_le (Heap.lt_size kP) sz)
    refine h h'.objs.size c' _ ctv _ _ I1 (.inr ⟨_, nC, rfl⟩) ⟨_, by rw [upd_ne nPc, upd_same], by rw [eL]; exact PySem.TriplesOk_snoc _ _ _ _ ht, fun p' cv hcv => ?_⟩ (Heap.get?_push_size _ rfl) (by rw [upd_ne n1, upd_ne n2]; exact I.hok.fresh sz) (away _ sz) upd_same
    rw [eL] at hcv
    rcases among_app _ ht hcv with z | z
    · obtain ⟨c0, e1, e2⟩ := ha p' cv z
      refine ⟨c0, e1, ?_⟩
      rw [upd_ne (fun z => by rw [z, nC] at e2; cases e2), upd_ne (fun z => by rw [z, hP] at e2; cases e2)]
      exact e2
    · exact ⟨c', z, upd_same⟩
/-- a(): the lambda's body, what it lets out being told of the very slots -/
theorem lamAct {Eg : XK} {Ng : List Str} {qg : Str} {sg : Scope} {g f c' : Addr} {cdg pm ctv : Value} {params : Arguments} {body : Expr} {scope : Scope} {k i : Nat} {a : Str} {pn : List (Addr × Obj)} {xe : Value → Shared → Prop} {W : WX} {tb : XK → TE} {p1 p2 : Pos}
    (I : Inv X pins σ H s) (L : LamS X.env.scope scope) (hf : s.heap.get? f = some (PySem.W.kla_obj "<lambda>" (X.env.qual ++ "<lambda>") params body scope (cloFrom X.env.cells scope.names []) pm c' ctv)) (hfn : H f = none) (hfr : f ∉ frs X.stack)
    (hbind : bindArgs (PySem.W.kla_fn "<lambda>" (X.env.qual ++ "<lambda>") params body scope (cloFrom X.env.cells scope.names []) pm (.ref c') ctv) ⟨[], []⟩ = pure [])
    (tk : Takes ((cxOf (L2.CX X.prog X.w) X.prog X.w X.K X.mg X.base Ng qg sg g cdg X.A X.stack s H Eg).tr pn xe) W) (hr : Room (k + 1) (X.A.deeper (envOfC qg sg s.heap.objs.size g cdg)))
    (hbody : ∀ (A : Around) (outer : List Env) (s : Shared) (H : Hp) (E : XK), Room k (A.deeper (lamEnv X scope s.heap.objs.size f c')) → PE (lamCx X A outer s H E scope f c') body (tb E))
    (hN : Ng[i]? = some a) (hv : Vis sg a) (hd : (a == ("__debug__" : Str)) = false) (hcd : (a == ("__classdict__" : Str)) = false) :
    PE ((cxOf (L2.CX X.prog X.w) X.prog X.w X.K X.mg X.base Ng qg sg g cdg X.A X.stack s H Eg).tr pn xe) (.Call (.Name a p1) [] [] p2)
      (fun σZ HZ Q => σZ[i]? = some (some (.ref f)) ∧ HZ c' = some (CodeO c' (X.env.qual ++ "<lambda>")) ∧ tb (WE W σZ) σ HZ Q) := by
  refine ⟨fun pinsZ sZ σZ HZ Q IZ ⟨hs, hc, ht⟩ => wpAny_Call_Name_kw (thn ((pe_var (pos := p1) (i := i) hN hv hd hcd).run pinsZ sZ σZ HZ (fun v H1 => v = .ref f ∧ H1 = HZ) IZ ⟨.ref f, hs, rfl, rfl⟩) ?_)⟩
  rintro u s1 ⟨_, H1, I1, r1, ev, eH⟩
  subst ev
  rw [eH] at I1
  obtain rfl : u = Value.ref f := r1
  have of1 := I1.base.keep f _ hf hfn hfr (fun z => nomatch (show f ∈ ([] : List Addr) from z))
  refine PySem.W.callWith_F0 ⟨_, _, _, _, of1⟩ ?_
  have un : Un (frs X.stack) [] H HZ s.heap s1.heap := I1.base
  obtain ⟨⟨oc, vs, t, hoc, hdc, hvc⟩, _, _⟩ := I1.hok c' _ hc
  have rc : codeAny (model X.prog X.w) (X.A.deeper (envOfC qg sg s.heap.objs.size g cdg)) (.call (.ref f) ⟨[], []⟩) (CR (L2.CX X.prog X.w) (envOfC qg sg s.heap.objs.size g cdg :: X.stack) X.prog X.w HZ s1 Q (WE W σZ)) s1 := by
    refine PySem.W.kla_callFunE hr.depth of1 rfl L.co L.gen rfl ⟨c', oc, vs, t, rfl, hoc, hdc, hvc⟩ ?_
    rw [hbind]
    refine wpAny_pure (wpAny_newFunctionEnv (fun y hy => (L.own y hy).2) (fun y hy => absurd hy (by simp)) (fun h₁ hns hsb => ⟨I1.nolimit.fresh _ hsb, ?_⟩) L.kind)
    show codeAny _ _ (.expr body (lamEnv X scope s1.heap.objs.size f c')) _ _
    have kp : ∀ b o, s1.heap.get? b = some o → h₁.get? b = some o := fun b o e => hsb.extBut b o (Nat.ne_of_lt (Heap.lt_size e)) (Heap.get?_push_of_some _ e)
    have J := lam_start2 (E := WE W σZ) (f := f) (c' := c') (tk := s1.toks + ([] : List (Str × Value)).length) I L I1.env0 hr.hd un hns kp
    refine PySem.W.kla_codeExpr (wpAny_mono ((hbody _ _ s1 HZ _ (hr.deeper _)).run [] _ _ HZ Q J ht) (fun v s' ⟨w', H', J', rv, q⟩ => ⟨w', H', J'.os, J'.bare, J'.base, J'.hok, rv, q⟩) fun e s' hq => hq)
  refine wpAny_call (codeAny_mono rc fun r s' hq => ?_)
  cases r with
  | error e => exact passAt tk σZ pinsZ HZ s1 e s' I1 hq
  | ok fl =>
    cases fl with
    | ret u => exact I1.after hq
    | next => exact hq.elim
    | brk => exact hq.elim
    | cont => exact hq.elim
end
/-! ### the def that is handed the lambda -/
/-- try: a() .. -/
def mTryG (tb : ETab) (g : St0 → R) (l : List MCl) : MS := fun ρ S => match g S with
  | .val _ S' => .nx ρ S'
  | .exc C fs S' => hands tb C fs l ρ S'
  | .stuck => .stuck
def mWord (i : Nat) (w : Str) (tb : ETab) (l : List MCl) (rest : MS) (N : Nat) (g : St0 → R) : St0 → R := fun S =>
  finish S (mSeq (mSet i (mC (.str w))) (mSeq (mTryG tb g l) rest) (List.replicate N none) S).toR
/-- what the lambda does, told where it was made -/
def LkOf (K : PySem.W.Frag) (θ : Ad) (H : Hp) (g : St0 → R) (tl : XK → Hp → VK → Prop) : Prop := ∀ S, RSt K θ S H → ∀ E Q, PostV K θ H (g S) Q E → tl E H Q
/-- its body in its context -/
structure WBody (X : Cx) (a : Str) (body : List Stmt) (i : Nat) (w : Str) (tb : ETab) (l : List MCl) (rest : MS) : Prop where
  ex : ∃ (y : Str) (py : Pos) (jj : Nat) (p0 p1 p2 p3 p4 p5 : Pos) (h₀ : ExceptHandler) (hds : List ExceptHandler) (tl : List Stmt),
    body = .Assign [.Name y py] (.Constant (.str w) jj p0) p1 :: .Try [.Expr (.Call (.Name a p2) [] [] p3) p4] (h₀ :: hds) [] [] p5 :: tl ∧
    PS X (.Assign [.Name y py] (.Constant (.str w) jj p0) p1) (tAsg (tC (.str w)) (gName i)) ∧ DCl X (h₀ :: hds) l ∧ DSs X noW tl rest
/-- a def that is handed a lambda, by what it makes of it -/
structure WdD (P : Program) (w : World) (K : PySem.W.Frag) (mg : Str → Option Value) (base : Heap) (k : Nat) (x : Str) (F : (St0 → R) → St0 → R) : Prop where
  ex : ∃ (g : Addr) (fd : FuncData) (st : Stmt) (Ng : List Str) (a : Str) (i : Nat) (wd : Str) (tb : ETab) (l : List MCl) (rest : MS), LB.Df K mg x [a] st g fd ∧ FnScope Ng [a] (defScope st) ∧ Ng[0]? = some a ∧ Vis (defScope st) a ∧ (a == ("__debug__" : Str)) = false ∧ (a == ("__classdict__" : Str)) = false ∧ i ≠ 0 ∧ ETOk K tb ∧ F = mWord i wd tb l rest Ng.length ∧
    ∀ (cdv : Value) (A : Around) (outer : List Env) (s : Shared) (H : Hp) (E : XK), Room k (A.deeper (envOfC x (defScope st) s.heap.objs.size g cdv)) → WBody (cxOf (L2.CX P w) P w K mg base Ng x (defScope st) g cdv A outer s H E) a (defBody st) i wd tb l rest
def R.valO (r : R) : R := match r with
  | .exc _ _ _ => .stuck
  | r => r
def mLam (P : Addr) (q : Str) (F : (St0 → R) → St0 → R) (mb : ME) : ME := fun ρ S => if S[0]? = some (.tbl P q) then (F (fun S' => mb ρ S') S).valO else .stuck
theorem ren_none {K : PySem.W.Frag} {θ : Ad} {H : Hp} {N : List Str} {v : V} (h : N[0]? ≠ none) : REn K θ H (L2.start N [v]) (List.replicate N.length none) := by
  refine ⟨?_, fun i d e => ?_⟩
  · unfold L2.start
    cases N with
    | nil => exact absurd rfl h
    | cons a r => simp
  · have := List.mem_of_getElem? e
    rw [List.mem_replicate] at this
    cases this.2
theorem start_at {N : List Str} {v : V} : (L2.start N [v])[0]? = some (some v) := rfl
section
variable {X : Cx} {W : WX} {k j : Nat} {x : Str} {F : (St0 → R) → St0 → R} {p pos lpos : Pos} {params : Arguments} {body : Expr} {scope : Scope} {mb : ME} {c P : Addr} {q : Str}
theorem de_lam (cw : WdD X.prog X.w X.K X.mg X.base k x F) (hr : Room (j + 1) X.A) (hk : k + 1 ≤ j) (hg : Gl X x) (TB : TabB X.base X.mg c P) (hcode : X.env.code = .ref c) (hq : X.env.qual ++ "<lambda>" = q) (L : LamS X.env.scope scope) (hdef : defaultsOf params X.env = ([], []))
    (hbind : ∀ (q : Str) (cl : List (Str × Addr)) (pm cv ctv : Value), bindArgs (PySem.W.kla_fn "<lambda>" q params body scope cl pm cv ctv) ⟨[], []⟩ = pure [])
    (hbody : ∀ (A : Around) (outer : List Env) (s : Shared) (H : Hp) (E : XK) (f c' : Addr), Room (j - 1) (A.deeper (lamEnv X scope s.heap.objs.size f c')) → DE (lamCx X A outer s H E scope f c') (fun cls d _ H => E cls d H) body mb)
    (hdb : (x == ("__debug__" : Str)) = false := by decide) :
    DE X W (.Call (.Name x p) [.Lambda params body scope lpos] [] pos) (mLam P q F mb) := by
  obtain ⟨g, fd, st, Ng, a, i, wd, tb, l, rest, D, S, hN, hv, hd, hcd, hi, T, rfl, hw⟩ := cw.ex
  refine ⟨fun pins s σ H Q I ⟨θ, ρ, S0, n, hs, pv⟩ => ?_⟩
  unfold mLam at pv
  by_cases hS : S0[0]? = some (.tbl P q)
  rotate_left
  · rw [if_neg hS] at pv
    exact pv.elim
  rw [if_pos hS] at pv
  obtain ⟨hTi, hT⟩ := hs.tabAt hS
  refine wpAny_Call_Name_kw (ld_glob I hg D.at_ ?_ hdb)
  refine PySem.W.callWith_K (h₀ := X.base) I.ok.mod.kin D.fn.kp ?_ (by rfl) (by rfl)
  show wpAny _ _ (spliced ((false, eval (.Lambda params body scope lpos) X.env) :: backTo pos (starEach [] X.env))) _ _ s
  refine Calls.spliced_cons (lamMk I TB hcode hq hT hdef (L.has I.ok) fun f c' pm' ctv H1 s' I1 eN T1 hf hfn hfr hco => ?_)
  refine Calls.spliced_nil ⟨I1.kIn, ?_⟩
  obtain ⟨s1, e1⟩ : RSt X.K θ S0 H1 ∧ Ext θ [] H H1 := by
    rcases eN with rfl | ⟨ps, hc, rfl⟩
    · exact ⟨hs, Ext.refl _ _⟩
    · exact hs.tab hS hc T1
  obtain ⟨oc, od, kV, doc, pm, an, cdg, ct, osl, rfl, lk, hcg⟩ := D.fn.ex
  have rc : codeAny (model X.prog X.w) X.A (.call (.ref g) ⟨[.ref f], []⟩) (CR (L2.CX X.prog X.w) X.stack X.prog X.w H1 s' Q (fun _ _ _ => False)) s' := by
    refine run_ofS (N := Ng) (ps := [a]) (us := [.ref f]) (vs := [.ref f]) lk hcg S hr I1.env0 (D.bd s' [.ref f] I1.kIn rfl) (.cons rfl .nil) rfl fun hr' => ?_
    obtain ⟨y, py, jj, p0, p1, p2, p3, p4, p5, h₀, hds, tl, hbd, hA, hC, hR⟩ := (hw cdg X.A X.stack s' H1 (fun _ _ _ => False) (hr'.mono (by omega))).ex
    have hbd' : defBody st = _ := hbd
    rw [hbd']
    refine ⟨_, pss_cons hA (pss_cons (ps_tryC (Wout := noW) (tb := fun W' D σ' H' => σ'[0]? = some (some (.ref f)) ∧ H' c' = some (CodeO c' (X.env.qual ++ "<lambda>")) ∧ tOf X.K (fun cls d _ H => WE W' σ' cls d H) mb σ H' fun _ H'' => D.nx σ' H'')
      rfl rfl S.nd (takes_of (E := fun _ _ _ => False) rfl rfl rfl rfl) (fun W' pn xe tk _ => pss_one (ps_expr (lamAct (k := j - 1) (tb := fun E => tOf X.K (fun cls d _ H => E cls d H) mb) I1 L hf hfn hfr (hbind _ _ _ _ _) tk (by
        have e : j - 1 + 1 = j := by omega
        rw [e] <;> exact hr') (fun A outer s H E hr2 => hbody A outer s H E f c' hr2) hN hv hd hcd))) hC.cls) hR), ?_⟩
    have r0 : REn X.K θ H1 (L2.start Ng [V.ref f]) (List.replicate Ng.length none) := ren_none (by rw [hN]; simp)
    have r1 := r0.set i (RV.str (K := X.K) (θ := θ) (H := H1) wd)
    have pv1 : PostV X.K θ H1 (mWord i wd tb l rest Ng.length (fun S' => mb ρ S') S0) Q (fun _ _ _ => False) := by
      have z := PostV.up (Up.of_nil e1 hs) pv
      generalize mWord i wd tb l rest Ng.length (fun S' => mb ρ S') S0 = r at z
      cases r with
      | val d S' => exact z
      | exc C fs S' => exact z.elim
      | stuck => exact z.elim
    have ps := PostS.ofV (PostV.finish s1 (fun new H' S' x s => Ext.fresh s1 x s) pv1)
    have n1 := n.ext e1 hs
    rw [Ad.up_nil] at n1
    have ps : PostS X.K θ H1 ((mTryG tb (fun S' => mb ρ S') l ((List.replicate Ng.length none).set i (some (.str wd))) S0).seq rest) noW { nx := fun _ H' => Q .non H', rt := Q } := ps
    have q := (PostS.seq s1 ps).ends (D' := { nx := fun σ' H' => sOf X.K noW rest { nx := fun _ H' => Q .non H', rt := Q } σ' H', rt := Q }) (fun σ' H' ⟨θ1, ρ1, S1, u, n1, s1, p1⟩ => ⟨θ1, ρ1, S1, n1, s1, p1⟩) (fun _ _ h => h) (fun _ _ h => h) fun _ _ h => h
    refine ⟨?_, hco, θ, ρ, S0, n1, s1, ?_⟩
    · show ((L2.start Ng [V.ref f]).set i _)[0]? = _
      rw [List.getElem?_set_ne hi]
      rfl
    · unfold mTryG at q
      simp only at q
      cases hm : mb ρ S0 with
      | stuck => rw [hm] at q; exact q.elim
      | val d S' =>
        rw [hm] at q
        exact fun new H' v x s' rv => q new H' _ x s' (r1.ext x s1)
      | exc C fs S' =>
        rw [hm] at q
        exact fun new H' dx x s' rx => hands_wish T s' (r1.ext x s1) rx (PostS.up (Up.of x s1) q)
  refine wpAny_call (codeAny_mono rc fun r s2 hq => ?_)
  cases r with
  | error e => exact passAt0 (W := noW) (fun _ _ _ _ h => h) σ pins H1 s' e s2 I1 hq
  | ok fl =>
    cases fl with
    | ret u => exact I1.after hq
    | next => exact hq.elim
    | brk => exact hq.elim
    | cont => exact hq.elim
end
end DL
namespace DL
open PySem PySem.Spec L2 LamX
open PyProof.Rows hiding St
/-- a def that makes lambdas: its code object is known -/
theorem DBody.fnC {P : Program} {w : World} {K : PySem.W.Frag} {mg : Str → Option Value} {base : Heap} {x q : Str} {ps N : List Str} {st : Stmt} {f c : Addr} {fd : FuncData} {k : Nat} {m : MS} (F : Fun K x q st f fd) (hc : fd.code = .ref c) (S : FnScope N ps (defScope st)) (np n : Nat) (hn : n = N.length) (hp : np = ps.length)
    (b : ∀ (A : Around) (outer : List Env) (s : Shared) (H : Hp) (E : XK), Room k (A.deeper (envOfC q (defScope st) s.heap.objs.size f (.ref c))) → DSs (cxOf (L2.CX P w) P w K mg base N q (defScope st) f (.ref c) A outer s H E) (fun cls d _ H => E cls d H) (defBody st) m) :
    FnOk P w K mg base (L2.CX P w) (k + 1) f fd ps (spD K np (mDef false np n m)) := by
  subst hn hp
  obtain ⟨oc, od, kV, doc, pm, an, cdv, ct, osl, rfl, lk, hcd⟩ := F.ex
  obtain rfl : cdv = .ref c := hc
  refine fn_of lk hcd S (fun vs H Q E h => h.1) fun A outer s H vs Q E hr h => ?_
  obtain ⟨hl, θ, S0, ds, hs, hv, p⟩ := h
  have ld : ds.length = ps.length := by rw [← hv.len, hl]
  unfold mDef at p
  rw [if_pos ld, if_neg Bool.false_ne_true] at p
  refine ⟨_, b A outer s H E hr, θ, _, S0, start_ren hv, hs, PostS.ofV ?_⟩
  rw [ld]
  exact PostV.finish hs (fun new H' S' x s => Ext.fresh hs x s) p
end DL
set_option Elab.async false
set_option linter.all false
set_option maxRecDepth 100000
set_option maxHeartbeats 1000000
set_option autoImplicit false
/-! The layer of data: a def that is called while an exception is handled, and raises nothing. -/
namespace DL
open PySem PySem.Spec L2 HotX
open L2H (RoomH cxH inv_startH)
open PyProof.Rows hiding St
structure FnQ (P : Program) (w : World) (K : PySem.W.Frag) (mg : Str → Option Value) (base : Heap) (k : Nat) (f : Addr) (fd : FuncData) (ps : List Str) (sp : Sp) : Prop where
  len : ∀ vs H Q E, sp vs H Q E → vs.length = ps.length
  run : ∀ (A : Around) (outer : List Env) (s : Shared) (H : Hp) (args : Args) (us : List Value) (vs : List V) (Q : VK) (E : XK), RoomH k A → L2.Env0 P w K mg base A outer s H → BindsTo s fd args (ps.zip us) → Vals vs us → sp vs H Q E → codeAny (model P w) A (.call (.ref f) args) (CR (L2.CX P w) outer P w H s Q E) s
section
variable {P : Program} {w : World} {K : PySem.W.Frag} {mg : Str → Option Value} {base : Heap} {k : Nat} {f : Addr} {q x : Str} {ps N : List Str} {st : Stmt} {fd : FuncData}
theorem FnQ.of {sp : Sp} (F : Fun K x q st f fd) (S : FnScope N ps (defScope st)) (len : ∀ vs H Q E, sp vs H Q E → vs.length = ps.length)
    (hbody : ∀ (cdv : Value) (A : Around) (outer : List Env) (s : Shared) (H : Hp) (vs : List V) (Q : VK) (E : XK) (p : Addr × Obj), RoomH k (A.deeper (envOfC q (defScope st) s.heap.objs.size f cdv)) → sp vs H Q E →
      ∃ t, PSs (cxH (L2.CX P w) P w K mg base N q (defScope st) f cdv A outer s H E p) (defBody st) t ∧ t { nx := fun _ H' => Q .non H', rt := Q } (L2.start N vs) H) : FnQ P w K mg base (k + 1) f fd ps sp := by
  obtain ⟨oc, od, kV, doc, pm, an, cdv, ct, osl, rfl, lk, hcd⟩ := F.ex
  refine ⟨len, fun A outer s H args us vs Q E hr e0 hb r hsp => ?_⟩
  have kept : ∀ b o, base.get? b = some o → s.heap.get? b = some o := fun b o e => (e0.bs b o e).1
  have KX : K.In s.heap := e0.mod.kin.keeps kept
  have hkind : ∀ y ∈ ps.zip us, (defScope st).names.lookup y.1 = some .local ∨ ((defScope st).names.lookup y.1 = some .cell ∧ ((cellsFrom (s.heap.objs.size + 1) (defScope st).names []).lookup y.1).isSome = true) := by
    rintro ⟨n, v⟩ hy
    exact (S.par n (List.of_mem_zip hy).1).imp id fun z => ⟨z, PySem.W.cellsFrom_some _ _ _ (.inl z)⟩
  refine codeAny_call_function hr.depth (KX _ _ lk) rfl S.co S.gen rfl (PySem.W.codeRec_of KX hcd) (hb _ _ _ _ ?_)
  refine wpAny_newFunctionEnv_cells S.kind hkind fun env he s1 inC => ?_
  cases he
  refine ⟨(e0.mod.nolimit.keeps kept).keeps inC.toInCall.keep, codeAny_func ?_⟩
  have fB := e0.mod.kin _ _ lk
  obtain ⟨t, ht, hq⟩ := hbody cdv A outer s H vs Q E (f, _) (hr.deeper _) hsp
  have I := inv_startH (CX := L2.CX P w) (E := E) (f := f) (cd := cdv) (qual := q) S (p := (f, _)) ⟨kept _ _ fB, (e0.bs _ _ fB).2, fun m => (by have := (e0.funs.mem m).1; rw [fB] at this; cases this), fun v e => by cases e⟩ e0 (len _ _ _ _ hsp) r inC
  refine wpAny_mono (ht.run [] s1 (L2.start N vs) H _ I hq) (fun fl s' hs => ?_) fun e s' hs => hs
  cases fl with
  | ret u => obtain ⟨v, σ', H', J, rv, z⟩ := hs; exact ⟨v, H', J.os, J.bare, J.base, J.hok, rv, z⟩
  | next => obtain ⟨σ', H', J, z⟩ := hs; exact ⟨.non, H', J.os, J.bare, J.base, J.hok, rfl, z⟩
  | brk => obtain ⟨_, _, _, z⟩ := hs; exact z.elim
  | cont => obtain ⟨_, _, _, z⟩ := hs; exact z.elim
end
structure CaQ (P : Program) (w : World) (K : PySem.W.Frag) (mg : Str → Option Value) (base : Heap) (k : Nat) (x : Str) (F : Fn) : Prop where
  ex : ∃ (f : Addr) (fd : FuncData) (ps : List Str) (np : Nat), FnQ P w K mg base k f fd ps (spD K np F) ∧ mg x = some (.ref f) ∧ PySem.W.keepIn K (.ref f) = true ∧ Binds K fd ps [] ∧ ∀ ds S, ds.length ≠ np → F ds S = .stuck
theorem DBody.caQ {P : Program} {w : World} {K : PySem.W.Frag} {mg : Str → Option Value} {base : Heap} {k : Nat} {f : Addr} {x : Str} {ps N : List Str} {st : Stmt} {fd : FuncData} {m : MS} (D : LB.Df K mg x ps st f fd) (S : FnScope N ps (defScope st)) (np n : Nat) (hn : n = N.length) (hp : np = ps.length)
    (b : ∀ (cdv : Value) (A : Around) (outer : List Env) (s : Shared) (H : Hp) (E : XK) (p : Addr × Obj), RoomH k (A.deeper (envOfC x (defScope st) s.heap.objs.size f cdv)) → DSs (cxH (L2.CX P w) P w K mg base N x (defScope st) f cdv A outer s H E p) (fun cls d _ H => E cls d H) (defBody st) m) :
    CaQ P w K mg base (k + 1) x (mDef false np n m) := by
  subst hn hp
  refine ⟨f, fd, ps, ps.length, FnQ.of D.fn S (fun vs H Q E h => h.1) fun cdv A outer s H vs Q E p hr h => ?_, D.at_, D.fn.kp, D.bd, fun ds S0 h => by unfold mDef; rw [if_neg h]⟩
  obtain ⟨hl, θ, S0, ds, hs, hv, pv⟩ := h
  have ld : ds.length = ps.length := by rw [← hv.len, hl]
  unfold mDef at pv
  rw [if_pos ld, if_neg Bool.false_ne_true] at pv
  refine ⟨_, b cdv A outer s H E p hr, θ, _, S0, start_ren hv, hs, PostS.ofV ?_⟩
  rw [ld]
  exact PostV.finish hs (fun new H' S' x s => Ext.fresh hs x s) pv
section
variable {X : Cx} {W : WX} {k j : Nat} {x : Str} {F : Fn} {p pos : Pos} {e : Expr} {es : List Expr} {ms : MA}
theorem de_callQ (c : CaQ X.prog X.w X.K X.mg X.base k x F) (hr : RoomH j X.A) (hk : k ≤ j) (pa : ∀ σ, PassesAt (L2.CX X.prog X.w) X σ (WE W σ)) (hg : Gl X x) (ha : DAs X W (e :: es) ms)
    (hdb : (x == ("__debug__" : Str)) = false := by decide) (he : starEach (e :: es) X.env = (false, eval e X.env) :: starEach es X.env := by rfl) (hpl : (backTo pos (starEach es X.env)).any (·.1) = false := by rfl) :
    DE X W (.Call (.Name x p) (e :: es) [] pos) (mOn F ms) := by
  obtain ⟨f, fd, ps, np, Fk, hm, kp, b, st⟩ := c.ex
  have hr' := hr.mono hk
  refine ⟨fun pins s σ H Q I ⟨θ, ρ, S, n, hs, pv⟩ => wpAny_Call_Name_kw (ld_glob I hg hm ?_ hdb)⟩
  have h : taOf X.K W ms σ H fun vs H1 => spD X.K np F vs H1 Q (WE W σ) := ⟨θ, ρ, S, n, hs, PostA.bind hs pv fun vs H1 θ1 S1 ds u s1 rs p1 => ⟨by
    rw [rs.len]
    exact Decidable.byContradiction fun h => by rw [st ds S1 h] at p1; exact p1, θ1, S1, ds, s1, rs, p1⟩⟩
  refine PySem.W.callWith_K (h₀ := X.base) I.ok.mod.kin kp (thn (ha.run pos pins s σ H _ I h) fun us s1 ⟨vs, H1, I1, r, q⟩ => ⟨I1.kIn, ?_⟩) he hpl
  have hl : us.length = ps.length := by rw [← r.length]; exact Fk.len _ _ _ _ q
  have bb := b s1 us I1.kIn (by rw [List.append_nil]; exact hl)
  rw [List.append_nil] at bb
  refine wpAny_call (codeAny_mono (Fk.run X.A X.stack s1 H1 ⟨us, []⟩ us vs Q _ hr' I1.env0 bb r q) fun r s' hq => ?_)
  cases r with
  | error e => exact pa σ pins H1 s1 e s' I1 hq
  | ok fl =>
    cases fl with
    | ret u => exact I1.after hq
    | next => exact hq.elim
    | brk => exact hq.elim
    | cont => exact hq.elim
end
end DL
namespace DL
open PySem PySem.Spec L2
open L2H (RoomH)
theorem hu64Q {X : Cx} {k : Nat} (hr : RoomH k X.A) : X.A.units + 64 < cLine := by have := hr.un; omega
theorem hu65Q {X : Cx} {k : Nat} (hr : RoomH k X.A) : X.A.units + 65 < cLine := by have := hr.un; omega
theorem hu1Q {X : Cx} {k : Nat} (hr : RoomH k X.A) : X.A.units + 1 < cLine := by have := hr.un; omega
end DL
namespace DL
open PySem PySem.Spec L2
open L2H (RoomH)
theorem hotR {k : Nat} {A : Around} {v : Option Value} (hr : Room k A) : RoomH k (A.mark v) := ⟨hr.dp, hr.un⟩
end DL
set_option Elab.async false
set_option linter.all false
set_option maxRecDepth 100000
set_option autoImplicit false
/-! The end: exceptions and an own ==. -/
namespace DL
open PySem PySem.Spec PyProof.Rows L2
variable {K : PySem.W.Frag} {A B C f : Addr} {b : Bool} {T n : String}
theorem kc_ref {t : Value} (h2 : PySem.W.isClsIn K B = true) (h3 : PySem.W.typeIn K (.ref B) = some (.type "type")) (h4 : PySem.W.subIn K t (.ref B) = some b) : PySem.W.kitCls K t (.ref B) = some b := by
  have e2 : ((PySem.W.clsIn K B).isSome && PySem.W.typeIn K (.ref B) == some (.type "type")) = true := by
    have h2' : (PySem.W.clsIn K B).isSome = true := h2
    rw [h2', h3] <;> rfl
  show (if ((PySem.W.clsIn K B).isSome && PySem.W.typeIn K (.ref B) == some (.type "type")) = true then PySem.W.subIn K t (.ref B) else none) = some b
  rw [if_pos e2]
  exact h4
theorem exm_ref (h1 : PySem.W.subIn K (.ref B) (.type "BaseException") = some true) (h2 : PySem.W.isClsIn K B = true) (h3 : PySem.W.typeIn K (.ref B) = some (.type "type")) (h4 : PySem.W.subIn K (.ref A) (.ref B) = some b) :
    PySem.W.exmOne K (.ref A) (.ref B) = some b := by
  have e1 : (PySem.W.subIn K (.ref B) (.type "BaseException") == some true) = true := by rw [h1] <;> rfl
  show (if (PySem.W.subIn K (.ref B) (.type "BaseException") == some true) = true then PySem.W.kitCls K (.ref A) (.ref B) else none) = some b
  rw [if_pos e1]
  exact kc_ref h2 h3 h4
theorem exm_ty (h1 : PySem.W.subIn K (.type T) (.type "BaseException") = some true) (m : PySem.W.kitMeta T = true) (h4 : PySem.W.subIn K (.ref A) (.type T) = some b) :
    PySem.W.exmOne K (.ref A) (.type T) = some b := by
  have e1 : (PySem.W.subIn K (.type T) (.type "BaseException") == some true) = true := by rw [h1] <;> rfl
  show (if (PySem.W.subIn K (.type T) (.type "BaseException") == some true) = true then (if PySem.W.kitMeta T = true then PySem.W.subIn K (.ref A) (.type T) else none) else none) = some b
  rw [if_pos e1, if_pos m]
  exact h4
theorem kit_nt (h2 : PySem.W.isClsIn K B = true) (h3 : PySem.W.typeIn K (.ref B) = some (.type "type")) (h4 : PySem.W.subIn K (.type n) (.ref B) = some b) : PySem.W.kitOne K (.type n) (.ref B) = some b := by
  unfold PySem.W.kitOne
  rw [if_neg (by intro h; cases (eq_of_beq h))]
  exact kc_ref h2 h3 h4
theorem kit_self : PySem.W.kitOne K (.ref C) (.ref C) = some true := by
  unfold PySem.W.kitOne
  rw [if_pos (by simp)]
theorem kit_up (h2 : PySem.W.isClsIn K B = true) (h3 : PySem.W.typeIn K (.ref B) = some (.type "type")) (h4 : PySem.W.subIn K (.ref A) (.ref B) = some true) : PySem.W.kitOne K (.ref A) (.ref B) = some true := by
  unfold PySem.W.kitOne
  split
  · rfl
  · exact kc_ref h2 h3 h4
theorem kit_no (h2 : PySem.W.isClsIn K B = true) (h3 : PySem.W.typeIn K (.ref B) = some (.type "type")) (hs : PySem.W.subIn K (.ref B) (.ref B) = some true) (h4 : PySem.W.subIn K (.ref A) (.ref B) = some false) : PySem.W.kitOne K (.ref A) (.ref B) = some false := by
  unfold PySem.W.kitOne
  split
  · rename_i h
    cases eq_of_beq h
    rw [hs] at h4
    cases h4
  · exact kc_ref h2 h3 h4
/-- what the end tells of a class of exceptions -/
structure ExcTop (K : PySem.W.Frag) (C : Addr) : Prop where
  ic : PySem.W.isClsIn K C = true
  ty : PySem.W.typeIn K (.ref C) = some (.type "type")
  ex : PySem.W.subIn K (.ref C) (.type "BaseException") = some true
  ss : PySem.W.subIn K (.ref C) (.ref C) = some true
  ga : PySem.W.findIn K (.ref C) "__getattribute__" = some (some (.builtin "BaseException.__getattribute__"))
  gg : PySem.W.findIn K (.ref C) "__getattr__" = some none
  hd : PySem.W.hasDictIn K C = true
  ha : PySem.W.findIn K (.ref C) "__class__" = some (some (.builtin "object.__class__"))
  hn : PySem.W.specialIn K (.builtin "object.__class__") "__get__" = some (some (.builtin "getset_descriptor.__get__"))
  htk : PySem.W.takesIn K (.builtin "object.__class__") = some true
  hm : PySem.W.mroIn K C (.type "object") = some true
theorem ExcTop.xf (t : ExcTop K C) : XfC K C := ⟨t.ga, t.gg, t.ex, t.hd⟩
theorem ExcTop.ok (t : ExcTop K C) : ExcOK K C := ⟨t.xf, t.ic, t.ha, t.hn, t.htk, t.hm⟩
theorem oex_of {nm q : Str} {N : Addr} {bs bm : List Value} {sn : List Str} {sub : List Value} {ab : Bool} {col : Option Bool} {dd : Option Addr} {k0 k1 k2 k3 k5 : Option Value}
    (xL : K.lookup C = some (excClassObj nm q C N bs bm true sn sub ab col dd k0 k1 k2 k3 k5 "ValueError.__new__")) (hb : PySem.HandSPX.refsVE bm = true)
    (sa : PySem.W.findIn K (.ref C) "__setattr__" = some (some (.builtin "object.__setattr__"))) (exC : PySem.W.subIn K (.ref C) (.type "BaseException") = some true) (tyC : PySem.W.typeIn K (.ref C) = some (.type "type")) (kC : PySem.W.keepIn K (.ref C) = true) : OexC K C :=
  ⟨⟨nm, q, N, bs, bm, sn, sub, ab, col, dd, k0, k1, k2, k3, k5, xL, hb⟩, sa, exC, tyC, kC⟩
theorem ty_fn (h : PySem.W.isFn K (.ref f) = true) : PySem.W.typeIn K (.ref f) = some (.type "function") := eq_of_beq h
theorem eqc_of (a : PySem.W.findIn K (.ref C) "__eq__" = some (some (.ref f))) (i : PySem.W.isFn K (.ref f) = true) (ne : PySem.W.findIn K (.ref C) "__ne__" = some (some (.builtin "object.__ne__"))) (ob : PySem.W.subIn K (.ref C) (.type "object") = some true) : LB.EqC K C f := ⟨a, i, ne, ob⟩
end DL
set_option Elab.async false
set_option linter.all false
set_option maxRecDepth 100000
set_option maxHeartbeats 1000000
set_option autoImplicit false
/-! The end of a law that makes lambdas. -/
namespace DL
open PySem PySem.Spec L2 LamX
open PyProof.Rows hiding St
/-- the law's own promise: on the script it hands back True; its table of code objects is empty -/
def spTrueT (K : PySem.W.Frag) (most : Nat) (T : Addr) : Sp := fun vs H Q E => ∃ (a : Addr) (ns : List Int), vs = [.ref a] ∧ H T = some (.tbl #[]) ∧ SqL K H a (ns.map V.int) ∧ ns.length ≤ most ∧ (∀ z ∈ ns, Builtin.Int.intBits z ≤ 1048576) ∧ ∀ H', Q (.bl true) H'
theorem law_okT {P : Program} {w : World} {K : PySem.W.Frag} {mg : Str → Option Value} {base : Heap} {x : Str} {k : Nat} {F : Fn} {fa T : Addr} {fd : FuncData} {most : Nat} {q : Str} (Fk : FnOk P w K mg base (L2.CX P w) k fa fd [x] (spD K 1 F))
    (h : ∀ (ns : List Int) (sc : D), ns.length ≤ most → (∀ z ∈ ns, Builtin.Int.intBits z ≤ 1048576) → (sc = .fls (ns.map .int) ∨ sc = .lst (ns.map .int)) → ∃ S', F [sc] [.tbl T q] = .val (.bl true) S') : FnOk P w K mg base CX0 k fa fd [x] (spTrueT K most T) := by
  refine ⟨fun vs H Q E z => ?_, fun A outer s H args us vs Q E hr he hb hv z => ?_⟩
  · obtain ⟨a, ns, rfl, _⟩ := z
    rfl
  · obtain ⟨a, ns, rfl, hT, hf, hl, hz, z⟩ := z
    have st : RSt K ⟨[T], []⟩ [.tbl T q] H := by
      refine ⟨rfl, by simp, fun a m => (by cases m), fun n a o h1 h2 => ?_⟩
      cases n with
      | zero => cases h1; cases h2; exact .tbl (TabS.nil hT)
      | succ n => cases h2
    obtain ⟨sc, hs, rv⟩ : ∃ sc : D, (sc = .fls (ns.map .int) ∨ sc = .lst (ns.map .int)) ∧ RV K ⟨[T], []⟩ H (.ref a) sc := by
      rcases hf with (hf | hf) | hf
      · refine ⟨_, .inr rfl, .lst (fun m => ?_) hf (RVs.ints ns)⟩
        rw [List.mem_append, List.mem_singleton] at m
        rcases m with rfl | m
        · rw [hT] at hf; cases hf
        · cases m
      · exact ⟨_, .inl rfl, .fls (.inl hf) (RVs.ints ns)⟩
      · exact ⟨_, .inl rfl, .fls (.inr hf) (RVs.ints ns)⟩
    obtain ⟨S', e⟩ := h ns sc hl hz hs
    refine codeAny_mono (Fk.run A outer s H args us [.ref a] Q (fun _ _ _ => False) hr he hb hv ⟨rfl, ⟨[T], []⟩, [.tbl T q], _, st, .one rv, ?_⟩) fun r s' z' => ?_
    · rw [e]
      intro new H' v x s rv
      cases rv
      exact z H'
    · cases r with
      | ok f => cases f <;> exact z'
      | error er =>
        obtain ⟨_, _, _, _, _, _, _, _, _, _, _, _, no⟩ := (z' : L2.CX P w outer H s (fun _ _ _ => False) er s')
        exact no.elim
theorem tab_code {K : PySem.W.Frag} {h : Heap} {mg : Str → Option Value} {x : Str} {ps : List Str} {st : Stmt} {f c T : Addr} {fd : FuncData} (X : K.In h) (G : h.Ns mainGlobals mg) (ht : PySem.W.tabIn K x = some (c, T)) (D : LB.Df K mg x ps st f fd) : fd.code = .ref c := by
  obtain ⟨oc, od, kV, doc, pm, an, cdv, ct, osl, rfl, lk, _⟩ := D.fn.ex
  exact PySem.W.law_code X G ht D.at_ (X _ _ lk) rfl
theorem walk_lam {l : PySem.W.OpenLaw} {n k : Nat} {q : Program} {loose : List Str} {XP : (Str → Option Value) → Heap → Prop} {YP : World → Heap → Prop} {d dL : DefRec} {K : Params → PySem.W.Frag} {CX : World → CXT} {x : Str}
    (hn : l.most = some n) (hn2 : n ≤ sizeLine) (hdf : d.params.defaults = []) (hr : Room k callerA) (hrec : (recsOf q).find? (fun e => e.name == d.name) = some dL) (hY : ∀ (w : World) (h : Heap), YP w h → (K w.params).In h)
    (F : ∀ (w : World) (mg : Str → Option Value) (fa : Addr) (h : Heap), (K w.params).In h → h.Ns mainGlobals mg → mg d.name = some (.ref fa) → ∃ (fd : FuncData) (c T : Addr), PySem.W.tabIn (K w.params) d.name = some (c, T) ∧ (K w.params).lookup T = none ∧ (∀ (s : Shared) (u : Value), BindsTo s fd ⟨[u], []⟩ [(x, u)]) ∧
      ∀ base : Heap, (K w.params).In base → base.Ns mainGlobals mg → TabB base mg c T → FnOk l.prog w (K w.params) mg base (CX w) k fa fd [x] (spTrueT (K w.params) n T))
    (hCX : ∀ (w : World) (H : Hp) (s : Shared) (e : Value) (s' : Shared), CX w [] H s (fun _ _ _ => False) e s' → False) : PySem.W.WalkO q loose XP YP l.row.toRowW d [] (fun f vs => PySem.call f vs) := by
  refine Att.attach_callB hn hdf fun w s₀ s₁ mg mb fa o pm cd doc a vs ns G Y ho hd hcd hmg hobj hints hlen hbits hg => ?_
  have KX := hY w _ Y
  obtain ⟨fd, c, T, ht, nT, hb, hF⟩ := F w mg fa _ KX G.T.g hmg
  obtain ⟨C, hP⟩ := PySem.W.tab_of G.T KX hrec ht
  have one : ∀ {R : Addr × Addr → Prop}, R (c, T) → ∀ p ∈ [(c, T)], R p := fun r p hp => by rw [List.mem_singleton.mp hp]; exact r
  exact law_callTs (cs := [(c, T)]) KX G.T.g G.T.b G.T.builtins G.T.nolimit hg (one hP) (one nT) (one C) G.T.bmain hobj hints (Nat.le_trans hlen hn2) hr (fun base h1 h2 h3 => hF base h1 h2 (h3 (c, T) (List.mem_singleton.mpr rfl))) hb
    (fun H hH hS => ⟨a, ns, rfl, hH (c, T) (List.mem_singleton.mpr rfl), hS, hlen, hbits, fun _ => rfl⟩) fun H e s' => hCX w H s₁ e s'
end DL
namespace DL
open PySem PySem.Spec L2
open PyProof.Rows hiding St
/-- a tuple of two strings that the top has written -/
theorem GC.tup2s {K : PySem.W.Frag} {mg : Str → Option Value} {x z1 z2 : Str} {a : Addr} {dd : Option Addr} {t1 t2 : Tok} {n : Nat} {sl : Array (Option Value)} (h : mg x = some (.ref a)) (hk : K.lookup a = some ⟨.type "tuple", dd, .seq #[.str z1 t1, .str z2 t2] n, sl⟩) : GC K mg x (.tup [.str z1, .str z2]) :=
  ⟨.ref a, _, h, rfl, fun _ _ => .tup (.inr ⟨_, _, _, hk, rfl, rfl, by rw [sizeLine_eq]; exact Nat.le_of_ble_eq_true rfl, .cons (a := V.str z1) ⟨_, rfl⟩ (.cons (a := V.str z2) ⟨_, rfl⟩ .nil)⟩) (.cons (.str _) (.cons (.str _) .nil))⟩
end DL
namespace DL
open PySem PySem.Spec
theorem tab_by {K : PySem.W.Frag} {x : Str} {f c T : Addr} {oc e : Value} {od dd : Option Addr} {osl sl : Array (Option Value)} {fd : FuncData} {vs : Array Value} (za : PySem.W.nsIn K mainGlobals x = some (some (.ref f))) (zl : K.lookup f = some ⟨oc, od, .func fd, osl⟩) (zd : fd.code = .ref c) (zm : K.lookup c = some ⟨e, dd, .fields vs, sl⟩)
    (zv : (vs[11]? : Option Value) = some (.ref T)) : PySem.W.tabIn K x = some (c, T) := by
  unfold PySem.W.tabIn
  simp only [za, zl, zd, zm, zv]
end DL
set_option Elab.async false
set_option linter.all false
set_option maxRecDepth 100000
set_option maxHeartbeats 4000000
namespace LW
open DL PySem PySem.Spec PyProof.Rows L2
theorem all_of {l : PySem.W.OpenLaw} {w : World} {K : PySem.W.Frag} {h : Heap} {mg : Str → Option Value} {fa C0 C1 C2 C3 : Addr} (X : K.In h) (G : h.Ns mainGlobals mg) (hfa : mg "law" = some (.ref fa)) {t0 : Tok} {ua1 : Addr} {ud1 : Option Addr} {us1 uv1 : Tok} {un1 : Nat} {uo1 : Array (Option Value)} {t2 : Tok} {t3 : Tok} {t4 : Tok} {t5 : Tok} {t6 : Tok}
    (a_Program : PySem.W.nsIn K mainGlobals "Program" = some (some (.ref C0)))
    (a_TurnError : PySem.W.nsIn K mainGlobals "TurnError" = some (some (.ref C1)))
    (xt_TurnError : ExcTop K C1)
    (a_BadProgram : PySem.W.nsIn K mainGlobals "BadProgram" = some (some (.ref C2)))
    (xt_BadProgram : ExcTop K C2)
    (a_BadText : PySem.W.nsIn K mainGlobals "BadText" = some (some (.ref C3)))
    (xt_BadText : ExcTop K C3)
    (tf_is_int : LB.TopF K "is_int" s_is_int)
    (tf_is_int_in : LB.TopF K "is_int_in" s_is_int_in)
    (tf_is_row_of_ints : LB.TopF K "is_row_of_ints" s_is_row_of_ints)
    (tf_is_reading : LB.TopF K "is_reading" s_is_reading)
    (tf_is_number : LB.TopF K "is_number" s_is_number)
    (tf_reading_of : LB.TopF K "reading_of" s_reading_of)
    (tf_is_line : LB.TopF K "is_line" s_is_line)
    (tf_read_program : LB.TopF K "read_program" s_read_program)
    (tf__law_pool : LB.TopF K "_law_pool" s__law_pool)
    (tf__law_draw : LB.TopF K "_law_draw" s__law_draw)
    (tf__law_some : LB.TopF K "_law_some" s__law_some)
    (tf__law_integer : LB.TopF K "_law_integer" s__law_integer)
    (tf__law_with : LB.TopF K "_law_with" s__law_with)
    (tf__law_step : LB.TopF K "_law_step" s__law_step)
    (tf__law_parts : LB.TopF K "_law_parts" s__law_parts)
    (tf__law_is_reading : LB.TopF K "_law_is_reading" s__law_is_reading)
    (tf__law_text : LB.TopF K "_law_text" s__law_text)
    (tf__law_program_part : LB.TopF K "_law_program_part" s__law_program_part)
    (tf__law_read_told : LB.TopF K "_law_read_told" s__law_read_told)
    (tf__law_bent_parts : LB.TopF K "_law_bent_parts" s__law_bent_parts)
    (tf_law : LB.TopF K "law" s_law)
    (tm_Program___init__ : LB.TopM K C0 "__init__" "Program.__init__" s_Program___init__)
    (ox_BadProgram : OexC K C2)
    (xi_BadProgram : LB.TopM K C2 "__init__" "BadProgram.__init__" s_BadProgram___init__)
    (xn_BadProgram_part : PySem.W.findIn K (.ref C2) "part" = some none)
    (xc_BadProgram_BadText : PySem.W.subIn K (.ref C2) (.ref C3) = some false)
    (xc_BadProgram_BadProgram : PySem.W.subIn K (.ref C2) (.ref C2) = some true)
    (xc_BadProgram_TurnError : PySem.W.subIn K (.ref C2) (.ref C1) = some true)
    (ox_BadText : OexC K C3)
    (xi_BadText : LB.TopM K C3 "__init__" "BadText.__init__" s_BadText___init__)
    (xn_BadText_line : PySem.W.findIn K (.ref C3) "line" = some none)
    (xc_BadText_BadText : PySem.W.subIn K (.ref C3) (.ref C3) = some true)
    (xc_BadText_BadProgram : PySem.W.subIn K (.ref C3) (.ref C2) = some false)
    (xc_BadText_TurnError : PySem.W.subIn K (.ref C3) (.ref C1) = some true)
    (vV_ : PySem.W.findCls K (.type "ValueError") (.type "type") "__init__" = some (.val (.builtin "ValueError.__init__")))
    (ct_Program : LB.ClsTop K C0)
    (n_Program_readings : PySem.W.findIn K (.ref C0) "readings" = some none)
    (n_Program_sides : PySem.W.findIn K (.ref C0) "sides" = some none)
    (n_Program_tables : PySem.W.findIn K (.ref C0) "tables" = some none)
    (z_Program_int : PySem.W.subIn K (.ref C0) (.type "int") = some false)
    (z_Program_bool : PySem.W.subIn K (.ref C0) (.type "bool") = some false)
    (z_Program_str : PySem.W.subIn K (.ref C0) (.type "str") = some false)
    (z_Program_tuple : PySem.W.subIn K (.ref C0) (.type "tuple") = some false)
    (z_Program_list : PySem.W.subIn K (.ref C0) (.type "list") = some false)
    (z_Program_dict : PySem.W.subIn K (.ref C0) (.type "dict") = some false)
    (u0 : PySem.W.nsIn K mainGlobals "FIGURES" = some (some (.str "0123456789" t0)))
    (u1 : PySem.W.nsIn K mainGlobals "HEADS" = some (some (.ref ua1)))
    (ul1 : K.lookup ua1 = some ⟨.type "tuple", ud1, .seq #[.str "sides" us1, .str "tables" uv1] un1, uo1⟩)
    (u2 : PySem.W.nsIn K mainGlobals "LONGEST_STEP" = some (some (.int 1000000000000 t2)))
    (u3 : PySem.W.nsIn K mainGlobals "MOST_FIGURES" = some (some (.int 60 t3)))
    (u4 : PySem.W.nsIn K mainGlobals "MOST_READINGS" = some (some (.int 24 t4)))
    (u5 : PySem.W.nsIn K mainGlobals "MOST_SIDES" = some (some (.int 4 t5)))
    (u6 : PySem.W.nsIn K mainGlobals "MOST_TABLES" = some (some (.int 8 t6)))
    (xs_TurnError_BadText : PySem.W.subIn K (.ref C1) (.ref C3) = some false)
    (xs_BadProgram_BadText : PySem.W.subIn K (.ref C2) (.ref C3) = some false)
    (b_ValueError : PySem.W.nsIn K mainGlobals "ValueError" = some none)
    (b_abs : PySem.W.nsIn K mainGlobals "abs" = some none)
    (b_all : PySem.W.nsIn K mainGlobals "all" = some none)
    (b_bool : PySem.W.nsIn K mainGlobals "bool" = some none)
    (b_enumerate : PySem.W.nsIn K mainGlobals "enumerate" = some none)
    (b_int : PySem.W.nsIn K mainGlobals "int" = some none)
    (b_isinstance : PySem.W.nsIn K mainGlobals "isinstance" = some none)
    (b_len : PySem.W.nsIn K mainGlobals "len" = some none)
    (b_list : PySem.W.nsIn K mainGlobals "list" = some none)
    (b_range : PySem.W.nsIn K mainGlobals "range" = some none)
    (b_set : PySem.W.nsIn K mainGlobals "set" = some none)
    (b_sorted : PySem.W.nsIn K mainGlobals "sorted" = some none)
    (b_str : PySem.W.nsIn K mainGlobals "str" = some none)
    (b_sum : PySem.W.nsIn K mainGlobals "sum" = some none)
    (b_tuple : PySem.W.nsIn K mainGlobals "tuple" = some none)
    : ∃ fd : FuncData, (∀ (s : Shared) (v : Value), BindsTo s fd ⟨[v], []⟩ [("_law_script", v)]) ∧ ∀ base : Heap, K.In base → base.Ns mainGlobals mg → FnOk l.prog w K mg base CX0 8 fa fd ["_law_script"] (spTrue K 63) := by
  have O_Program : ClassOK K C0 := ⟨ct_Program.ins, fun T hT => by simp only [List.mem_cons, List.mem_nil_iff, or_false] at hT; rcases hT with rfl | rfl | rfl | rfl | rfl | rfl <;> exact LB.kit_sub (by decide +kernel) (by assumption)⟩
  have T : TX K mg (fun n => match n with | 0 => C0 | 1 => C1 | 2 => C2 | _ => C3) := {
    b_ValueError := PySem.W.mg_none_of X G b_ValueError
    b_abs := PySem.W.mg_none_of X G b_abs
    b_all := PySem.W.mg_none_of X G b_all
    b_bool := PySem.W.mg_none_of X G b_bool
    b_enumerate := PySem.W.mg_none_of X G b_enumerate
    b_int := PySem.W.mg_none_of X G b_int
    b_isinstance := PySem.W.mg_none_of X G b_isinstance
    b_len := PySem.W.mg_none_of X G b_len
    b_list := PySem.W.mg_none_of X G b_list
    b_range := PySem.W.mg_none_of X G b_range
    b_set := PySem.W.mg_none_of X G b_set
    b_sorted := PySem.W.mg_none_of X G b_sorted
    b_str := PySem.W.mg_none_of X G b_str
    b_sum := PySem.W.mg_none_of X G b_sum
    b_tuple := PySem.W.mg_none_of X G b_tuple
    c_FIGURES := GC.str (PySem.W.mg_of X G u0)
    c_HEADS := GC.tup2s (PySem.W.mg_of X G u1) ul1
    c_LONGEST_STEP := GC.int (PySem.W.mg_of X G u2)
    c_MOST_FIGURES := GC.int (PySem.W.mg_of X G u3)
    c_MOST_READINGS := GC.int (PySem.W.mg_of X G u4)
    c_MOST_SIDES := GC.int (PySem.W.mg_of X G u5)
    c_MOST_TABLES := GC.int (PySem.W.mg_of X G u6)
    m_Program := PySem.W.mg_of X G a_Program
    k_Program := GC.ref (PySem.W.mg_of X G a_Program)
    f_readings := fun C h => by
      simp only [List.mem_cons, List.mem_nil_iff, or_false] at h
      rcases h with rfl
      · exact ⟨ct_Program.cls, n_Program_readings⟩
    f_sides := fun C h => by
      simp only [List.mem_cons, List.mem_nil_iff, or_false] at h
      rcases h with rfl
      · exact ⟨ct_Program.cls, n_Program_sides⟩
    f_tables := fun C h => by
      simp only [List.mem_cons, List.mem_nil_iff, or_false] at h
      rcases h with rfl
      · exact ⟨ct_Program.cls, n_Program_tables⟩
    m_TurnError := PySem.W.mg_of X G a_TurnError
    m_BadProgram := PySem.W.mg_of X G a_BadProgram
    m_BadText := PySem.W.mg_of X G a_BadText
    fx_line := fun C h => by
      simp only [List.mem_cons, List.mem_nil_iff, or_false] at h
      rcases h with rfl
      · exact ⟨xt_BadText.xf, xn_BadText_line⟩
    fx_part := fun C h => by
      simp only [List.mem_cons, List.mem_nil_iff, or_false] at h
      rcases h with rfl
      · exact ⟨xt_BadProgram.xf, xn_BadProgram_part⟩
    vV := vV_
    etb := fun r hr => by
      simp only [LW.etb, List.mem_cons, List.mem_nil_iff, or_false] at hr
      rcases hr with rfl | rfl | rfl | rfl | rfl | rfl
      · exact exm_ref xt_BadProgram.ex xt_BadProgram.ic xt_BadProgram.ty xc_BadProgram_BadProgram
      · exact exm_ref xt_TurnError.ex xt_TurnError.ic xt_TurnError.ty xc_BadProgram_TurnError
      · exact exm_ref xt_BadText.ex xt_BadText.ic xt_BadText.ty xc_BadText_BadText
      · exact exm_ref xt_TurnError.ex xt_TurnError.ic xt_TurnError.ty xc_BadText_TurnError
      · exact exm_ref xt_BadText.ex xt_BadText.ic xt_BadText.ty xc_BadProgram_BadText
      · exact exm_ref xt_BadProgram.ex xt_BadProgram.ic xt_BadProgram.ty xc_BadText_BadProgram
    tb := ⟨fun r hr => by
      simp only [LW.tb, List.mem_cons, List.mem_nil_iff, or_false] at hr
      rcases hr with rfl | rfl | rfl | rfl | rfl | rfl
      · exact LB.kit_sub (by decide +kernel) z_Program_int
      · exact LB.kit_sub (by decide +kernel) z_Program_bool
      · exact LB.kit_sub (by decide +kernel) z_Program_str
      · exact LB.kit_sub (by decide +kernel) z_Program_tuple
      · exact LB.kit_sub (by decide +kernel) z_Program_list
      · exact LB.kit_sub (by decide +kernel) z_Program_dict, fun r hr C e => by
      simp only [LW.tb, List.mem_cons, List.mem_nil_iff, or_false] at hr
      rcases hr with rfl | rfl | rfl | rfl | rfl | rfl <;> cases e <;> first | exact O_Program, fun r hr C e => by
      simp only [LW.tb, List.mem_cons, List.mem_nil_iff, or_false] at hr
      rcases hr with rfl | rfl | rfl | rfl | rfl | rfl <;> cases e⟩ }
  obtain ⟨f_is_int, fd_is_int, D_is_int⟩ := tf_is_int.df (ps := ["thing"]) X G (fun _ _ _ _ _ _ us hl => match us, hl with | [_], _ => rfl)
  obtain ⟨f_is_int_in, fd_is_int_in, D_is_int_in⟩ := tf_is_int_in.df (ps := ["thing", "least", "most"]) X G (fun _ _ _ _ _ _ us hl => match us, hl with | [_, _, _], _ => rfl)
  obtain ⟨f_is_row_of_ints, fd_is_row_of_ints, D_is_row_of_ints⟩ := tf_is_row_of_ints.df (ps := ["thing", "many"]) X G (fun _ _ _ _ _ _ us hl => match us, hl with | [_, _], _ => rfl)
  obtain ⟨f_is_reading, fd_is_reading, D_is_reading⟩ := tf_is_reading.df (ps := ["sides", "tables", "thing"]) X G (fun _ _ _ _ _ _ us hl => match us, hl with | [_, _, _], _ => rfl)
  obtain ⟨f_is_number, fd_is_number, D_is_number⟩ := tf_is_number.df (ps := ["word"]) X G (fun _ _ _ _ _ _ us hl => match us, hl with | [_], _ => rfl)
  obtain ⟨f_reading_of, fd_reading_of, D_reading_of⟩ := tf_reading_of.df (ps := ["words"]) X G (fun _ _ _ _ _ _ us hl => match us, hl with | [_], _ => rfl)
  obtain ⟨f_is_line, fd_is_line, D_is_line⟩ := tf_is_line.df (ps := ["place", "words"]) X G (fun _ _ _ _ _ _ us hl => match us, hl with | [_, _], _ => rfl)
  obtain ⟨f_read_program, fd_read_program, D_read_program⟩ := tf_read_program.df (ps := ["text"]) X G (fun _ _ _ _ _ _ us hl => match us, hl with | [_], _ => rfl)
  obtain ⟨f__law_pool, fd__law_pool, D__law_pool⟩ := tf__law_pool.df (ps := ["_law_script"]) X G (fun _ _ _ _ _ _ us hl => match us, hl with | [_], _ => rfl)
  obtain ⟨f__law_draw, fd__law_draw, D__law_draw⟩ := tf__law_draw.df (ps := ["_law_pool_here", "_law_many"]) X G (fun _ _ _ _ _ _ us hl => match us, hl with | [_, _], _ => rfl)
  obtain ⟨f__law_some, fd__law_some, D__law_some⟩ := tf__law_some.df (ps := ["_law_pool_here", "_law_things"]) X G (fun _ _ _ _ _ _ us hl => match us, hl with | [_, _], _ => rfl)
  obtain ⟨f__law_integer, fd__law_integer, D__law_integer⟩ := tf__law_integer.df (ps := ["_law_thing"]) X G (fun _ _ _ _ _ _ us hl => match us, hl with | [_], _ => rfl)
  obtain ⟨f__law_with, fd__law_with, D__law_with⟩ := tf__law_with.df (ps := ["_law_row", "_law_place", "_law_thing"]) X G (fun _ _ _ _ _ _ us hl => match us, hl with | [_, _, _], _ => rfl)
  obtain ⟨f__law_step, fd__law_step, D__law_step⟩ := tf__law_step.df (ps := ["_law_pool_here", "_law_sides"]) X G (fun _ _ _ _ _ _ us hl => match us, hl with | [_, _], _ => rfl)
  obtain ⟨f__law_parts, fd__law_parts, D__law_parts⟩ := tf__law_parts.df (ps := ["_law_pool_here"]) X G (fun _ _ _ _ _ _ us hl => match us, hl with | [_], _ => rfl)
  obtain ⟨f__law_is_reading, fd__law_is_reading, D__law_is_reading⟩ := tf__law_is_reading.df (ps := ["_law_parts_here", "_law_thing"]) X G (fun _ _ _ _ _ _ us hl => match us, hl with | [_, _], _ => rfl)
  obtain ⟨f__law_text, fd__law_text, D__law_text⟩ := tf__law_text.df (ps := ["_law_parts_here"]) X G (fun _ _ _ _ _ _ us hl => match us, hl with | [_], _ => rfl)
  obtain ⟨f__law_program_part, fd__law_program_part, D__law_program_part⟩ := tf__law_program_part.df (ps := ["_law_parts_here"]) X G (fun _ _ _ _ _ _ us hl => match us, hl with | [_], _ => rfl)
  obtain ⟨f__law_read_told, fd__law_read_told, D__law_read_told⟩ := tf__law_read_told.df (ps := ["_law_text_here"]) X G (fun _ _ _ _ _ _ us hl => match us, hl with | [_], _ => rfl)
  obtain ⟨f__law_bent_parts, fd__law_bent_parts, D__law_bent_parts⟩ := tf__law_bent_parts.df (ps := ["_law_pool_here", "_law_parts_here"]) X G (fun _ _ _ _ _ _ us hl => match us, hl with | [_, _], _ => rfl)
  obtain ⟨fd_law, D_law, bt⟩ := tf_law.law (y := "_law_script") X G hfa (fun _ _ _ _ _ _ us hl => match us, hl with | [_], _ => rfl)
  obtain ⟨f_Program___init__, fd_Program___init__, a_Program___init__, i_Program___init__, F_Program___init__, B_Program___init__⟩ := tm_Program___init__.fn (ps := ["self", "sides", "tables", "readings"]) (fun _ _ _ _ _ _ us hl => match us, hl with | [_, _, _, _], _ => rfl)
  obtain ⟨f_xBadProgram, fd_xBadProgram, a_xBadProgram, i_xBadProgram, F_xBadProgram, B_xBadProgram⟩ := xi_BadProgram.fn (ps := ["self", "part"]) (fun _ _ _ _ _ _ us hl => match us, hl with | [_, _], _ => rfl)
  obtain ⟨f_xBadText, fd_xBadText, a_xBadText, i_xBadText, F_xBadText, B_xBadText⟩ := xi_BadText.fn (ps := ["self", "line"]) (fun _ _ _ _ _ _ us hl => match us, hl with | [_, _], _ => rfl)
  refine ⟨fd_law, bt, fun base _ _ => ?_⟩
  have x_BadProgram : ExM1 l.prog w K mg base 1 "BadProgram" C2 "part" := ⟨⟨f_xBadProgram, fd_xBadProgram, _, ox_BadProgram, a_xBadProgram, ty_fn i_xBadProgram, wi_BadProgram F_xBadProgram, B_xBadProgram, T.m_BadProgram, xn_BadProgram_part⟩⟩
  have x_BadText : ExM1 l.prog w K mg base 1 "BadText" C3 "line" := ⟨⟨f_xBadText, fd_xBadText, _, ox_BadText, a_xBadText, ty_fn i_xBadText, wi_BadText F_xBadText, B_xBadText, T.m_BadText, xn_BadText_line⟩⟩
  have c_is_int := w_is_int (P := l.prog) (w := w) (base := base) T D_is_int
  have c_is_int_in := w_is_int_in (P := l.prog) (w := w) (base := base) T D_is_int_in c_is_int
  have c_is_row_of_ints := w_is_row_of_ints (P := l.prog) (w := w) (base := base) T D_is_row_of_ints c_is_int
  have c_is_reading := w_is_reading (P := l.prog) (w := w) (base := base) T D_is_reading c_is_int_in c_is_row_of_ints
  have mk_Program := w_Program___init__ (P := l.prog) (w := w) (base := base) T ⟨ct_Program.makes, a_Program___init__, i_Program___init__, ct_Program.kc⟩ F_Program___init__ B_Program___init__ c_is_int_in c_is_reading x_BadProgram
  have c_is_number := w_is_number (P := l.prog) (w := w) (base := base) T D_is_number
  have c_reading_of := w_reading_of (P := l.prog) (w := w) (base := base) T D_reading_of
  have c_is_line := w_is_line (P := l.prog) (w := w) (base := base) T D_is_line c_is_number
  have c_read_program := w_read_program (P := l.prog) (w := w) (base := base) T D_read_program mk_Program c_reading_of c_is_line x_BadText
  have c__law_pool := w__law_pool (P := l.prog) (w := w) (base := base) T D__law_pool
  have c__law_draw := w__law_draw (P := l.prog) (w := w) (base := base) T D__law_draw
  have c__law_some := w__law_some (P := l.prog) (w := w) (base := base) T D__law_some c__law_draw
  have c__law_integer := w__law_integer (P := l.prog) (w := w) (base := base) T D__law_integer
  have c__law_with := w__law_with (P := l.prog) (w := w) (base := base) T D__law_with
  have c__law_step := w__law_step (P := l.prog) (w := w) (base := base) T D__law_step c__law_draw c__law_some
  have c__law_parts := w__law_parts (P := l.prog) (w := w) (base := base) T D__law_parts c__law_draw c__law_some c__law_step
  have c__law_is_reading := w__law_is_reading (P := l.prog) (w := w) (base := base) T D__law_is_reading c__law_integer
  have c__law_text := w__law_text (P := l.prog) (w := w) (base := base) T D__law_text
  have c__law_program_part := w__law_program_part (P := l.prog) (w := w) (base := base) T D__law_program_part c__law_is_reading
  have c__law_read_told := w__law_read_told (P := l.prog) (w := w) (base := base) T D__law_read_told c_read_program
  have c__law_bent_parts := w__law_bent_parts (P := l.prog) (w := w) (base := base) T D__law_bent_parts c__law_draw c__law_some c__law_with
  have ne_1_3 : C1 ≠ C3 := fun e => by
    have h := xs_TurnError_BadText
    rw [e, xt_BadText.ss] at h
    cases h
  have ne_2_3 : C2 ≠ C3 := fun e => by
    have h := xs_BadProgram_BadText
    rw [e, xt_BadText.ss] at h
    cases h
  exact law_ok (w_law (P := l.prog) (w := w) (base := base) T D_law c__law_pool c__law_parts c__law_program_part c__law_read_told c__law_text c__law_draw c__law_bent_parts) fun ns h1 h2 => law_true _ ne_1_3 ne_2_3 ns h1 h2
end LW
open PySem PySem.W PyProof.Rows L2
set_option maxRecDepth 100000 in
set_option maxHeartbeats 0 in
theorem PySem.Challenge.cw_turnsneeded_k08_whole_spoilt_texts_of_pr_holds : PySem.Challenge.rw_turnsneeded_k08_whole_spoilt_texts_of_pr.Holds := by
  w_on; o_law; k_head; (case hw => w_witness2)
  k_fill
  refine L2.walk_ofB (l := PySem.Challenge.rw_turnsneeded_k08_whole_spoilt_texts_of_pr) (n := 63) (k := 8) (x := "_law_script") (CX := fun _ => L2.CX0) (sp := fun w => DL.spTrue _ 63) rfl (by decide) rfl ⟨rfl, by decide, by decide⟩ (fun w h Y => PySem.W.kIn_of Y) ?F (fun _ _ a ns hl hz hO hS => ⟨a, ns, rfl, DL.FL.only hO hS, hl, hz, fun _ => rfl⟩) (fun _ _ _ _ _ z => z)
  case F =>
    intro w mg fa h KX G hmg
    refine' LW.all_of KX G hmg ?a_Program ?a_TurnError ?xt_TurnError ?a_BadProgram ?xt_BadProgram ?a_BadText ?xt_BadText ?tf_is_int ?tf_is_int_in ?tf_is_row_of_ints ?tf_is_reading ?tf_is_number ?tf_reading_of ?tf_is_line ?tf_read_program ?tf__law_pool ?tf__law_draw ?tf__law_some ?tf__law_integer ?tf__law_with ?tf__law_step ?tf__law_parts ?tf__law_is_reading ?tf__law_text ?tf__law_program_part ?tf__law_read_told ?tf__law_bent_parts ?tf_law ?tm_Program___init__ ?ox_BadProgram ?xi_BadProgram ?xn_BadProgram_part ?xc_BadProgram_BadText ?xc_BadProgram_BadProgram ?xc_BadProgram_TurnError ?ox_BadText ?xi_BadText ?xn_BadText_line ?xc_BadText_BadText ?xc_BadText_BadProgram ?xc_BadText_TurnError ?vV_ ?ct_Program ?n_Program_readings ?n_Program_sides ?n_Program_tables ?z_Program_int ?z_Program_bool ?z_Program_str ?z_Program_tuple ?z_Program_list ?z_Program_dict ?u0 ?u1 ?ul1 ?u2 ?u3 ?u4 ?u5 ?u6 ?xs_TurnError_BadText ?xs_BadProgram_BadText ?b_ValueError ?b_abs ?b_all ?b_bool ?b_enumerate ?b_int ?b_isinstance ?b_len ?b_list ?b_range ?b_set ?b_sorted ?b_str ?b_sum ?b_tuple
    (case a_Program => k_is)
    (case a_TurnError => k_is)
    (case xt_TurnError => (refine' ⟨?y1, ?y2, ?y3, ?y4, ?y5, ?y6, ?y7, ?y8, ?y9, ?y10, ?y11⟩; (case y1 => k_is); (case y2 => k_is); (case y3 => k_is); (case y4 => first | rfl | k_is); (case y5 => k_is); (case y6 => k_is); (case y7 => k_is); (case y8 => k_is); (case y9 => k_is); (case y10 => k_is); (case y11 => k_is)))
    (case a_BadProgram => k_is)
    (case xt_BadProgram => (refine' ⟨?y1, ?y2, ?y3, ?y4, ?y5, ?y6, ?y7, ?y8, ?y9, ?y10, ?y11⟩; (case y1 => k_is); (case y2 => k_is); (case y3 => k_is); (case y4 => first | rfl | k_is); (case y5 => k_is); (case y6 => k_is); (case y7 => k_is); (case y8 => k_is); (case y9 => k_is); (case y10 => k_is); (case y11 => k_is)))
    (case a_BadText => k_is)
    (case xt_BadText => (refine' ⟨?y1, ?y2, ?y3, ?y4, ?y5, ?y6, ?y7, ?y8, ?y9, ?y10, ?y11⟩; (case y1 => k_is); (case y2 => k_is); (case y3 => k_is); (case y4 => first | rfl | k_is); (case y5 => k_is); (case y6 => k_is); (case y7 => k_is); (case y8 => k_is); (case y9 => k_is); (case y10 => k_is); (case y11 => k_is)))
    (case tf_is_int => (refine' LB.TopF.of ?za ?zl ?zc ?zk; (case za => k_is); (case zl => k_is); (case zc => k_is); (case zk => k_is)))
    (case tf_is_int_in => (refine' LB.TopF.of ?za ?zl ?zc ?zk; (case za => k_is); (case zl => k_is); (case zc => k_is); (case zk => k_is)))
    (case tf_is_row_of_ints => (refine' LB.TopF.of ?za ?zl ?zc ?zk; (case za => k_is); (case zl => k_is); (case zc => k_is); (case zk => k_is)))
    (case tf_is_reading => (refine' LB.TopF.of ?za ?zl ?zc ?zk; (case za => k_is); (case zl => k_is); (case zc => k_is); (case zk => k_is)))
    (case tf_is_number => (refine' LB.TopF.of ?za ?zl ?zc ?zk; (case za => k_is); (case zl => k_is); (case zc => k_is); (case zk => k_is)))
    (case tf_reading_of => (refine' LB.TopF.of ?za ?zl ?zc ?zk; (case za => k_is); (case zl => k_is); (case zc => k_is); (case zk => k_is)))
    (case tf_is_line => (refine' LB.TopF.of ?za ?zl ?zc ?zk; (case za => k_is); (case zl => k_is); (case zc => k_is); (case zk => k_is)))
    (case tf_read_program => (refine' LB.TopF.of ?za ?zl ?zc ?zk; (case za => k_is); (case zl => k_is); (case zc => k_is); (case zk => k_is)))
    (case tf__law_pool => (refine' LB.TopF.of ?za ?zl ?zc ?zk; (case za => k_is); (case zl => k_is); (case zc => k_is); (case zk => k_is)))
    (case tf__law_draw => (refine' LB.TopF.of ?za ?zl ?zc ?zk; (case za => k_is); (case zl => k_is); (case zc => k_is); (case zk => k_is)))
    (case tf__law_some => (refine' LB.TopF.of ?za ?zl ?zc ?zk; (case za => k_is); (case zl => k_is); (case zc => k_is); (case zk => k_is)))
    (case tf__law_integer => (refine' LB.TopF.of ?za ?zl ?zc ?zk; (case za => k_is); (case zl => k_is); (case zc => k_is); (case zk => k_is)))
    (case tf__law_with => (refine' LB.TopF.of ?za ?zl ?zc ?zk; (case za => k_is); (case zl => k_is); (case zc => k_is); (case zk => k_is)))
    (case tf__law_step => (refine' LB.TopF.of ?za ?zl ?zc ?zk; (case za => k_is); (case zl => k_is); (case zc => k_is); (case zk => k_is)))
    (case tf__law_parts => (refine' LB.TopF.of ?za ?zl ?zc ?zk; (case za => k_is); (case zl => k_is); (case zc => k_is); (case zk => k_is)))
    (case tf__law_is_reading => (refine' LB.TopF.of ?za ?zl ?zc ?zk; (case za => k_is); (case zl => k_is); (case zc => k_is); (case zk => k_is)))
    (case tf__law_text => (refine' LB.TopF.of ?za ?zl ?zc ?zk; (case za => k_is); (case zl => k_is); (case zc => k_is); (case zk => k_is)))
    (case tf__law_program_part => (refine' LB.TopF.of ?za ?zl ?zc ?zk; (case za => k_is); (case zl => k_is); (case zc => k_is); (case zk => k_is)))
    (case tf__law_read_told => (refine' LB.TopF.of ?za ?zl ?zc ?zk; (case za => k_is); (case zl => k_is); (case zc => k_is); (case zk => k_is)))
    (case tf__law_bent_parts => (refine' LB.TopF.of ?za ?zl ?zc ?zk; (case za => k_is); (case zl => k_is); (case zc => k_is); (case zk => k_is)))
    (case tf_law => (refine' LB.TopF.of ?za ?zl ?zc ?zk; (case za => k_is); (case zl => k_is); (case zc => k_is); (case zk => k_is)))
    (case tm_Program___init__ => (refine' LB.TopM.of ?za ?zi ?zl ?zc ?zk; (case za => k_is); (case zi => k_is); (case zl => k_is); (case zc => k_is); (case zk => k_is)))
    (case ox_BadProgram => (refine' DL.oex_of ?yL ?yb ?y1 ?y2 ?y3 ?y4; (case yL => k_is); (case yb => decide +kernel); (case y1 => k_is); (case y2 => k_is); (case y3 => k_is); (case y4 => k_is)))
    (case xi_BadProgram => (refine' LB.TopM.of ?za ?zi ?zl ?zc ?zk; (case za => k_is); (case zi => k_is); (case zl => k_is); (case zc => k_is); (case zk => k_is)))
    (case xn_BadProgram_part => k_is)
    (case xc_BadProgram_BadText => first | rfl | k_is)
    (case xc_BadProgram_BadProgram => first | rfl | k_is)
    (case xc_BadProgram_TurnError => first | rfl | k_is)
    (case ox_BadText => (refine' DL.oex_of ?yL ?yb ?y1 ?y2 ?y3 ?y4; (case yL => k_is); (case yb => decide +kernel); (case y1 => k_is); (case y2 => k_is); (case y3 => k_is); (case y4 => k_is)))
    (case xi_BadText => (refine' LB.TopM.of ?za ?zi ?zl ?zc ?zk; (case za => k_is); (case zi => k_is); (case zl => k_is); (case zc => k_is); (case zk => k_is)))
    (case xn_BadText_line => k_is)
    (case xc_BadText_BadText => first | rfl | k_is)
    (case xc_BadText_BadProgram => first | rfl | k_is)
    (case xc_BadText_TurnError => first | rfl | k_is)
    (case vV_ => k_is)
    (case ct_Program => (refine' ⟨?y1, ?y2, ?y3, ?y4, ?y5, ?y6, ?y7, ?y8, ?y9, ?y10⟩; (case y1 => k_is); (case y2 => k_is); (case y3 => k_is); (case y4 => k_is); (case y5 => k_is); (case y6 => k_is); (case y7 => k_is); (case y8 => k_is); (case y9 => k_is); (case y10 => k_is)))
    (case n_Program_readings => k_is)
    (case n_Program_sides => k_is)
    (case n_Program_tables => k_is)
    (case z_Program_int => k_is)
    (case z_Program_bool => k_is)
    (case z_Program_str => k_is)
    (case z_Program_tuple => k_is)
    (case z_Program_list => k_is)
    (case z_Program_dict => k_is)
    (case u0 => k_is)
    (case u1 => k_is)
    (case ul1 => k_is)
    (case u2 => k_is)
    (case u3 => k_is)
    (case u4 => k_is)
    (case u5 => k_is)
    (case u6 => k_is)
    (case xs_TurnError_BadText => first | rfl | k_is)
    (case xs_BadProgram_BadText => first | rfl | k_is)
    (case b_ValueError => k_is)
    (case b_abs => k_is)
    (case b_all => k_is)
    (case b_bool => k_is)
    (case b_enumerate => k_is)
    (case b_int => k_is)
    (case b_isinstance => k_is)
    (case b_len => k_is)
    (case b_list => k_is)
    (case b_range => k_is)
    (case b_set => k_is)
    (case b_sorted => k_is)
    (case b_str => k_is)
    (case b_sum => k_is)
    (case b_tuple => k_is)
