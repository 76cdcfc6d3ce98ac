import PyProof.Rows.All
import Wide.All
import OpenK.AllK
import Wide.FinOn
import HandS.TupSets
import KE.KeyNested
import KE.SortData
import HandS.ForMost
import HandS.IsInst
import HandS.TupAny
import HandS.TupLe
import HandS.Wide
import HandS.Codes
import HandS.TupMul
import HandS.OwnEq
import HandS.Conv
import PyProof.InstNe
import KE.DataCmp
import HandS.Iter
import KE.GoesMore
import HandS.Style
import HandS.Strs
import HandS.Walk
import PySem.Challenge.RW_turnsneeded_k09_whole_walks_judged
set_option Elab.async false
set_option linter.all false
set_option maxRecDepth 100000
/-! Sets of readings: a reading's key is (reader, read, step), a tuple with a tuple of whole numbers inside it. -/
namespace RS
open PySem PySem.Spec PyProof.Rows L2
abbrev RK := Int × Int × List Int
def nk (k : RK) : NestedKey := .tup [.num k.1, .num k.2.1, .tup (k.2.2.map .num)]
theorem nums_inj : ∀ {xs ys : List Int}, xs.map NestedKey.num = ys.map NestedKey.num → xs = ys
  | [], [], _ => rfl
  | [], _ :: _, h => by cases h
  | _ :: _, [], h => by cases h
  | x :: xs, y :: ys, h => by
    injection h with h1 h2
    injection h1 with h1
    rw [h1, nums_inj h2]
theorem nk_inj {j k : RK} (h : nk j = nk k) : j = k := by
  obtain ⟨a, b, c⟩ := j
  obtain ⟨a', b', c'⟩ := k
  unfold nk at h
  injection h with h
  injection h with h1 h
  injection h with h2 h
  injection h with h3 _
  injection h1 with h1
  injection h2 with h2
  injection h3 with h3
  dsimp only at h1 h2 h3
  rw [h1, h2, nums_inj h3]
theorem nums_depth : ∀ xs : List Int, NestedKey.depthAll (xs.map .num) = 0
  | [] => rfl
  | x :: xs => by
    show max (NestedKey.depth (.num x)) (NestedKey.depthAll (xs.map .num)) = 0
    rw [nums_depth xs]
    rfl
theorem nk_depth (k : RK) : (nk k).depth = 2 := by
  show max 0 (max 0 (max (NestedKey.depthAll (k.2.2.map .num) + 1) 0)) + 1 = 2
  rw [nums_depth]
  rfl
/-- the tuple at a is the reading k -/
def IsR (h : Heap) (k : RK) (a : Addr) : Prop := NestedIs h (nk k) (.ref a)
theorem IsR.inj {h : Heap} {a : Addr} {j k : RK} (x : IsR h j a) (y : IsR h k a) : j = k := nk_inj (NestedIs.inj _ _ _ x y)
theorem IsR.keep {h h' : Heap} {k : RK} {a : Addr} (x : IsR h k a) (m : ∀ c o, h.get? c = some o → h'.get? c = some o) : IsR h' k a := NestedIs.at (fun c o _ _ e _ => m c o e) _ _ x
/-- but for the object at d, which is no tuple and no list -/
theorem IsR.but {h h' : Heap} {k : RK} {a d : Addr} {o : Obj} {es ep t} (x : IsR h k a) (ho : h.get? d = some o) (hd : o.data = .set es ep t) (m : Heap.SameBut d h h') : IsR h' k a :=
  NestedIs.at (fun c u vs n e q => (m.2 c (fun z => by rw [z, ho] at e; cases e; rw [hd] at q; cases q)).trans e) _ _ x
@[irreducible] def rh (w : World) (k : RK) : Int := (nk k).hash w

section
variable {P : Program} {w : World} {A : Around} {E : Value → Shared → Prop} {s : Shared}
/-! ### questions asked of an item ahead of a search -/
abbrev NoCls (P : Program) (w : World) (n : Nat) (s : Shared) (v : Value) : Prop := ∀ (A : Around) (E : Value → Shared → Prop) (Q : Bool → Shared → Prop), Q false s → wpAny (model P w) A (ofAClassStatement n v) Q E s
abbrev ByVal (P : Program) (w : World) (n : Nat) (s : Shared) (v : Value) : Prop := ∀ (A : Around) (E : Value → Shared → Prop) (Q : Bool → Shared → Prop), Q true s → wpAny (model P w) A (hashByValue n v) Q E s
theorem noCls_plain {n : Nat} {v : Value} (hv : ∀ a, v ≠ .ref a) : NoCls P w n s v := fun A E Q q => by
  cases v with
  | ref a => exact absurd rfl (hv a)
  | _ => cases n <;> exact wpAny_pure q
theorem noCls_tup {n m : Nat} {a : Addr} {o : Obj} {vs : Array Value} (ho : s.heap.get? a = some o) (hc : o.cls = .type "tuple") (hd : o.data = .seq vs m) (hq : ∀ v ∈ vs.toList, NoCls P w n s v) : NoCls P w (n + 1) s (.ref a) := fun A E Q q => by
  have ty : s.TypeIs (.ref a) "tuple" := ⟨o, ho, hc⟩
  have tt : (("tuple" : String) == "tuple") = true := by decide
  unfold ofAClassStatement
  refine wpAny_bind (wpAny_typeOf ty ?_)
  dsimp only
  simp only [tt, if_true, Bool.not_true, Bool.false_eq_true, if_false]
  try refine wpAny_bind (wpAny_pure ?_)
  try simp only [Bool.not_true, Bool.false_eq_true, if_false]
  show wpAny _ _ (seqItems? (.ref a) >>= _) _ _ s
  refine wpAny_bind (wpAny_seqItems ho hd ?_)
  dsimp only
  refine wpAny_bind ?_
  show wpAny _ _ (forIn vs _ _) _ _ s
  rw [← Array.forIn_toList]
  refine wpAny_forIn_list _ (fun rest r s1 => r.1 = none ∧ s1 = s ∧ ∀ v ∈ rest, NoCls P w n s v) _ ?_ ?_ _ _ ⟨rfl, rfl, hq⟩
  · rintro v rest r s1 ⟨hr, rfl, hall⟩
    refine wpAny_bind (hall v List.mem_cons_self _ _ _ ?_)
    simp only [Bool.false_eq_true, if_false]
    exact wpAny_pure ⟨rfl, rfl, fun u hu => hall u (List.mem_cons_of_mem _ hu)⟩
  · rintro ⟨r1, r2⟩ s1 ⟨hr, rfl, _⟩
    simp only at hr
    subst hr
    exact wpAny_pure q
theorem byVal_tup {n m : Nat} {a : Addr} {o : Obj} {vs : Array Value} (ho : s.heap.get? a = some o) (hc : o.cls = .type "tuple") (hd : o.data = .seq vs m) (hq : ∀ v ∈ vs.toList, ByVal P w n s v) : ByVal P w (n + 1) s (.ref a) := fun A E Q q => by
  have ty : s.TypeIs (.ref a) "tuple" := ⟨o, ho, hc⟩
  unfold hashByValue
  refine wpAny_bind (wpAny_specialOf ty F.slot_tuple_hash.lookup ?_)
  show wpAny _ _ (seqItems? (.ref a) >>= _) _ _ s
  refine wpAny_bind (wpAny_seqItems ho hd ?_)
  refine wpAny_bind ?_
  show wpAny _ _ (forIn vs _ _) _ _ s
  rw [← Array.forIn_toList]
  refine wpAny_forIn_list _ (fun rest r s1 => r.1 = none ∧ s1 = s ∧ ∀ v ∈ rest, ByVal P w n s v) _ ?_ ?_ _ _ ⟨rfl, rfl, hq⟩
  · rintro v rest r s1 ⟨hr, rfl, hall⟩
    refine wpAny_bind (hall v List.mem_cons_self _ _ _ ?_)
    simp only [Bool.not_true, Bool.false_eq_true, if_false]
    exact wpAny_pure ⟨rfl, rfl, fun u hu => hall u (List.mem_cons_of_mem _ hu)⟩
  · rintro ⟨r1, r2⟩ s1 ⟨hr, rfl, _⟩
    simp only at hr
    subst hr
    exact wpAny_pure q
/-- a key without texts: numbers and tuples of such -/
def plainK : NestedKey → Bool
  | .num _ => true
  | .tup ks => plainAll ks
  | _ => false
where plainAll : List NestedKey → Bool
  | [] => true
  | k :: ks => plainK k && plainAll ks
theorem nums_plain : ∀ xs : List Int, plainK.plainAll (xs.map .num) = true
  | [] => rfl
  | x :: xs => by
    show (plainK (.num x) && plainK.plainAll (xs.map .num)) = true
    rw [nums_plain xs]
    rfl
theorem nk_plain (k : RK) : plainK (nk k) = true := by
  show (true && (true && (plainK.plainAll (k.2.2.map .num) && true))) = true
  rw [nums_plain]
  rfl
mutual
theorem asked : ∀ (k : NestedKey) (v : Value) (n : Nat) (s : Shared), NestedIs s.heap k v → plainK k = true → k.depth ≤ n → NoCls P w n s v ∧ ByVal P w n s v
  | .none, _, _, _, _, p, _ => nomatch p
  | .text _, _, _, _, _, p, _ => nomatch p
  | .num i, _, n, s, x, _, _ => by
    cases x with
    | bool e => exact ⟨noCls_plain (fun a z => by cases z), fun A E Q q => by cases n <;> exact wpAny_pure q⟩
    | int i t => exact ⟨noCls_plain (fun a z => by cases z), fun A E Q q => by cases n <;> exact wpAny_pure q⟩
  | .tup ks, _, n, s, x, p, hn => by
    cases x with
    | tup hg hc hd hk =>
      simp only [NestedKey.depth] at hn
      cases n with
      | zero => omega
      | succ n =>
        have q := asked_all ks _ n s hk p (by omega)
        exact ⟨noCls_tup hg hc hd fun v hv => (q v hv).1, byVal_tup hg hc hd fun v hv => (q v hv).2⟩
theorem asked_all : ∀ (ks : List NestedKey) (vs : List Value) (n : Nat) (s : Shared), NestedAll s.heap ks vs → plainK.plainAll ks = true → NestedKey.depthAll ks ≤ n → ∀ v ∈ vs, NoCls P w n s v ∧ ByVal P w n s v
  | [], _, _, _, x, _, _, v, hv => by cases x; cases hv
  | k :: ks, _, n, s, x, p, hn, v, hv => by
    cases x with
    | cons x1 x2 =>
      simp only [NestedKey.depthAll] at hn
      have p2 : plainK k = true ∧ plainK.plainAll ks = true := Bool.and_eq_true_iff.mp p
      rcases List.mem_cons.mp hv with e | hv
      · rw [e]; exact asked k _ n s x1 p2.1 (by omega)
      · exact asked_all ks _ n s x2 p2.2 (by omega) v hv
end
theorem IsR.noCls {k : RK} {a : Addr} (x : IsR s.heap k a) : NoCls P w 8 s (.ref a) := (asked _ _ 8 s x (nk_plain k) (by rw [nk_depth]; decide)).1
theorem IsR.byVal {k : RK} {a : Addr} (x : IsR s.heap k a) : ByVal P w 8 s (.ref a) := (asked _ _ 8 s x (nk_plain k) (by rw [nk_depth]; decide)).2
theorem IsR.quiet {k : RK} {a : Addr} (x : IsR s.heap k a) : QuietAt P w 8 s (.ref a) := quiet_key _ _ 8 s x (by rw [nk_depth]; decide)
theorem IsR.hashed {k : RK} {a : Addr} {Q : Int → Shared → Prop} (x : IsR s.heap k a) (hu : A.units + 2 < cLine) (q : Q (rh w k) { s with toks := s.toks + (nk k).draws }) : wpAny (model P w) A (pyHash (.ref a)) Q E s := by
  unfold rh at q
  exact pyHash_key _ _ _ _ _ x (by rw [nk_depth]; exact hu) q
theorem IsR.same {j k : RK} {a b : Addr} {Q : Bool → Shared → Prop} (x : IsR s.heap j a) (y : IsR s.heap k b) (hu : A.units + 2 < cLine) (q : Q (decide (j = k)) s) : wpAny (model P w) A (eqBool (.ref a) (.ref b)) Q E s := by
  refine eqAt_key _ _ A s _ _ x y (by rw [nk_depth, nk_depth]; exact hu) _ _ _ _ ?_
  rw [← NestedKey.decide_eq]
  have e : decide (nk j = nk k) = decide (j = k) := decide_eq_decide.mpr ⟨nk_inj, congrArg nk⟩
  rw [e]
  exact q
/-- looking for a reading among readings asks nobody -/
theorem unseen {k : RK} {a : Addr} (x : IsR s.heap k a) {Q : Bool → Shared → Prop} {ys : List Value} (hy : ∀ y ∈ ys, ∃ j c, y = Value.ref c ∧ IsR s.heap j c) (q : Q false s) : wpAny (model P w) A (searchCouldBeSeen (.ref a) ys) Q E s := by
  unfold searchCouldBeSeen
  refine wpAny_bind ?_
  refine wpAny_forIn_list _ (fun rest r s1 => r.1 = none ∧ s1 = s ∧ ∀ y ∈ rest, ∃ j c, y = Value.ref c ∧ IsR s.heap j c) _ ?_ ?_ _ _ ⟨rfl, rfl, hy⟩
  · rintro v rest r s1 ⟨hr, rfl, hall⟩
    obtain ⟨j, c, rfl, hc⟩ := hall v List.mem_cons_self
    have more := fun u hu => hall u (List.mem_cons_of_mem _ hu)
    dsimp only
    by_cases very : (a == c || (carriedByValue (.ref a) && carriedByValue (.ref c))) = true
    · exact wp_if_pos very (wpAny_pure ⟨rfl, rfl, more⟩)
    · refine wp_if_neg very (wpAny_bind (x.quiet _ _ _ ?_))
      simp only [Bool.not_true, Bool.false_eq_true, if_false]
      refine wpAny_bind (hc.quiet _ _ _ ?_)
      simp only [Bool.not_true, Bool.false_eq_true, if_false]
      refine wpAny_bind (x.noCls _ _ _ ?_)
      simp only [Bool.false_eq_true, if_false]
      refine wpAny_bind (hc.noCls _ _ _ ?_)
      simp only [Bool.false_eq_true, if_false]
      exact wpAny_pure ⟨rfl, rfl, more⟩
  · rintro ⟨r1, r2⟩ s1 ⟨hr, rfl, _⟩
    simp only at hr
    subst hr
    exact wpAny_pure q
end
end RS
set_option Elab.async false
set_option linter.all false
set_option maxRecDepth 100000
namespace RS
open PySem PySem.Spec PyProof.Rows L2
abbrev Ks := List (Addr × RK)
abbrev hs (w : World) (L : Ks) : List Int := L.map fun p => rh w p.2
/-- how the entries of the set stand: hash, value -/
def ents (w : World) (L : Ks) : List (Int × Value) := L.map fun p => (rh w p.2, Value.ref p.1)
theorem ents_len {w : World} {L : Ks} {es : Array (Int × Value)} (e : es.toList = ents w L) : es.size = L.length := by
  have q := congrArg List.length e
  unfold ents at q
  rwa [Array.length_toList, List.length_map] at q
theorem ents_at {w : World} {L : Ks} {es : Array (Int × Value)} (e : es.toList = ents w L) {i : Nat} {p : Addr × RK} (h : L[i]? = some p) : es[i]? = some (rh w p.2, Value.ref p.1) := by
  rw [← Array.getElem?_toList, e]
  unfold ents
  rw [List.getElem?_map, h] <;> rfl
/-- a set of readings at a: its members L, in the order of their places -/
structure SetR (w : World) (h : Heap) (a : Addr) (L : Ks) (es : Array (Int × Value)) (ep : Nat) (t : SetTable) : Prop where
  ob : ∃ o, h.get? a = some o ∧ o.ExactSet ∧ o.data = .set es ep t
  rows : es.toList = ents w L
  tab : TabOk t (hs w L)
  nd : (L.map (·.2)).Nodup
  tup : ∀ p ∈ L, IsR h p.2 p.1
  plain : t.plain = true
  led : w.params.followText "set-order" = true ∨ t.led = true
  room : L.length * 5 < t.mask * 3
  few : L.length < 64
abbrev step (t : SetTable) (h : Int) (c : Nat) : SetTable.Probe := nth t.mask (runAt t.mask (SetTable.bits h % (t.mask + 1)) (SetTable.bits h)) c
theorem step_add (t : SetTable) (h : Int) (c q : Nat) : nth t.mask (step t h c) q = step t h (c + q) := (nth_add t.mask c _ q).symm
theorem step_j (t : SetTable) (h : Int) (c q : Nat) : (nth t.mask (step t h c) q).j = way t.mask h (c + q) := by rw [step_add]
theorem step_clean (t : SetTable) (h : Int) (c : Nat) : (step t h c).dummy = none := by
  have key : ∀ (n : Nat) (p : SetTable.Probe), p.dummy = none → (nth t.mask p n).dummy = none := by
    intro n
    induction n with
    | zero => exact fun p h => h
    | succ n ih =>
      intro p h
      refine ih (adv t.mask p) ?_
      unfold adv
      split <;> exact h
  exact key c _ rfl
section
variable {P : Program} {w : World} {A : Around} {E : Value → Shared → Prop} {s : Shared} {a : Addr} {L : Ks} {es : Array (Int × Value)} {ep : Nat} {t : SetTable}
theorem SetR.size (R : SetR w s.heap a L es ep t) : es.size = L.length := ents_len R.rows
theorem SetR.placed (R : SetR w s.heap a L es ep t) : t.place.toList.length = L.length := by
  have q := R.tab.sz
  rw [List.length_map] at q
  rw [Array.length_toList, q]
theorem SetR.fits (R : SetR w s.heap a L es ep t) : t.fits es.size = true := by
  have q := R.placed
  rw [Array.length_toList] at q
  have r := R.room
  unfold SetTable.fits SetTable.fill
  rw [R.tab.dm, Bool.and_eq_true, beq_iff_eq, decide_eq_true_eq, R.size]
  show t.place.size = L.length ∧ t.place.size + 0 ≤ t.mask
  omega
theorem SetR.holds (R : SetR w s.heap a L es ep t) : ¬ t.gaveWay = true := by
  unfold SetTable.gaveWay
  rw [mask_odd R.tab.mok]
  decide
/-- from the c-th place of its way on, the search for the reading k -/
theorem look_on (R : SetR w s.heap a L es ep t) {x : Addr} {k : RK} (hx : IsR s.heap k x) (hu : A.units + 2 < cLine) {m : Nat} (hm : m < 10 * SetTable.turns t.mask)
    (free : way t.mask (rh w k) m ∉ t.place.toList) (full : ∀ c, c < m → way t.mask (rh w k) c ∈ t.place.toList) {Q : SetFound → Shared → Prop}
    (yes : k ∈ L.map (·.2) → Q (.there none) s) (no : k ∉ L.map (·.2) → Q (.free (way t.mask (rh w k) m) false) s) :
    ∀ (f c : Nat) (from? : Option SetTable.Probe), from?.getD (t.probeStart (rh w k)) = step t (rh w k) c → c ≤ m → m - c < f →
      (∀ (i : Nat) p, L[i]? = some p → p.2 = k → ∃ d, c ≤ d ∧ d < m ∧ t.place.toList[i]? = some (way t.mask (rh w k) d)) →
      wpAny (model P w) A (setSearchFrom a (.ref x) (rh w k) true f from?) Q E s := by
  obtain ⟨o, ho, hex, hd⟩ := R.ob
  intro f
  induction f with
  | zero => exact fun c from? _ _ hf _ => absurd hf (Nat.not_lt_zero _)
  | succ f ih =>
    intro c from? hst hc hf again
    rw [setSearchFrom_succ]
    refine wpAny_bind (wpAny_setState_of ho hd R.fits ?_)
    dsimp only
    refine wp_if_neg R.holds ?_
    try refine wpAny_bind (wpAny_pure ?_)
    have jj : ∀ q, (nth t.mask (step t (rh w k) c) q).j = way t.mask (rh w k) (c + q) := step_j t (rh w k) c
    have hat : ∀ (i : Nat) p, L[i]? = some p → (fun i => (es[i]?.map (·.1)).getD 0) i = rh w p.2 := fun i p hp => by
      dsimp only
      rw [ents_at R.rows hp, Option.map_some, Option.getD_some]
    rcases go_spec t R.tab.ris R.tab.dm (fun i => (es[i]?.map (·.1)).getD 0) (rh w k) (10 * SetTable.turns t.mask) (m - c) (step t (rh w k) c) (step_clean t _ c) (by omega)
      (fun q hq => by rw [jj]; exact full (c + q) (by omega)) (by rw [jj, show c + (m - c) = m by omega]; exact free) with ⟨q, i, hq, hi, _, before, pr⟩ | ⟨before, pr⟩
    · have pr' : t.probe (fun i => (es[i]?.map (·.1)).getD 0) (rh w k) (from?.getD (t.probeStart (rh w k))) = some (.candidate (way t.mask (rh w k) (c + q)) i (step t (rh w k) (c + (q + 1)))) := by
        rw [hst, ← jj, ← step_add]
        exact pr
      rw [pr']
      dsimp only
      rw [jj] at hi
      have hil : i < L.length := by
        have z : i < t.place.toList.length := (List.getElem?_eq_some_iff.mp hi).1
        rw [R.placed] at z
        exact z
      obtain ⟨p, hp⟩ : ∃ p, L[i]? = some p := ⟨_, List.getElem?_eq_getElem hil⟩
      have inL : p ∈ L := List.mem_of_getElem? hp
      have here := ents_at R.rows hp
      have live : t.slot (way t.mask (rh w k) (c + q)) = .live i := slot_live R.tab.ris hi
      have after : wpAny (model P w) A (searchRest a (.ref x) (rh w k) true f es t (way t.mask (rh w k) (c + q)) i (step t (rh w k) (c + (q + 1)))) Q E s := by
        unfold searchRest
        rw [here]
        dsimp only
        refine wpAny_bind (wpAny_holding ((R.tup p inL).same hx hu ?_))
        refine wpAny_bind (wpAny_setState_of ho hd R.fits ?_)
        dsimp only
        by_cases hk : p.2 = k
        · exact wp_if_pos (by simp [hk]) (wpAny_pure (yes (List.mem_map.mpr ⟨p, inL, hk⟩)))
        · refine wp_if_neg (by simp [hk]) ?_
          try refine wpAny_bind (wpAny_pure ?_)
          rw [sameMem]
          dsimp only
          simp only [if_true, live, here]
          refine wpAny_bind (wpAny_isSame_ref_self (wpAny_bind (wpAny_pure ?_)))
          simp only [if_true]
          refine wp_if_neg (by simp [hk]) (ih (c + (q + 1)) _ rfl (by omega) (by omega) fun j r hr hrk => ?_)
          obtain ⟨d, d1, d2, d3⟩ := again j r hr hrk
          refine ⟨d, ?_, d2, d3⟩
          apply Classical.byContradiction
          intro z
          by_cases y : d = c + q
          · rw [y] at d3
            have e := slot_live R.tab.ris d3
            rw [live] at e
            injection e with e
            rw [← e, hp] at hr
            exact hk ((congrArg Prod.snd (Option.some.inj hr)).trans hrk)
          · exact before (d - c) j (by omega) (by rw [jj, show c + (d - c) = d by omega]; exact d3) ((hat j r hr).trans (congrArg (rh w) hrk))
      by_cases hl : t.led = true
      · refine wp_if_neg (by simp [hl]) ?_
        try refine wpAny_bind (wpAny_pure ?_)
        exact after
      · refine wp_if_pos (by simp [hl]) (wpAny_bind (unseen hx (fun y hy => ?_) ?_))
        · obtain ⟨e, he, rfl⟩ := List.mem_map.mp hy
          have he1 : e ∈ es ∧ e.1 = rh w k := by simpa using he
          have he2 : e ∈ es.toList := by simpa using he1.1
          rw [R.rows] at he2
          obtain ⟨r, hr, rfl⟩ := List.mem_map.mp he2
          exact ⟨r.2, r.1, rfl, R.tup r hr⟩
        · refine wp_if_neg (by decide) ?_
          try refine wpAny_bind (wpAny_pure ?_)
          exact after
    · have pr' : t.probe (fun i => (es[i]?.map (·.1)).getD 0) (rh w k) (from?.getD (t.probeStart (rh w k))) = some (.empty (way t.mask (rh w k) m) none) := by
        have e : way t.mask (rh w k) m = (nth t.mask (step t (rh w k) c) (m - c)).j := by rw [jj, show c + (m - c) = m by omega]
        rw [hst, e]
        exact pr
      rw [pr']
      dsimp only
      refine wpAny_pure (no fun hm' => ?_)
      obtain ⟨r, hr, hrk⟩ := List.mem_map.mp hm'
      obtain ⟨j, hj, rfl⟩ := List.getElem_of_mem hr
      obtain ⟨d, d1, d2, d3⟩ := again j _ (List.getElem?_eq_getElem hj) hrk
      exact before (d - c) j (by omega) (by rw [jj, show c + (d - c) = d by omega]; exact d3) ((hat j _ (List.getElem?_eq_getElem hj)).trans (congrArg (rh w) hrk))
/-- the search, as it is asked ahead of an addition -/
theorem look (R : SetR w s.heap a L es ep t) {x : Addr} {k : RK} (hx : IsR s.heap k x) (hu : A.units + 2 < cLine) {Q : SetFound → Shared → Prop} (yes : k ∈ L.map (·.2) → Q (.there none) s)
    (no : ∀ m, k ∉ L.map (·.2) → way t.mask (rh w k) m ∉ t.place.toList → (∀ c, c < m → way t.mask (rh w k) c ∈ t.place.toList) → Q (.free (way t.mask (rh w k) m) false) s) : wpAny (model P w) A (setSearch a (.ref x) (rh w k) true) Q E s := by
  have hroom := R.room
  obtain ⟨m, hm, free, full⟩ := R.tab.first (by rw [List.length_map]; omega) (rh w k)
  have small : 10 * SetTable.turns t.mask ≤ 1420 := by
    unfold SetTable.turns
    rcases R.tab.mok with e | e | e <;> omega
  unfold setSearch
  refine look_on R hx hu hm free full yes (fun z => no m z free full) 100000 0 none rfl (Nat.zero_le _) (by omega) fun i p hp hk => ?_
  have hi : (hs w L)[i]? = some (rh w k) := by rw [List.getElem?_map, hp, ← hk] <;> rfl
  have hil : i < t.place.toList.length := by rw [R.placed]; exact (List.getElem?_eq_some_iff.mp hp).1
  obtain ⟨c, hc, e⟩ := R.tab.before free hi (List.getElem?_eq_getElem hil)
  exact ⟨c, Nat.zero_le _, hc, by rw [List.getElem?_eq_getElem hil, e]⟩
end
end RS
set_option Elab.async false
set_option linter.all false
set_option maxRecDepth 100000
namespace RS
open PySem PySem.Spec PyProof.Rows L2
section
variable {P : Program} {w : World} {A : Around} {E : Value → Shared → Prop} {s : Shared} {a : Addr} {L : Ks} {es : Array (Int × Value)} {ep : Nat} {t : SetTable}
/-- entries picked out by an order of all places -/
theorem picked (ee : es.toList = ents w L) {order : Array Nat} (hp : order.toList.Perm (List.range L.length)) :
    ∃ M : Ks, (order.filterMap (es[·]?)).toList = ents w M ∧ M.Perm L ∧ hs w M = order.toList.map fun i => (es.map (·.1)).getD i 0 := by
  have pick : ∀ l : List Nat, (∀ i ∈ l, i < L.length) → l.filterMap (fun i => es[i]?) = ents w (l.filterMap fun i => L[i]?) ∧ hs w (l.filterMap fun i => L[i]?) = l.map fun i => (es.map (·.1)).getD i 0 := by
    intro l
    induction l with
    | nil => exact fun _ => ⟨rfl, rfl⟩
    | cons i l ih =>
      intro hl
      have hi := List.getElem?_eq_getElem (hl i List.mem_cons_self)
      have he := ents_at ee hi
      obtain ⟨e1, e2⟩ := ih fun j hj => hl j (List.mem_cons_of_mem _ hj)
      have e3 : (es.map (·.1)).getD i 0 = rh w (L[i]'(hl i List.mem_cons_self)).2 := by
        have e4 : (es.map (·.1))[i]? = some (rh w (L[i]'(hl i List.mem_cons_self)).2) := by rw [Array.getElem?_map, he, Option.map_some]
        rw [Array.getD_eq_getD_getElem?, e4, Option.getD_some]
      rw [List.filterMap_cons_some he, List.filterMap_cons_some hi, e1]
      refine ⟨by unfold ents; rw [List.map_cons], ?_⟩
      rw [List.map_cons, ← e2, e3]
      unfold hs
      rw [List.map_cons]
  have all : ∀ n, n ≤ L.length → (List.range n).filterMap (fun i => L[i]?) = L.take n := by
    intro n
    induction n with
    | zero => exact fun _ => rfl
    | succ n ih =>
      intro hn
      have e := List.getElem?_eq_getElem (show n < L.length from hn)
      rw [List.range_succ, List.filterMap_append, ih (Nat.le_of_succ_le hn), List.take_succ, e, List.filterMap_cons_some e]
      rfl
  obtain ⟨e1, e2⟩ := pick order.toList fun i hi => List.mem_range.mp (hp.mem_iff.mp hi)
  refine ⟨order.toList.filterMap fun i => L[i]?, ?_, ?_, e2⟩
  · rw [Array.toList_filterMap]
    exact e1
  · have q := hp.filterMap fun i => L[i]?
    rw [all L.length (Nat.le_refl _), List.take_length] at q
    exact q
/-- the table grows: laid anew -/
theorem regrown {o : Obj} (ho : s.heap.get? a = some o) (hex : o.ExactSet) (hd : o.data = .set es ep t) (ee : es.toList = ents w L) (T : TabOk t (hs w L)) (fit : L.length ≤ t.mask)
    (nd : (L.map (·.2)).Nodup) (tup : ∀ p ∈ L, IsR s.heap p.2 p.1) (pl : t.plain = true) (ld : w.params.followText "set-order" = true ∨ t.led = true) (few : L.length < 64) {wanted m : Nat}
    (hw : SetTable.sizeAbove wanted - 1 = m) (hm : MaskOk m) (hw2 : SetTable.sizeAbove wanted ≤ 128) (room : L.length * 5 < m * 3) {Q : Unit → Shared → Prop}
    (q : ∀ h' M es' ep' t', Heap.SameBut a s.heap h' → SetR w h' a M es' ep' t' → M.Perm L → Q () { s with heap := h' }) : wpAny (model P w) A (setRelay a wanted) Q E s := by
  have sz := ents_len ee
  have pz : t.place.size = L.length := by
    have z := T.sz
    rwa [List.length_map] at z
  have fits : t.fits es.size = true := by
    unfold SetTable.fits SetTable.fill
    rw [T.dm, Bool.and_eq_true, beq_iff_eq, decide_eq_true_eq, sz]
    show t.place.size = L.length ∧ t.place.size + 0 ≤ t.mask
    omega
  obtain ⟨u, order, e, hp, U, em, el, eP, _⟩ := relaid_ok t (hs := es.map (·.1)) (wanted := wanted) hw hm (by rw [Array.size_map, sz]; omega)
  rw [Array.size_map, sz] at hp
  obtain ⟨M, m1, m2, m3⟩ := picked ee hp
  rw [← m3] at U
  have sz2 : (order.filterMap (es[·]?)).size = es.size := by rw [ents_len m1, m2.length_eq, sz]
  rw [setRelay_eq]
  refine wpAny_bind (wpAny_setState_of ho hd fits ?_)
  dsimp only
  refine wp_if_neg (by rw [sizeLine_eq]; omega) ?_
  try refine wpAny_bind (wpAny_pure ?_)
  rw [e]
  dsimp only
  refine wpAny_bind ?_
  refine wp_if_neg (by rw [sz2]; simp) ?_
  try refine wpAny_bind (wpAny_pure ?_)
  refine wpAny_pure ?_
  dsimp only
  refine wpAny_storeSet_of ho hd ?_ (by rw [sz2, sz, sizeLine_eq]; omega)
  have sb : Heap.SameBut a s.heap (s.heap.update a (Obj.putSet (order.filterMap (es[·]?)) u)) := Heap.SameBut.update ..
  exact q _ M _ (ep + 1) u sb ⟨⟨_, store_at ho hd, ⟨hex.1, hex.2.1, hex.2.2⟩, rfl⟩, m1, U, (m2.map (·.2)).nodup_iff.mpr nd, fun p hp => (tup p (m2.mem_iff.mp hp)).but ho hd sb,
    by rw [eP]; exact pl, by rw [el]; exact ld, by rw [m2.length_eq, em]; exact room, by rw [m2.length_eq]; exact few⟩ m2
/-- one reading is added -/
theorem added (R : SetR w s.heap a L es ep t) {x : Addr} {k : RK} (hx : IsR s.heap k x) (hu : A.units + 2 < cLine) (few : L.length + 1 < 64) {Q : Bool → Shared → Prop}
    (q : ∀ b h' M es' ep' t', Heap.SameBut a s.heap h' → SetR w h' a M es' ep' t' → (k ∈ L.map (·.2) → M = L) → (k ∉ L.map (·.2) → M.Perm ((x, k) :: L)) → Q b { s with heap := h' }) :
    wpAny (model P w) A (setAddHashed a (.ref x) (rh w k)) Q E s := by
  obtain ⟨o, ho, hex, hd⟩ := R.ob
  have room := R.room
  unfold setAddHashed
  refine wpAny_holding ?_
  rw [show (100000 : Nat) = 99999 + 1 from rfl, setAddHashedIn_succ]
  refine wpAny_bind (wpAny_setState_of ho hd R.fits ?_)
  dsimp only
  refine wp_if_neg (by simp [byScan, Value.scannable]) ?_
  try refine wpAny_bind (wpAny_pure ?_)
  refine wpAny_bind (look R hx hu (fun there => ?_) fun m new free full => ?_)
  · dsimp only
    exact wpAny_pure (q false s.heap L es ep t (Heap.SameBut.refl a s.heap) R (fun _ => rfl) fun z => absurd there z)
  dsimp only
  refine wpAny_bind (wpAny_setState_of ho hd R.fits ?_)
  dsimp only
  obtain ⟨z1, z2, z3, z4, z5, z6, z7, z8, z9⟩ := R.tab.put free full
  have pl : (t.put (way t.mask (rh w k) m)).1.plain = true := by rw [z6]; exact R.plain
  generalize t.put (way t.mask (rh w k) m) = both at z1 z3 z4 z5 z9 pl ⊢
  obtain ⟨u, at?⟩ := both
  dsimp only at z1 z3 z4 z5 z9 pl ⊢
  subst z1
  first
    | (refine wpAny_bind ?_; refine wp_if_pos pl ?_; refine hx.byVal _ _ _ ?_)
    | refine wp_if_pos pl (wpAny_bind (hx.byVal _ _ _ ?_))
  simp only [if_true]
  generalize SetTable.below t.place (way t.mask (rh w k) m) = i at z2 z3 ⊢
  have pm : (L.take i ++ (x, k) :: L.drop i).Perm ((x, k) :: L) := by
    have y : (L.take i ++ (x, k) :: L.drop i).Perm ((x, k) :: (L.take i ++ L.drop i)) := List.perm_middle
    rwa [List.take_append_drop] at y
  have ee : (SetTable.insertAt es i (rh w k, Value.ref x)).toList = ents w (L.take i ++ (x, k) :: L.drop i) := by
    rw [SetTable.toList_insertAt, R.rows]
    unfold ents
    rw [List.map_append, List.map_cons, List.map_take, List.map_drop]
  have eh : (hs w L).take i ++ rh w k :: (hs w L).drop i = hs w (L.take i ++ (x, k) :: L.drop i) := by
    unfold hs
    rw [List.map_append, List.map_cons, List.map_take, List.map_drop]
  rw [eh] at z3
  generalize SetTable.insertAt es i (rh w k, Value.ref x) = es1 at ee ⊢
  generalize L.take i ++ (x, k) :: L.drop i = M at pm ee z3
  have ml : M.length = L.length + 1 := pm.length_eq
  have nd : (M.map (·.2)).Nodup := (pm.map (·.2)).nodup_iff.mpr (by rw [List.map_cons]; exact List.nodup_cons.mpr ⟨new, R.nd⟩)
  have sz := ents_len ee
  refine wpAny_bind (wpAny_storeSet_of ho hd ?_ (by rw [sz, ml, sizeLine_eq]; omega))
  have sb : Heap.SameBut a s.heap (s.heap.update a (Obj.putSet es1 u)) := Heap.SameBut.update ..
  have ho1 := store_at (es' := es1) (t' := u) ho hd
  generalize s.heap.update a (Obj.putSet es1 u) = h1 at sb ho1 ⊢
  have tup : ∀ p ∈ M, IsR h1 p.2 p.1 := fun p hp => by
    rcases List.mem_cons.mp (pm.mem_iff.mp hp) with e | hp
    · rw [e]; exact hx.but ho hd sb
    · exact (R.tup p hp).but ho hd sb
  have ld : w.params.followText "set-order" = true ∨ u.led = true := by rw [z5]; exact R.led
  rw [List.length_map] at z9
  by_cases hf : u.tooFull = true
  · first
      | (refine wpAny_bind ?_; refine wp_if_pos (by simp [hf]) ?_)
      | (refine wp_if_pos (by simp [hf]) ?_; refine wpAny_bind ?_)
    have hfull := hf
    unfold SetTable.tooFull at hfull
    rw [decide_eq_true_eq, z9, z4] at hfull
    rw [R.size]
    have two : (t.mask = 7 ∧ L.length = 4) ∨ (t.mask = 31 ∧ L.length = 18) := by
      rcases R.tab.mok with e | e | e
      · rw [e] at hfull room; exact .inl ⟨e, by omega⟩
      · rw [e] at hfull room; exact .inr ⟨e, by omega⟩
      · rw [e] at hfull; omega
    have go : ∀ m', SetTable.sizeAbove (SetTable.grown (L.length + 1)) - 1 = m' → MaskOk m' → SetTable.sizeAbove (SetTable.grown (L.length + 1)) ≤ 128 → (L.length + 1) * 5 < m' * 3 →
        wpAny (model P w) A (setRelay a (SetTable.grown (L.length + 1))) (fun _ s' => wpAny (model P w) A (pure true) Q E s') E { s with heap := h1 } := fun m' y1 y2 y3 y4 =>
      regrown (s := { s with heap := h1 }) ho1 ⟨hex.1, hex.2.1, hex.2.2⟩ rfl ee z3 (by rw [z4, ml]; rcases two with ⟨e, e2⟩ | ⟨e, e2⟩ <;> omega) nd tup pl ld (by rw [ml]; exact few) y1 y2 y3 (by rw [ml]; exact y4)
        fun h2 N es2 ep2 t2 sb2 R2 pm2 => wpAny_pure (q true h2 N es2 ep2 t2 (sb.trans sb2) R2 (fun z => absurd z new) fun _ => pm2.trans pm)
    rcases two with ⟨_, e2⟩ | ⟨_, e2⟩
    · exact go 31 (by rw [e2, size_20]) (.inr (.inl rfl)) (by rw [e2, size_20]; decide) (by omega)
    · exact go 127 (by rw [e2, size_76]) (.inr (.inr rfl)) (by rw [e2, size_76]; decide) (by omega)
  · first
      | refine wp_if_neg (by simp [hf]) ?_
      | (refine wpAny_bind ?_; refine wp_if_neg (by simp [hf]) ?_; refine wpAny_pure ?_)
    have roomy := hf
    unfold SetTable.tooFull at roomy
    rw [decide_eq_true_eq, z9] at roomy
    exact wpAny_pure (q true h1 M es1 (ep + 1) u sb ⟨⟨_, ho1, ⟨hex.1, hex.2.1, hex.2.2⟩, rfl⟩, ee, z3, nd, tup, pl, ld, by rw [ml]; omega, by rw [ml]; exact few⟩ (fun z => absurd z new) fun _ => pm)
theorem SetR.keep {h h' : Heap} (R : SetR w h a L es ep t) (ha : ∀ o, h.get? a = some o → h'.get? a = some o) (ht : ∀ p ∈ L, IsR h' p.2 p.1) : SetR w h' a L es ep t := by
  obtain ⟨o, ho, r⟩ := R.ob
  exact ⟨⟨o, ha o ho, r⟩, R.rows, R.tab, R.nd, ht, R.plain, R.led, R.room, R.few⟩
theorem setR_new {h : Heap} (ho : h.get? a = some { cls := .type "set", dict := none, data := .set #[] 0 (.fresh 0 0 (!w.params.followText "set-order")) }) : SetR w h a [] #[] 0 (.fresh 0 0 (!w.params.followText "set-order")) := by
  refine ⟨⟨_, ho, ⟨rfl, rfl, rfl⟩, rfl⟩, rfl, ⟨List.Pairwise.nil, rfl, rfl, .inl rfl, fun x hx => (by cases hx), fun i h j hi => (by simp at hi)⟩, List.nodup_nil, fun p hp => (by cases hp), rfl, ?_, (by show 0 * 5 < 7 * 3; decide), (by show 0 < 64; decide)⟩
  show _ ∨ (!w.params.followText "set-order") = true
  cases w.params.followText "set-order"
  · exact .inr rfl
  · exact .inl rfl
/-- what the first i items have brought into the set -/
structure Has (ks : Ks) (i : Nat) (L : Ks) : Prop where
  sub : ∀ p ∈ L, p ∈ ks.take i
  all : ∀ p ∈ ks.take i, p.2 ∈ L.map (·.2)
  len : L.length ≤ i
theorem Has.next {ks : Ks} {i : Nat} {M : Ks} {p : Addr × RK} (g : Has ks i L) (h : ks[i]? = some p) (c1 : p.2 ∈ L.map (·.2) → M = L) (c2 : p.2 ∉ L.map (·.2) → M.Perm (p :: L)) : Has ks (i + 1) M := by
  have e : ks.take (i + 1) = ks.take i ++ [p] := by rw [List.take_succ, h]; rfl
  rcases Classical.em (p.2 ∈ L.map (·.2)) with c | c
  · rw [c1 c]
    refine ⟨fun r hr => ?_, fun r hr => ?_, Nat.le_succ_of_le g.len⟩
    · rw [e]; exact List.mem_append_left _ (g.sub r hr)
    · rw [e] at hr
      rcases List.mem_append.mp hr with z | z
      · exact g.all r z
      · rw [List.mem_singleton.mp z]; exact c
  · have pm := c2 c
    refine ⟨fun r hr => ?_, fun r hr => ?_, ?_⟩
    · rw [e]
      rcases List.mem_cons.mp (pm.mem_iff.mp hr) with z | z
      · rw [z]; exact List.mem_append_right _ List.mem_cons_self
      · exact List.mem_append_left _ (g.sub r z)
    · rw [(pm.map (·.2)).mem_iff, List.map_cons]
      rw [e] at hr
      rcases List.mem_append.mp hr with z | z
      · exact List.mem_cons_of_mem _ (g.all r z)
      · rw [List.mem_singleton.mp z]; exact List.mem_cons_self
    · rw [pm.length_eq]
      exact Nat.succ_le_succ g.len
/-- the loop that fills a set from what is walked -/
theorem filled {I : Addr} {fp wr : List Addr} {G : Array GenState → Array GenState → Prop} {n : Nat} {Pv : Nat → Value → Prop} {St : Nat → Shared → Prop} {R : Result → Shared → Prop}
    (W : WalksS P w A.in1 I fp wr G n Pv St) (S : Addr) (hSf : S ∉ fp) (ks : Ks) (hn : n = ks.length) (few : ks.length < 64) (hval : ∀ i v, Pv i v → ∃ p, ks[i]? = some p ∧ v = .ref p.1)
    (h0 : Heap) (hk : ∀ p ∈ ks, IsR h0 p.2 p.1) (hS0 : h0.get? S = none) (hw0 : ∀ b ∈ wr, h0.get? b = none) (hu : A.in1.units + 2 < cLine) :
    ∀ (k i : Nat) (s : Shared), n - i = k → i ≤ n → St i s → (∀ b o, h0.get? b = some o → s.heap.get? b = some o) → (∃ L es ep t, SetR w s.heap S L es ep t ∧ Has ks i L) →
      (∀ s' L es ep t, Moved (S :: wr) G s s' → SetR w s'.heap S L es ep t → Has ks n L → (∀ b o, h0.get? b = some o → s'.heap.get? b = some o) → R (.ok (.ret .none)) s') →
      codeAny (model P w) A (.builtin "set.update.loop" ⟨[.ref S, .ref I], []⟩) R s := by
  have hSw : S ∉ wr := fun h => hSf (W.sub _ h)
  have hsub : ∀ b ∈ wr, b ∈ S :: wr := fun b hb => List.mem_cons_of_mem _ hb
  have old : ∀ {s s' : Shared}, Moved wr G s s' → (∀ b o, h0.get? b = some o → s.heap.get? b = some o) → ∀ b o, h0.get? b = some o → s'.heap.get? b = some o := fun hm kp b o e =>
    hm.heap b o (fun hb => by rw [hw0 b hb] at e; cases e) (kp b o e)
  intro k
  induction k with
  | zero =>
    intro i s hk' hi st kp ⟨L, es, ep, t, hS, g⟩ q
    obtain rfl : i = n := by omega
    refine codeAny_builtin F.entry_set_update_loop ?_
    rw [Around.under_plainId F.plain_set_update_loop _]
    show wpAny _ A.in1 (pyNext (.ref I) >>= _) _ _ s
    refine wpAny_bind (W.done s _ _ st fun s' hm => ?_)
    show wpAny _ A.in1 (ret Value.none) _ _ s'
    exact wpAny_pure (q s' L es ep t (hm.mono hsub) (hS.keep (fun o e => hm.heap S o hSw e) fun p hp => (hk p (List.mem_of_mem_take (g.sub p hp))).keep (old hm kp)) g (old hm kp))
  | succ k ih =>
    intro i s hk' hi st kp ⟨L, es, ep, t, hS, g⟩ q
    have lt : i < n := by omega
    refine codeAny_builtin F.entry_set_update_loop ?_
    rw [Around.under_plainId F.plain_set_update_loop _]
    show wpAny _ A.in1 (pyNext (.ref I) >>= _) _ _ s
    refine wpAny_bind (W.item i s _ _ lt st fun v s' hP st' hm => ?_)
    obtain ⟨p, hp, rfl⟩ := hval i v hP
    have kp' := old hm kp
    have hS' : SetR w s'.heap S L es ep t := hS.keep (fun o e => hm.heap S o hSw e) fun r hr => (hk r (List.mem_of_mem_take (g.sub r hr))).keep kp'
    have hx : IsR s'.heap p.2 p.1 := (hk p (List.mem_of_getElem? hp)).keep kp'
    show wpAny _ A.in1 (holding [Value.ref p.1] (setAdd S (.ref p.1)) >>= _) _ _ s'
    refine wpAny_bind (wpAny_holding ?_)
    unfold setAdd
    refine wpAny_holding ?_
    refine wpAny_bind (hx.hashed hu ?_)
    refine added (s := { s' with toks := s'.toks + (nk p.2).draws }) hS' hx hu (by have := g.len; omega) fun b h' M es' ep' t' sb hM c1 c2 => ?_
    have kp2 : ∀ b o, h0.get? b = some o → h'.get? b = some o := fun b o e => (sb.2 b (fun z => by rw [z, hS0] at e; cases e)).trans (kp' b o e)
    refine wpAny_pure ⟨plainId_quiet F.plain_set_update_loop _, ih (i + 1) _ (by omega) lt (W.frame _ s' _ _ st' (Nat.le_add_right _ _) fun b hb o e => ?_) kp2 ⟨M, es', ep', t', hM, g.next hp c1 c2⟩ fun s'' N es2 ep2 t2 hm2 hN g2 kp3 => ?_⟩
    · rw [sb.2 b (fun h : b = S => hSf (by rw [← h]; exact hb))]; exact e
    · refine q s'' N es2 ep2 t2 (Moved.trans W.gtrans ((hm.mono hsub).then_heap (Nat.le_add_right _ _) fun b o hb e => ?_) hm2) hN g2 kp3
      rw [sb.2 b (fun h : b = S => hb (by rw [h]; exact List.mem_cons_self))]; exact e
end
end RS
set_option Elab.async false
set_option linter.all false
set_option maxRecDepth 100000
namespace RS
open PySem PySem.Spec PyProof.Rows L2
abbrev bareSet (w : World) : Obj := { cls := .type "set", dict := none, data := .set #[] 0 (.fresh 0 0 (!w.params.followText "set-order")) }
section
variable {P : Program} {w : World} {A : Around} {E : Value → Shared → Prop} {s : Shared}
theorem beyond {h : Heap} {b : Addr} (hb : h.objs.size ≤ b) : h.get? b = none := by
  cases q : h.get? b with
  | none => rfl
  | some o => exact absurd (Nat.lt_of_lt_of_le (Heap.lt_size q) hb) (Nat.lt_irrefl _)
set_option maxHeartbeats 3200000 in
/-- set(xs), xs a list of readings -/
theorem set_call {l : Addr} {items : Array Value} (ks : Ks) {Q : Value → Shared → Prop} (hh : A.handled = none) (hl : s.heap.IsList l items) (hit : items.toList = ks.map fun p => Value.ref p.1)
    (hk : ∀ p ∈ ks, IsR s.heap p.2 p.1) (few : ks.length < 64) (hu : A.units + 8 < cLine)
    (q : ∀ (h' : Heap) (tk : Nat) L es ep t, SetR w h' s.heap.objs.size L es ep t → Has ks ks.length L → (∀ b o, s.heap.get? b = some o → h'.get? b = some o) → Q (.ref s.heap.objs.size) { s with heap := h', toks := tk }) :
    wpAny (model P w) A (call (.type "set") [.ref l]) Q E s := by
  have many : items.size = ks.length := by
    have z := congrArg List.length hit
    rwa [Array.length_toList, List.length_map] at z
  obtain ⟨c, tl, hmro⟩ := F.called_set.mro
  have hmade := F.called_set.made
  have hsub := F.called_set.sub
  refine wpAny_call (codeAny_of_tree ?_)
  show wpAny _ _ (callAny (.type "set") _) _ _ _
  refine wpAny_pure ⟨Code.quiet_builtin _ (by decide +kernel), codeAny_builtin F.entry_type_call ?_⟩
  rw [Around.under_plain (weight_type_call_type "set" [.ref l] []) rfl]
  have h1 := F.called_set.notType
  have h2 := F.called_set.canCreate
  have hct := F.typeCall_set_1 (.ref l)
  repeat (any_goals (first | assumption | wp_step))
  refine codeAny_mono (code_set_led1 (.ref l) (E := E) (Q₁ := fun obj s1 => obj = .ref s.heap.objs.size ∧ s1 = { s with heap := s.heap.push (bareSet w) }) ⟨rfl, rfl⟩) fun r s1 hr => ?_
  cases r with
  | error e => exact hr
  | ok fl =>
    cases fl with
    | ret obj =>
      obtain ⟨rfl, rfl⟩ := hr
      have hS : (s.heap.push (bareSet w)).get? s.heap.objs.size = some (bareSet w) := Heap.get?_push_size _ rfl
      have hT : Shared.TypeIs { s with heap := s.heap.push (bareSet w) } (.ref s.heap.objs.size) "set" := ⟨_, hS, rfl⟩
      have hli := F.called_set.init.lookup
      have hbi := F.called_set.init.bind (.ref s.heap.objs.size)
      repeat (any_goals (first | assumption | wp_step))
      refine codeAny_mono (codeAny_call_builtin (R := wants (fun r s2 => r = .none ∧ ∃ h' tk L es ep t, s2 = { s with heap := h', toks := tk } ∧ SetR w h' s.heap.objs.size L es ep t ∧ Has ks ks.length L ∧
          (∀ b o, s.heap.get? b = some o → h'.get? b = some o)) E) F.called_set.init.plain F.entry_set_init (check_set_init_1 hT ?_)) fun r2 s2 hr2 => ?_
      · obtain ⟨ol, hol, hcl, nl, hdl⟩ := hl
        obtain ⟨ocls, odict, odata, oslots⟩ := ol
        simp only at hcl hdl
        subst hcl; subst hdl
        have hol' : (s.heap.push (bareSet w)).get? l = some { cls := .type "list", dict := odict, data := .seq items nl, slots := oslots } := Heap.get?_push_of_some _ hol
        have hsls := F.sub_list_set
        have hslf := F.sub_list_frozenset
        have hne : (Value.type "list" == Value.type "dict") = false := by decide
        have hl1 : (s.heap.push (bareSet w)).IsList l items := ⟨_, hol', rfl, nl, rfl⟩
        unfold Builtin.«set.__init__» noKeywords Builtin.Frozenset.updateFrom
        generalize hPI : pyIter = PI
        wp_walk
        subst hPI
        refine wpAny_pyIter_list hl1 ?_
        refine wpAny_bind (wpAny_runValue ?_)
        have lS : l < s.heap.objs.size := Heap.lt_size hol
        have hh3 : A.in1.in1.in1.handled = none := by simp [hh]
        have z1 : (s.heap.push (bareSet w)).objs.size = s.heap.objs.size + 1 := Heap.size_push ..
        have neI : l ≠ (s.heap.push (bareSet w)).objs.size := by
          rw [z1]; exact Nat.ne_of_lt (Nat.lt_succ_of_lt lS)
        have hSf : s.heap.objs.size ∉ [(s.heap.push (bareSet w)).objs.size, l] := by
          rw [z1]; simp only [List.mem_cons, List.mem_singleton, List.not_mem_nil, or_false, not_or]
          exact ⟨Nat.ne_of_lt (Nat.lt_succ_self _), Nat.ne_of_gt lS⟩
        have hval : ∀ (i : Nat) (v : Value), items[i]? = some v → ∃ p, ks[i]? = some p ∧ v = .ref p.1 := fun i v hv => by
          have z : items.toList[i]? = some v := by rw [Array.getElem?_toList]; exact hv
          rw [hit, List.getElem?_map] at z
          cases y : ks[i]? with
          | none => rw [y] at z; cases z
          | some p =>
            rw [y] at z
            exact ⟨p, rfl, (Option.some.inj z).symm⟩
        refine filled ((Walks.list hh3 _ l neI items).toS) s.heap.objs.size
          hSf ks many few hval s.heap hk (beyond (Nat.le_refl _)) (fun b hb => beyond (by
            rw [List.mem_singleton.mp hb, z1]
            exact Nat.le_succ _)) (by simp only [Around.in1_units] at *; omega) (items.size - 0) 0 _ (by omega) (Nat.zero_le _)
          ⟨⟨_, Heap.get?_push_size _ rfl, rfl, rfl⟩, (hl1.push _)⟩ (fun b o e => Heap.get?_push_of_some _ (Heap.get?_push_of_some _ e)) ?hS0 ?hR
        case hS0 =>
          exact ⟨[], #[], 0, _, setR_new (Heap.get?_push_of_some _ hS), ⟨fun p h => (by cases h), fun p h => (by simp at h), Nat.le_refl _⟩⟩
        case hR =>
          intro s' L es ep t hm hS' g' kp
          obtain ⟨h', g2, d', tk', os'⟩ := s'
          obtain rfl : g2 = s.gens := hm.gens
          obtain rfl : d' = s.drawn := hm.drawn
          obtain rfl : os' = s.os := hm.os
          show wpAny _ _ _ _ _ _
          refine wpAny_pure ?_
          show wpAny _ _ (ret Value.none) _ _ _
          rw [many] at g'
          exact wpAny_pure ⟨rfl, h', tk', L, es, ep, t, rfl, hS', g', kp⟩
      · cases r2 with
        | error e => exact hr2
        | ok fl2 =>
          cases fl2 with
          | ret r =>
            obtain ⟨rfl, h', tk, L, es, ep, t, rfl, hS', g', hk'⟩ := hr2
            repeat (any_goals (first | assumption | wp_step))
            exact q _ _ _ _ _ _ hS' g' hk'
          | _ => exact hr2.elim
    | _ => exact hr.elim
end
end RS
set_option Elab.async false
set_option linter.all false
set_option maxRecDepth 100000
namespace RS
open PySem PySem.Spec PyProof.Rows L2
/-! ### the order of readings -/
def rlt (j k : RK) : Prop := j.1 < k.1 ∨ (j.1 = k.1 ∧ (j.2.1 < k.2.1 ∨ (j.2.1 = k.2.1 ∧ j.2.2 < k.2.2)))
instance (j k : RK) : Decidable (rlt j k) := by unfold rlt; exact inferInstance
theorem rlt_irrefl (j : RK) : ¬ rlt j j := fun h => by
  rcases h with h | ⟨_, h | ⟨_, h⟩⟩
  · exact absurd h (Int.lt_irrefl _)
  · exact absurd h (Int.lt_irrefl _)
  · exact List.lt_irrefl _ h
theorem rlt_trans {i j k : RK} (x : rlt i j) (y : rlt j k) : rlt i k := by
  rcases x with x | ⟨x1, x⟩
  · rcases y with y | ⟨y1, _⟩
    · exact .inl (Int.lt_trans x y)
    · exact .inl (y1 ▸ x)
  · rcases y with y | ⟨y1, y⟩
    · exact .inl (x1 ▸ y)
    · refine .inr ⟨x1.trans y1, ?_⟩
      rcases x with x | ⟨x2, x⟩
      · rcases y with y | ⟨y2, _⟩
        · exact .inl (Int.lt_trans x y)
        · exact .inl (y2 ▸ x)
      · rcases y with y | ⟨y2, y⟩
        · exact .inl (x2 ▸ y)
        · exact .inr ⟨x2.trans y2, List.lt_trans x y⟩
theorem rlt_total (j k : RK) : rlt j k ∨ j = k ∨ rlt k j := by
  obtain ⟨a, b, c⟩ := j
  obtain ⟨a', b', c'⟩ := k
  rcases Int.lt_trichotomy a a' with h | rfl | h
  · exact .inl (.inl h)
  · rcases Int.lt_trichotomy b b' with h | rfl | h
    · exact .inl (.inr ⟨rfl, .inl h⟩)
    · by_cases h : c < c'
      · exact .inl (.inr ⟨rfl, .inr ⟨rfl, h⟩⟩)
      · by_cases h' : c' < c
        · exact .inr (.inr (.inr ⟨rfl, .inr ⟨rfl, h'⟩⟩))
        · have e : c = c' := List.le_antisymm (List.not_lt.mp h') (List.not_lt.mp h)
          exact .inr (.inl (by rw [e]))
    · exact .inr (.inr (.inr ⟨rfl, .inl h⟩))
  · exact .inr (.inr (.inl h))
theorem rlt_not {j k : RK} (h : ¬ rlt j k) : j = k ∨ rlt k j := (rlt_total j k).resolve_left h
/-- two rows without repetition, both ascending, with the same members, are one -/
theorem asc_one : ∀ {xs ys : List RK}, xs.Pairwise rlt → ys.Pairwise rlt → (∀ k, k ∈ xs ↔ k ∈ ys) → xs = ys
  | [], [], _, _, _ => rfl
  | [], y :: ys, _, _, h => absurd ((h y).mpr List.mem_cons_self) (by simp)
  | x :: xs, [], _, _, h => absurd ((h x).mp List.mem_cons_self) (by simp)
  | x :: xs, y :: ys, hx, hy, h => by
    obtain ⟨hx1, hx2⟩ := List.pairwise_cons.mp hx
    obtain ⟨hy1, hy2⟩ := List.pairwise_cons.mp hy
    have e : x = y := by
      rcases List.mem_cons.mp ((h x).mp List.mem_cons_self) with e | z
      · exact e
      · rcases List.mem_cons.mp ((h y).mpr List.mem_cons_self) with e | z'
        · exact e.symm
        · exact absurd (rlt_trans (hx1 y z') (hy1 x z)) (rlt_irrefl _)
    subst e
    rw [asc_one hx2 hy2 fun k => ⟨fun z => ?_, fun z => ?_⟩]
    · rcases List.mem_cons.mp ((h k).mp (List.mem_cons_of_mem _ z)) with e | z'
      · exact absurd (e ▸ hx1 k z) (rlt_irrefl _)
      · exact z'
    · rcases List.mem_cons.mp ((h k).mpr (List.mem_cons_of_mem _ z)) with e | z'
      · exact absurd (e ▸ hy1 k z) (rlt_irrefl _)
      · exact z'
def enc (k : RK) : PyData := .tuple [.int k.1, .int k.2.1, .tuple (k.2.2.map .int)]
theorem alike_enc (j k : RK) : PySem.W.alike (enc j) (enc k) = true := by
  unfold enc
  simp only [PySem.W.alike, PySem.W.alikeAll, PySem.W.alike_ints, Bool.and_true]
theorem lt_enc (j k : RK) : PySem.W.dataLt (enc j) (enc k) = decide (rlt j k) := by
  unfold enc
  have e0 : PyProof.Rows.lexLt itemOrd (PySem.W.keyToksAll []) (PySem.W.keyToksAll []) = false := lex_irrefl _
  have e1 : PySem.W.alike (.tuple (j.2.2.map .int)) (.tuple (k.2.2.map .int)) = true := by simp only [PySem.W.alike, PySem.W.alike_ints]
  have e2 : PySem.W.dataLt (.tuple (j.2.2.map .int)) (.tuple (k.2.2.map .int)) = decide (j.2.2 < k.2.2) := by
    rw [PySem.W.dataLt_tuple]
    exact PySem.W.dataLt_ints _ _
  have e3 : PyData.eqv (.tuple (j.2.2.map .int)) (.tuple (k.2.2.map .int)) = decide (j.2.2 = k.2.2) := by
    have key : ∀ xs ys : List Int, PyData.eqvAll (xs.map .int) (ys.map .int) = decide (xs = ys) := by
      intro xs
      induction xs with
      | nil => intro ys; cases ys <;> simp [PyData.eqvAll]
      | cons x xs ih =>
        intro ys
        cases ys with
        | nil => simp [PyData.eqvAll]
        | cons y ys =>
          simp [PyData.eqvAll, PyData.eqv, ih]
          by_cases e : x = y <;> simp [e]
    simp only [PyData.eqv, key]
  rw [PySem.W.dataLt_tuple, PySem.W.dataLt_cons (by simp only [PySem.W.alike]), PySem.W.dataLt_cons (by simp only [PySem.W.alike]), PySem.W.dataLt_cons e1, e0, e2, e3, PySem.W.dataLt_int, PySem.W.dataLt_int]
  simp only [PyData.eqv, beq_iff_eq]
  unfold rlt
  obtain ⟨a, b, c⟩ := j
  obtain ⟨a', b', c'⟩ := k
  dsimp only
  by_cases h1 : a = a'
  · by_cases h2 : b = b'
    · by_cases h3 : c = c'
      · simp [h1, h2, h3, List.lt_irrefl]
      · simp [h1, h2, h3]
    · simp [h1, h2]
  · simp [h1]
theorem depth_enc (k : RK) : (enc k).depth ≤ 2 := by
  unfold enc
  simp [PyData.depth, PyData.depthAll, PySem.W.depth_ints]
/-- the readings in their order, equal ones side by side -/
def ordered (L : Ks) : Ks := L.mergeSort (PySem.W.dataLe false fun p => enc p.2)
theorem le_enc : (PySem.W.dataLe false fun p : Addr × RK => enc p.2) = fun p q => !decide (rlt q.2 p.2) := by
  funext p q
  rw [PySem.W.dataLe_eq]
  show (!PySem.W.dataLt (enc q.2) (enc p.2)) = _
  rw [lt_enc]
theorem ordered_perm (L : Ks) : (ordered L).Perm L := List.mergeSort_perm _ _
theorem ordered_asc (L : Ks) : (ordered L).Pairwise fun p q => ¬ rlt q.2 p.2 := by
  unfold ordered
  rw [le_enc]
  refine (List.pairwise_mergeSort (fun p q r h1 h2 => ?_) (fun p q => ?_) L).imp fun {p q} h => by simpa using h
  · simp only [Bool.not_eq_true', decide_eq_false_iff_not] at h1 h2 ⊢
    intro z
    rcases rlt_not h1 with e | h1'
    · exact h2 (e ▸ z)
    · exact h2 (rlt_trans z h1')
  · simp only [Bool.or_eq_true, Bool.not_eq_true', decide_eq_false_iff_not]
    rcases rlt_total q.2 p.2 with h | h | h
    · exact .inr fun z => rlt_irrefl _ (rlt_trans h z)
    · exact .inl fun z => rlt_irrefl _ (h ▸ z)
    · exact .inl fun z => rlt_irrefl _ (rlt_trans h z)
theorem ordered_strict {L : Ks} (nd : (L.map (·.2)).Nodup) : ((ordered L).map (·.2)).Pairwise rlt := by
  have n2 : ((ordered L).map (·.2)).Nodup := ((ordered_perm L).map _).nodup_iff.mpr nd
  have q : ((ordered L).map (·.2)).Pairwise fun j k => ¬ rlt k j := List.pairwise_map.mpr (ordered_asc L)
  exact (List.Pairwise.and q n2).imp fun {j k} h => (rlt_not h.1).elim (fun e => absurd e.symm h.2) id
section
variable {P : Program} {w : World} {A : Around} {E : Value → Shared → Prop} {s : Shared}
theorem reads_ints {h : Heap} : ∀ {xs : List Int} {vs : List Value}, IntsAre vs xs → ∃ as, ReadsAll h vs (xs.map .int) as
  | _, _, .nil => ⟨_, .nil⟩
  | _, _, .cons i t r => by
    obtain ⟨as, q⟩ := reads_ints r
    exact ⟨_, .cons (.int i t) q⟩
end
end RS
set_option Elab.async false
set_option linter.all false
set_option maxRecDepth 100000
namespace RS
open PySem PySem.Spec PyProof.Rows L2
def refs (L : Ks) : List Value := L.map fun p => Value.ref p.1
section
variable {P : Program} {w : World} {A : Around} {E : Value → Shared → Prop} {s : Shared}
/-- the tuple at a reads as the reading k -/
def ReadR (h : Heap) (k : RK) (a : Addr) : Prop := Reads h (.ref a) (enc k) []
theorem isT_ref : ∀ (L : Ks), PySem.W.EachIs (fun (v : Value) (p : Addr × RK) => v = .ref p.1) (refs L) L
  | [] => .nil
  | p :: L => .cons rfl (isT_ref L)
theorem refs_of : ∀ {out : List Value} {L : Ks}, PySem.W.EachIs (fun (v : Value) (p : Addr × RK) => v = .ref p.1) out L → out = refs L
  | _, _, .nil => rfl
  | _, _, .cons h t => by rw [h, refs_of t]; rfl
theorem each_read {h : Heap} : ∀ {L : Ks}, (∀ p ∈ L, ReadR h p.2 p.1) → PySem.W.EachIs (fun (v : Value) (p : Addr × RK) => ∃ as, Reads h v (enc p.2) as) (refs L) L
  | [], _ => .nil
  | p :: L, q => .cons ⟨_, q p List.mem_cons_self⟩ (each_read fun r hr => q r (List.mem_cons_of_mem _ hr))
theorem all_alike (L : Ks) : PySem.W.AllAlike (L.map fun p => enc p.2) := PySem.W.AllAlike.of fun _ _ => alike_enc _ _
theorem sortable (L : Ks) : PySem.W.Sortable (L.map fun p => enc p.2) := PySem.W.Sortable.tuples fun p => ⟨.int p.2.1, [.int p.2.2.1, .tuple (p.2.2.2.map .int)], rfl⟩
/-- sorted(xs) of a list of readings -/
theorem sorted_rows {l : Addr} {L : Ks} {Q : Value → Shared → Prop} (hl : s.heap.IsList l (refs L).toArray) (hr : ∀ p ∈ L, ReadR s.heap p.2 p.1) (few : L.length ≤ 1000) (hu : A.units + 8 < cLine)
    (q : Q (.ref (s.heap.objs.size + 1)) { s with heap := sortedAll s.heap (refs L) (refs (ordered L)).toArray }) : wpAny (model P w) A (call (.builtin "sorted") [.ref l]) Q E s :=
  PySem.W.sorted_data (R := fun v p => v = .ref p.1) (enc := fun p : Addr × RK => enc p.2) hl (isT_ref L) (each_read hr) (all_alike L) (sortable L) (by rw [sizeLine_eq]; omega)
    (fun p _ => by have := depth_enc p.2; omega) fun out _ e => by rw [refs_of e]; exact q
/-- sorted(x) of a set of readings -/
theorem sorted_set {a : Addr} {L : Ks} {es : Array (Int × Value)} {ep : Nat} {t : SetTable} {Q : Value → Shared → Prop} (R : SetR w s.heap a L es ep t) (hr : ∀ p ∈ L, ReadR s.heap p.2 p.1) (hh : A.handled = none) (hu : A.units + 8 < cLine)
    (q : ∀ s' p (c : Nat) (M : Ks), (∀ b o, s.heap.get? b = some o → s'.heap.get? b = some o) → s'.gens = s.gens → s'.os = s.os → s.heap.objs.size ≤ p →
      s'.heap.get? p = some (seqObj "list" (refs M).toArray c) → M.Perm L → (M.map (·.2)).Pairwise rlt → Q (.ref p) s') :
    wpAny (model P w) A (call (.builtin "sorted") [.ref a]) Q E s := by
  obtain ⟨o, ho, hex, hd⟩ := R.ob
  have sz := R.size
  have few := R.few
  refine Calls.call_function_entry kind_sorted plain_sorted entry_sorted (args_sorted1 _) ?_
  unfold Builtin.«sorted»
  refine wpAny_bind (m := checkCount "sorted" 1 1 _) (wpAny_pure ?_)
  refine wpAny_bind (collect_set (A := A.in1) hh ⟨o, ho, hex.1, hd⟩ R.fits (by unfold scanBound; omega) R.tab.ris R.led fun s1 vs k1 hz g1 o1 pm => ?_)
  have vals : es.toList.map (·.2) = refs L := by
    rw [R.rows]
    unfold ents refs
    rw [List.map_map]
    rfl
  rw [vals] at pm
  have back : ∀ vs : List Value, (∀ v ∈ vs, ∃ p ∈ L, v = Value.ref p.1) → ∃ N : Ks, vs = refs N ∧ ∀ p ∈ N, p ∈ L := by
    intro vs
    induction vs with
    | nil => exact fun _ => ⟨[], rfl, fun p hp => (by cases hp)⟩
    | cons v vs ih =>
      intro hv
      obtain ⟨p, hp, e⟩ := hv v List.mem_cons_self
      obtain ⟨N, e1, hs⟩ := ih fun u hu => hv u (List.mem_cons_of_mem _ hu)
      refine ⟨p :: N, by rw [e, e1]; rfl, fun r hr => ?_⟩
      rcases List.mem_cons.mp hr with z | z
      · rw [z]; exact hp
      · exact hs r z
  obtain ⟨N, rfl, inL⟩ := back vs fun v hv => by
    obtain ⟨p, hp, e⟩ := List.mem_map.mp (pm.mem_iff.mp hv)
    exact ⟨p, hp, e.symm⟩
  have one : ∀ p ∈ L, ∀ r ∈ L, p.1 = r.1 → p = r := fun p hp r hr e => by
    have x := R.tup p hp
    rw [e] at x
    exact Prod.ext e (x.inj (R.tup r hr))
  have nL : L.Nodup := List.Pairwise.of_map (fun p : Addr × RK => p.2) (fun _ _ hne e => hne (congrArg (·.2) e)) R.nd
  have nref : (refs L).Nodup := by
    refine List.pairwise_map.mpr (List.Pairwise.imp_of_mem (fun {p r} hp hr hne e => ?_) nL)
    injection e with e
    exact hne (one p hp r hr e)
  have nN : N.Nodup := List.Pairwise.of_map (fun p : Addr × RK => Value.ref p.1) (fun _ _ hne e => hne (congrArg (fun p : Addr × RK => Value.ref p.1) e)) (pm.nodup_iff.mpr nref)
  have pN : N.Perm L := (List.perm_ext_iff_of_nodup nN nL).mpr fun p => ⟨inL p, fun hp => by
    obtain ⟨r, hr, e⟩ := List.mem_map.mp (pm.mem_iff.mpr (List.mem_map.mpr ⟨p, hp, rfl⟩))
    injection e with e
    rw [← one r (inL r hr) p hp e]
    exact hr⟩
  have len : (refs N).length = L.length := by rw [pm.length_eq]; unfold refs; rw [List.length_map]
  refine wpAny_bind (wpAny_newList ?_ (by rw [sizeLine_eq, len]; omega))
  have hoL : (s1.heap.push (seqObj "list" (refs N).toArray 0)).get? s1.heap.objs.size = some (seqObj "list" (refs N).toArray 0) := Heap.get?_push_size _ rfl
  have rd : ∀ p ∈ N, ∃ as, Reads (s1.heap.push (seqObj "list" (refs N).toArray 0)) (.ref p.1) (enc p.2) as ∧ s1.heap.objs.size ∉ as := fun p hp => by
    exact ⟨[], PyProof.Rows.Reads.keeps (fun b o e => Heap.get?_push_of_some _ (k1 b o e)) (hr p (inL p hp)), by simp⟩
  have er : PySem.W.EachIs (fun (v : Value) (p : Addr × RK) => ∃ as, Reads (s1.heap.push (seqObj "list" (refs N).toArray 0)) v (enc p.2) as ∧ s1.heap.objs.size ∉ as) (refs N) N := by
    have go : ∀ M : Ks, (∀ p ∈ M, p ∈ N) → PySem.W.EachIs (fun (v : Value) (p : Addr × RK) => ∃ as, Reads (s1.heap.push (seqObj "list" (refs N).toArray 0)) v (enc p.2) as ∧ s1.heap.objs.size ∉ as) (refs M) M := by
      intro M
      induction M with
      | nil => exact fun _ => .nil
      | cons p M ih => exact fun z => .cons (rd p (z p List.mem_cons_self)) (ih fun r hr => z r (List.mem_cons_of_mem _ hr))
    exact go N fun _ z => z
  refine wpAny_bind (wpAny_holding (PySem.W.list_sort_data (R := fun v p => v = .ref p.1) (s := { s1 with heap := s1.heap.push (seqObj "list" (refs N).toArray 0) }) (enc := fun p : Addr × RK => enc p.2) hoL (isT_ref N) er (all_alike N) (sortable N) (by
    have z := pN.length_eq
    rw [sizeLine_eq]; omega) (fun p _ => by have := depth_enc p.2; simp only [Around.in1_units]; omega) fun out _ e => ?_))
  have e' : out = refs (ordered N) := refs_of e
  subst e'
  obtain ⟨c, hc⟩ := sortedHeap_at (vs := refs N) (out := (refs (ordered N)).toArray) hoL
  refine wpAny_pure ⟨_, rfl, q _ s1.heap.objs.size c (ordered N) (fun b u e => ?_) g1 o1 hz hc ((ordered_perm N).trans pN) (ordered_strict ((pN.map _).nodup_iff.mpr R.nd))⟩
  have z := k1 b u e
  have lt := Heap.lt_size z
  show (sortedHeap (s1.heap.push (seqObj "list" (refs N).toArray 0)) s1.heap.objs.size (refs N) _).get? b = some u
  rw [sortedHeap_old (Nat.ne_of_lt lt) (by rw [size_push']; exact Nat.lt_succ_of_lt lt)]
  exact Heap.get?_push_of_some _ z
end
end RS

namespace RS
open PySem PySem.Spec PyProof.Rows L2
/-! ### the rules over the layer -/
/-- the tuple at a is the reading k -/
def RdAt (K : PySem.W.Frag) (H : Hp) (a : Addr) (k : RK) : Prop := ∃ t, SqT K H a [.int k.1, .int k.2.1, .ref t] ∧ SqT K H t (k.2.2.map V.int)
section
variable {X : Cx} {pins : List (Addr × Obj)} {σ : L2.St} {H : Hp} {s : Shared}
theorem reads_of : ∀ {xs : List Int} {us : List Value}, Vals (xs.map V.int) us → NestedAll s.heap (xs.map .num) us ∧ ReadsAll s.heap us (xs.map .int) []
  | [], _, .nil => ⟨.nil, .nil⟩
  | x :: xs, _, .cons r t => by
    obtain ⟨tk, rfl⟩ := r
    obtain ⟨a, b⟩ := reads_of t
    exact ⟨.cons (.int x tk) a, .cons (.int x tk) b⟩
theorem rd_is {a : Addr} {k : RK} (I : Inv X pins σ H s) (h : RdAt X.K H a k) : IsR s.heap k a ∧ ReadR s.heap k a := by
  obtain ⟨t, h1, h2⟩ := h
  obtain ⟨its, r, ⟨o, ho, hc, n, hd⟩, _⟩ := I.tuple h1
  obtain ⟨its2, r2, ⟨o2, ho2, hc2, n2, hd2⟩, _⟩ := I.tuple h2
  obtain ⟨a1, a2⟩ := reads_of (s := s) r2
  cases r with
  | cons x1 r =>
    cases r with
    | cons x2 r =>
      cases r with
      | cons x3 r =>
        cases r
        obtain ⟨t1, rfl⟩ := x1
        obtain ⟨t2, rfl⟩ := x2
        cases x3
        exact ⟨.tup ho hc hd (by simpa using .cons (.int _ t1) (.cons (.int _ t2) (.cons (.tup ho2 hc2 hd2 (by simpa using a1)) .nil))),
          .tuple ho hc hd (by simpa using ReadsAll.cons (Reads.int k.1 t1) (.cons (.int k.2.1 t2) (.cons (as := []) (bs := []) (.tuple ho2 hc2 hd2 (by simpa using a2)) .nil)))⟩
/-- the set at a -/
structure SetK0 (w : World) (h : Heap) (a : Addr) (L : Ks) : Prop where
  ex : ∃ (es : Array (Int × Value)) (ep : Nat) (t : SetTable), (∃ o, h.get? a = some o ∧ o.ExactSet ∧ o.data = .set es ep t) ∧ es.toList = ents w L ∧ TabOk t (hs w L) ∧ (L.map (·.2)).Nodup ∧ t.plain = true ∧
    (w.params.followText "set-order" = true ∨ t.led = true) ∧ L.length * 5 < t.mask * 3 ∧ L.length < 64
def SetRO (w : World) (a : Addr) (L : Ks) : HO := .ext fun h => SetK0 w h a L
theorem vals_refs : ∀ (L : Ks), Vals (L.map fun p => V.ref p.1) (refs L)
  | [] => .nil
  | _ :: L => .cons rfl (vals_refs L)
theorem refs_vals : ∀ {L : Ks} {us : List Value}, Vals (L.map fun p => V.ref p.1) us → us = refs L
  | [], _, .nil => rfl
  | p :: L, _, .cons r t => by
    cases r
    rw [refs_vals t]
    rfl
theorem setRO_ok {P : Program} {w : World} {H : Hp} {h : Heap} {a : Addr} {L : Ks} (R : SetK0 w h a L) : ObjOk P w H h a (SetRO w a L) := by
  have ⟨es, ep, t, ⟨o, ho, r⟩, q⟩ := R.ex
  refine ⟨R, ⟨o, ho⟩, fun h1 h2 p k => ?_⟩
  have ⟨es', ep', t', ⟨o', ho', r'⟩, q'⟩ := SetK0.ex p
  exact ⟨es', ep', t', ⟨o', k o' ho', r'⟩, q'⟩
/-- set(xs) of a list of readings: some of its items, each reading once -/
def rSetR (K : PySem.W.Frag) (w : World) : List V → Hp → VK → Prop := fun xs H Q => ∃ (l : Addr) (ks : Ks), xs = [V.ref l] ∧ SqL K H l (ks.map fun p => V.ref p.1) ∧ (∀ p ∈ ks, RdAt K H p.1 p.2) ∧ ks.length < 64 ∧
  ∀ a L, H a = none → (∀ p ∈ L, p ∈ ks) → (∀ p ∈ ks, p.2 ∈ L.map (·.2)) → Q (.ref a) (upd H a (SetRO w a L))
theorem cr_setR (hc : X.calm = true) (hu : X.A.units + 64 < cLine) : CallR X (.type "set") (rSetR X.K X.w) := by
  intro pins s σ H xs us Q I r h
  obtain ⟨l, ks, rfl, hl, hk, few, q⟩ := h
  rw [Vals.ref1 r]
  obtain ⟨its, rv, pl, hz⟩ := I.list hl
  have hn : H s.heap.objs.size = none := I.hok.fresh (Nat.le_refl _)
  refine set_call (P := X.prog) (w := X.w) ks (I.ok.hd hc) pl.isList (by have z := refs_vals rv; unfold refs at z; simpa using z) (fun p hp => (rd_is I (hk p hp)).1) few (by omega) fun h' tk L es ep t R g k => ?_
  refine ⟨.ref s.heap.objs.size, upd H s.heap.objs.size (SetRO X.w s.heap.objs.size L), I.laid (t' := tk) k (Nat.le_refl _) (setRO_ok ⟨es, ep, t, R.ob, R.rows, R.tab, R.nd, R.plain, R.led, R.room, R.few⟩), rfl, q _ L hn (fun p hp => ?_) fun p hp => ?_⟩
  · exact List.mem_of_mem_take (g.sub p hp)
  · exact g.all p (by rw [List.take_length]; exact hp)
/-- sorted(x) of such a set: the readings ascending -/
def rSortSet (K : PySem.W.Frag) (w : World) : List V → Hp → VK → Prop := fun vs H Q => ∃ (a : Addr) (L : Ks), vs = [V.ref a] ∧ H a = some (SetRO w a L) ∧ (∀ p ∈ L, RdAt K H p.1 p.2) ∧
  ∀ (M : Ks) (p : Addr), M.Perm L → (M.map (·.2)).Pairwise rlt → M.length < 64 → H p = none → Q (.ref p) (upd H p (.lst (M.map fun q => V.ref q.1)))
theorem listed {s' : Shared} {p : Addr} {M : Ks} {c : Nat} (I : Inv X pins σ H s) (k : ∀ b o, s.heap.get? b = some o → s'.heap.get? b = some o) (g : s'.gens = s.gens) (o : s'.os = s.os) (hp : s.heap.objs.size ≤ p)
    (hg : s'.heap.get? p = some (seqObj "list" (refs M).toArray c)) (few : M.length ≤ 1000) : Inv X pins σ (upd H p (.lst (M.map fun q => V.ref q.1))) s' := by
  have hlen : (M.map fun q => V.ref q.1).length ≤ sizeLine := by rw [List.length_map, sizeLine_eq]; omega
  have hn : H p = none := I.hok.fresh hp
  have J : Inv X pins σ (upd H p (.lst (M.map fun q => V.ref q.1))) { s with heap := s'.heap, gens := s'.gens, drawn := s'.drawn, toks := s'.toks } :=
    I.call (ch := []) (Un.laid k hp hn) (I.hok.laid k hp ⟨hlen, refs M, c, vals_refs M, hg⟩) (by rw [g]; exact I.bare) (fun _ z => nomatch z)
  have e : s' = { s with heap := s'.heap, gens := s'.gens, drawn := s'.drawn, toks := s'.toks } := by
    cases s'
    cases s
    cases o
    rfl
  rw [e]
  exact J
theorem cr_sortSet (hc : X.calm = true) (hu : X.A.units + 64 < cLine) : CallR X (.builtin "sorted") (rSortSet X.K X.w) := by
  intro pins s σ H vs us Q I r h
  obtain ⟨a, L, rfl, ha, hk, q⟩ := h
  have R0 : SetK0 X.w s.heap a L := (I.hok a _ ha).1
  obtain ⟨es, ep, t, b1, b2, b3, b4, b5, b6, b7, b8⟩ := R0.ex
  rw [Vals.ref1 r]
  refine sorted_set (P := X.prog) ⟨b1, b2, b3, b4, fun p hp => (rd_is I (hk p hp)).1, b5, b6, b7, b8⟩ (fun p hp => (rd_is I (hk p hp)).2) (I.ok.hd hc) (by omega) fun s' p c M k g o hp hg pm pw => ?_
  have few : M.length < 64 := by rw [pm.length_eq]; exact b8
  exact ⟨.ref p, _, listed I k g o hp hg (by omega), rfl, q M p pm pw few (I.hok.fresh hp)⟩
/-- sorted(xs) of a list of readings -/
def rSortRows (K : PySem.W.Frag) : List V → Hp → VK → Prop := fun vs H Q => ∃ (a : Addr) (L : Ks), vs = [V.ref a] ∧ SqL K H a (L.map fun p => V.ref p.1) ∧ (∀ p ∈ L, RdAt K H p.1 p.2) ∧ L.length ≤ 1000 ∧
  ∀ (p : Addr), H p = none → Q (.ref p) (upd H p (.lst ((ordered L).map fun q => V.ref q.1)))
theorem cr_sortRows (hu : X.A.units + 64 < cLine) : CallR X (.builtin "sorted") (rSortRows X.K) := by
  intro pins s σ H vs us Q I r h
  obtain ⟨a, L, rfl, hl, hk, few, q⟩ := h
  rw [Vals.ref1 r]
  obtain ⟨its, rv, pl, hz⟩ := I.list hl
  have e := refs_vals rv
  subst e
  refine sorted_rows (P := X.prog) pl.isList (fun p hp => (rd_is I (hk p hp)).2) few (by omega) ?_
  obtain ⟨c, hc⟩ := sortedHeap_at (vs := refs L) (out := (refs (ordered L)).toArray) (PySem.W.copyHeap_at s.heap (refs L))
  refine ⟨.ref (s.heap.objs.size + 1), _, listed (M := ordered L) (c := c) I (fun b o e => ?_) rfl rfl (Nat.le_succ _) hc (by rw [(ordered_perm L).length_eq]; exact few), rfl, q _ (I.hok.fresh (Nat.le_succ _))⟩
  have lt := Heap.lt_size e
  show (sortedAll s.heap (refs L) _).get? b = some o
  unfold sortedAll
  rw [sortedHeap_old (Nat.ne_of_lt (Nat.lt_succ_of_lt lt)) (by rw [size_push', Heap.size_update, size_push']; exact Nat.lt_succ_of_lt (Nat.lt_succ_of_lt lt))]
  refine Heap.get?_push_of_some _ ?_
  rw [Heap.get?_update_ne _ _ _ _ (Nat.ne_of_lt lt)]
  exact Heap.get?_push_of_some _ e
end
end RS
set_option Elab.async false
set_option linter.all false
set_option maxRecDepth 100000
/-! What all laws' texts share: the built-in names, a def by its promise, heaps that grow, the pool. -/
namespace LB
open PySem PySem.Spec PyProof.Rows L2 RS
/-- the built-in names stand as they are -/
structure Bl (mg : Str → Option Value) : Prop where
  len : mg "len" = none
  int : mg "int" = none
  bool : mg "bool" = none
  str : mg "str" = none
  isinstance : mg "isinstance" = none
  tuple : mg "tuple" = none
  list : mg "list" = none
  dict : mg "dict" = none
  set : mg "set" = none
  sorted : mg "sorted" = none
  range : mg "range" = none
  abs : mg "abs" = none
  sum : mg "sum" = none
  all : mg "all" = none
  any : mg "any" = none
  enumerate : mg "enumerate" = none
  min : mg "min" = none
  max : mg "max" = none
  zip : mg "zip" = none
/-- a def of the module under its name -/
structure Df (K : PySem.W.Frag) (mg : Str → Option Value) (x : Str) (ps : List Str) (st : Stmt) (f : Addr) (fd : FuncData) : Prop where
  fn : Fun K x x st f fd
  at_ : mg x = some (.ref f)
  bd : Binds K fd ps []
/-- .. by its promise, at a level -/
structure Ca (P : Program) (w : World) (K : PySem.W.Frag) (mg : Str → Option Value) (base : Heap) (k : Nat) (x : Str) (sp : Sp) : Prop where
  ex : ∃ (f : Addr) (fd : FuncData) (ps : List Str), FnOk P w K mg base CX0 k f fd ps sp ∧ mg x = some (.ref f) ∧ PySem.W.keepIn K (.ref f) = true ∧ Binds K fd ps []
section
variable {P : Program} {w : World} {K : PySem.W.Frag} {mg : Str → Option Value} {base : Heap}
theorem Df.ca {x : Str} {ps N : List Str} {st : Stmt} {f : Addr} {fd : FuncData} {k : Nat} {sp : Sp} (D : Df K mg x ps st f fd) (S : FnScope N ps (defScope st)) (len : ∀ vs H Q E, sp vs H Q E → vs.length = ps.length)
    (body : ∀ (cdv : Value) (A : Around) (outer : List Env) (s : Shared) (H : Hp) (vs : List V) (Q : VK) (E : XK), Room k (A.deeper (envOfC x (defScope st) s.heap.objs.size f cdv)) → sp vs H Q E →
      ∃ t, PSs (cxOf CX0 P w K mg base N x (defScope st) f cdv A outer s H E).nox (defBody st) t ∧ t { nx := fun _ H' => Q .non H', rt := Q } (start N vs) H) : Ca P w K mg base (k + 1) x sp :=
  ⟨f, fd, ps, D.fn.ok S len body, D.at_, D.fn.kp, D.bd⟩
theorem Ca.weak {x : Str} {k : Nat} {sp sp' : Sp} (c : Ca P w K mg base k x sp) (h : ∀ vs H Q E, sp' vs H Q E → sp vs H Q E) : True := trivial
end
section
variable {X : Cx} {k j : Nat} {x : Str} {sp : Sp} {p pos : Pos} {e : Expr} {es : List Expr} {t : TA}
theorem pe_k (c : Ca X.prog X.w X.K X.mg X.base k x sp) (hr : Room j X.A) (hk : k ≤ j) (hg : Gl X x) (ha : PA X (e :: es) t)
    (hdb : (x == ("__debug__" : Str)) = false := by decide) (he : starEach (e :: es) X.env = (false, eval e X.env) :: starEach es X.env := by rfl) (hpl : (backTo pos (starEach es X.env)).any (·.1) = false := by rfl) :
    PE X (.Call (.Name x p) (e :: es) [] pos) (tCall sp [] E0 t) := by
  obtain ⟨f, fd, ps, F, hm, kp, b⟩ := c.ex
  exact pe_call F (hr.mono hk) hg hm kp b .nil pass0 ha hdb he hpl
theorem pe_gc {v : V} (hg : Gl X x) (h : ∃ u, X.mg x = some u ∧ RelV v u) (hd : (x == ("__debug__" : Str)) = false := by decide) : PE X (.Name x pos) (tC v) := by
  obtain ⟨u, hm, r⟩ := h
  exact pe_glob hg hm r hd
end
/-- a class that may be made by its name; sp: its __init__ -/
structure Ma (P : Program) (w : World) (K : PySem.W.Frag) (mg : Str → Option Value) (base : Heap) (k : Nat) (x : Str) (C : Addr) (sp : Sp) : Prop where
  ex : ∃ (f : Addr) (fd : FuncData) (ps : List Str), Mk K C f ∧ FnOk P w K mg base CX0 k f fd ps sp ∧ mg x = some (.ref C) ∧ Binds K fd ps []
theorem pe_mkK {X : Cx} {k j : Nat} {x : Str} {sp : Sp} {p pos : Pos} {e : Expr} {es : List Expr} {t : TA} {C : Addr} (c : Ma X.prog X.w X.K X.mg X.base k x C sp) (hr : Room j X.A) (hk : k + 1 ≤ j) (hg : Gl X x) (ha : PA X (e :: es) t)
    (hdb : (x == ("__debug__" : Str)) = false := by decide) (he : starEach (e :: es) X.env = (false, eval e X.env) :: starEach es X.env := by rfl) (hpl : (backTo pos (starEach es X.env)).any (·.1) = false := by rfl) :
    PE X (.Call (.Name x p) (e :: es) [] pos) (tMake C sp [] E0 t) := by
  obtain ⟨f, fd, ps, M, F, hm, b⟩ := c.ex
  exact pe_make M F (hr.mono hk) hg hm b .nil pass0 ha hdb he hpl
/-! ### kinds -/
theorem ty_t {K : PySem.W.Frag} {H : Hp} {a : Addr} {xs : List V} (h : SqT K H a xs) : TyX K H (.ref a) (.type "tuple") := by
  rcases h with (h | ⟨o, h⟩) | ⟨o, its, n, h, c, _⟩
  · exact .base (.tup h)
  · exact .fTuple h
  · exact .kTuple h c
theorem ty_l {K : PySem.W.Frag} {H : Hp} {a : Addr} {xs : List V} (h : SqL K H a xs) : TyX K H (.ref a) (.type "list") := by
  rcases h with (h | ⟨o, h⟩) | ⟨o, its, n, h, c, _⟩
  · exact .base (.lst h)
  · exact .base (.frz h)
  · exact .kList h c
theorem k_ii {K : PySem.W.Frag} : PySem.W.kitOne K (.type "int") (.type "int") = some true := kit_ty (by decide +kernel)
theorem k_ib {K : PySem.W.Frag} : PySem.W.kitOne K (.type "int") (.type "bool") = some false := kit_ty (by decide +kernel)
theorem k_is {K : PySem.W.Frag} : PySem.W.kitOne K (.type "int") (.type "str") = some false := kit_ty (by decide +kernel)
theorem k_it {K : PySem.W.Frag} : PySem.W.kitOne K (.type "int") (.type "tuple") = some false := kit_ty (by decide +kernel)
theorem k_il {K : PySem.W.Frag} : PySem.W.kitOne K (.type "int") (.type "list") = some false := kit_ty (by decide +kernel)
theorem k_tt {K : PySem.W.Frag} : PySem.W.kitOne K (.type "tuple") (.type "tuple") = some true := kit_ty (by decide +kernel)
theorem k_ti {K : PySem.W.Frag} : PySem.W.kitOne K (.type "tuple") (.type "int") = some false := kit_ty (by decide +kernel)
theorem k_tb {K : PySem.W.Frag} : PySem.W.kitOne K (.type "tuple") (.type "bool") = some false := kit_ty (by decide +kernel)
theorem k_ts {K : PySem.W.Frag} : PySem.W.kitOne K (.type "tuple") (.type "str") = some false := kit_ty (by decide +kernel)
theorem k_tl {K : PySem.W.Frag} : PySem.W.kitOne K (.type "tuple") (.type "list") = some false := kit_ty (by decide +kernel)
theorem T_seq {K : PySem.W.Frag} {H H' : Hp} {a : Addr} {xs : List V} (e : Same H H') (h : SqT K H a xs) : SqT K H' a xs := by
  rcases h with (h | ⟨o, h⟩) | h
  · exact .inl (.inl (e _ _ h))
  · exact .inl (.inr ⟨o, e _ _ h⟩)
  · exact .inr h
theorem T_new {K : PySem.W.Frag} {H : Hp} {a : Addr} {xs : List V} : SqT K (upd H a (.tup xs)) a xs := .inl (.inl upd_same)
theorem L_new {K : PySem.W.Frag} {H : Hp} {a : Addr} {xs : List V} : SqL K (upd H a (.lst xs)) a xs := .inl (.inl upd_same)
theorem same_new {H : Hp} {p : Addr} {o : HO} (h : H p = none) : Same H (upd H p o) := fun b u e => by
  rw [upd_ne (ne_of_none e h)]
  exact e
theorem same_mut {H H' : Hp} {p : Addr} {o : HO} (e : Same H H') (h : H p = none) : Same H (upd H' p o) := fun b u q => by
  rw [upd_ne (ne_of_none q h)]
  exact e b u q
theorem rd_same {K : PySem.W.Frag} {H H' : Hp} {a : Addr} {k : RK} (e : Same H H') (h : RdAt K H a k) : RdAt K H' a k := by
  obtain ⟨t, h1, h2⟩ := h
  exact ⟨t, T_seq e h1, T_seq e h2⟩
/-! ### the pool: a list of a seed, a count and a list of cells -/
structure Pool (H : Hp) (p c : Addr) : Prop where
  ne : p ≠ c
  ex : ∃ (a b : Int) (ns : List Int), H p = some (.lst [.int a, .int b, .ref c]) ∧ H c = some (.lst (ns.map V.int)) ∧ 0 ≤ a ∧ a < 2147483647 ∧ ns.length ≤ 63
/-- all but the pool is as it was -/
def But (p c : Addr) (H H' : Hp) : Prop := ∀ b o, b ≠ p → b ≠ c → H b = some o → H' b = some o
theorem But.refl {p c : Addr} {H : Hp} : But p c H H := fun _ _ _ _ h => h
theorem But.trans {p c : Addr} {H H1 H2 : Hp} (x : But p c H H1) (y : But p c H1 H2) : But p c H H2 := fun b o h1 h2 h => y b o h1 h2 (x b o h1 h2 h)
theorem Same.but {p c : Addr} {H H' : Hp} (e : Same H H') : But p c H H' := fun b o _ _ h => e b o h
theorem But.l {p c : Addr} {K : PySem.W.Frag} {H H' : Hp} {a : Addr} {xs : List V} (e : But p c H H') (h1 : a ≠ p) (h2 : a ≠ c) (h : SqL K H a xs) : SqL K H' a xs := by
  rcases h with (h | ⟨o, h⟩) | h
  · exact .inl (.inl (e _ _ h1 h2 h))
  · exact .inl (.inr ⟨o, e _ _ h1 h2 h⟩)
  · exact .inr h
theorem Pool.same {p c : Addr} {H H' : Hp} (e : Same H H') (h : Pool H p c) : Pool H' p c := by
  obtain ⟨a, b, ns, h1, h2, r⟩ := h.ex
  exact ⟨h.ne, a, b, ns, e _ _ h1, e _ _ h2, r⟩
theorem Pool.t {p c : Addr} {K : PySem.W.Frag} {H H' : Hp} {a : Addr} {xs : List V} (h : Pool H p c) (e : But p c H H') (q : SqT K H a xs) : SqT K H' a xs := by
  obtain ⟨u, v, ns, h1, h2, r⟩ := h.ex
  have n1 : ∀ o, H a = some o → (∀ ys, o ≠ .lst ys) → H' a = some o := fun o g d => e a o (fun z => by rw [z, h1] at g; cases g; exact d _ rfl) (fun z => by rw [z, h2] at g; cases g; exact d _ rfl) g
  rcases q with (q | ⟨o, q⟩) | q
  · exact .inl (.inl (n1 _ q fun _ z => by cases z))
  · exact .inl (.inr ⟨o, n1 _ q fun _ z => by cases z⟩)
  · exact .inr q
theorem Pool.rd {p c : Addr} {K : PySem.W.Frag} {H H' : Hp} {a : Addr} {k : RK} (h : Pool H p c) (e : But p c H H') (q : RdAt K H a k) : RdAt K H' a k := by
  obtain ⟨t, h1, h2⟩ := q
  exact ⟨t, h.t e h1, h.t e h2⟩
theorem Pool.old {p c : Addr} {H H' : Hp} {l : Addr} (h : Pool H p c) (e : But p c H H') (n : H' l = none) (hp : Pool H' p c) : H l = none := by
  cases q : H l with
  | none => rfl
  | some o =>
    obtain ⟨a, b, ns, h1, h2, r⟩ := hp.ex
    by_cases z : l = p
    · rw [z, h1] at n; cases n
    · by_cases y : l = c
      · rw [y, h2] at n; cases n
      · rw [e l o z y q] at n; cases n
end LB
set_option Elab.async false
set_option linter.all false
set_option maxRecDepth 100000
set_option maxHeartbeats 1000000
namespace LB
open PySem PySem.Spec PyProof.Rows L2 RS
section
variable {X : Cx} {pins : List (Addr × Obj)} {σ : L2.St} {H : Hp} {s : Shared}
/-! ### a <= b of two readings -/
def rLeR (K : PySem.W.Frag) : R2 := fun x y H Q => ∃ (a b : Addr) (j k : RK), x = .ref a ∧ y = .ref b ∧ RdAt K H a j ∧ RdAt K H b k ∧ Q (.bl (!decide (rlt k j))) H
theorem op_leR (hu : X.A.units + 64 < cLine) : OpR X (compareOp .LtE) (rLeR X.K) := by
  intro pins s σ H x y u v Q I r r' h
  obtain ⟨a, b, j, k, rfl, rfl, h1, h2, q⟩ := h
  cases r
  cases r'
  have e1 := depth_enc j
  refine PySem.W.le_data (rd_is I h1).2 (rd_is I h2).2 (alike_enc j k) (fun z => by cases z) (by omega) ?_
  rw [lt_enc]
  exact ⟨.bl _, H, I, rfl, q⟩
/-! ### t * 1 is t -/
theorem int_rmul_tuple1 (a : Int) (t : Tok) (l : Addr) (items : Array Value) (n : Nat) (dd : Option Addr) (sl : Array (Option Value)) (he : items.isEmpty = false) :
    Meets (Builtin.«tuple.__mul__» ⟨[.ref l, .int 1 t], []⟩) (fun _ R s => s.heap.get? l = some { cls := .type "tuple", dict := dd, data := .seq items n, slots := sl } ∧ R (.ok (.ret (.ref l))) s) :=
  .of_wp fun prog w A R s h => by
    obtain ⟨hp, g, d, tk, os⟩ := s
    obtain ⟨hl, h⟩ := h
    have f1 := AutoSeq1.idx_int
    wp_walk using wpAny_loadPart' hl
    repeat (first
      | (refine wpAny_ite_false (by simp) ?_; wp_walk using wpAny_loadPart' hl)
      | (refine wpAny_ite_true (by simp) ?_; wp_walk using wpAny_loadPart' hl))
    exact ⟨_, rfl, h⟩
def rRep1 (K : PySem.W.Frag) : R2 := fun x y H Q => ∃ l xs, x = .ref l ∧ y = .int 1 ∧ SqT K H l xs ∧ xs ≠ [] ∧ Q (.ref l) H
theorem op_rep1 : OpR X (binaryOp .Mult) (rRep1 X.K) := by
  intro pins s σ H x y v u Q I rx ry h
  obtain ⟨l, xs, rfl, rfl, hT, hne, q⟩ := h
  cases rx
  obtain ⟨t, rfl⟩ := ry
  obtain ⟨its, r, ⟨⟨cls, dd, data, sl⟩, ho, hc, n, hd⟩, hs⟩ := I.tuple hT
  simp only at hc hd
  subst hc hd
  have hle : its.length = xs.length := r.length.symm
  have hi : its.toArray.isEmpty = false := by
    cases its with
    | nil => exact absurd (List.eq_nil_of_length_eq_zero hle.symm) hne
    | cons a b => rfl
  refine wpAny_binaryOp_repeat_ref (T := "tuple") (U := "int") (by decide) ⟨_, ho, rfl⟩ (fun s' => typeIs_int s' 1 t) noFill_tuple_mul F.fills_int_mul F.slot_int_rmul repeat_tuple F.slot_int_index.lookup
    (call_meets F.slot_int_rmul (typeIs_int s 1 t) F.entry_int_rmul (F.args_int_rmul_2 _ _) (int_rmul_tuple 1 t l its.toArray n dd sl)
      ⟨ho, rfl, ⟨_, ho, rfl⟩, call_meets F.slot_tuple_mul ⟨_, ho, rfl⟩ F.entry_tuple_mul (F.args_tuple_mul_2 _ _) (int_rmul_tuple1 1 t l its.toArray n dd sl hi) ⟨ho, ?_⟩⟩)
  exact ⟨.ref l, H, I, rfl, q⟩

/-! ### sorted(t) of a tuple of whole numbers -/
theorem collect_tup {A : Around} {E : Value → Shared → Prop} {prog : Program} {w : World} {l : Addr} {vs : List Value} {Q : List Value → Shared → Prop} (hl : IsTup s.heap l vs.toArray)
    (h : Q vs { s with heap := (s.heap.push (seqObj "list" #[] 0)).update s.heap.objs.size (Obj.mapSeq (· ++ vs.toArray)) }) (hsz : vs.length ≤ sizeLine) :
    wpAny (model prog w) A (collect (.ref l)) Q E s := by
  obtain ⟨o, ho, hc, n, hd⟩ := id hl
  unfold collect
  refine wpAny_bind (wpAny_runValue (codeAny_builtin entry_proto_collect' ?_))
  show wpAny _ _ (do again (.builtin "list.__iadd__" ⟨[← newList [], .ref l], []⟩)) _ _ s
  refine wpAny_bind (wpAny_newList (wpAny_pure ⟨Code.quiet_builtin _ (by decide +kernel), codeAny_builtin entry_list_iadd' ?_⟩))
  show wpAny _ _ (Builtin.List.listExtendWith (.ref s.heap.objs.size) (.ref l) (.ref s.heap.objs.size)) _ _ { s with heap := s.heap.push (seqObj "list" #[] 0) }
  unfold Builtin.List.listExtendWith
  have ho' : (s.heap.push (seqObj "list" #[] 0)).get? l = some o := Heap.get?_push_of_some _ ho
  refine wpAny_bind (wpAny_typeOf (T := "tuple") ⟨o, ho', hc⟩ ?_)
  have ht : (Value.type "tuple" == Value.type "tuple") = true := by rfl
  rw [if_pos (by rw [ht]; simp)]
  refine wpAny_bind (listItems_at ho' hd ?_)
  refine wpAny_bind (listItems_at (xs := #[]) (n := 0) (Heap.get?_push_size _ rfl) rfl ?_)
  rw [if_neg (by simp)]
  refine wpAny_bind (listUpdate_at (xs := #[]) (n := 0) (Heap.get?_push_size _ rfl) rfl ?_ (Nat.zero_le _) (by show (#[] ++ vs.toArray).size ≤ sizeLine + 1; simp only [Array.size_append, List.size_toArray, List.length_nil]; omega))
  refine wpAny_pure ?_
  show wpAny (model prog w) A (do
      let o ← load s.heap.objs.size
      match o.data with
      | .seq xs _ => pure xs.toList
      | _ => unsupported "internal:collect") Q E { s with heap := (s.heap.push (seqObj "list" #[] 0)).update s.heap.objs.size (Obj.mapSeq (· ++ vs.toArray)) }
  refine wpAny_bind (wpAny_load (get?_update_seq (Heap.get?_push_size _ rfl) _) ?_)
  show wpAny _ _ (pure ((#[] : Array Value) ++ vs.toArray).toList) Q E _
  rw [show ((#[] : Array Value) ++ vs.toArray).toList = vs by simp]
  exact wpAny_pure h
theorem each_ints : ∀ {xs : List Int} {us : List Value}, Vals (xs.map V.int) us → PySem.W.EachIs (fun (v : Value) (i : Int) => ∃ t, v = .int i t) us xs
  | [], _, .nil => .nil
  | _ :: _, _, .cons r t => .cons r (each_ints t)
theorem vals_each : ∀ {xs : List Int} {us : List Value}, PySem.W.EachIs (fun (v : Value) (i : Int) => ∃ t, v = .int i t) us xs → Vals (xs.map V.int) us
  | _, _, .nil => .nil
  | _, _, .cons r t => .cons r (vals_each t)
/-- whole numbers in their order -/
def upInts (ns : List Int) : List Int := ns.mergeSort (PySem.W.dataLe false fun i => .int i)
theorem upInts_perm (ns : List Int) : (upInts ns).Perm ns := List.mergeSort_perm _ _
theorem upInts_asc (ns : List Int) : (upInts ns).Pairwise (· ≤ ·) := by
  unfold upInts
  rw [show (PySem.W.dataLe false fun i : Int => PyData.int i) = fun a b => decide (a ≤ b) from PySem.W.dataLe_int id]
  refine (List.pairwise_mergeSort (fun a b c h1 h2 => ?_) (fun a b => ?_) ns).imp fun {a b} h => by simpa using h
  · simp only [decide_eq_true_eq] at *
    omega
  · simp only [Bool.or_eq_true, decide_eq_true_eq]
    omega
def rSortT (K : PySem.W.Frag) : List V → Hp → VK → Prop := fun vs H Q => ∃ (a : Addr) (ns : List Int), vs = [V.ref a] ∧ SqT K H a (ns.map V.int) ∧ ns.length ≤ 1000 ∧ ∀ p, H p = none → Q (.ref p) (upd H p (.lst ((upInts ns).map V.int)))
theorem cr_sortT1 (hu : X.A.units + 64 < cLine) : CallR X (.builtin "sorted") (rSortT X.K) := by
  intro pins s σ H vs us Q I r h
  obtain ⟨a, ns, rfl, hT, few, q⟩ := h
  rw [Vals.ref1 r]
  obtain ⟨its, rv, tp, hz⟩ := I.tuple hT
  have hle : its.length = ns.length := by rw [← rv.length, List.length_map]
  have hsz : its.length ≤ sizeLine := by rw [hle, sizeLine_eq]; omega
  refine Calls.call_function_entry kind_sorted plain_sorted entry_sorted (args_sorted1 _) ?_
  unfold Builtin.«sorted»
  refine wpAny_bind (m := checkCount "sorted" 1 1 _) (wpAny_pure ?_)
  refine wpAny_bind (collect_tup tp ?_ hsz)
  refine wpAny_bind (wpAny_newList ?_ hsz)
  have hS : ((s.heap.push (seqObj "list" #[] 0)).update s.heap.objs.size (Obj.mapSeq (· ++ its.toArray))).objs.size = s.heap.objs.size + 1 := by rw [Heap.size_update, size_push']
  show wpAny _ _ _ _ _ { s with heap := PySem.W.copyHeap s.heap its }
  rw [hS]
  have e1 := each_ints rv
  refine wpAny_bind (wpAny_holding (PySem.W.list_sort_data (R := fun v i => ∃ t, v = .int i t) (s := { s with heap := PySem.W.copyHeap s.heap its }) (enc := fun i : Int => .int i) (PySem.W.copyHeap_at s.heap its) e1 (e1.mono fun v i ⟨t, e⟩ => ⟨[], by rw [e]; exact .int i t, by simp⟩)
    (PySem.W.AllAlike.of fun a b => by simp only [PySem.W.alike]) (PySem.W.Sortable.others fun b => ⟨fun z => (by cases z), fun xs z => (by cases z)⟩) (by rw [sizeLine_eq]; omega) (fun b _ => by show _ + 0 < _; simp only [Around.in1_units]; omega) fun out _ e => ?_))
  obtain ⟨c, hc⟩ := sortedHeap_at (vs := its) (out := out.toArray) (PySem.W.copyHeap_at s.heap its)
  have len : ((upInts ns).map V.int).length ≤ sizeLine := by rw [List.length_map, (upInts_perm ns).length_eq, sizeLine_eq]; omega
  have n0 : s.heap.objs.size ≤ s.heap.objs.size + 1 := Nat.le_succ _
  refine wpAny_pure ⟨_, rfl, .ref (s.heap.objs.size + 1), upd H (s.heap.objs.size + 1) (.lst ((upInts ns).map V.int)), I.laid (t' := s.toks) (fun b o e => ?_) n0 ⟨len, out, c, vals_each e, hc⟩, rfl, q _ (I.hok.fresh n0)⟩
  have lt := Heap.lt_size e
  show (sortedHeap (PySem.W.copyHeap s.heap its) (s.heap.objs.size + 1) its _).get? b = some o
  unfold PySem.W.copyHeap
  rw [sortedHeap_old (Nat.ne_of_lt (Nat.lt_succ_of_lt lt)) (by rw [size_push', Heap.size_update, size_push']; exact Nat.lt_succ_of_lt (Nat.lt_succ_of_lt lt))]
  refine Heap.get?_push_of_some _ ?_
  rw [Heap.get?_update_ne _ _ _ _ (Nat.ne_of_lt lt)]
  exact Heap.get?_push_of_some _ e

/-! ### instances by their own ==: a flag out -/
/-- what an own == promises: whichever flag -/
def spEqB (R : Addr → Addr → Bool → Hp → Prop) : Sp := fun vs H Q _ => ∃ a b c, vs = [.ref a, .ref b] ∧ R a b c H ∧ ∀ H', Same H H' → Q (.bl c) H'
structure EqC (K : PySem.W.Frag) (C f : Addr) : Prop where
  eq : PySem.W.findIn K (.ref C) "__eq__" = some (some (.ref f))
  fn : PySem.W.isFn K (.ref f) = true
  ne : PySem.W.findIn K (.ref C) "__ne__" = some (some (.builtin "object.__ne__"))
  ob : PySem.W.subIn K (.ref C) (.type "object") = some true
variable {n : Nat} {C f : Addr} {fd : FuncData} {ps : List Str} {R : Addr → Addr → Bool → Hp → Prop}
theorem eq_called (F : FnOk X.prog X.w X.K X.mg X.base CX0 n f fd ps (spEqB R)) (hb : Binds X.K fd ps []) {A : Around} (sb : Sub X n A) (I : Inv X pins σ H s) {a b : Addr} {c : Bool} (hr : R a b c H) :
    wpAny (model X.prog X.w) A (call (.ref f) [.ref a, .ref b]) (fun v s' => v = .bool c ∧ ∃ H', Inv X pins σ H' s' ∧ Same H H') X.xe s := by
  have hsp : spEqB R [.ref a, .ref b] H (fun v H' => v = .bl c ∧ Same H H') E0 := ⟨a, b, c, rfl, hr, fun H' e => ⟨rfl, e⟩⟩
  have e0 : Env0 X.prog X.w X.K X.mg X.base A X.stack s H := by
    have e := I.env0
    exact ⟨by rw [sb.fr]; exact e.frames, e.mod, e.bs, e.bsz, e.funs, e.frf, e.hok, e.bare⟩
  have hl := F.len _ _ _ _ hsp
  have r2 : Vals [V.ref a, V.ref b] [Value.ref a, Value.ref b] := .cons rfl (.cons rfl .nil)
  refine wpAny_call (codeAny_mono (F.run A X.stack s H ⟨[.ref a, .ref b], []⟩ [.ref a, .ref b] [.ref a, .ref b] _ E0 sb.room e0 (by
    have := hb s [.ref a, .ref b] I.kIn (by simpa using hl)
    simpa using this) r2 hsp) fun r s' hq => ?_)
  cases r with
  | error e => exact (pass0 (X := X)) pins σ H s e s' I hq
  | ok fl =>
    cases fl with
    | ret w =>
      obtain ⟨z, H', I', rz, ez, ex⟩ := I.after hq
      subst ez
      cases rz
      exact ⟨rfl, H', I', ex⟩
    | next => exact False.elim hq
    | brk => exact False.elim hq
    | cont => exact False.elim hq
def rEqP (C : Addr) (R : Addr → Addr → Bool → Hp → Prop) (neg : Bool) : R2 := fun x y H Q => ∃ a b dx dy fs gs c, x = .ref a ∧ y = .ref b ∧ H a = some (.ins C dx fs) ∧ H b = some (.ins C dy gs) ∧ R a b c H ∧ ∀ H', Same H H' → Q (.bl (if neg then !c else c)) H'
theorem op_eqP (F : FnOk X.prog X.w X.K X.mg X.base CX0 n f fd ps (spEqB R)) (hb : Binds X.K fd ps []) (E : EqC X.K C f) (hr : Room n X.A) : OpR X (compareOp .Eq) (rEqP C R false) := by
  intro pins s σ H x y v u Q I rx ry h
  obtain ⟨a, b, dx, dy, fs, gs, c, rfl, rfl, ha, hb', hR, q⟩ := h
  cases rx
  cases ry
  obtain ⟨mA, J, _⟩ := ins_get I.hok ha
  obtain ⟨mB, J', _⟩ := ins_get I.hok hb'
  obtain ⟨od, J, _⟩ := J.look
  obtain ⟨od', J', _⟩ := J'.look
  obtain ⟨m, hF⟩ := I.fr
  show wpAny (model X.prog X.w) X.A (richCompare .Eq _ _) (EP X pins σ Q) X.xe s
  refine PySem.W.cmp_K (op := .Eq) (tb := .ref C) hr.units0 hF I.ok.mod.kin J J'.type (by simp [PySem.W.notFirst]) E.eq E.fn (wpAny_mono (eq_called F hb ⟨hr, rfl⟩ I hR) (fun v s' z => ?_) fun _ _ e => e)
  obtain ⟨rfl, H', I', e⟩ := z
  exact ⟨.bl c, H', I', rfl, q H' e⟩
theorem ne_bound {M : Model} {A : Around} {E' : Value → Shared → Prop} {args : List Value} {Q : Option Value → Shared → Prop} {x : Addr} {ox : Obj} {od : Option Obj} {K : PySem.W.Frag} (Y : K.In s.heap) (J : PySem.W.InstAt s.heap x ox C od) (hs : PySem.W.findIn K (.ref C) "__ne__" = some (some (.builtin "object.__ne__")))
    (h : wpAny M A (call (.builtin "object.__ne__") (.ref x :: args)) (fun v => Q (some v)) E' s) : wpAny M A (callSpecialIfBound? (.ref x) "__ne__" args) Q E' s := by
  simp only [callSpecialIfBound?, bindSpecialIfBound?]
  refine wpAny_holding (wpAny_bind (wpAny_bind (wpAny_bind (J.type.here ((PySem.W.looks_findIn Y hs).here ?_)))))
  have bd : bindSpecial (.builtin "object.__ne__") (.ref x) = pure (.builtin "object.__ne__", [.ref x]) := F.slot_object_ne.bind (.ref x)
  simp only [bd]
  refine wpAny_bind (wpAny_askSetting (wpAny_ite ?_))
  have fin : wpAny M A (call (.builtin "object.__ne__") ([.ref x] ++ args) >>= fun v => pure (some v)) Q E' s := wpAny_bind (wpAny_mono h (fun v s' h' => wpAny_pure h') fun _ _ h' => h')
  split
  · exact wpAny_bind (wpAny_pure (wpAny_pure fin))
  · exact wpAny_tryCatch (wpAny_bind (wpAny_pure (wpAny_pure fin)))
theorem op_neP (F : FnOk X.prog X.w X.K X.mg X.base CX0 n f fd ps (spEqB R)) (hb : Binds X.K fd ps []) (E : EqC X.K C f) (hr : Room (n + 1) X.A) : OpR X (compareOp .NotEq) (rEqP C R true) := by
  intro pins s σ H x y v u Q I rx ry h
  obtain ⟨a, b, dx, dy, fs, gs, c, rfl, rfl, ha, hb', hR, q⟩ := h
  cases rx
  cases ry
  obtain ⟨mA, J, _⟩ := ins_get I.hok ha
  obtain ⟨mB, J', _⟩ := ins_get I.hok hb'
  obtain ⟨od, J, _⟩ := J.look
  obtain ⟨od', J', _⟩ := J'.look
  have un := hr.un
  have Y := I.kIn
  have one : wpAny (model X.prog X.w) X.A (tryCompare (.ref a) "__ne__" (.ref b)) (fun r s' => ∃ v, r = some v ∧ EP X pins σ Q v s') X.xe s := by
    simp only [tryCompare]
    refine wpAny_bind (ne_bound Y J E.ne (wpAny_call (codeAny_call_builtin PySem.F.slot_object_ne.plain PySem.F.cmpEntry_ne
      (PySem.W.check_slot PySem.F.cmpKind_ne PySem.F.cmpSplit_ne (J.type.andThen (PySem.W.looks_subIn Y E.ob)) (PySem.F.cmpArgs_ne _ _) ?_))))
    have back : wpAny (model X.prog X.w) X.A.in1 (callSpecialIfBound? (.ref a) "__eq__" [.ref b]) (fun r s' => r = some (.bool c) ∧ ∃ H', Inv X pins σ H' s' ∧ Same H H') X.xe s :=
      PySem.W.ifBound_K Y J E.eq E.fn (wpAny_mono (eq_called F hb ⟨hr.in1, rfl⟩ I hR) (fun v s' z => by obtain ⟨rfl, z⟩ := z; exact ⟨rfl, z⟩) fun _ _ e => e)
    unfold Builtin.«object.__ne__»
    repeat (first
      | with_reducible refine wpAny_cRoomFor (by simp only [Around.in1_units]; omega) ?_
      | (refine wpAny_bind (m := callSpecialIfBound? (.ref a) (Str.ofString "__eq__") [.ref b]) (wpAny_mono back (fun r s' z => ?_) fun _ _ e => e))
      | wp_step)
    all_goals (try (obtain ⟨rfl, H', I', e⟩ := z))
    all_goals (repeat (first | (refine wpAny_bind (m := truthy (.bool _)) (wpAny_truthy_bool ?_)) | wp_step))
    all_goals (first
      | exact ⟨_, rfl, .bl (!c), H', I', rfl, q H' e⟩
      | exact ⟨_, rfl, wpAny_pure ⟨_, rfl, .bl (!c), H', I', rfl, q H' e⟩⟩
      | exact ⟨_, rfl, wpAny_pure (wpAny_pure ⟨_, rfl, .bl (!c), H', I', rfl, q H' e⟩)⟩
      | skip)
  show wpAny (model X.prog X.w) X.A (richCompare .NotEq _ _) (EP X pins σ Q) X.xe s
  unfold richCompare
  simp only [oneThing_ref]
  refine wpAny_holding ?_
  refine wpAny_bind (wpAny_cRoomFor (by omega) ?_)
  rw [cmpInfo_NotEq]
  dsimp only
  refine wpAny_bind (J.type.here ?_)
  refine wpAny_bind (J'.type.here ?_)
  rw [show (Value.ref C != Value.ref C) = false from by simp]
  simp only [Bool.false_eq_true, if_false]
  refine wpAny_bind (wpAny_pure ?_)
  simp only [Bool.false_eq_true, if_false]
  refine wpAny_bind (wpAny_mono one (fun r s' z => ?_) fun _ _ e => e)
  obtain ⟨v, rfl, z⟩ := z
  exact wpAny_pure z
end
end LB
set_option Elab.async false
set_option linter.all false
set_option maxRecDepth 100000
set_option maxHeartbeats 1000000
namespace LB
open PySem PySem.Spec PyProof.Rows L2 RS
open AutoSeq1 (wpAny_loadPart')
/-! ### enumerate(t) of a tuple -/
theorem meets_enum_tup (l : Addr) (items : Array Value) (n : Nat) (dct : Option Addr) (sl : Array (Option Value)) :
    Meets (Builtin.«enumerate.__new__» ⟨[.type "enumerate", .ref l], []⟩) (fun _ R s => s.heap.get? l = some { cls := .type "tuple", dict := dct, data := .seq items n, slots := sl } ∧
      R (.ok (.ret (.ref (s.heap.push { cls := .type "tuple_iterator", data := .fields #[.ref l, .int 0 0] }).objs.size)))
        { s with heap := (s.heap.push { cls := .type "tuple_iterator", data := .fields #[.ref l, .int 0 0] }).push { cls := .type "enumerate", data := .fields #[.none, .bool false, .ref s.heap.objs.size, rawInt 0, .none, .none] } }) :=
  .of_wp fun prog w A R s h => by
    obtain ⟨hp, g, d, tk, os⟩ := s
    obtain ⟨hl, h⟩ := h
    have hsub := sub_enumerate
    have hT : Heap.IsTuple (Shared.heap ⟨hp, g, d, tk, os⟩) l items := ⟨_, hl, rfl, n, rfl⟩
    wp_walk using wpAny_loadPart' hl
    refine wpAny_stack_any fun st => wpAny_pure ?_
    split
    · rename_i c _ _ _ _ _
      cases (c == Value.type "enumerate")
      · wp_walk using wpAny_loadPart' hl, wpAny_pyIter_tuple hT
        exact ⟨_, rfl, h⟩
      · wp_walk using wpAny_loadPart' hl, wpAny_pyIter_tuple hT
        exact ⟨_, rfl, h⟩
    · wp_walk using wpAny_loadPart' hl, wpAny_pyIter_tuple hT
      exact ⟨_, rfl, h⟩
theorem call_enum_tup {prog : Program} {w : World} {A : Around} {E : Value → Shared → Prop} {s : Shared} {l : Addr} {items : Array Value} {Q : Value → Shared → Prop} (hL : s.heap.IsTuple l items)
    (h : ∀ h', IsEnum h' (s.heap.objs.size + 1) s.heap.objs.size 0 .none → h'.IsTupleIter s.heap.objs.size l 0 → h'.objs.size = s.heap.objs.size + 2 →
      (∀ b o, s.heap.get? b = some o → h'.get? b = some o) → Q (.ref (s.heap.objs.size + 1)) { s with heap := h' }) :
    wpAny (model prog w) A (call (.type "enumerate") [.ref l]) Q E s := by
  obtain ⟨⟨c, dct, dt, sl⟩, hl, hc, n, hd⟩ := hL
  replace hc : c = .type "tuple" := hc
  replace hd : dt = .seq items n := hd
  subst hc hd
  refine callType_new F.called_enumerate (by decide) (F.typeCall_enumerate_1 _) (F.newCall_enumerate_1 _) (fun obj => F.args_object_init_2 obj _) F.entry_enumerate_new
    (meets_enum_tup l items n dct sl) ⟨hl, ?_⟩
  have hz : (s.heap.push { cls := .type "tuple_iterator", data := .fields #[.ref l, .int 0 0] }).objs.size = s.heap.objs.size + 1 := Heap.size_push ..
  show _ ∧ _
  rw [hz]
  have he : IsEnum ((s.heap.push { cls := .type "tuple_iterator", data := .fields #[.ref l, .int 0 0] }).push
      { cls := .type "enumerate", data := .fields #[.none, .bool false, .ref s.heap.objs.size, rawInt 0, .none, .none] }) (s.heap.objs.size + 1) s.heap.objs.size 0 .none := by
    have q := Heap.get?_push_size (s.heap.push { cls := .type "tuple_iterator", data := .fields #[.ref l, .int 0 0] })
      (o := { cls := .type "enumerate", data := .fields #[.none, .bool false, .ref s.heap.objs.size, rawInt 0, .none, .none] }) rfl
    rw [hz] at q
    exact q
  exact ⟨⟨_, he, rfl⟩, h _ he ⟨_, Heap.get?_push_of_some _ (Heap.get?_push_size _ rfl), rfl, rfl⟩ (by rw [Heap.size_push, hz]) fun b o x => Heap.get?_push_of_some _ (Heap.get?_push_of_some _ x)⟩
/-- the tuple at a, each item in a new pair with its number -/
def IteT (K : PySem.W.Frag) (a : Addr) : It :=
  ⟨fun i H => ∃ (xs : List V) (x : V), SqT K H a xs ∧ xs[i]? = some x, fun i H v H' => ∃ T x, v = .ref T ∧ H T = none ∧ H' = upd H T (.tup [.int (i : Nat), x]) ∧ ∀ xs, SqT K H a xs → xs[i]? = some x,
    fun i H => ∃ xs : List V, SqT K H a xs ∧ xs.length ≤ i⟩
theorem apart_iter {h : Heap} {a it : Addr} {i : Nat} {items : Array Value} (p : h.IsTuple a items) (hit : h.IsTupleIter it a i) : a ≠ it := fun z => by
  obtain ⟨o, ho, hc, _⟩ := p
  obtain ⟨o', ho', hc', _⟩ := hit
  rw [z, ho'] at ho
  cases ho
  rw [hc'] at hc
  injection hc with hc
  exact absurd hc (by decide)
theorem turn_enumT {P : Program} {w : World} {K : PySem.W.Frag} {elts : List Expr} {kk : Nat} {tpos : Pos} (a e it : Addr) :
    Turn P w K (.Tuple elts kk tpos) (IteT K a) [e, it] e (fun i h => (∃ old, IsEnum h e it ((i : Nat) : Int) old) ∧ h.IsTupleIter it a i ∧ e ≠ it) where
  mem := by simp
  obj := fun i h st b hb => by
    obtain ⟨⟨old, he⟩, ⟨o, ho, hc, hd⟩, _⟩ := st
    have e' : b = e ∨ b = it := by simpa using hb
    rcases e' with z | z
    · rw [z]; exact ⟨_, he, fun v q => nomatch q⟩
    · rw [z]; exact ⟨o, ho, fun v q => by rw [hd] at q; cases q⟩
  keep := fun i h h' st k => let ⟨⟨old, he⟩, hi, hne⟩ := st; ⟨⟨old, k e (by simp) _ he⟩, hi.at fun o q => k it (by simp) o q, hne⟩
  item := by
    intro X hP hw hK hc i pins s σ H E I hf st hg
    subst hP hw hK
    obtain ⟨⟨old, he⟩, hit, hne⟩ := st
    obtain ⟨xs, x, hq, hx⟩ := hg
    obtain ⟨its, rv, p, hz⟩ := I.tuple hq
    obtain ⟨u, hu, ru⟩ := rv.get hx
    have hel : e < s.heap.objs.size := Heap.lt_size he
    have hil : it < s.heap.objs.size := by obtain ⟨_, q, _⟩ := hit; exact Heap.lt_size q
    have p' : s.heap.IsTuple a its.toArray := p
    have ai := apart_iter p' hit
    have hi : i < its.toArray.size := by rw [List.size_toArray]; exact (List.getElem?_eq_some_iff.mp hu).1
    have ea : e ≠ a := fun z => by
      obtain ⟨o, ho, hc', _⟩ := p'
      have he' := he
      unfold IsEnum at he'
      rw [z, ho] at he'
      cases he'
      injection hc' with hc'
      exact absurd hc' (by decide)
    refine wpAny_pyNext_enum_itemD (Draws.tuple (A := X.A.in1) (I.ok.hd hc) it a ai its.toArray) he ⟨hit, p'⟩ hi hne (by simp only [List.mem_cons, List.not_mem_nil, or_false, not_or]; exact ⟨hne, ea⟩) fun x' h' tk hP' ho st' hT hsz hk => ?_
    have ex : x' = u := by
      rw [List.getElem?_toArray, hu] at hP'
      exact (Option.some.inj hP').symm
    subst ex
    refine ⟨_, rfl, wpAny_letOwnedTupleGo_enum (s := { s with heap := h', toks := tk + 1 }) ho fun h'' he' sb => ?_⟩
    have hT2 : h''.get? s.heap.objs.size = some { cls := .type "tuple", data := .seq #[.int i tk, x'] } := (sb.2 _ (Nat.ne_of_gt hel)).trans hT
    have new : ObjOk X.prog X.w (upd H s.heap.objs.size (.tup [.int (i : Nat), x])) h'' s.heap.objs.size (.tup [.int (i : Nat), x]) :=
      ⟨by show 2 ≤ sizeLine; decide, [.int i tk, x'], .cons ⟨_, rfl⟩ (.cons ru .nil), ⟨_, hT2, rfl, _, rfl⟩⟩
    have I1 : Inv X pins σ (upd H s.heap.objs.size (.tup [.int (i : Nat), x])) { s with heap := h'', toks := tk + 1 } :=
      I.turnedNew (ch := [e, it]) (fun b ob hb q => (sb.2 b (fun z => hb (by simp [z]))).trans (hk b ob (fun z => hb (by simp [z])) (fun z => hb (by simp [z])) q)) hf (Nat.le_refl _) new
    refine ⟨.ref s.heap.objs.size, _, I1, rfl, ⟨_, x, rfl, I.hok.fresh (Nat.le_refl _), rfl, fun ys hy => by rw [I.tuple_inj hy hq]; exact hx⟩, ⟨⟨x', ?_⟩, st'.1.at fun o q => (sb.2 it (Ne.symm hne)).trans q, hne⟩, fun b hb => ?_⟩
    · have e1 : ((i + 1 : Nat) : Int) = (i : Int) + 1 := by omega
      rw [e1]; exact he'
    · have hb' : b < s.heap.objs.size := by
        have e' : b = e ∨ b = it := by simpa using hb
        rcases e' with z | z
        · rw [z]; exact hel
        · rw [z]; exact hil
      rw [upd_ne (Nat.ne_of_lt hb')]
      exact (hf b hb).1
  done := by
    intro X hP hw hK hc i pins s σ H E I hf st hg
    subst hP hw hK
    obtain ⟨⟨old, he⟩, hit, hne⟩ := st
    obtain ⟨xs, hq, hx⟩ := hg
    obtain ⟨its, rv, p, hz⟩ := I.tuple hq
    obtain ⟨f0, f1, f2, f3, f4, f5⟩ := hf it (by simp)
    have p' : s.heap.IsTuple a its.toArray := p
    have hl := rv.length
    have hT : s.TypeIs (.ref e) "enumerate" := ⟨_, he, rfl⟩
    unfold pyNext
    refine wpAny_bind (wpAny_attempt (wpAny_callSpecial?_slot (name := Str.ofString "__next__") hT F.slot_enumerate_next
      (wpAny_call_entry F.slot_enumerate_next hT F.entry_enumerate_next ?_ (F.args_enumerate_next_1 _))))
    show wpAny _ _ (field (.ref e) 2 >>= _) _ _ _
    refine wpAny_bind (wpAny_field he rfl (x := .ref it) rfl ?_)
    refine wpAny_bind (wpAny_nextOf_tuple_end (A := X.A.in1) (I.ok.hd hc) hit p' (by rw [List.getElem?_toArray]; exact List.getElem?_eq_none (by omega)) fun h' x' eb hx' => ?_)
    obtain ⟨o, ho, hc'⟩ := hx'
    refine wpAny_bind (wpAny_isInstance (T := "StopIteration") (b := true) ⟨o, ho, hc'⟩ isSubtype_stop ?_)
    exact wpAny_pure ⟨rfl, I.turned (t' := s.toks) (fun b o hb q => eb b o hb q) f0 f1 f3 f4 f5⟩
  self := fun A i s Q E st h => let ⟨⟨_, he⟩, _⟩ := st; wpAny_pyIter_enum he h
def iEnumT (K : PySem.W.Frag) (ta : TA) : TI := fun σ H R => ta σ H fun vs H1 => ∃ a xs, vs = [.ref a] ∧ SqT K H1 a xs ∧ R (IteT K a) H1
theorem pi_enumT {X : Cx} {e : Expr} {ta : TA} {p pos tpos : Pos} {elts : List Expr} {kk : Nat} (hg : Gl X "enumerate") (hm : X.mg "enumerate" = none) (ha : PA X [e] ta) (hs : starEach [e] X.env = [(false, eval e X.env)] := by rfl) :
    PI X (.Tuple elts kk tpos) (.Call (.Name "enumerate" p) [e] [] pos) (iEnumT X.K ta) := by
  refine ⟨fun pins s σ H R I h => ?_⟩
  refine Call_ (ld_blt I hg hm boot_enumerate (PyProof.Rows.callWith_type1 (thn (ha.run pos pins s σ H _ I h) fun us s1 ⟨vs, H1, I1, r1, q1⟩ => ?_) hs rfl))
  obtain ⟨a, xs, ex, hq, q⟩ := q1
  subst ex
  cases r1 with
  | cons r rr =>
    cases rr
    cases r
    obtain ⟨its, rv, p', hz⟩ := I1.tuple hq
    have p2 : s1.heap.IsTuple a its.toArray := p'
    refine call_enum_tup p2 fun h' he hit hsz hk => wpAny_pyIter_enum he ?_
    have I2 : Inv X pins σ H1 { s1 with heap := h' } := I1.kept (t' := s1.toks) hk
    refine ⟨s1.heap.objs.size + 1, [s1.heap.objs.size + 1, s1.heap.objs.size], _, _, H1, rfl, I2, turn_enumT a (s1.heap.objs.size + 1) s1.heap.objs.size, ⟨⟨.none, he⟩, hit, Nat.succ_ne_self _⟩, fun b hb => ?_, q⟩
    have e' : b = s1.heap.objs.size + 1 ∨ b = s1.heap.objs.size := by simpa using hb
    have hle : s1.heap.objs.size ≤ b := by
      rcases e' with z | z
      · rw [z]; exact Nat.le_add_right _ _
      · rw [z]; exact Nat.le_refl _
    exact I1.fpOk hle (I1.hok.fresh hle)
/-- a for over it, by an invariant -/
theorem for_enumT {K : PySem.W.Frag} {a : Addr} {xs : List V} {g : TG} {tb : TS} {D : Ends} {σ : L2.St} {H : Hp} (Pv : Nat → L2.St → Hp → Prop) (h0 : Pv 0 σ H) (hq : ∀ i σ H, Pv i σ H → SqT K H a xs)
    (hs : ∀ (i : Nat) (x : V) (T : Addr) (σ : L2.St) (H : Hp), xs[i]? = some x → Pv i σ H → H T = none → g (.ref T) σ (upd H T (.tup [.int (i : Nat), x])) fun σ2 H2 => tb { D with nx := Pv (i + 1), ct := Pv (i + 1), bk := D.nx } σ2 H2) (hd : ∀ σ H, Pv xs.length σ H → D.nx σ H) :
    ∃ W : Nat → Nat → L2.St → Hp → Prop, (∃ m, W 0 m σ H) ∧ ∀ i m σ H, W i m σ H →
      ((IteT K a).stop i H ∧ D.nx σ H) ∨ ((IteT K a).go i H ∧ ∃ N : L2.St → Hp → Prop, (∀ σ' H', N σ' H' → ∃ m', m' < m ∧ W (i + 1) m' σ' H') ∧ ∀ v H', (IteT K a).yld i H v H' → g v σ H' fun σ2 H2 => tb { D with nx := N, ct := N, bk := D.nx } σ2 H2) := by
  refine ⟨fun i m σ H => m = xs.length - i ∧ i ≤ xs.length ∧ Pv i σ H, ⟨xs.length, rfl, Nat.zero_le _, h0⟩, ?_⟩
  rintro i m σ H ⟨rfl, hi, p⟩
  have q := hq i σ H p
  by_cases hlt : i < xs.length
  · have hx : xs[i]? = some xs[i] := List.getElem?_eq_getElem hlt
    refine .inr ⟨⟨xs, _, q, hx⟩, Pv (i + 1), fun σ' H' p' => ⟨xs.length - (i + 1), by omega, rfl, hlt, p'⟩, fun v H' y => ?_⟩
    obtain ⟨T, x', rfl, hT, rfl, f1⟩ := y
    exact hs i x' T σ H (f1 xs q) p hT
  · have e : i = xs.length := by omega
    subst e
    exact .inl ⟨⟨xs, q, Nat.le_refl _⟩, hd σ H p⟩
end LB
set_option Elab.async false
set_option linter.all false
set_option maxRecDepth 100000
/-! The rules whose reading names the module's own fixed part, for use within comprehensions (where it must be said). -/
namespace LB
open PySem PySem.Spec PyProof.Rows L2 RS
variable (K : PySem.W.Frag) {X : Cx}
theorem ix_tup' (h : X.K = K := by rfl) : IxR X (rIxT K) := by subst h; exact ix_tup
theorem ix_list' (h : X.K = K := by rfl) : IxR X (rIxL K) := by subst h; exact ix_list
theorem sl_tup' (h : X.K = K := by rfl) : SlR X (rSlT K) := by subst h; exact sl_tup
theorem sl_list' (h : X.K = K := by rfl) : SlR X (rSlL K) := by subst h; exact sl_list
theorem pe_fld' {e : Expr} {ta : TE} {f : Str} {pos : Pos} (he : PE X e ta) (hb : attributeBase e f X.env (eval e X.env) = eval e X.env) (h : X.K = K := by rfl) : PE X (.Attribute e f pos) (tFld K ta f) := by subst h; exact pe_fld he hb
theorem pg_tup' {es : List Expr} {k : Nat} {t : TGs} {n : Nat} {pos : Pos} (hc : X.calm = true) (h : PGs X es t)
    (hn : (assignEach es X.env).length = n := by rfl) (hst : (assignEach es X.env).findIdx? (·.1) = none := by rfl) (h : X.K = K := by rfl) : PG X (.Tuple es k pos) (gTup K n t) := by subst h; exact pg_tup hc ‹_› hn hst
theorem pi_tup' {tg l : Expr} {tl : TE} (hl : PE X l tl) (h : X.K = K := by rfl) : PI X tg l (iTup K tl) := by subst h; exact pi_tup hl
theorem pi_list' {tg l : Expr} {tl : TE} (hl : PE X l tl) (h : X.K = K := by rfl) : PI X tg l (iList K tl) := by subst h; exact pi_list hl
theorem call_tuple_of' (h : X.K = K := by rfl) : CallR X (.type "tuple") (fun xs H Q => ∃ p ys, xs = [.ref p] ∧ ((SqL K H p ys ∧ ∀ l, H l = none → Q (.ref l) (upd H l (.tup ys))) ∨ (SqT K H p ys ∧ Q (.ref p) H))) := by subst h; exact call_tuple_of
theorem call_list_of' (h : X.K = K := by rfl) : CallR X (.type "list") (fun xs H Q => ∃ p ys, xs = [.ref p] ∧ (SqL K H p ys ∨ SqT K H p ys) ∧ ∀ l, H l = none → Q (.ref l) (upd H l (.lst ys))) := by subst h; exact call_list_of
theorem call_len_seq' (h : X.K = K := by rfl) : CallR X (.builtin "len") (fun xs H Q => ∃ p ys, xs = [.ref p] ∧ (SqL K H p ys ∨ SqT K H p ys) ∧ Q (.int ys.length) H) := by subst h; exact call_len_seq
theorem call_isi' (h : X.K = K := by rfl) : CallR X (.builtin "isinstance") (rIsi K) := by subst h; exact call_isi
theorem cr_sum' (hc : X.calm = true) (h : X.K = K := by rfl) : CallR X (.builtin "sum") (rSum K) := by subst h; exact cr_sum hc
theorem cr_all' (hc : X.calm = true) (h : X.K = K := by rfl) : CallR X (.builtin "all") (rAll K) := by subst h; exact cr_all hc
theorem op_eqD' (hu : X.A.units + 64 < cLine) (h : X.K = K := by rfl) : OpR X (compareOp .Eq) (rEqD K) := by subst h; exact op_eqD hu
theorem op_neD' (hu : X.A.units + 64 < cLine) (h : X.K = K := by rfl) : OpR X (compareOp .NotEq) (rNeD K) := by subst h; exact op_neD hu
theorem op_leR' (hu : X.A.units + 64 < cLine) (h : X.K = K := by rfl) : OpR X (compareOp .LtE) (rLeR K) := by subst h; exact op_leR hu
end LB
namespace LB
open PySem PySem.Spec PyProof.Rows L2 RS
theorem lookup_relabeled {env : Env} {k : NameKind → Bool} : ∀ {names : List (Str × NameKind)} {x : Str} {c : NameKind}, names.lookup x = some c →
    (names.map fun (n, k) => if (k == NameKind.free && env.scope.kind == .function && env.kindOf n == some .cell) then (n, NameKind.cell) else (n, k)).lookup x = some c ∨
    (names.map fun (n, k) => if (k == NameKind.free && env.scope.kind == .function && env.kindOf n == some .cell) then (n, NameKind.cell) else (n, k)).lookup x = some .cell
  | [], _, _, h => by simp at h
  | (n, k) :: r, x, c, h => by
    have ih := @lookup_relabeled env (fun _ => true) r x c
    show List.lookup x ((if (k == NameKind.free && env.scope.kind == .function && env.kindOf n == some .cell) = true then (n, NameKind.cell) else (n, k)) :: _) = _ ∨ List.lookup x ((if (k == NameKind.free && env.scope.kind == .function && env.kindOf n == some .cell) = true then (n, NameKind.cell) else (n, k)) :: _) = _
    cases hx : x == n with
    | true =>
      simp only [List.lookup_cons, hx] at h
      cases h
      by_cases hc : (k == NameKind.free && env.scope.kind == .function && env.kindOf n == some .cell) = true
      · rw [if_pos hc]; right; simp only [List.lookup_cons, hx]
      · rw [if_neg hc]; left; simp only [List.lookup_cons, hx]
    | false =>
      simp only [List.lookup_cons, hx] at h
      by_cases hc : (k == NameKind.free && env.scope.kind == .function && env.kindOf n == some .cell) = true
      · rw [if_pos hc]; simp only [List.lookup_cons, hx]; exact ih h
      · rw [if_neg hc]; simp only [List.lookup_cons, hx]; exact ih h
/-- a comprehension within a comprehension -/
theorem blkOk_in {Y : Cx} {s : Shared} {H : Hp} {sc scope : Scope} {cl : List (Str × Addr)} {C : Addr} {env : Env} {fp : List Addr} {N : List Str} {own : List (Str × Nat)} (h : blkC N sc scope own = true) :
    BlkOk N (Y.blk s H sc (compEnvC sc cl C env) fp).env.scope scope own := by
  have b := blkOk_by h
  refine ⟨b.kind, b.uniq, b.ix, fun y hy e => ?_, b.own⟩
  show (relabel sc env).names.lookup y.1 = _ ∨ (relabel sc env).names.lookup y.1 = _
  rcases b.free y hy e with z | z
  · rcases lookup_relabeled (env := env) (k := fun _ => true) z with q | q
    · exact .inl q
    · exact .inl q
  · rcases lookup_relabeled (env := env) (k := fun _ => true) z with q | q
    · exact .inr q
    · exact .inl q
end LB
namespace LB
open PySem PySem.Spec PyProof.Rows L2 RS
variable (K : PySem.W.Frag) {X : Cx}
theorem pe_bm0' {o : Expr} {to : TE} {name : Str} {apos cpos : Pos} {T id : String} {r : V → List V → Hp → VK → Prop} (pa : PlainAttrs T) (slot : Slot T name id) (hty : typeOf (.builtin id) = pure (.type "method_descriptor")) (hm : MtR X id r) (ho : PE X o to)
    (hbase : attributeBase o name X.env (eval o X.env) = eval o X.env := by rfl) (hline : (apos.endLine == cpos.line) = true := by rfl) (h : X.K = K := by rfl) : PE X (.Call (.Attribute o name apos) [] [] cpos) (tBM0 K T r to) := by
  subst h; exact pe_bm0 pa slot hty hm ho hbase hline
theorem pe_bm' {o e : Expr} {es : List Expr} {to : TE} {t : TA} {name : Str} {apos cpos : Pos} {T id : String} {r : V → List V → Hp → VK → Prop} (pa : PlainAttrs T) (slot : Slot T name id) (hty : typeOf (.builtin id) = pure (.type "method_descriptor")) (hm : MtR X id r) (ho : PE X o to) (ha : PA X (e :: es) t)
    (hbase : attributeBase o name X.env (eval o X.env) = eval o X.env := by rfl)
    (hfew : ((backTo cpos (starEach (e :: es) X.env)).all (fun x => !x.1) && (backToKw cpos (keywordEach [] X.env)).all (fun x => x.1.isSome)
      && decide ((e :: es).length + ([] : List Keyword).length + (if ([] : List Keyword).isEmpty then 0 else 1) < 30)) = true := by rfl)
    (hline : (apos.endLine == cpos.line) = true := by rfl) (hs : starEach (e :: es) X.env = (false, eval e X.env) :: starEach es X.env := by rfl) (hplain : (backTo cpos (starEach es X.env)).any (·.1) = false := by rfl) (h : X.K = K := by rfl) :
    PE X (.Call (.Attribute o name apos) (e :: es) [] cpos) (tBM K T r to t) := by
  subst h; exact pe_bm pa slot hty hm ho ha hbase hfew hline hs hplain
end LB
namespace LB
open PySem PySem.Spec PyProof.Rows L2 RS
variable {X : Cx}
/-- t * n, n at least 1 -/
theorem op_repAny : OpR X (binaryOp .Mult) (fun x y H Q => rRep1 X.K x y H Q ∨ rRepT X.K x y H Q) := by
  intro pins s σ H x y v u Q I rx ry h
  rcases h with h | h
  · exact op_rep1 pins s σ H x y v u Q I rx ry h
  · exact op_repT pins s σ H x y v u Q I rx ry h
end LB
namespace LB
open PySem PySem.Spec PyProof.Rows L2 RS
/-- a class with an own ==, by its promise -/
structure Eq1 (P : Program) (w : World) (K : PySem.W.Frag) (mg : Str → Option Value) (base : Heap) (n : Nat) (C : Addr) (R : Addr → Addr → Bool → Hp → Prop) : Prop where
  ex : ∃ (f : Addr) (fd : FuncData) (ps : List Str), FnOk P w K mg base CX0 n f fd ps (spEqB R) ∧ Binds K fd ps [] ∧ EqC K C f
theorem op_neK {X : Cx} {n j : Nat} {C : Addr} {R : Addr → Addr → Bool → Hp → Prop} (c : Eq1 X.prog X.w X.K X.mg X.base n C R) (hr : Room j X.A) (hk : n + 1 ≤ j) : OpR X (compareOp .NotEq) (rEqP C R true) := by
  obtain ⟨f, fd, ps, F, hb, E⟩ := c.ex
  exact op_neP F hb E (hr.mono hk)
theorem op_eqK {X : Cx} {n j : Nat} {C : Addr} {R : Addr → Addr → Bool → Hp → Prop} (c : Eq1 X.prog X.w X.K X.mg X.base n C R) (hr : Room j X.A) (hk : n ≤ j) : OpR X (compareOp .Eq) (rEqP C R false) := by
  obtain ⟨f, fd, ps, F, hb, E⟩ := c.ex
  exact op_eqP F hb E (hr.mono hk)
end LB
namespace LB
open PySem PySem.Spec PyProof.Rows L2 RS
/-- a + b of two tuples, whichever are empty -/
def rCatS (K : PySem.W.Frag) : R2 := fun x y H Q => ∃ a b xs ys, x = .ref a ∧ y = .ref b ∧ SqT K H a xs ∧ SqT K H b ys ∧ xs.length + ys.length ≤ sizeLine ∧ ∀ H' r, Same H H' → SqT K H' r (xs ++ ys) → Q (.ref r) H'
theorem op_catS {X : Cx} : OpR X (binaryOp .Add) (rCatS X.K) := by
  intro pins s σ H x y v u Q I rx ry h
  obtain ⟨a, b, xs, ys, rfl, rfl, h1, h2, le, q⟩ := h
  refine op_catA pins s σ H _ _ v u Q I rx ry ⟨a, b, xs, ys, rfl, rfl, h1, h2, le, fun e => q _ _ (Same.refl _) (by subst e; exact h2), fun _ e => q _ _ (Same.refl _) (by subst e; rw [List.append_nil]; exact h1), fun _ _ p np => q _ _ (same_new np) T_new⟩
theorem op_catS' (K : PySem.W.Frag) {X : Cx} (h : X.K = K := by rfl) : OpR X (binaryOp .Add) (rCatS K) := by subst h; exact op_catS
end LB
set_option Elab.async false
set_option linter.all false
set_option maxRecDepth 100000
/-! What the top has written, found once: a def, a method, a class, a number. -/
namespace LB
open PySem PySem.Spec PyProof.Rows L2 RS
def TopF (K : PySem.W.Frag) (x : Str) (st : Stmt) : Prop := ∃ (f : Addr) (od an : Option Addr) (sl : Array (Option Value)) (oc kV dc pm cd ct : Value), PySem.W.nsIn K mainGlobals x = some (some (.ref f)) ∧
  K.lookup f = some ⟨oc, od, .func (PySem.W.fnOf x x (defArgs st) (defBody st) (defScope st) .none kV dc pm an cd ct), sl⟩ ∧ PySem.W.codeIn K cd x = true ∧ PySem.W.keepIn K (.ref f) = true
def TopM (K : PySem.W.Frag) (C : Addr) (m q : Str) (st : Stmt) : Prop := ∃ (f : Addr) (od an : Option Addr) (sl : Array (Option Value)) (oc kV dc pm cd ct : Value), PySem.W.findIn K (.ref C) m = some (some (.ref f)) ∧ PySem.W.isFn K (.ref f) = true ∧
  K.lookup f = some ⟨oc, od, .func (PySem.W.fnOf m q (defArgs st) (defBody st) (defScope st) .none kV dc pm an cd ct), sl⟩ ∧ PySem.W.codeIn K cd q = true ∧ PySem.W.keepIn K (.ref f) = true
def BindsF (x q : Str) (st : Stmt) (ps : List Str) : Prop := ∀ (kV doc pm : Value) (an : Option Addr) (cdv ct : Value) (us : List Value), us.length = ps.length → bindArgs (PySem.W.fnOf x q (defArgs st) (defBody st) (defScope st) .none kV doc pm an cdv ct) ⟨us, []⟩ = pure (ps.zip us)
structure ClsTop (K : PySem.W.Frag) (C : Addr) : Prop where
  pg : PySem.W.plainGet K C Str.empty = true
  hd : PySem.W.hasDictIn K C = true
  po : PySem.W.plainOver K C = true
  sa : PySem.W.findIn K (.ref C) "__setattr__" = some (some (.builtin "object.__setattr__"))
  makes : PySem.W.makesIn K C = true
  kc : PySem.W.keepIn K (.ref C) = true
  ha : PySem.W.findIn K (.ref C) "__class__" = some (some (.builtin "object.__class__"))
  hn : PySem.W.specialIn K (.builtin "object.__class__") "__get__" = some (some (.builtin "getset_descriptor.__get__"))
  htk : PySem.W.takesIn K (.builtin "object.__class__") = some true
  hm : PySem.W.mroIn K C (.type "object") = some true
theorem ClsTop.cls {K : PySem.W.Frag} {C : Addr} (c : ClsTop K C) : Cls K C := ⟨c.pg, c.hd, c.po, c.sa⟩
theorem ClsTop.ins {K : PySem.W.Frag} {C : Addr} (c : ClsTop K C) : C8.InsC K C := ⟨c.cls, c.ha, c.hn, c.htk, c.hm, if_pos (by simp)⟩
theorem TopF.df {K : PySem.W.Frag} {mg : Str → Option Value} {h : Heap} {x : Str} {st : Stmt} {ps : List Str} (t : TopF K x st) (X : K.In h) (G : h.Ns mainGlobals mg) (hb : BindsF x x st ps) :
    ∃ (f : Addr) (fd : FuncData), Df K mg x ps st f fd := by
  obtain ⟨f, od, an, sl, oc, kV, dc, pm, cd, ct, a, l, c, k⟩ := t
  have F := L2.fun_mk (st := st) l c k
  exact ⟨f, _, F, PySem.W.mg_of X G a, L2.Fun.binds F hb⟩
theorem TopM.fn {K : PySem.W.Frag} {C : Addr} {m q : Str} {st : Stmt} {ps : List Str} (t : TopM K C m q st) (hb : BindsF m q st ps) :
    ∃ (f : Addr) (fd : FuncData), PySem.W.findIn K (.ref C) m = some (some (.ref f)) ∧ PySem.W.isFn K (.ref f) = true ∧ Fun K m q st f fd ∧ Binds K fd ps [] := by
  obtain ⟨f, od, an, sl, oc, kV, dc, pm, cd, ct, a, i, l, c, k⟩ := t
  have F := L2.fun_mk (st := st) l c k
  exact ⟨f, _, a, i, F, L2.Fun.binds F hb⟩
/-- the law's own def: its frame too -/
theorem TopF.law {K : PySem.W.Frag} {mg : Str → Option Value} {h : Heap} {x y : Str} {st : Stmt} {fa : Addr} (t : TopF K x st) (X : K.In h) (G : h.Ns mainGlobals mg) (hfa : mg x = some (.ref fa)) (hb : BindsF x x st [y]) :
    ∃ (fd : FuncData), Df K mg x [y] st fa fd ∧ ∀ (s : Shared) (v : Value), BindsTo s fd ⟨[v], []⟩ [(y, v)] := by
  obtain ⟨f, od, an, sl, oc, kV, dc, pm, cd, ct, a, l, c, k⟩ := t
  have e := hfa.symm.trans (PySem.W.mg_of X G a)
  cases e
  have F := L2.fun_mk (st := st) l c k
  exact ⟨_, ⟨F, PySem.W.mg_of X G a, L2.Fun.binds F hb⟩, fun s v => .of_eq (hb kV dc pm an cd ct [v] rfl)⟩
end LB
namespace LB
open PySem PySem.Spec PyProof.Rows L2 RS
theorem TopF.of {K : PySem.W.Frag} {x : Str} {st : Stmt} {f : Addr} {od an : Option Addr} {sl : Array (Option Value)} {oc kV dc pm cd ct : Value} (a : PySem.W.nsIn K mainGlobals x = some (some (.ref f)))
    (l : K.lookup f = some ⟨oc, od, .func (PySem.W.fnOf x x (defArgs st) (defBody st) (defScope st) .none kV dc pm an cd ct), sl⟩) (c : PySem.W.codeIn K cd x = true) (k : PySem.W.keepIn K (.ref f) = true) : TopF K x st := ⟨f, od, an, sl, oc, kV, dc, pm, cd, ct, a, l, c, k⟩
theorem TopM.of {K : PySem.W.Frag} {C : Addr} {m q : Str} {st : Stmt} {f : Addr} {od an : Option Addr} {sl : Array (Option Value)} {oc kV dc pm cd ct : Value} (a : PySem.W.findIn K (.ref C) m = some (some (.ref f))) (i : PySem.W.isFn K (.ref f) = true)
    (l : K.lookup f = some ⟨oc, od, .func (PySem.W.fnOf m q (defArgs st) (defBody st) (defScope st) .none kV dc pm an cd ct), sl⟩) (c : PySem.W.codeIn K cd q = true) (k : PySem.W.keepIn K (.ref f) = true) : TopM K C m q st := ⟨f, od, an, sl, oc, kV, dc, pm, cd, ct, a, i, l, c, k⟩
end LB
set_option Elab.async false
set_option linter.all false
set_option maxRecDepth 100000
/-! Logs: numbers of readings, and rounds. -/
namespace LB
open PySem PySem.Spec PyProof.Rows L2 RS
inductive Lgi : Type
  | rd (k : Nat) : Lgi
  | ro (m : Int) (its : List Lgi) : Lgi
mutual
/-- an item of a log, as a value -/
inductive IsI (K : PySem.W.Frag) (H : Hp) : V → Lgi → Prop
  | rd (k : Nat) : IsI K H (.int (k : Nat)) (.rd k)
  | ro {a l : Addr} {vs : List V} {m : Int} {its : List Lgi} : SqT K H a [.str "times", .int m, .ref l] → SqT K H l vs → IsL K H vs its → IsI K H (.ref a) (.ro m its)
inductive IsL (K : PySem.W.Frag) (H : Hp) : List V → List Lgi → Prop
  | nil : IsL K H [] []
  | cons {v : V} {vs : List V} {i : Lgi} {its : List Lgi} : IsI K H v i → IsL K H vs its → IsL K H (v :: vs) (i :: its)
end
mutual
theorem IsI.keep {K : PySem.W.Frag} {H H' : Hp} (e : ∀ a xs, SqT K H a xs → SqT K H' a xs) : ∀ (i : Lgi) (v : V), IsI K H v i → IsI K H' v i
  | .rd k, _, h => by
    cases h
    exact .rd k
  | .ro m its, _, h => by
    cases h with
    | ro h1 h2 h3 => exact .ro (e _ _ h1) (e _ _ h2) (IsL.keep e its _ h3)
theorem IsL.keep {K : PySem.W.Frag} {H H' : Hp} (e : ∀ a xs, SqT K H a xs → SqT K H' a xs) : ∀ (its : List Lgi) (vs : List V), IsL K H vs its → IsL K H' vs its
  | [], _, h => by
    cases h
    exact .nil
  | i :: its, _, h => by
    cases h with
    | cons h1 h2 => exact .cons (IsI.keep e i _ h1) (IsL.keep e its _ h2)
end
theorem IsI.same {K : PySem.W.Frag} {H H' : Hp} {v : V} {i : Lgi} (e : Same H H') (h : IsI K H v i) : IsI K H' v i := IsI.keep (fun _ _ h => T_seq e h) i v h
theorem IsL.same {K : PySem.W.Frag} {H H' : Hp} {vs : List V} {its : List Lgi} (e : Same H H') (h : IsL K H vs its) : IsL K H' vs its := IsL.keep (fun _ _ h => T_seq e h) its vs h
theorem IsL.but {K : PySem.W.Frag} {H H' : Hp} {p c : Addr} {vs : List V} {its : List Lgi} (P : Pool H p c) (B : But p c H H') (h : IsL K H vs its) : IsL K H' vs its := IsL.keep (fun _ _ h => P.t B h) its vs h
theorem IsL.len {K : PySem.W.Frag} {H : Hp} : ∀ {vs : List V} {its : List Lgi}, IsL K H vs its → vs.length = its.length
  | _, [], h => by cases h; rfl
  | _, i :: its, h => by
    cases h with
    | cons h1 h2 => exact congrArg (· + 1) h2.len
theorem IsL.at {K : PySem.W.Frag} {H : Hp} : ∀ {vs : List V} {its : List Lgi} {n : Nat} {x : V}, IsL K H vs its → vs[n]? = some x → ∃ i, its[n]? = some i ∧ IsI K H x i
  | _, [], _, _, h, e => by cases h; cases e
  | _, i :: its, 0, x, h, e => by
    cases h with
    | cons h1 h2 =>
      cases e
      exact ⟨i, rfl, h1⟩
  | _, i :: its, n + 1, x, h, e => by
    cases h with
    | cons h1 h2 => exact h2.at e
theorem IsL.of {K : PySem.W.Frag} {H : Hp} : ∀ {vs : List V} {its : List Lgi} {n : Nat} {i : Lgi}, IsL K H vs its → its[n]? = some i → ∃ x, vs[n]? = some x ∧ IsI K H x i
  | _, [], _, _, h, e => by cases e
  | _, i :: its, 0, x, h, e => by
    cases h with
    | cons h1 h2 =>
      cases e
      exact ⟨_, rfl, h1⟩
  | _, i :: its, n + 1, x, h, e => by
    cases h with
    | cons h1 h2 => exact h2.of e
theorem IsL.app {K : PySem.W.Frag} {H : Hp} : ∀ {vs ws : List V} {its jts : List Lgi}, IsL K H vs its → IsL K H ws jts → IsL K H (vs ++ ws) (its ++ jts)
  | _, _, [], _, h, g => by cases h; exact g
  | _, _, i :: its, _, h, g => by
    cases h with
    | cons h1 h2 => exact .cons h1 (h2.app g)
/-! ### the form of a log -/
mutual
/-- numbers of n readings, rounds at most so deep, none empty -/
def Lgi.ok (n : Nat) : Nat → Lgi → Prop
  | _, .rd k => k < n
  | d, .ro m its => 0 < d ∧ 1 ≤ m ∧ m.natAbs ≤ 2 ^ 300 ∧ its ≠ [] ∧ its.length ≤ 1000000 ∧ okL n (d - 1) its
def okL (n : Nat) : Nat → List Lgi → Prop
  | _, [] => True
  | d, i :: its => i.ok n d ∧ okL n d its
end
theorem okL.mem {n d : Nat} : ∀ {its : List Lgi}, okL n d its → ∀ i ∈ its, i.ok n d
  | [], _, i, h => by cases h
  | j :: its, g, i, h => by
    unfold okL at g
    rcases List.mem_cons.mp h with rfl | h
    · exact g.1
    · exact g.2.mem i h
theorem okL.of {n d : Nat} : ∀ {its : List Lgi}, (∀ i ∈ its, i.ok n d) → okL n d its
  | [], _ => by unfold okL; trivial
  | j :: its, g => by
    unfold okL
    exact ⟨g j List.mem_cons_self, okL.of fun i hi => g i (List.mem_cons_of_mem _ hi)⟩
/-! ### how often a reading stands in it -/
mutual
def Lgi.cnt (k : Nat) : Lgi → Int
  | .rd j => if j = k then 1 else 0
  | .ro m its => m * cntL k its
def cntL (k : Nat) : List Lgi → Int
  | [] => 0
  | i :: its => i.cnt k + cntL k its
end
theorem cntL_app (k : Nat) : ∀ (xs ys : List Lgi), cntL k (xs ++ ys) = cntL k xs + cntL k ys
  | [], ys => by simp [cntL]
  | x :: xs, ys => by
    show cntL k (x :: (xs ++ ys)) = _
    simp only [cntL, cntL_app k xs ys, Int.add_assoc]
/-! ### where it begins and ends -/
/-- the first reading -/
def Lgi.first : Lgi → Nat
  | .rd k => k
  | .ro _ [] => 0
  | .ro _ (i :: _) => i.first
mutual
/-- the last one -/
def Lgi.last : Lgi → Nat
  | .rd k => k
  | .ro _ its => lastL its
def lastL : List Lgi → Nat
  | [] => 0
  | [i] => i.last
  | _ :: j :: its => lastL (j :: its)
end
def rdr (L : List RK) (k : Nat) : Int := (L.getD k (0, 0, [])).1
def rds (L : List RK) (k : Nat) : Int := (L.getD k (0, 0, [])).2.1
mutual
/-- its walk is one -/
def Lgi.leads (L : List RK) : Lgi → Prop
  | .rd _ => True
  | .ro m its => leadsL L its ∧ (1 < m → rds L (lastL its) = rdr L (Lgi.ro m its).first)
def leadsL (L : List RK) : List Lgi → Prop
  | [] => True
  | i :: its => i.leads L ∧ leadsL L its ∧ ∀ j, its.head? = some j → rds L i.last = rdr L j.first
end
end LB
set_option Elab.async false
set_option linter.all false
set_option maxRecDepth 100000
/-! Logs written out: spans, counts, lengths. -/
namespace LB
open PySem PySem.Spec PyProof.Rows L2 RS
mutual
/-- its walk -/
def Lgi.wr : Lgi → List Nat
  | .rd k => [k]
  | .ro m its => (List.replicate m.toNat (wrL its)).flatten
def wrL : List Lgi → List Nat
  | [] => []
  | i :: its => i.wr ++ wrL its
end
theorem wrL_app : ∀ (xs ys : List Lgi), wrL (xs ++ ys) = wrL xs ++ wrL ys
  | [], ys => by simp [wrL]
  | x :: xs, ys => by
    show wrL (x :: (xs ++ ys)) = _
    simp only [wrL, wrL_app xs ys, List.append_assoc]
/-! ### spans -/
structure S3 where
  e : Int
  l : Int
  h : Int
def S3.add (a b : S3) : S3 := ⟨a.e + b.e, if a.e + b.l < a.l then a.e + b.l else a.l, if a.e + b.h > a.h then a.e + b.h else a.h⟩
def S3.rounds (m : Int) (a : S3) : S3 := ⟨m * a.e, a.l + (if (m - 1) * a.e < 0 then (m - 1) * a.e else 0), a.h + (if (m - 1) * a.e > 0 then (m - 1) * a.e else 0)⟩
def S3.zero : S3 := ⟨0, 0, 0⟩
def S3.good (a : S3) : Prop := a.l ≤ a.e ∧ a.e ≤ a.h
theorem S3.ext' {a b : S3} (h1 : a.e = b.e) (h2 : a.l = b.l) (h3 : a.h = b.h) : a = b := by
  cases a; cases b
  simp only at h1 h2 h3
  rw [h1, h2, h3]
theorem S3.assoc (a b c : S3) : (a.add b).add c = a.add (b.add c) := by
  refine S3.ext' ?_ ?_ ?_
  · simp only [S3.add]; omega
  · simp only [S3.add]; repeat' split
    all_goals omega
  · simp only [S3.add]; repeat' split
    all_goals omega
theorem S3.add_zero {a : S3} (h : a.good) : a.add .zero = a := by
  unfold S3.good at h
  refine S3.ext' ?_ ?_ ?_
  · simp only [S3.add, S3.zero]; omega
  · exact if_neg (show ¬ (a.e + 0 < a.l) by omega)
  · exact if_neg (show ¬ (a.e + 0 > a.h) by omega)
theorem S3.zero_good : S3.zero.good := ⟨Int.le_refl _, Int.le_refl _⟩
mutual
def Lgi.sp (f : Nat → Int) : Lgi → S3
  | .rd k => ⟨f k, f k, f k⟩
  | .ro m its => (spL f .zero its).rounds m
def spL (f : Nat → Int) : S3 → List Lgi → S3
  | a, [] => a
  | a, i :: its => spL f (a.add (i.sp f)) its
end
theorem spL_app (f : Nat → Int) : ∀ (a : S3) (xs ys : List Lgi), spL f a (xs ++ ys) = spL f (spL f a xs) ys
  | a, [], ys => by simp [spL]
  | a, x :: xs, ys => by
    show spL f a (x :: (xs ++ ys)) = _
    simp only [spL]
    exact spL_app f _ xs ys
theorem spL_grow {f : Nat → Int} {a : S3} {its : List Lgi} {i : Nat} {it : Lgi} (h : its[i]? = some it) : spL f a (its.take (i + 1)) = (spL f a (its.take i)).add (it.sp f) := by
  rw [List.take_add_one, h, Option.toList, spL_app]
  simp [spL]
def spW (f : Nat → Int) (a : S3) (w : List Nat) : S3 := w.foldl (fun a k => a.add ⟨f k, f k, f k⟩) a
theorem spW_app (f : Nat → Int) (a : S3) (v w : List Nat) : spW f a (v ++ w) = spW f (spW f a v) w := List.foldl_append
theorem spW_add (f : Nat → Int) : ∀ (w : List Nat) (a b : S3), spW f (a.add b) w = a.add (spW f b w)
  | [], a, b => rfl
  | k :: w, a, b => by
    show spW f ((a.add b).add _) w = a.add (spW f (b.add _) w)
    rw [S3.assoc, spW_add f w]
theorem spW_from {f : Nat → Int} {w : List Nat} {a : S3} (h : a.good) : spW f a w = a.add (spW f .zero w) := by
  rw [← spW_add, S3.add_zero h]
theorem spW_good {f : Nat → Int} : ∀ {w : List Nat} {a : S3}, a.good → (spW f a w).good
  | [], a, h => h
  | k :: w, a, h => by
    refine spW_good (w := w) ?_
    unfold S3.good at h ⊢
    simp only [S3.add]
    constructor <;> split <;> omega
theorem rounds_add (s : S3) (n : Nat) : s.add (s.rounds ((n + 1 : Nat) : Int)) = s.rounds ((n + 2 : Nat) : Int) := by
  have e1 : (((n + 1 : Nat) : Int) - 1) * s.e = (n : Int) * s.e := by congr 1; omega
  have e2 : (((n + 2 : Nat) : Int) - 1) * s.e = (n : Int) * s.e + s.e := by
    rw [show ((n + 2 : Nat) : Int) - 1 = (n : Int) + 1 by omega, Int.add_mul, Int.one_mul]
  have e3 : ((n + 1 : Nat) : Int) * s.e = (n : Int) * s.e + s.e := by
    rw [show ((n + 1 : Nat) : Int) = (n : Int) + 1 by omega, Int.add_mul, Int.one_mul]
  have e4 : ((n + 2 : Nat) : Int) * s.e = (n : Int) * s.e + s.e + s.e := by
    rw [show ((n + 2 : Nat) : Int) = (n : Int) + 1 + 1 by omega, Int.add_mul, Int.add_mul, Int.one_mul]
  have sg : (0 ≤ s.e → 0 ≤ (n : Int) * s.e) ∧ (s.e ≤ 0 → (n : Int) * s.e ≤ 0) := ⟨fun h => Int.mul_nonneg (by omega) h, fun h => Int.mul_nonpos_of_nonneg_of_nonpos (by omega) h⟩
  unfold S3.add S3.rounds
  simp only [e1, e2, e3, e4]
  generalize (n : Int) * s.e = x at sg
  refine S3.ext' ?_ ?_ ?_
  · simp only; omega
  · simp only; repeat' split
    all_goals omega
  · simp only; repeat' split
    all_goals omega
theorem spW_rounds {f : Nat → Int} {w : List Nat} : ∀ (n : Nat) {a : S3}, a.good → spW f a (List.replicate (n + 1) w).flatten = a.add ((spW f .zero w).rounds ((n + 1 : Nat) : Int))
  | 0, a, h => by
    rw [List.replicate_one, List.flatten_singleton, spW_from h]
    congr 1
    unfold S3.rounds
    simp
  | n + 1, a, h => by
    rw [List.replicate_succ, List.flatten_cons, spW_app, spW_rounds n (spW_good h), spW_from h, S3.assoc, rounds_add]
mutual
theorem sp_w (f : Nat → Int) {n : Nat} : ∀ (i : Lgi) (d : Nat), i.ok n d → ∀ a : S3, a.good → a.add (i.sp f) = spW f a i.wr
  | .rd k, d, _, a, h => by simp [Lgi.sp, Lgi.wr, spW]
  | .ro m its, d, ok, a, h => by
    unfold Lgi.ok at ok
    obtain ⟨_, m1, _, _, _, ok⟩ := ok
    obtain ⟨k, hk⟩ : ∃ k : Nat, m.toNat = k + 1 := ⟨m.toNat - 1, by omega⟩
    have hm : m = ((k + 1 : Nat) : Int) := by omega
    simp only [Lgi.sp, Lgi.wr, hk]
    rw [spW_rounds k h, spL_w f its (d - 1) ok .zero S3.zero_good, ← hm]
theorem spL_w (f : Nat → Int) {n : Nat} : ∀ (its : List Lgi) (d : Nat), okL n d its → ∀ a : S3, a.good → spL f a its = spW f a (wrL its)
  | [], d, _, a, h => by simp [spL, wrL, spW]
  | i :: its, d, ok, a, h => by
    unfold okL at ok
    have e := sp_w f i d ok.1 a h
    simp only [spL, wrL]
    rw [spW_app, e, spL_w f its d ok.2 _ (spW_good h)]
end
/-! ### bounds -/
mutual
theorem sp_b {f : Nat → Int} {n : Nat} (hf : ∀ k, k < n → (f k).natAbs ≤ 2 ^ 100) : ∀ (i : Lgi) (d : Nat), i.ok n d → (i.sp f).e.natAbs ≤ 2 ^ (400 * d + 100)
  | .rd k, d, ok => by
    unfold Lgi.ok at ok
    simp only [Lgi.sp]
    exact Nat.le_trans (hf k ok) (Nat.pow_le_pow_right (by decide) (by omega))
  | .ro m its, d, ok => by
    unfold Lgi.ok at ok
    obtain ⟨d0, m1, mb, _, few, ok⟩ := ok
    have b := spL_b hf its (d - 1) ok .zero
    simp only [Lgi.sp, S3.rounds, S3.zero, Int.natAbs_zero, Nat.zero_add] at b ⊢
    rw [Int.natAbs_mul]
    refine Nat.le_trans (Nat.mul_le_mul mb (Nat.le_trans b (Nat.mul_le_mul (Nat.le_trans few (show 1000000 ≤ 2 ^ 20 by decide)) (Nat.le_refl _)))) ?_
    rw [← Nat.pow_add, ← Nat.pow_add]
    exact Nat.pow_le_pow_right (by decide) (by omega)
theorem spL_b {f : Nat → Int} {n : Nat} (hf : ∀ k, k < n → (f k).natAbs ≤ 2 ^ 100) : ∀ (its : List Lgi) (d : Nat), okL n d its → ∀ a : S3, (spL f a its).e.natAbs ≤ a.e.natAbs + its.length * 2 ^ (400 * d + 100)
  | [], d, _, a => by simp [spL]
  | i :: its, d, ok, a => by
    unfold okL at ok
    have b1 := sp_b hf i d ok.1
    have b2 := spL_b hf its d ok.2 (a.add (i.sp f))
    have b3 : (a.add (i.sp f)).e.natAbs ≤ a.e.natAbs + (i.sp f).e.natAbs := Int.natAbs_add_le _ _
    simp only [spL, List.length_cons]
    rw [Nat.add_mul, Nat.one_mul]
    generalize 2 ^ (400 * d + 100) = X at *
    omega
end
theorem spL_few {f : Nat → Int} {n : Nat} (hf : ∀ k, k < n → (f k).natAbs ≤ 2 ^ 100) {its : List Lgi} {d : Nat} (ok : okL n d its) (few : its.length ≤ 1000000) : (spL f .zero its).e.natAbs < 2 ^ (400 * d + 121) := by
  have b := spL_b hf its d ok .zero
  simp only [S3.zero, Int.natAbs_zero, Nat.zero_add] at b
  refine Nat.lt_of_le_of_lt (Nat.le_trans b (Nat.mul_le_mul (Nat.le_trans few (show 1000000 ≤ 2 ^ 20 by decide)) (Nat.le_refl _))) ?_
  rw [← Nat.pow_add]
  exact Nat.pow_lt_pow_right (by decide) (by omega)
/-! ### counts, lengths -/
theorem count_rep {w : List Nat} {k : Nat} : ∀ n, (List.replicate n w).flatten.count k = n * w.count k
  | 0 => by simp
  | n + 1 => by rw [List.replicate_succ, List.flatten_cons, List.count_append, count_rep n, Nat.add_mul, Nat.one_mul, Nat.add_comm]
theorem len_rep {w : List Nat} : ∀ n, (List.replicate n w).flatten.length = n * w.length
  | 0 => by simp
  | n + 1 => by rw [List.replicate_succ, List.flatten_cons, List.length_append, len_rep n, Nat.add_mul, Nat.one_mul, Nat.add_comm]
mutual
theorem cnt_w {n : Nat} (k : Nat) : ∀ (i : Lgi) (d : Nat), i.ok n d → i.cnt k = ((i.wr.count k : Nat) : Int)
  | .rd j, d, _ => by
    simp only [Lgi.cnt, Lgi.wr, List.count_singleton, beq_iff_eq]
    by_cases h : j = k <;> simp [h]
  | .ro m its, d, ok => by
    unfold Lgi.ok at ok
    obtain ⟨_, m1, _, _, _, ok⟩ := ok
    simp only [Lgi.cnt, Lgi.wr]
    rw [count_rep, cntL_w k its (d - 1) ok, Int.natCast_mul, Int.toNat_of_nonneg (by omega)]
theorem cntL_w {n : Nat} (k : Nat) : ∀ (its : List Lgi) (d : Nat), okL n d its → cntL k its = (((wrL its).count k : Nat) : Int)
  | [], d, _ => by simp [cntL, wrL]
  | i :: its, d, ok => by
    unfold okL at ok
    simp only [cntL, wrL]
    rw [List.count_append, cnt_w k i d ok.1, cntL_w k its d ok.2, Int.natCast_add]
end
mutual
def Lgi.len : Lgi → Int
  | .rd _ => 1
  | .ro m its => m * lenL its
def lenL : List Lgi → Int
  | [] => 0
  | i :: its => i.len + lenL its
end
theorem lenL_app : ∀ (xs ys : List Lgi), lenL (xs ++ ys) = lenL xs + lenL ys
  | [], ys => by simp [lenL]
  | x :: xs, ys => by
    show lenL (x :: (xs ++ ys)) = _
    simp only [lenL, lenL_app xs ys, Int.add_assoc]
mutual
theorem len_w {n : Nat} : ∀ (i : Lgi) (d : Nat), i.ok n d → i.len = ((i.wr.length : Nat) : Int)
  | .rd j, d, _ => by simp [Lgi.len, Lgi.wr]
  | .ro m its, d, ok => by
    unfold Lgi.ok at ok
    obtain ⟨_, m1, _, _, _, ok⟩ := ok
    simp only [Lgi.len, Lgi.wr]
    rw [len_rep, lenL_w its (d - 1) ok, Int.natCast_mul, Int.toNat_of_nonneg (by omega)]
theorem lenL_w {n : Nat} : ∀ (its : List Lgi) (d : Nat), okL n d its → lenL its = (((wrL its).length : Nat) : Int)
  | [], d, _ => by simp [lenL, wrL]
  | i :: its, d, ok => by
    unfold okL at ok
    simp only [lenL, wrL]
    rw [List.length_append, len_w i d ok.1, lenL_w its d ok.2, Int.natCast_add]
end
mutual
theorem wr_lt {n : Nat} : ∀ (i : Lgi) (d : Nat), i.ok n d → ∀ k ∈ i.wr, k < n
  | .rd j, d, ok, k, hk => by
    unfold Lgi.ok at ok
    simp only [Lgi.wr, List.mem_singleton] at hk
    omega
  | .ro m its, d, ok, k, hk => by
    unfold Lgi.ok at ok
    obtain ⟨_, m1, _, _, _, ok⟩ := ok
    simp only [Lgi.wr, List.mem_flatten] at hk
    obtain ⟨l, hl, hk⟩ := hk
    rw [List.eq_of_mem_replicate hl] at hk
    exact wrL_lt its (d - 1) ok k hk
theorem wrL_lt {n : Nat} : ∀ (its : List Lgi) (d : Nat), okL n d its → ∀ k ∈ wrL its, k < n
  | [], d, _, k, hk => by simp [wrL] at hk
  | i :: its, d, ok, k, hk => by
    unfold okL at ok
    simp only [wrL, List.mem_append] at hk
    rcases hk with hk | hk
    · exact wr_lt i d ok.1 k hk
    · exact wrL_lt its d ok.2 k hk
end
theorem head_rep {w : List Nat} {n : Nat} (h : 0 < n) : (List.replicate n w).flatten.head? = w.head? ∨ w = [] := by
  cases n with
  | zero => omega
  | succ n =>
    rw [List.replicate_succ, List.flatten_cons]
    cases w with
    | nil => exact .inr rfl
    | cons x w => exact .inl rfl
theorem first_w {n : Nat} : ∀ (i : Lgi) (d : Nat), i.ok n d → i.wr.head? = some i.first
  | .rd j, d, _ => by simp [Lgi.wr, Lgi.first]
  | .ro m [], d, ok => by
    unfold Lgi.ok at ok
    exact absurd rfl ok.2.2.2.1
  | .ro m (j :: its), d, ok => by
    unfold Lgi.ok at ok
    obtain ⟨_, m1, _, _, _, ok⟩ := ok
    unfold okL at ok
    have h := first_w j (d - 1) ok.1
    have h2 : (wrL (j :: its)).head? = some j.first := by
      simp only [wrL]
      cases e : j.wr with
      | nil => rw [e] at h; cases h
      | cons x r => rw [e] at h; exact h
    simp only [Lgi.wr, Lgi.first]
    rcases head_rep (w := wrL (j :: its)) (n := m.toNat) (by omega) with h3 | h3
    · rw [h3, h2]
    · rw [h3] at h2; cases h2
theorem firstL_w {n d : Nat} {i : Lgi} {its : List Lgi} (ok : okL n d (i :: its)) : (wrL (i :: its)).head? = some i.first := by
  unfold okL at ok
  have h := first_w i d ok.1
  simp only [wrL]
  cases e : i.wr with
  | nil => rw [e] at h; cases h
  | cons x r => rw [e] at h; exact h
end LB
set_option Elab.async false
set_option linter.all false
set_option maxRecDepth 100000
set_option maxHeartbeats 4000000
/-! t * m of a tuple, up to a million items; min and max within comprehensions. -/
namespace LB
open PySem PySem.Spec PyProof.Rows L2 RS
/-- t * m, m at least 2 -/
def rRepN (K : PySem.W.Frag) : R2 := fun x y H Q => ∃ (a : Addr) (m : Int) (ys : List V), x = .ref a ∧ y = .int m ∧ SqT K H a ys ∧ 0 < ys.length ∧ 2 ≤ m ∧ m.toNat * ys.length ≤ 1000000 ∧ ∀ p, H p = none → Q (.ref p) (upd H p (.tup (List.replicate m.toNat ys).flatten))
theorem op_repN {X : Cx} : OpR X (binaryOp .Mult) (rRepN X.K) := by
  rintro pins s σ H x y v u Q I rx ry ⟨a, m, ys, rfl, rfl, ht, pos, two, big, after⟩
  cases rx; rcases ry with ⟨tk, rfl⟩
  obtain ⟨vals, rel, ⟨⟨cl, dc, da, slo⟩, look, hcl, cap, hda⟩, hs⟩ := I.tuple ht
  simp only at hcl hda; subst hcl hda
  have len : vals.length = ys.length := rel.length.symm
  have mn : ((m.toNat : Nat) : Int) = m := Int.toNat_of_nonneg (by omega)
  have size : vals.toArray.size = ys.length := (List.size_toArray ..).trans len
  have full : vals.toArray.isEmpty = false := by
    cases vals with
    | nil => simp at len; omega
    | cons b r => rfl
  have prod : ((vals.toArray.size : Nat) : Int) * m ≤ 1000000 := by
    rw [size, ← mn, ← Int.natCast_mul, Nat.mul_comm]; omega
  have m1 : m ≤ 1000000 := by
    have : m.toNat * 1 ≤ m.toNat * ys.length := Nat.mul_le_mul (Nat.le_refl _) pos
    omega
  have flat : (List.replicate m.toNat vals).flatten.length ≤ sizeLine := by
    rw [PyProof.Rows.lm_len_rep_flat, len, sizeLine_eq]; omega
  have d0 : (decide (m < -(2 ^ 63)) || decide (m ≥ 2 ^ 63)) = false := by simp only [Bool.or_eq_false_iff, decide_eq_false_iff_not]; omega
  have d1 : (vals.toArray.isEmpty || m == 1) = false := by rw [full, Bool.false_or]; exact beq_eq_false_iff_ne.mpr (by omega)
  have d2 : (decide (m ≤ 0) || vals.toArray.isEmpty) = false := by rw [full, Bool.or_false]; exact decide_eq_false (by omega)
  have d4 : Builtin.Tuple.tupleTooMany (((vals.toArray.size : Nat) : Int) * m) = false := by unfold Builtin.Tuple.tupleTooMany; rw [sizeLine_eq]; exact decide_eq_false (by omega)
  have mul := L2.tuple_mulW a vals.toArray cap dc slo m tk d0 d1 d2 (by omega) d4 (by rw [L2.size_rep, List.size_toArray]; exact flat)
  refine wpAny_binaryOp_repeat_ref (T := "tuple") (U := "int") (by decide) ⟨_, look, rfl⟩ (fun s' => typeIs_int s' m tk) L2.noFill_tuple_mul F.fills_int_mul F.slot_int_rmul L2.repeat_tuple F.slot_int_index.lookup ?_
  refine call_meets F.slot_int_rmul (typeIs_int s m tk) F.entry_int_rmul (F.args_int_rmul_2 _ _) (L2.int_rmul_tuple m tk a vals.toArray cap dc slo) ⟨look, rfl, ⟨_, look, rfl⟩, ?_⟩
  refine call_meets F.slot_tuple_mul ⟨_, look, rfl⟩ F.entry_tuple_mul (F.args_tuple_mul_2 _ _) mul ⟨look, ?_⟩
  rw [L2.size_rep]
  have laid : ObjOk X.prog X.w H (s.heap.push { cls := Value.type "tuple", data := Data.seq (List.replicate m.toNat vals).flatten.toArray }) s.heap.objs.size (.tup (List.replicate m.toNat ys).flatten) :=
    ⟨by rw [PyProof.Rows.lm_len_rep_flat, sizeLine_eq]; omega, _, rel.rep m.toNat, IsTup.new _ _⟩
  exact ⟨.ref s.heap.objs.size, _, I.laid (t' := s.toks) (o := .tup (List.replicate m.toNat ys).flatten) (fun b ob z => Heap.get?_push_of_some _ z) (Nat.le_refl _) laid, rfl, after _ (I.hok.fresh (Nat.le_refl _))⟩
/-- t * m, m at least 1: some tuple of the items so often -/
def rRepA (K : PySem.W.Frag) : R2 := fun x y H Q => ∃ (a : Addr) (m : Int) (ys : List V), x = .ref a ∧ y = .int m ∧ SqT K H a ys ∧ 0 < ys.length ∧ 1 ≤ m ∧ m.toNat * ys.length ≤ 1000000 ∧ ∀ H' r, Same H H' → SqT K H' r (List.replicate m.toNat ys).flatten → Q (.ref r) H'
theorem op_repA {X : Cx} : OpR X (binaryOp .Mult) (rRepA X.K) := by
  intro pins s σ H x y v u Q I rx ry h
  obtain ⟨a, m, ys, rfl, rfl, ht, pos, one, big, q⟩ := h
  by_cases e : m = 1
  · subst e
    exact op_rep1 pins s σ H _ _ v u Q I rx ry ⟨a, ys, rfl, rfl, ht, fun z => (by rw [z] at pos; exact Nat.lt_irrefl _ pos), q H a (Same.refl _) (by simpa using ht)⟩
  · exact op_repN pins s σ H _ _ v u Q I rx ry ⟨a, m, ys, rfl, rfl, ht, pos, by omega, big, fun p np => q _ p (same_new np) T_new⟩
variable (K : PySem.W.Frag) {X : Cx}
theorem cr_min' (hc : X.calm = true) (h : X.K = K := by rfl) : CallR X (.builtin "min") (rMin K) := by subst h; exact cr_min hc
theorem cr_max' (hc : X.calm = true) (h : X.K = K := by rfl) : CallR X (.builtin "max") (rMax K) := by subst h; exact cr_max hc
end LB
set_option Elab.async false
set_option linter.all false
set_option maxRecDepth 100000
set_option maxHeartbeats 1000000
/-! A reading in a tuple of readings: in, not in, index; a comprehension over enumerate of a tuple. -/
namespace LB
open PySem PySem.Spec PyProof.Rows L2 RS
theorem lay_is : ∀ xs : List Int, PyData.canLayAll0 (xs.map PyData.int) = true
  | [] => rfl
  | x :: xs => by
    show (true && PyData.canLayAll0 (xs.map PyData.int)) = true
    rw [lay_is xs]
    rfl
theorem lay_k (k : RK) : (enc k).canLay0 = true := by
  show (true && (true && (PyData.canLayAll0 (k.2.2.map PyData.int) && true))) = true
  rw [lay_is]
  rfl
theorem lay_ks : ∀ L : Ks, PyData.canLayAll0 (L.map fun p => enc p.2) = true
  | [] => rfl
  | k :: L => by
    show ((enc k.2).canLay0 && PyData.canLayAll0 (L.map fun p => enc p.2)) = true
    rw [lay_ks L, lay_k]
    rfl
theorem depth_ks : ∀ L : Ks, PyData.depthAll (L.map fun p => enc p.2) ≤ 2
  | [] => Nat.zero_le _
  | k :: L => by
    have h1 := depth_enc k.2
    have h2 := depth_ks L
    show Nat.max (enc k.2).depth (PyData.depthAll (L.map fun p => enc p.2)) ≤ 2
    exact Nat.max_le.mpr ⟨h1, h2⟩
theorem eqv_is : ∀ xs ys : List Int, PyData.eqvAll (xs.map .int) (ys.map .int) = decide (xs = ys)
  | [], [] => by simp [PyData.eqvAll]
  | [], _ :: _ => by simp [PyData.eqvAll]
  | _ :: _, [] => by simp [PyData.eqvAll]
  | x :: xs, y :: ys => by
    simp [PyData.eqvAll, PyData.eqv, eqv_is xs ys]
    by_cases e : x = y <;> simp [e]
theorem eqv_k (j k : RK) : PyData.eqv (enc j) (enc k) = decide (j = k) := by
  unfold enc
  simp only [PyData.eqv, PyData.eqvAll, eqv_is, Bool.and_true]
  obtain ⟨a, b, c⟩ := j
  obtain ⟨a', b', c'⟩ := k
  by_cases h1 : a = a' <;> by_cases h2 : b = b' <;> by_cases h3 : c = c' <;> simp [h1, h2, h3]
section
variable {X : Cx} {pins : List (Addr × Obj)} {σ : L2.St} {H : Hp} {s : Shared}
theorem reads_ks {h : Heap} : ∀ {L : Ks}, (∀ p ∈ L, ReadR h p.2 p.1) → ReadsAll h (refs L) (L.map fun p => enc p.2) []
  | [], _ => .nil
  | p :: L, q => .cons (as := []) (bs := []) (q p List.mem_cons_self) (reads_ks fun r hr => q r (List.mem_cons_of_mem _ hr))
def rInR (K : PySem.W.Frag) (neg : Bool) : R2 := fun x y H Q => ∃ (b a : Addr) (ks : Ks) (k : RK), x = .ref b ∧ y = .ref a ∧ RdAt K H b k ∧ SqT K H a (ks.map fun p => V.ref p.1) ∧ (∀ p ∈ ks, RdAt K H p.1 p.2) ∧
  Q (.bl (if neg then !decide (k ∈ ks.map (·.2)) else decide (k ∈ ks.map (·.2)))) H
theorem any_k (ks : Ks) (k : RK) : ((ks.map fun p => enc p.2).any fun y => PyData.eqv y (enc k)) = decide (k ∈ ks.map (·.2)) := by
  rw [List.any_map, Bool.eq_iff_iff, List.any_eq_true, decide_eq_true_eq, List.mem_map]
  constructor
  · rintro ⟨p, hp, e⟩
    have e : PyData.eqv (enc p.2) (enc k) = true := e
    rw [eqv_k] at e
    exact ⟨p, hp, of_decide_eq_true e⟩
  · rintro ⟨p, hp, e⟩
    refine ⟨p, hp, ?_⟩
    show PyData.eqv (enc p.2) (enc k) = true
    rw [eqv_k]
    exact decide_eq_true e
theorem op_notInR (hu : X.A.units + 64 < cLine) : OpR X (compareOp .NotIn) (rInR X.K true) := by
  intro pins s σ H x y v u Q I rx ry h
  obtain ⟨b, a, ks, k, rfl, rfl, hb, ha, hk, q⟩ := h
  obtain ⟨its, r, ⟨o, ho, hc, n, hd⟩, _⟩ := I.tuple ha
  have ei := refs_vals r
  subst ei
  cases rx
  cases ry
  have e1 := depth_enc k
  refine SeqAt.notIn_tuple_reads (as := []) (bs := []) (xs := ks.map fun p => enc p.2) (d := enc k) (.tuple ho hc hd (by simpa using reads_ks fun p hp => (rd_is I (hk p hp)).2)) (rd_is I hb).2 (lay_ks ks) (lay_k k) (by omega) ?_
  rw [any_k]
  exact ⟨.bl _, H, I, rfl, q⟩
def rIndexR (K : PySem.W.Frag) : V → List V → Hp → VK → Prop := fun x vs H Q => ∃ (a b : Addr) (ks : Ks) (k : RK) (j : Nat), x = .ref a ∧ vs = [.ref b] ∧ SqT K H a (ks.map fun p => V.ref p.1) ∧ (∀ p ∈ ks, RdAt K H p.1 p.2) ∧ RdAt K H b k ∧ (ks.map (·.2))[j]? = some k ∧
  (∀ m, m < j → (ks.map (·.2))[m]? ≠ some k) ∧ Q (.int (j : Nat)) H
theorem mt_indexR (hu : X.A.units + 64 < cLine) : MtR X "tuple.index" (rIndexR X.K) := by
  intro pins s σ H x vs v us Q I rx rs h
  obtain ⟨a, b, ks, k, j, rfl, rfl, ha, hk, hb, hj, hno, q⟩ := h
  cases rx
  rw [Vals.ref1 rs]
  obtain ⟨its, r, ⟨⟨cls, dd, dt, sl⟩, ho, hc, n, hd⟩, _⟩ := I.tuple ha
  have ei := refs_vals r
  subst ei
  simp only at hc hd
  subst hc hd
  have e1 := depth_enc k
  have lj : j < ks.length := by have := (List.getElem?_eq_some_iff.mp hj).1; rwa [List.length_map] at this
  have lr : (refs ks).length = ks.length := by unfold refs; rw [List.length_map]
  have at_ : ∀ (m : Nat) (hm : m < (refs ks).toArray.size), ∃ p, ks[m]? = some p ∧ SeqAt.readOf s.heap (refs ks).toArray[m] = enc p.2 := fun m hm => by
    have hm' : m < ks.length := by rw [← lr]; simpa using hm
    refine ⟨ks[m], List.getElem?_eq_getElem hm', ?_⟩
    have e2 : (refs ks).toArray[m] = Value.ref ks[m].1 := by
      show (refs ks)[m]'(by simpa using hm) = _
      unfold refs
      rw [List.getElem_map]
    rw [e2]
    exact SeqAt.readOf_eq (lay_k _) (rd_is I (hk _ (List.getElem_mem hm'))).2
  have jz : j < (refs ks).toArray.size := by simpa [lr] using lj
  refine call_meets PySem.F.slot_tuple_index ⟨_, ho, rfl⟩ PySem.F.entry_tuple_index (PySem.F.args_tuple_index_2 _ _) (TI.tuple_indexAt a (refs ks).toArray n dd sl (.ref b) (fun u => PyData.eqv (SeqAt.readOf s.heap u) (enc k)) j jz ?_ ?_)
    ⟨ho, SeqAt.items_eqAt (as := []) (bs := []) (xs := ks.map fun p => enc p.2) (by simpa using reads_ks fun p hp => (rd_is I (hk p hp)).2) (rd_is I hb).2 (lay_ks ks) (lay_k k) (by omega), ⟨.int (j : Nat), H, I.tok _, ⟨_, rfl⟩, q⟩⟩
  · obtain ⟨p, hp, e⟩ := at_ j jz
    show PyData.eqv (SeqAt.readOf s.heap (refs ks).toArray[j]) (enc k) = true
    rw [e, eqv_k]
    rw [List.getElem?_map, hp] at hj
    exact decide_eq_true (Option.some.inj hj)
  · intro m hm hmj
    obtain ⟨p, hp, e⟩ := at_ m hm
    show PyData.eqv (SeqAt.readOf s.heap (refs ks).toArray[m]) (enc k) = false
    rw [e, eqv_k]
    refine decide_eq_false fun z => hno m hmj ?_
    rw [List.getElem?_map, hp]
    exact congrArg some z
end
/-- a comprehension over enumerate of a tuple -/
theorem lc_enumT {K : PySem.W.Frag} {a : Addr} {xs : List V} {g : TG} {tt : TT} {te : TE} {vs : List Nat} {σ : L2.St} {H1 : Hp} {D : Addr} {Qd : Hp → Prop} (Pv : Nat → Hp → Prop) (h0 : Pv 0 (upd H1 D (.lst []))) (hq : ∀ i H, Pv i H → SqT K H a xs)
    (hs : ∀ (i : Nat) (x : V) (T : Addr) (H : Hp), xs[i]? = some x → Pv i H → H T = none → g (.ref T) (wipe σ vs) (upd H T (.tup [.int (i : Nat), x])) fun σ2 H2 => wipe σ2 vs = wipe σ vs ∧ tt σ2 H2 fun b H3 =>
      if b = true then te σ2 H3 fun y H4 => ∃ acc, H4 D = some (.lst acc) ∧ acc.length < sizeLine ∧ Pv (i + 1) (upd H4 D (.lst (acc ++ [y]))) else Pv (i + 1) H3) (hd : ∀ H, Pv xs.length H → Qd H) :
    ∃ W : Nat → Nat → Hp → Prop, (∃ m, W 0 m (upd H1 D (.lst []))) ∧ ∀ i m H, W i m H →
      ((IteT K a).stop i H ∧ Qd H) ∨ ((IteT K a).go i H ∧ ∃ Nx : Hp → Prop, (∀ H', Nx H' → ∃ m', m' < m ∧ W (i + 1) m' H') ∧ ∀ x H', (IteT K a).yld i H x H' → g x (wipe σ vs) H' fun σ2 H2 => wipe σ2 vs = wipe σ vs ∧ tt σ2 H2 fun b H3 =>
        if b = true then te σ2 H3 fun y H4 => ∃ acc, H4 D = some (.lst acc) ∧ acc.length < sizeLine ∧ Nx (upd H4 D (.lst (acc ++ [y]))) else Nx H3) := by
  refine ⟨fun i m H => m = xs.length - i ∧ i ≤ xs.length ∧ Pv i H, ⟨xs.length, rfl, Nat.zero_le _, h0⟩, ?_⟩
  rintro i m H ⟨rfl, hi, p⟩
  have q := hq i H p
  by_cases hlt : i < xs.length
  · have hx : xs[i]? = some xs[i] := List.getElem?_eq_getElem hlt
    refine .inr ⟨⟨xs, _, q, hx⟩, Pv (i + 1), fun H' p' => ⟨xs.length - (i + 1), by omega, rfl, hlt, p'⟩, fun v H' y => ?_⟩
    obtain ⟨T, x', rfl, hT, rfl, f1⟩ := y
    exact hs i x' T H (f1 xs q) p hT
  · have e : i = xs.length := by omega
    subst e
    exact .inl ⟨⟨xs, q, Nat.le_refl _⟩, hd H p⟩
end LB
namespace LB
open PySem PySem.Spec PyProof.Rows L2 RS
theorem op_notInR' (K : PySem.W.Frag) {X : Cx} (hu : X.A.units + 64 < cLine) (h : X.K = K := by rfl) : OpR X (compareOp .NotIn) (rInR K true) := by subst h; exact op_notInR hu
theorem op_notIn_seq' (K : PySem.W.Frag) {X : Cx} (h : X.K = K := by rfl) : OpR X (compareOp .NotIn) (rIn K true) := by subst h; exact op_notIn_seq
theorem sl_tupA' (K : PySem.W.Frag) {X : Cx} (h : X.K = K := by rfl) : SlR X (rSlA K) := by subst h; exact sl_tupA
theorem op_repT' (K : PySem.W.Frag) {X : Cx} (h : X.K = K := by rfl) : OpR X (binaryOp .Mult) (rRepT K) := by subst h; exact op_repT
theorem op_neRd {X : Cx} (hu : X.A.units + 64 < cLine) : OpR X (compareOp .NotEq) (fun x y H Q => ∃ (a b : Addr) (j k : RK), x = .ref a ∧ y = .ref b ∧ RdAt X.K H a j ∧ RdAt X.K H b k ∧ Q (.bl (!decide (j = k))) H) := by
  intro pins s σ H x y v u Q I rx ry h
  obtain ⟨a, b, j, k, rfl, rfl, h1, h2, q⟩ := h
  cases rx
  cases ry
  have e1 := depth_enc j
  have sh : ∀ k : RK, SeqAt.shaped (enc k) = true := fun k => by
    unfold SeqAt.shaped
    rw [Bool.and_eq_true]
    have := depth_enc k
    exact ⟨lay_k k, decide_eq_true (by omega)⟩
  refine SeqAt.compareNe_shaped (rd_is I h1).2 (rd_is I h2).2 (sh j) (sh k) hu ?_
  rw [eqv_k]
  exact ⟨.bl _, H, I, rfl, q⟩
def rNeRd (K : PySem.W.Frag) : R2 := fun x y H Q => ∃ (a b : Addr) (j k : RK), x = .ref a ∧ y = .ref b ∧ RdAt K H a j ∧ RdAt K H b k ∧ Q (.bl (!decide (j = k))) H
theorem op_neRd' (K : PySem.W.Frag) {X : Cx} (hu : X.A.units + 64 < cLine) (h : X.K = K := by rfl) : OpR X (compareOp .NotEq) (rNeRd K) := by subst h; exact op_neRd hu
end LB
namespace LB
open PySem PySem.Spec PyProof.Rows L2 RS
/-- tuple(xs) of a list, known to hold no names of its own -/
theorem call_tupF {X : Cx} : CallR X (.type "tuple") (fun xs H Q => ∃ p ys, xs = [.ref p] ∧ SqL X.K H p ys ∧ ∀ l o, o.dict = none → H l = none → Q (.ref l) (upd H l (.frz o (.tup ys)))) := by
  intro pins s σ H xs us Q I r h
  obtain ⟨p, ys, rfl, hq, q⟩ := h
  rw [Vals.ref1 r]
  obtain ⟨its, r', pl, hz⟩ := I.list hq
  refine call_tuple_list pl.isList (fun h' kp => ?_) (by rw [List.size_toArray, ← r'.length]; exact hz)
  have I1 : Inv X pins σ H { s with heap := h' } := I.kept (t' := s.toks) kp
  have hn := I1.hok.fresh (Nat.le_refl _)
  refine ⟨.ref h'.objs.size, upd H h'.objs.size (.frz { cls := .type "tuple", data := .seq its.toArray } (.tup ys)), ?_, rfl, q _ _ rfl hn⟩
  exact I1.laid (t' := s.toks) (fun b o e => Heap.get?_push_of_some _ e) (Nat.le_refl _) ⟨Heap.get?_push_size _ rfl, hz, its, r', IsTup.new _ _⟩
/-- a method of such a tuple -/
def tBMT (r : V → List V → Hp → VK → Prop) (to : TE) (t : TA) : TE := fun σ H Q => to σ H fun x H1 => (∃ p o xs, x = .ref p ∧ H1 p = some (.frz o (.tup xs)) ∧ o.dict = none) ∧ t σ H1 fun xs H2 => r x xs H2 Q
theorem pe_bmT {X : Cx} {o e : Expr} {es : List Expr} {to : TE} {t : TA} {name : Str} {apos cpos : Pos} {id : String} {r : V → List V → Hp → VK → Prop} (pa : PlainAttrs "tuple") (slot : Slot "tuple" name id) (hty : typeOf (.builtin id) = pure (.type "method_descriptor")) (hm : MtR X id r) (ho : PE X o to) (ha : PA X (e :: es) t)
    (hbase : attributeBase o name X.env (eval o X.env) = eval o X.env := by rfl)
    (hfew : ((backTo cpos (starEach (e :: es) X.env)).all (fun x => !x.1) && (backToKw cpos (keywordEach [] X.env)).all (fun x => x.1.isSome)
      && decide ((e :: es).length + ([] : List Keyword).length + (if ([] : List Keyword).isEmpty then 0 else 1) < 30)) = true := by rfl)
    (hline : (apos.endLine == cpos.line) = true := by rfl) (hs : starEach (e :: es) X.env = (false, eval e X.env) :: starEach es X.env := by rfl) (hplain : (backTo cpos (starEach es X.env)).any (·.1) = false := by rfl) :
    PE X (.Call (.Attribute o name apos) (e :: es) [] cpos) (tBMT r to t) := by
  refine ⟨fun pins s σ H Q I h => ?_⟩
  refine wpAny_Call_method_late hbase hfew hline rfl (thn (ho.run pins s σ H _ I h) fun v s1 ⟨x, H1, I1, r1, ⟨p, ob, ys, ex, hp, hd⟩, q1⟩ => ?_)
  subst ex
  cases r1
  obtain ⟨g1, _, _, _, g2⟩ := I1.hok p _ hp
  have h1 : s1.TypeIs (.ref p) "tuple" := by
    obtain ⟨o', a1, a2, _⟩ := g2
    exact ⟨o', a1, a2⟩
  refine ⟨"tuple", id, pa, slot, hty, h1, fun a e => by cases e; exact ⟨ob, g1, hd⟩, ?_⟩
  have hA := ha.run cpos pins s1 σ H1 _ I1 q1
  rw [hs] at hA ⊢
  refine Calls.callWith_builtin (by show (false || (backTo cpos (starEach es X.env)).any (·.1)) = false; rw [hplain] <;> rfl) (Calls.evalArgs_plain ?_)
  exact thn hA fun us s2 ⟨vs, H2, I2, r2, q2⟩ => hm pins s2 σ H2 (.ref p) vs _ us Q I2 rfl r2 q2
end LB
set_option Elab.async false
set_option linter.all false
set_option maxRecDepth 100000
set_option maxHeartbeats 2000000
/-! enumerate(list) within comprehensions; walks of zip. -/
namespace LB
open PySem PySem.Spec PyProof.Rows L2 RS
theorem pi_enum' (K : PySem.W.Frag) {X : Cx} {e : Expr} {ta : TA} {p pos tpos : Pos} {elts : List Expr} {kk : Nat} (hg : Gl X "enumerate") (hm : X.mg "enumerate" = none) (ha : PA X [e] ta) (hs : starEach [e] X.env = [(false, eval e X.env)] := by rfl) (h : X.K = K := by rfl) :
    PI X (.Tuple elts kk tpos) (.Call (.Name "enumerate" p) [e] [] pos) (iEnum K ta) := by subst h; exact pi_enum hg hm ha hs
theorem lc_enumL {K : PySem.W.Frag} {a : Addr} {xs : List V} {g : TG} {tt : TT} {te : TE} {vs : List Nat} {σ : L2.St} {H1 : Hp} {D : Addr} {Qd : Hp → Prop} (Pv : Nat → Hp → Prop) (h0 : Pv 0 (upd H1 D (.lst []))) (hG : ∀ i H, i ≤ xs.length → Pv i H → SqL K H a xs)
    (hs : ∀ (i : Nat) (x : V) (T : Addr) (H : Hp), xs[i]? = some x → Pv i H → H T = none → g (.ref T) (wipe σ vs) (upd H T (.tup [.int (i : Nat), x])) fun σ2 H2 => wipe σ2 vs = wipe σ vs ∧ tt σ2 H2 fun b H3 =>
      if b = true then te σ2 H3 fun y H4 => ∃ acc, H4 D = some (.lst acc) ∧ acc.length < sizeLine ∧ Pv (i + 1) (upd H4 D (.lst (acc ++ [y]))) else Pv (i + 1) H3) (hd : ∀ H, Pv xs.length H → Qd H) :
    ∃ W : Nat → Nat → Hp → Prop, (∃ m, W 0 m (upd H1 D (.lst []))) ∧ ∀ i m H, W i m H → ((Ite K a).stop i H ∧ Qd H) ∨ ((Ite K a).go i H ∧ ∃ Nx : Hp → Prop, (∀ H', Nx H' → ∃ m', m' < m ∧ W (i + 1) m' H') ∧ ∀ x H', (Ite K a).yld i H x H' → g x (wipe σ vs) H' fun σ2 H2 =>
        wipe σ2 vs = wipe σ vs ∧ tt σ2 H2 fun b H3 => if b = true then te σ2 H3 fun y H4 => ∃ acc, H4 D = some (.lst acc) ∧ acc.length < sizeLine ∧ Nx (upd H4 D (.lst (acc ++ [y]))) else Nx H3) :=
  lc_it (walk_enum (K := K) (a := a) (xs := xs)) Pv h0 hG (fun i x H H' hi p y => by
    obtain ⟨T, u, v, rfl, nT, rfl, e1, e2⟩ := y
    cases e1
    exact hs i v T H e2 p nT) hd
end LB
set_option Elab.async false
set_option linter.all false
set_option maxRecDepth 100000
set_option maxHeartbeats 1000000
/-! Things of any kind. -/
namespace LB
open PySem PySem.Spec PyProof.Rows L2 RS
inductive Th : Type
  | non : Th
  | bl (b : Bool) : Th
  | int (i : Int) : Th
  | str (s : Str) : Th
  | tup (ts : List Th) : Th
  | lst (ts : List Th) : Th
  | dic : Th
  | pg : Th
mutual
/-- a value as a thing; lists are none of the pool's -/
inductive IsTh (K : PySem.W.Frag) (C p c : Addr) (H : Hp) : V → Th → Prop
  | non : IsTh K C p c H .non .non
  | bl (b : Bool) : IsTh K C p c H (.bl b) (.bl b)
  | int (i : Int) : IsTh K C p c H (.int i) (.int i)
  | str (s : Str) : IsTh K C p c H (.str s) (.str s)
  | tup {a : Addr} {vs : List V} {ts : List Th} : SqT K H a vs → IsThs K C p c H vs ts → IsTh K C p c H (.ref a) (.tup ts)
  | lst {a : Addr} {vs : List V} {ts : List Th} : H a = some (.lst vs) → a ≠ p → a ≠ c → IsThs K C p c H vs ts → IsTh K C p c H (.ref a) (.lst ts)
  | dic {a : Addr} {kvs : List (Key × V)} : H a = some (.dK kvs) → a ≠ p → a ≠ c → IsTh K C p c H (.ref a) .dic
  | pg {a dx : Addr} {fs : List (Str × V)} : H a = some (.ins C dx fs) → a ≠ p → a ≠ c → IsTh K C p c H (.ref a) .pg
inductive IsThs (K : PySem.W.Frag) (C p c : Addr) (H : Hp) : List V → List Th → Prop
  | nil : IsThs K C p c H [] []
  | cons {v : V} {vs : List V} {t : Th} {ts : List Th} : IsTh K C p c H v t → IsThs K C p c H vs ts → IsThs K C p c H (v :: vs) (t :: ts)
end
section
variable {K : PySem.W.Frag} {C p c : Addr} {H H' : Hp}
mutual
theorem IsTh.keep (e : ∀ a xs, SqT K H a xs → SqT K H' a xs) (B : But p c H H') : ∀ (t : Th) (v : V), IsTh K C p c H v t → IsTh K C p c H' v t
  | .non, _, h => by cases h; exact .non
  | .bl b, _, h => by cases h; exact .bl b
  | .int i, _, h => by cases h; exact .int i
  | .str s, _, h => by cases h; exact .str s
  | .tup ts, _, h => by cases h with | tup h1 h2 => exact .tup (e _ _ h1) (IsThs.keep e B ts _ h2)
  | .lst ts, _, h => by cases h with | lst h1 n1 n2 h2 => exact .lst (B _ _ n1 n2 h1) n1 n2 (IsThs.keep e B ts _ h2)
  | .dic, _, h => by cases h with | dic h1 n1 n2 => exact .dic (B _ _ n1 n2 h1) n1 n2
  | .pg, _, h => by cases h with | pg h1 n1 n2 => exact .pg (B _ _ n1 n2 h1) n1 n2
theorem IsThs.keep (e : ∀ a xs, SqT K H a xs → SqT K H' a xs) (B : But p c H H') : ∀ (ts : List Th) (vs : List V), IsThs K C p c H vs ts → IsThs K C p c H' vs ts
  | [], _, h => by cases h; exact .nil
  | t :: ts, _, h => by cases h with | cons h1 h2 => exact .cons (IsTh.keep e B t _ h1) (IsThs.keep e B ts _ h2)
end
theorem IsTh.same {v : V} {t : Th} (e : Same H H') (h : IsTh K C p c H v t) : IsTh K C p c H' v t := IsTh.keep (fun _ _ z => T_seq e z) (LB.Same.but e) t v h
theorem IsThs.same {vs : List V} {ts : List Th} (e : Same H H') (h : IsThs K C p c H vs ts) : IsThs K C p c H' vs ts := IsThs.keep (fun _ _ z => T_seq e z) (LB.Same.but e) ts vs h
theorem IsTh.but {v : V} {t : Th} (P : Pool H p c) (B : But p c H H') (h : IsTh K C p c H v t) : IsTh K C p c H' v t := IsTh.keep (fun _ _ z => P.t B z) B t v h
theorem IsThs.but {vs : List V} {ts : List Th} (P : Pool H p c) (B : But p c H H') (h : IsThs K C p c H vs ts) : IsThs K C p c H' vs ts := IsThs.keep (fun _ _ z => P.t B z) B ts vs h
theorem IsThs.len : ∀ {vs : List V} {ts : List Th}, IsThs K C p c H vs ts → vs.length = ts.length
  | _, [], h => by cases h; rfl
  | _, t :: ts, h => by cases h with | cons h1 h2 => exact congrArg (· + 1) h2.len
theorem IsThs.at : ∀ {vs : List V} {ts : List Th} {n : Nat} {x : V}, IsThs K C p c H vs ts → vs[n]? = some x → ∃ t, ts[n]? = some t ∧ IsTh K C p c H x t
  | _, [], _, _, h, e => by cases h; cases e
  | _, t :: ts, 0, x, h, e => by cases h with | cons h1 h2 => cases e; exact ⟨t, rfl, h1⟩
  | _, t :: ts, n + 1, x, h, e => by cases h with | cons h1 h2 => exact h2.at e
theorem IsThs.app : ∀ {vs ws : List V} {ts us : List Th}, IsThs K C p c H vs ts → IsThs K C p c H ws us → IsThs K C p c H (vs ++ ws) (ts ++ us)
  | _, _, [], _, h, g => by cases h; exact g
  | _, _, t :: ts, _, h, g => by cases h with | cons h1 h2 => exact .cons h1 (h2.app g)
theorem IsThs.take : ∀ {vs : List V} {ts : List Th} (n : Nat), IsThs K C p c H vs ts → IsThs K C p c H (vs.take n) (ts.take n)
  | _, [], n, h => by cases h; rw [List.take_nil, List.take_nil]; exact .nil
  | _, t :: ts, 0, h => by rw [List.take_zero, List.take_zero]; exact .nil
  | _, t :: ts, n + 1, h => by cases h with | cons h1 h2 => exact .cons h1 (h2.take n)
theorem IsThs.drop : ∀ {vs : List V} {ts : List Th} (n : Nat), IsThs K C p c H vs ts → IsThs K C p c H (vs.drop n) (ts.drop n)
  | _, [], n, h => by cases h; rw [List.drop_nil, List.drop_nil]; exact .nil
  | _, t :: ts, 0, h => h
  | _, t :: ts, n + 1, h => by cases h with | cons h1 h2 => exact h2.drop n
theorem IsThs.rev : ∀ {vs : List V} {ts : List Th}, IsThs K C p c H vs ts → IsThs K C p c H vs.reverse ts.reverse
  | _, [], h => by cases h; exact .nil
  | _, t :: ts, h => by
    cases h with
    | cons h1 h2 =>
      rw [List.reverse_cons, List.reverse_cons]
      exact h2.rev.app (.cons h1 .nil)
theorem IsThs.mem : ∀ {vs : List V} {ts : List Th} {v : V}, IsThs K C p c H vs ts → v ∈ vs → ∃ t ∈ ts, IsTh K C p c H v t
  | _, [], _, h, e => by cases h; cases e
  | _, t :: ts, v, h, e => by
    cases h with
    | cons h1 h2 =>
      rcases List.mem_cons.mp e with rfl | e
      · exact ⟨t, List.mem_cons_self, h1⟩
      · obtain ⟨u, hu, r⟩ := h2.mem e
        exact ⟨u, List.mem_cons_of_mem _ hu, r⟩
theorem IsThs.one {v : V} {t : Th} (h : IsTh K C p c H v t) : IsThs K C p c H [v] [t] := .cons h .nil
theorem IsThs.rep {v : V} {t : Th} (h : IsTh K C p c H v t) : ∀ n, IsThs K C p c H (List.replicate n v) (List.replicate n t)
  | 0 => .nil
  | n + 1 => .cons h (IsThs.rep h n)
theorem IsThs.nats : ∀ w : List Nat, IsThs K C p c H (w.map fun k => V.int (k : Nat)) (w.map fun k => Th.int (k : Nat))
  | [] => .nil
  | k :: w => .cons (.int _) (IsThs.nats w)
/-! ### kinds -/
def Th.ty (C : Addr) : Th → Value
  | .non => .type "NoneType"
  | .bl _ => .type "bool"
  | .int _ => .type "int"
  | .str _ => .type "str"
  | .tup _ => .type "tuple"
  | .lst _ => .type "list"
  | .dic => .type "dict"
  | .pg => .ref C
def Th.isTup : Th → Bool
  | .tup _ => true
  | _ => false
def Th.isLst : Th → Bool
  | .lst _ => true
  | _ => false
def Th.isStr : Th → Bool
  | .str _ => true
  | _ => false
def Th.isBl : Th → Bool
  | .bl _ => true
  | _ => false
/-- as Python's isinstance takes it: flags, too -/
def Th.isNum : Th → Bool
  | .int _ => true
  | .bl _ => true
  | _ => false
def Th.isInt : Th → Bool
  | .int _ => true
  | _ => false
def Th.sz : Th → Nat
  | .tup ts => ts.length
  | _ => 0
structure ThC (K : PySem.W.Frag) (C : Addr) : Prop where
  ins : C8.InsC K C
  t : PySem.W.kitOne K (.ref C) (.type "tuple") = some false
  l : PySem.W.kitOne K (.ref C) (.type "list") = some false
  i : PySem.W.kitOne K (.ref C) (.type "int") = some false
  b : PySem.W.kitOne K (.ref C) (.type "bool") = some false
  s : PySem.W.kitOne K (.ref C) (.type "str") = some false
theorem kit_sub {T : String} {b : Bool} (m : PySem.W.kitMeta T = true) (h : PySem.W.subIn K (.ref C) (.type T) = some b) : PySem.W.kitOne K (.ref C) (.type T) = some b := by
  unfold PySem.W.kitOne
  rw [if_neg (by intro h; cases (eq_of_beq h))]
  show (if PySem.W.kitMeta T = true then PySem.W.subIn K (.ref C) (.type T) else none) = some b
  rw [if_pos m]
  exact h
theorem ThC.of (i : C8.InsC K C) (t : PySem.W.subIn K (.ref C) (.type "tuple") = some false) (l : PySem.W.subIn K (.ref C) (.type "list") = some false) (n : PySem.W.subIn K (.ref C) (.type "int") = some false) (b : PySem.W.subIn K (.ref C) (.type "bool") = some false) (s : PySem.W.subIn K (.ref C) (.type "str") = some false) : ThC K C :=
  ⟨i, kit_sub (by decide +kernel) t, kit_sub (by decide +kernel) l, kit_sub (by decide +kernel) n, kit_sub (by decide +kernel) b, kit_sub (by decide +kernel) s⟩
theorem IsTh.tyx (T : ThC K C) {v : V} {t : Th} (h : IsTh K C p c H v t) : TyX K H v (t.ty C) := by
  cases h with
  | non => exact .base .non
  | bl b => exact .base (.bl b)
  | int i => exact .base (.int i)
  | str s => exact .base (.str s)
  | tup h1 h2 => exact ty_t h1
  | lst h1 n1 n2 h2 => exact .base (.lst h1)
  | dic h1 => exact .base (.dK h1)
  | pg h1 => exact .base (.ins h1 T.ins.cl T.ins.ha T.ins.hn T.ins.htk T.ins.hm)
theorem kit_tup (T : ThC K C) (t : Th) : PySem.W.kitOne K (t.ty C) (.type "tuple") = some t.isTup := by
  cases t with
  | pg => exact T.t
  | non => exact (kit_ty (by decide +kernel) : PySem.W.kitOne K (.type "NoneType") (.type "tuple") = some false)
  | bl _ => exact (kit_ty (by decide +kernel) : PySem.W.kitOne K (.type "bool") (.type "tuple") = some false)
  | int _ => exact (kit_ty (by decide +kernel) : PySem.W.kitOne K (.type "int") (.type "tuple") = some false)
  | str _ => exact (kit_ty (by decide +kernel) : PySem.W.kitOne K (.type "str") (.type "tuple") = some false)
  | tup _ => exact (kit_ty (by decide +kernel) : PySem.W.kitOne K (.type "tuple") (.type "tuple") = some true)
  | lst _ => exact (kit_ty (by decide +kernel) : PySem.W.kitOne K (.type "list") (.type "tuple") = some false)
  | dic => exact (kit_ty (by decide +kernel) : PySem.W.kitOne K (.type "dict") (.type "tuple") = some false)
theorem kit_lst (T : ThC K C) (t : Th) : PySem.W.kitOne K (t.ty C) (.type "list") = some t.isLst := by
  cases t with
  | pg => exact T.l
  | non => exact (kit_ty (by decide +kernel) : PySem.W.kitOne K (.type "NoneType") (.type "list") = some false)
  | bl _ => exact (kit_ty (by decide +kernel) : PySem.W.kitOne K (.type "bool") (.type "list") = some false)
  | int _ => exact (kit_ty (by decide +kernel) : PySem.W.kitOne K (.type "int") (.type "list") = some false)
  | str _ => exact (kit_ty (by decide +kernel) : PySem.W.kitOne K (.type "str") (.type "list") = some false)
  | tup _ => exact (kit_ty (by decide +kernel) : PySem.W.kitOne K (.type "tuple") (.type "list") = some false)
  | lst _ => exact (kit_ty (by decide +kernel) : PySem.W.kitOne K (.type "list") (.type "list") = some true)
  | dic => exact (kit_ty (by decide +kernel) : PySem.W.kitOne K (.type "dict") (.type "list") = some false)
theorem kit_num (T : ThC K C) (t : Th) : PySem.W.kitOne K (t.ty C) (.type "int") = some t.isNum := by
  cases t with
  | pg => exact T.i
  | non => exact (kit_ty (by decide +kernel) : PySem.W.kitOne K (.type "NoneType") (.type "int") = some false)
  | bl _ => exact (kit_ty (by decide +kernel) : PySem.W.kitOne K (.type "bool") (.type "int") = some true)
  | int _ => exact (kit_ty (by decide +kernel) : PySem.W.kitOne K (.type "int") (.type "int") = some true)
  | str _ => exact (kit_ty (by decide +kernel) : PySem.W.kitOne K (.type "str") (.type "int") = some false)
  | tup _ => exact (kit_ty (by decide +kernel) : PySem.W.kitOne K (.type "tuple") (.type "int") = some false)
  | lst _ => exact (kit_ty (by decide +kernel) : PySem.W.kitOne K (.type "list") (.type "int") = some false)
  | dic => exact (kit_ty (by decide +kernel) : PySem.W.kitOne K (.type "dict") (.type "int") = some false)
theorem kit_bl (T : ThC K C) (t : Th) : PySem.W.kitOne K (t.ty C) (.type "bool") = some t.isBl := by
  cases t with
  | pg => exact T.b
  | non => exact (kit_ty (by decide +kernel) : PySem.W.kitOne K (.type "NoneType") (.type "bool") = some false)
  | bl _ => exact (kit_ty (by decide +kernel) : PySem.W.kitOne K (.type "bool") (.type "bool") = some true)
  | int _ => exact (kit_ty (by decide +kernel) : PySem.W.kitOne K (.type "int") (.type "bool") = some false)
  | str _ => exact (kit_ty (by decide +kernel) : PySem.W.kitOne K (.type "str") (.type "bool") = some false)
  | tup _ => exact (kit_ty (by decide +kernel) : PySem.W.kitOne K (.type "tuple") (.type "bool") = some false)
  | lst _ => exact (kit_ty (by decide +kernel) : PySem.W.kitOne K (.type "list") (.type "bool") = some false)
  | dic => exact (kit_ty (by decide +kernel) : PySem.W.kitOne K (.type "dict") (.type "bool") = some false)
theorem kit_str (T : ThC K C) (t : Th) : PySem.W.kitOne K (t.ty C) (.type "str") = some t.isStr := by
  cases t with
  | pg => exact T.s
  | non => exact (kit_ty (by decide +kernel) : PySem.W.kitOne K (.type "NoneType") (.type "str") = some false)
  | bl _ => exact (kit_ty (by decide +kernel) : PySem.W.kitOne K (.type "bool") (.type "str") = some false)
  | int _ => exact (kit_ty (by decide +kernel) : PySem.W.kitOne K (.type "int") (.type "str") = some false)
  | str _ => exact (kit_ty (by decide +kernel) : PySem.W.kitOne K (.type "str") (.type "str") = some true)
  | tup _ => exact (kit_ty (by decide +kernel) : PySem.W.kitOne K (.type "tuple") (.type "str") = some false)
  | lst _ => exact (kit_ty (by decide +kernel) : PySem.W.kitOne K (.type "list") (.type "str") = some false)
  | dic => exact (kit_ty (by decide +kernel) : PySem.W.kitOne K (.type "dict") (.type "str") = some false)
theorem Th.int_is (t : Th) : (t.isNum && !t.isBl) = t.isInt := by cases t <;> rfl
theorem Th.of_int {t : Th} (h : t.isInt = true) : ∃ i, t = .int i := by cases t with
  | int i => exact ⟨i, rfl⟩
  | _ => cases h
theorem Th.of_tup {t : Th} (h : t.isTup = true) : ∃ ts, t = .tup ts := by cases t with
  | tup ts => exact ⟨ts, rfl⟩
  | _ => cases h
end
/-! ### t[::-1] of a tuple -/
section
open Builtin.Slice
theorem pick_rev (xs : Array Value) : ((List.range xs.size).filterMap fun (k : Nat) => xs[((xs.size : Int) - 1 + (k : Int) * (-1)).toNat]?) = xs.toList.reverse := by
  obtain ⟨l⟩ := xs
  simp only [List.size_toArray, List.getElem?_toArray]
  have : ∀ n, n ≤ l.length → ((List.range n).filterMap fun (k : Nat) => l[((l.length : Int) - 1 + (k : Int) * (-1)).toNat]?) = l.reverse.take n := by
    intro n
    induction n with
    | zero => intro _; simp
    | succ n ih =>
      intro h
      rw [List.range_succ, List.filterMap_append, ih (by omega), List.take_add_one]
      congr 1
      have e : (((l.length : Nat) : Int) - 1 + ((n : Nat) : Int) * (-1)).toNat = l.length - 1 - n := by omega
      simp only [List.filterMap_cons, List.filterMap_nil, e]
      rw [List.getElem?_reverse (by omega)]
      cases l[l.length - 1 - n]? <;> rfl
  have h := this l.length (Nat.le_refl _)
  rw [h, List.take_of_length_le (by simp)]
end
end LB
set_option Elab.async false
set_option linter.all false
set_option maxRecDepth 100000
set_option maxHeartbeats 1000000
/-! t[::-1] of a tuple. -/
namespace LB
open PySem PySem.Spec PyProof.Rows L2 RS HT
section
variable {prog : Program} {w : World} {A : Around} {E : Value → Shared → Prop} {s : Shared}
theorem adjust_rev (n : Nat) : Builtin.Slice.sliceAdjust none none (-1) (n : Int) = ((n : Int) - 1, -1) := by
  unfold Builtin.Slice.sliceAdjust
  simp
theorem places_rev (n : Nat) : Builtin.Slice.slicePlaces ((n : Int) - 1) (-1) (-1) = n := by
  unfold Builtin.Slice.slicePlaces
  rw [if_neg (by decide)]
  by_cases z : (n : Int) - 1 > -1
  · rw [if_pos z, show -(-1 : Int) = 1 from rfl, Int.ediv_one]
    omega
  · rw [if_neg z]
    omega
theorem sliceApplied_rev {sl : Addr} {vl vu vs : Value} {n : Nat} {Q : Int × Int × Nat → Shared → Prop} (hs : s.heap.IsSliceOf sl vl vu vs) (pl : IsPart vl none) (pu : IsPart vu none) (ps : IsPart vs (some (-1)))
    (h : Q ((n : Int) - 1, -1, n) s) : wpAny (model prog w) A (Builtin.Slice.sliceApplied (.ref sl) (pure (n : Int))) Q E s := by
  obtain ⟨os, hos, hcs, hds⟩ := id hs
  unfold Builtin.Slice.sliceApplied Builtin.Slice.sliceFields
  refine wpAny_bind (wpAny_bind (wpAny_field hos hds (x := vl) rfl (wpAny_bind (wpAny_field hos hds (x := vu) rfl (wpAny_bind (wpAny_field hos hds (x := vs) rfl (wpAny_pure ?_)))))))
  refine wpAny_bind (slicePart_ ps ?_)
  show wpAny _ _ (if ((-1 : Int) == 0) = true then _ else _) _ _ s
  rw [if_neg (by decide)]
  refine wpAny_bind (slicePart_ pl (wpAny_bind (slicePart_ pu (wpAny_bind (wpAny_pure ?_)))))
  show wpAny _ _ (match Builtin.Slice.sliceAdjust none none (-1) (n : Int) with | (lo, hi) => pure (lo, (-1 : Int), Builtin.Slice.slicePlaces lo hi (-1))) _ _ s
  rw [adjust_rev n]
  show wpAny _ _ (pure ((n : Int) - 1, (-1 : Int), Builtin.Slice.slicePlaces ((n : Int) - 1) (-1) (-1))) _ _ s
  rw [places_rev]
  exact wpAny_pure h
theorem getItem_tuple_rev {t sl : Addr} {items : Array Value} {vl vu vs : Value} {Q : Value → Shared → Prop} (ht : IsTup s.heap t items) (hs : s.heap.IsSliceOf sl vl vu vs) (pl : IsPart vl none) (pu : IsPart vu none) (ps : IsPart vs (some (-1)))
    (h : Q (.ref s.heap.objs.size) { s with heap := s.heap.push { cls := .type "tuple", data := .seq items.toList.reverse.toArray } })
    (hsz : items.size ≤ sizeLine) : wpAny (model prog w) A (getItem (.ref t) (.ref sl)) Q E s := by
  have htake : sizeOk (.seq items.toList.reverse.toArray) := by
    show items.toList.reverse.toArray.size ≤ sizeLine
    rw [List.size_toArray, List.length_reverse, Array.length_toList]
    exact hsz
  obtain ⟨os, hos, hcs, hds⟩ := id hs
  have hTs : s.TypeIs (.ref sl) "slice" := ⟨os, hos, hcs⟩
  unfold getItem
  try with_reducible refine wpAny_holding ?_
  first | refine wpAny_bind (wpAny_pure ?_) | skip
  refine wpAny_bind (wpAny_sequenceKey ht.typeIs (by decide) ?_)
  refine wpAny_bind (wpAny_callSpecial?_slot (name := Str.ofString "__getitem__") ht.typeIs PyProof.Rows.slot_tuple_getitem
    (wpAny_call_entry PyProof.Rows.slot_tuple_getitem ht.typeIs entry_tuple_getitem ?_ (args_tuple_getitem _ _)))
  show wpAny _ _ (Builtin.Tuple.tupleItemsOf (.ref t) >>= _) _ _ s
  refine wpAny_bind (tupleItemsOf_ ht ?_)
  refine wpAny_bind (wpAny_typeOf hTs ?_)
  rw [if_pos (by decide)]
  refine wpAny_bind (sliceApplied_rev hs pl pu ps ?_)
  have hno : ¬ ((((items.size : Int) - 1) == 0 && (-1 : Int) == 1 && items.size == items.size) = true) := by simp
  show wpAny _ _ (if (((items.size : Int) - 1) == 0 && (-1 : Int) == 1 && items.size == items.size) = true then _ else _) _ _ s
  rw [if_neg hno, pick_rev]
  first
    | exact wpAny_bind (m := Builtin.Tuple.tupleExact _) (wpAny_newObj_type (wpAny_pure ⟨_, rfl, wpAny_pure h⟩) htake)
    | exact wpAny_bind (m := Builtin.Tuple.tupleExact _) (wpAny_newObj_type (wpAny_bind (wpAny_pure (wpAny_pure ⟨_, rfl, wpAny_pure h⟩))) htake)
    | exact wpAny_bind (wpAny_bind (m := Builtin.Tuple.tupleExact _) (wpAny_newObj_type (wpAny_pure (wpAny_pure ⟨_, rfl, wpAny_pure h⟩)) htake))
    | exact wpAny_bind (wpAny_bind (m := Builtin.Tuple.tupleExact _) (wpAny_newObj_type (wpAny_pure ⟨_, rfl, wpAny_pure h⟩) htake))
end
section
variable {X : Cx}
def tRevT (K : PySem.W.Frag) (te : TE) : TE := fun σ H Q => te σ H fun x H1 => ∃ a xs, x = .ref a ∧ SqT K H1 a xs ∧ ∀ p, H1 p = none → Q (.ref p) (upd H1 p (.tup xs.reverse))
theorem pe_revT {e : Expr} {te : TE} {k : Nat} {p1 p2 p3 pos : Pos} (he : PE X e te) : PE X (.Subscript e (.Slice none none (some (.UnaryOp .USub (.Constant (.int 1) k p1) p2)) p3) pos) (tRevT X.K te) := by
  refine ⟨fun pins s σ H Q I h => ?_⟩
  refine Subscript_ (thn (he.run pins s σ H _ I h) fun v s1 ⟨x, H1, I1, r1, q1⟩ => ?_)
  obtain ⟨a, xs, ex, hx, q⟩ := q1
  subst ex
  cases r1
  have hst : PO X (some (.UnaryOp .USub (.Constant (.int 1) k p1) p2)) (tPart (tUn (rU fun i => .int (-i)) (tC (.int 1)))) := po_some (pe_un un_neg pe_int)
  refine wpAny_Slice (thn (po_none.run pins s1 σ H1 (fun o H2 => o = none ∧ H2 = H1) I1 ⟨rfl, rfl⟩) fun vl s2 ⟨l, H2, I2, pl, el, e2⟩ => ?_)
  subst el e2
  refine thn (po_none.run pins s2 σ H2 (fun o H3 => o = none ∧ H3 = H2) I2 ⟨rfl, rfl⟩) fun vu s3 ⟨u, H3, I3, pu, eu, e3⟩ => ?_
  subst eu e3
  refine thn (hst.run pins s3 σ H3 (fun o H4 => o = some (-1) ∧ H4 = H3) I3 ⟨1, rfl, -1, rfl, rfl, rfl⟩) fun vs s4 ⟨o, H4, I4, ps, eo, e4⟩ => ?_
  subst eo e4
  have I5 : Inv X pins σ H4 { s4 with heap := s4.heap.push { cls := .type "slice", data := .fields #[vl, vu, vs] } } := I4.kept (t' := s4.toks) fun b ob q => Heap.get?_push_of_some _ q
  obtain ⟨its, r, ht, hz⟩ := I5.tuple hx
  have hlen := r.length
  show wpAny (model X.prog X.w) X.A (subscriptTail e (.Slice none none (some (.UnaryOp .USub (.Constant (.int 1) k p1) p2)) p3) (.ref a) (.ref s4.heap.objs.size)) (EP X pins σ Q) X.xe { s4 with heap := s4.heap.push { cls := .type "slice", data := .fields #[vl, vu, vs] } }
  refine tail_any (ops := [.ref a, .ref s4.heap.objs.size]) ht.typeIs (PyProof.Rows.slot_tuple_getitem.lookup) ?_ (by with_unfolding_all rfl)
  refine getItem_tuple_rev ht (Heap.IsSliceOf.new _ vl vu vs) pl pu ps ?_ (by rw [List.size_toArray]; omega)
  refine ⟨.ref _, _, I5.laid (t' := s4.toks) (o := .tup xs.reverse) (fun b ob q => Heap.get?_push_of_some _ q) (Nat.le_refl _) ?_, rfl, q _ (I5.hok.fresh (Nat.le_refl _))⟩
  exact ⟨by rw [List.length_reverse]; omega, _, r.reverse, IsTup.new _ _⟩
end
section
variable {K : PySem.W.Frag} {H : Hp} {Q : VK} {a : Addr} {xs : List V}
theorem slA_drop {z : Int} {i : Nat} (ez : z = (i : Nat)) (ha : SqT K H a xs) (le : i ≤ xs.length) (q : ∀ H' r, Same H H' → SqT K H' r (xs.drop i) → Q (.ref r) H') : rSlA K (.ref a) (some z) none H Q := by
  subst ez
  have e : cutV xs (some ((i : Nat) : Int)) none = xs.drop i := by
    unfold cutV
    rw [HT.sIx_nat, HT.sIx_none, Nat.min_eq_left le, List.take_of_length_le (by rw [List.length_drop]; exact Nat.le_refl _)]
  refine ⟨a, xs, rfl, ha, fun h => ?_, fun _ p np => q _ p (same_new np) (by rw [e]; exact T_new)⟩
  have h := h.1
  rw [HT.sIx_nat, Nat.min_eq_left le] at h
  subst h
  exact q H a (Same.refl _) (by rw [List.drop_zero]; exact ha)
theorem slA_take {z : Int} {i : Nat} (ez : z = (i : Nat)) (ha : SqT K H a xs) (le : i ≤ xs.length) (q : ∀ H' r, Same H H' → SqT K H' r (xs.take i) → Q (.ref r) H') : rSlA K (.ref a) none (some z) H Q := by
  subst ez
  have e : cutV xs none (some ((i : Nat) : Int)) = xs.take i := by
    unfold cutV
    rw [HT.sIx_nat, HT.sIx_none, Nat.min_eq_left le, List.drop_zero, Nat.sub_zero]
  refine ⟨a, xs, rfl, ha, fun h => ?_, fun _ p np => q _ p (same_new np) (by rw [e]; exact T_new)⟩
  have h := h.2
  rw [HT.sIx_nat, Nat.min_eq_left le] at h
  subst h
  exact q H a (Same.refl _) (by rw [List.take_length]; exact ha)
theorem slA_dropN {σ : L2.St} {z : Int} {i : Nat} (ez : z = (i : Nat)) (ha : SqT K H a xs) (le : i ≤ xs.length) (q : ∀ H' r, Same H H' → SqT K H' r (xs.drop i) → Q (.ref r) H') : tNoPart σ H (fun u H3 => rSlA K (.ref a) (some z) u H3 Q) := slA_drop ez ha le q
theorem slA_mid {z y : Int} {i j : Nat} (ez : z = (i : Nat)) (ey : y = (j : Nat)) (ha : SqT K H a xs) (le : i ≤ j) (lj : j ≤ xs.length) (q : ∀ H' r, Same H H' → SqT K H' r ((xs.drop i).take (j - i)) → Q (.ref r) H') : rSlA K (.ref a) (some z) (some y) H Q := by
  subst ez
  subst ey
  have e : cutV xs (some ((i : Nat) : Int)) (some ((j : Nat) : Int)) = (xs.drop i).take (j - i) := by
    unfold cutV
    rw [HT.sIx_nat, HT.sIx_nat, Nat.min_eq_left (show i ≤ xs.length by omega), Nat.min_eq_left lj]
  refine ⟨a, xs, rfl, ha, fun h => ?_, fun _ p np => q _ p (same_new np) (by rw [e]; exact T_new)⟩
  have h1 := h.1
  have h2 := h.2
  rw [HT.sIx_nat, Nat.min_eq_left (show i ≤ xs.length by omega)] at h1
  rw [HT.sIx_nat, Nat.min_eq_left lj] at h2
  subst h1
  exact q H a (Same.refl _) (by rw [List.drop_zero, Nat.sub_zero, h2, List.take_length]; exact ha)
end
end LB
set_option Elab.async false
set_option linter.all false
set_option maxRecDepth 100000
set_option maxHeartbeats 4000000
namespace LW
open PySem PySem.Spec PyProof.Rows L2 RS LB
def topS (i : Nat) : Stmt := PySem.Challenge.pw_turnsneeded_k09_whole_walks_judged.main.body.getD i (.Pass ⟨0, 0, 0, 0⟩)
abbrev s_is_int : Stmt := topS 4
theorem sc_is_int : FnScope ["thing"] ["thing"] (defScope s_is_int) := ⟨rfl, rfl, rfl, by decide +kernel, rfl, by decide +kernel, by decide +kernel⟩
abbrev s_is_int_in : Stmt := topS 5
theorem sc_is_int_in : FnScope ["thing", "least", "most"] ["thing", "least", "most"] (defScope s_is_int_in) := ⟨rfl, rfl, rfl, by decide +kernel, rfl, by decide +kernel, by decide +kernel⟩
abbrev s_is_row_of_ints : Stmt := topS 6
theorem sc_is_row_of_ints : FnScope ["thing", "many", "part"] ["thing", "many"] (defScope s_is_row_of_ints) := ⟨rfl, rfl, rfl, by decide +kernel, rfl, by decide +kernel, by decide +kernel⟩
abbrev s_is_walk : Stmt := topS 9
theorem sc_is_walk : FnScope ["program", "thing", "last", "item"] ["program", "thing"] (defScope s_is_walk) := ⟨rfl, rfl, rfl, by decide +kernel, rfl, by decide +kernel, by decide +kernel⟩
abbrev s_is_log : Stmt := topS 10
theorem sc_is_log : FnScope ["program", "thing"] ["program", "thing"] (defScope s_is_log) := ⟨rfl, rfl, rfl, by decide +kernel, rfl, by decide +kernel, by decide +kernel⟩
abbrev s_has_form : Stmt := topS 11
theorem sc_has_form : FnScope ["program", "thing", "deep", "item"] ["program", "thing", "deep"] (defScope s_has_form) := ⟨rfl, rfl, rfl, by decide +kernel, rfl, by decide +kernel, by decide +kernel⟩
abbrev s_is_rounds : Stmt := topS 12
theorem sc_is_rounds : FnScope ["program", "item", "deep", "word", "many", "log"] ["program", "item", "deep"] (defScope s_is_rounds) := ⟨rfl, rfl, rfl, by decide +kernel, rfl, by decide +kernel, by decide +kernel⟩
abbrev s_leads_on : Stmt := topS 13
theorem sc_leads_on : FnScope ["program", "log", "k", "item", "_", "many", "inner"] ["program", "log"] (defScope s_leads_on) := ⟨rfl, rfl, rfl, by decide +kernel, rfl, by decide +kernel, by decide +kernel⟩
abbrev s_begins_in : Stmt := topS 14
theorem sc_begins_in : FnScope ["program", "item"] ["program", "item"] (defScope s_begins_in) := ⟨rfl, rfl, rfl, by decide +kernel, rfl, by decide +kernel, by decide +kernel⟩
abbrev s_ends_in : Stmt := topS 15
theorem sc_ends_in : FnScope ["program", "item"] ["program", "item"] (defScope s_ends_in) := ⟨rfl, rfl, rfl, by decide +kernel, rfl, by decide +kernel, by decide +kernel⟩
abbrev s_Program___init__ : Stmt := inClass (topS 21) 0
theorem sc_Program___init__ : FnScope ["self", "sides", "tables", "readings", "k", "reading"] ["self", "sides", "tables", "readings"] (defScope s_Program___init__) := ⟨rfl, rfl, rfl, by decide +kernel, rfl, by decide +kernel, by decide +kernel⟩
abbrev s_Program___eq__ : Stmt := inClass (topS 21) 1
theorem sc_Program___eq__ : FnScope ["self", "other"] ["self", "other"] (defScope s_Program___eq__) := ⟨rfl, rfl, rfl, by decide +kernel, rfl, by decide +kernel, by decide +kernel⟩
abbrev s_is_reading : Stmt := topS 22
theorem sc_is_reading : FnScope ["sides", "tables", "thing", "part"] ["sides", "tables", "thing"] (defScope s_is_reading) := ⟨rfl, rfl, rfl, by decide +kernel, rfl, by decide +kernel, by decide +kernel⟩
abbrev s__law_pool : Stmt := topS 24
theorem sc__law_pool : FnScope ["_law_script", "_law_seed", "_law_cell"] ["_law_script"] (defScope s__law_pool) := ⟨rfl, rfl, rfl, by decide +kernel, rfl, by decide +kernel, by decide +kernel⟩
abbrev s__law_draw : Stmt := topS 25
theorem sc__law_draw : FnScope ["_law_pool_here", "_law_many", "_law_cells", "_law_digit", "_law_mixed"] ["_law_pool_here", "_law_many"] (defScope s__law_draw) := ⟨rfl, rfl, rfl, by decide +kernel, rfl, by decide +kernel, by decide +kernel⟩
abbrev s__law_some : Stmt := topS 26
theorem sc__law_some : FnScope ["_law_pool_here", "_law_things"] ["_law_pool_here", "_law_things"] (defScope s__law_some) := ⟨rfl, rfl, rfl, by decide +kernel, rfl, by decide +kernel, by decide +kernel⟩
abbrev s__law_integer : Stmt := topS 27
theorem sc__law_integer : FnScope ["_law_thing"] ["_law_thing"] (defScope s__law_integer) := ⟨rfl, rfl, rfl, by decide +kernel, rfl, by decide +kernel, by decide +kernel⟩
abbrev s__law_same : Stmt := topS 28
theorem sc__law_same : FnScope ["_law_actual", "_law_expected", "_law_k"] ["_law_actual", "_law_expected"] (defScope s__law_same) := ⟨rfl, rfl, rfl, by decide +kernel, rfl, by decide +kernel, by decide +kernel⟩
abbrev s__law_with : Stmt := topS 29
theorem sc__law_with : FnScope ["_law_row", "_law_place", "_law_thing"] ["_law_row", "_law_place", "_law_thing"] (defScope s__law_with) := ⟨rfl, rfl, rfl, by decide +kernel, rfl, by decide +kernel, by decide +kernel⟩
abbrev s__law_deep : Stmt := topS 30
theorem sc__law_deep : FnScope ["_law_many", "_law_thing", "_law_turn"] ["_law_many"] (defScope s__law_deep) := ⟨rfl, rfl, rfl, by decide +kernel, rfl, by decide +kernel, by decide +kernel⟩
abbrev s__law_strange : Stmt := topS 31
theorem sc__law_strange : FnScope ["_law_pool_here", "_law_things"] ["_law_pool_here"] (defScope s__law_strange) := ⟨rfl, rfl, rfl, by decide +kernel, rfl, by decide +kernel, by decide +kernel⟩
abbrev s__law_step : Stmt := topS 32
theorem sc__law_step : FnScope ["_law_pool_here", "_law_sides", "_law_kind", "_law_k"] ["_law_pool_here", "_law_sides"] (defScope s__law_step) := ⟨rfl, rfl, rfl, by decide +kernel, rfl, by decide +kernel, by decide +kernel⟩
abbrev s__law_parts : Stmt := topS 33
theorem sc__law_parts : FnScope ["_law_pool_here", "_law_sides", "_law_tables", "_law_readings", "_law_k"] ["_law_pool_here"] (defScope s__law_parts) := ⟨rfl, rfl, rfl, by decide +kernel, rfl, by decide +kernel, by decide +kernel⟩
abbrev s__law_program : Stmt := topS 34
theorem sc__law_program : FnScope ["_law_parts_here"] ["_law_parts_here"] (defScope s__law_program) := ⟨rfl, rfl, rfl, by decide +kernel, rfl, by decide +kernel, by decide +kernel⟩
abbrev s__law_ringed : Stmt := topS 35
theorem sc__law_ringed : FnScope ["_law_pool_here", "_law_sides", "_law_tables", "_law_readings", "_law_k"] ["_law_pool_here"] (defScope s__law_ringed) := ⟨rfl, rfl, rfl, by decide +kernel, rfl, by decide +kernel, by decide +kernel⟩
abbrev s__law_from : Stmt := topS 36
theorem sc__law_from : FnScope ["_law_parts_here", "_law_table", "_law_k"] ["_law_parts_here", "_law_table"] (defScope s__law_from) := ⟨rfl, rfl, rfl, by decide +kernel, rfl, by decide +kernel, by decide +kernel⟩
abbrev s__law_is_walk : Stmt := topS 37
theorem sc__law_is_walk : FnScope ["_law_parts_here", "_law_thing", "_law_k"] ["_law_parts_here", "_law_thing"] (defScope s__law_is_walk) := ⟨rfl, rfl, rfl, by decide +kernel, rfl, by decide +kernel, by decide +kernel⟩
abbrev s__law_walk : Stmt := topS 38
theorem sc__law_walk : FnScope ["_law_pool_here", "_law_parts_here", "_law_most", "_law_found", "_law_turn", "_law_onward"] ["_law_pool_here", "_law_parts_here", "_law_most"] (defScope s__law_walk) := ⟨rfl, rfl, rfl, by decide +kernel, rfl, by decide +kernel, by decide +kernel⟩
abbrev s__law_bent : Stmt := topS 39
theorem sc__law_bent : FnScope ["_law_pool_here", "_law_parts_here", "_law_walk_here", "_law_place", "_law_number", "_law_kind"] ["_law_pool_here", "_law_parts_here", "_law_walk_here"] (defScope s__law_bent) := ⟨rfl, rfl, rfl, by decide +kernel, rfl, by decide +kernel, by decide +kernel⟩
abbrev s_law : Stmt := topS 40
theorem sc_law : FnScope ["_law_script", "_law_pool_here", "_law_turn", "_law_parts_here", "_law_program_here", "_law_most", "_law_walk_here", "_law_thing", "_law_change"] ["_law_script"] (defScope s_law) := ⟨rfl, rfl, rfl, by decide +kernel, rfl, by decide +kernel, by decide +kernel⟩
/-- what the top holds beside the defs -/
structure Tx (K : PySem.W.Frag) (mg : Str → Option Value) (C : Addr) : Prop where
  b : Bl mg
  c_MOST_SIDES : ∃ u, mg "MOST_SIDES" = some u ∧ RelV (.int 4) u
  c_MOST_TABLES : ∃ u, mg "MOST_TABLES" = some u ∧ RelV (.int 8) u
  c_MOST_READINGS : ∃ u, mg "MOST_READINGS" = some u ∧ RelV (.int 24) u
  c_LONGEST_STEP : ∃ u, mg "LONGEST_STEP" = some u ∧ RelV (.int 1000000000000) u
  c_DEEPEST_ROUNDS : ∃ u, mg "DEEPEST_ROUNDS" = some u ∧ RelV (.int 30) u
  k_Program : ∃ u, mg "Program" = some u ∧ RelV (.ref C) u
  cl : Cls K C
  nS : NoAttr K C "sides"
  nT : NoAttr K C "tables"
  nR : NoAttr K C "readings"
  ins : C8.InsC K C
section
variable {P : Program} {w : World} {K : PySem.W.Frag} {mg : Str → Option Value} {base : Heap} {C : Addr}
/-! ### is_int -/
def spIsInt (K : PySem.W.Frag) : Sp := fun vs H Q _ => ∃ x t b1 b2, vs = [x] ∧ TyX K H x t ∧ PySem.W.kitOne K t (.type "int") = some b1 ∧ PySem.W.kitOne K t (.type "bool") = some b2 ∧ Q (.bl (b1 && !b2)) H
theorem ok_is_int {f : Addr} {fd : FuncData} (D : Df K mg "is_int" ["thing"] s_is_int f fd) (T : Tx K mg C) : Ca P w K mg base 1 "is_int" (spIsInt K) := by
  refine D.ca sc_is_int (fun vs H Q E h => ?_) (fun cdv A outer s H vs Q E hr h => ?_)
  · obtain ⟨x, t, b1, b2, rfl, _⟩ := h
    rfl
  · obtain ⟨x, t, b1, b2, rfl, h1, h2, h3, q⟩ := h
    refine ⟨_, (pss_one (ps_ret (pe_and (pe_callB call_isi (by rfl) T.b.isinstance boot_isinstance (pa_cons (pv 0) (pa_cons (pe_bltn (v := .ty "int") (by rfl) T.b.int boot_int rfl) pa_nil))) (pe_one (pe_not (pe_callB call_isi (by rfl) T.b.isinstance boot_isinstance (pa_cons (pv 0) (pa_cons (pe_bltn (v := .ty "bool") (by rfl) T.b.bool boot_bool rfl) pa_nil)))))))), ?_⟩
    refine ⟨x, rfl, x, .ty "int", t, _, b1, rfl, .ty _, h1, h2, b1, rfl, ?_⟩
    cases b1 with
    | false => exact iteF q
    | true => exact iteT ⟨x, rfl, x, .ty "bool", t, _, b2, rfl, .ty _, h1, h3, b2, rfl, q⟩
theorem isInt_int {H : Hp} {i : Int} {Q : VK} {E : XK} (q : Q (.bl true) H) : spIsInt K [.int i] H Q E := ⟨_, _, true, false, rfl, .base (.int i), k_ii, k_ib, q⟩
/-! ### is_int_in -/
def spIsIntIn : Sp := fun vs H Q _ => ∃ (i lo hi : Int), vs = [.int i, .int lo, .int hi] ∧ Q (.bl (decide (lo ≤ i) && decide (i ≤ hi))) H
theorem ok_is_int_in {f : Addr} {fd : FuncData} (D : Df K mg "is_int_in" ["thing", "least", "most"] s_is_int_in f fd) (c_is_int : Ca P w K mg base 1 "is_int" (spIsInt K)) : Ca P w K mg base 2 "is_int_in" spIsIntIn := by
  refine D.ca sc_is_int_in (fun vs H Q E h => ?_) (fun cdv A outer s H vs Q E hr h => ?_)
  · obtain ⟨i, lo, hi, rfl, _⟩ := h
    rfl
  · obtain ⟨i, lo, hi, rfl, q⟩ := h
    refine ⟨_, (pss_one (ps_ret (pe_and (pe_k c_is_int hr (by omega) (by rfl) (pa_cons (pv 0) pa_nil)) (pe_one (pe_chain op_le op_le (pv 1) (pv 0) (pv 2)))))), ?_⟩
    refine ⟨.int i, rfl, .int i, _, true, false, rfl, .base (.int i), k_ii, k_ib, true, rfl, iteT ?_⟩
    refine ⟨.int lo, rfl, .int i, rfl, lo, i, rfl, rfl, decide (lo ≤ i), rfl, ?_⟩
    by_cases z : lo ≤ i
    · rw [decide_eq_true z] at q ⊢
      exact iteT ⟨.int hi, rfl, i, hi, rfl, rfl, q⟩
    · rw [decide_eq_false z] at q ⊢
      exact iteF q
theorem isIn_yes {H : Hp} {i lo hi : Int} {Q : VK} {E : XK} (h1 : lo ≤ i) (h2 : i ≤ hi) (q : Q (.bl true) H) : spIsIntIn [.int i, .int lo, .int hi] H Q E := ⟨i, lo, hi, rfl, by rw [decide_eq_true h1, decide_eq_true h2]; exact q⟩
/-! ### is_row_of_ints -/
def spRow (K : PySem.W.Frag) : Sp := fun vs H Q _ => ∃ (a : Addr) (ns : List Int) (n : Int), vs = [.ref a, .int n] ∧ SqT K H a (ns.map V.int) ∧ ns.length ≤ 1000 ∧ ∀ H', Same H H' → Q (.bl (decide ((ns.length : Int) = n))) H'
theorem ok_is_row_of_ints {f : Addr} {fd : FuncData} (D : Df K mg "is_row_of_ints" ["thing", "many"] s_is_row_of_ints f fd) (T : Tx K mg C) (c_is_int : Ca P w K mg base 1 "is_int" (spIsInt K)) : Ca P w K mg base 2 "is_row_of_ints" (spRow K) := by
  refine D.ca sc_is_row_of_ints (fun vs H Q E h => ?_) (fun cdv A outer s H vs Q E hr h => ?_)
  · obtain ⟨a, ns, n, rfl, _⟩ := h
    rfl
  · obtain ⟨a, ns, n, rfl, hT, hl, q⟩ := h
    refine ⟨_, (pss_one (ps_ret (pe_and (pe_callB call_isi (by rfl) T.b.isinstance boot_isinstance (pa_cons (pv 0) (pa_cons (pe_bltn (v := .ty "tuple") (by rfl) T.b.tuple boot_tuple rfl) pa_nil))) (pe_and (pe_cmpR op_eq (pe_callB call_len_seq (by rfl) T.b.len boot_len (pa_cons (pv 0) pa_nil)) (pv 1) (nomark _)) (pe_one (pe_callB (cr_all rfl) (by rfl) T.b.all boot_all (pa_cons (pe_lc (own := [("part", 2)]) (by rfl) sc_is_row_of_ints.nd (pi_tup (pv 0)) (blkOk_by (N := ["thing", "many", "part"]) (sc := defScope s_is_row_of_ints) (by decide +kernel)) (fun _ _ _ _ _ => pg_name (i := 2) sc_is_row_of_ints.nd rfl (by first | exact Or.inl rfl | exact Or.inr rfl)) (fun _ _ _ _ _ => pts_nil) (fun _ _ _ _ _ => (pe_k c_is_int hr (by omega) (by rfl) (pa_cons (pv 2) pa_nil)))) pa_nil))))))), ?_⟩
    refine ⟨.ref a, rfl, .ref a, .ty "tuple", _, _, true, rfl, .ty _, ty_t hT, k_tt, true, rfl, iteT ?_⟩
    refine ⟨.ref a, rfl, a, _, rfl, .inr hT, .int n, rfl, rfl, _, rfl, ?_⟩
    have e : decide (V.int ((ns.map V.int).length : Int) = V.int n) = decide ((ns.length : Int) = n) := by
      rw [List.length_map]
      exact decide_eq_decide.mpr ⟨V.int.inj, congrArg V.int⟩
    rw [e]
    by_cases z : (ns.length : Int) = n
    · rw [decide_eq_true z] at q ⊢
      refine iteT ⟨.ref a, rfl, a, rfl, ⟨_, hT⟩, fun D0 nD => lc_tup (K := K) (a := a) (xs := ns.map V.int) (fun i H' => Same H H' ∧ H' D0 = some (.lst ((List.replicate i true).map V.bl))) ⟨same_new nD, upd_same⟩
        (fun i H' _ p => T_seq p.1 hT) (fun i x H' hx p => ?_) (fun H' p => ?_)⟩
      · obtain ⟨k, rfl⟩ : ∃ k, x = V.int k := by
          rw [List.getElem?_map] at hx
          cases e : ns[i]? with
          | none => rw [e] at hx; cases hx
          | some k => rw [e] at hx; exact ⟨k, (Option.some.inj hx).symm⟩
        have il : i < ns.length := by
          have := (List.getElem?_eq_some_iff.mp hx).1
          rwa [List.length_map] at this
        refine ⟨rfl, ?_⟩
        refine ⟨.int k, rfl, .int k, _, true, false, rfl, .base (.int k), k_ii, k_ib, _, p.2, ?_, same_mut p.1 nD, ?_⟩
        · rw [List.length_map, List.length_replicate]
          exact small1000 (by omega)
        · rw [upd_same, List.replicate_succ', List.map_append]
          rfl
      · refine ⟨D0, _, rfl, .inl (.inl p.2), ?_⟩
        have e2 : (List.replicate (ns.map V.int).length true).all id = true := by simp
        rw [e2]
        exact q _ p.1
    · rw [decide_eq_false z] at q ⊢
      exact iteF (q _ (Same.refl _))
end

end LW
set_option Elab.async false
set_option linter.all false
set_option maxRecDepth 100000
set_option maxHeartbeats 4000000
namespace LW
open PySem PySem.Spec PyProof.Rows L2 RS LB
section
variable {P : Program} {w : World} {K : PySem.W.Frag} {mg : Str → Option Value} {base : Heap} {C : Addr}
/-! ### is_reading: of right ones -/
structure InR (s t : Int) (k : RK) : Prop where
  a0 : 0 ≤ k.1
  a1 : k.1 < t
  b0 : 0 ≤ k.2.1
  b1 : k.2.1 < t
  ln : (k.2.2.length : Int) = s
  few : k.2.2.length ≤ 4
theorem InR.many {s t : Int} {k : RK} (h : InR s t k) : k.2.2.length ≤ 1000 := Nat.le_trans h.few (by decide)
structure ShR (s t : Int) (k : RK) : Prop extends InR s t k where
  sh : ∀ x ∈ k.2.2, -1000000000000 ≤ x ∧ x ≤ 1000000000000
def spSh (K : PySem.W.Frag) : Sp := fun vs H Q _ => ∃ (s t : Int) (a : Addr) (k : RK), vs = [.int s, .int t, .ref a] ∧ RdAt K H a k ∧ ShR s t k ∧ ∀ H', Same H H' → Q (.bl true) H'
theorem ok_is_reading {f : Addr} {fd : FuncData} (D : Df K mg "is_reading" ["sides", "tables", "thing"] s_is_reading f fd) (T : Tx K mg C) (c_is_int_in : Ca P w K mg base 2 "is_int_in" spIsIntIn) (c_is_row_of_ints : Ca P w K mg base 2 "is_row_of_ints" (spRow K)) :
    Ca P w K mg base 3 "is_reading" (spSh K) := by
  refine D.ca sc_is_reading (fun vs H Q E h => ?_) (fun cdv A outer s H vs Q E hr h => ?_)
  · obtain ⟨s, t, a, k, rfl, _⟩ := h
    rfl
  · obtain ⟨si, ta, a, k, rfl, ⟨t, h1, h2⟩, G, q⟩ := h
    refine ⟨_, (pss_one (ps_ret (pe_and (pe_callB call_isi (by rfl) T.b.isinstance boot_isinstance (pa_cons (pv 2) (pa_cons (pe_bltn (v := .ty "tuple") (by rfl) T.b.tuple boot_tuple rfl) pa_nil))) (pe_and (pe_cmpR op_eq (pe_callB call_len_seq (by rfl) T.b.len boot_len (pa_cons (pv 2) pa_nil)) pe_int (nomark _)) (pe_and (pe_k c_is_int_in hr (by omega) (by rfl) (pa_cons (pe_ix ix_tup (pv 2) pe_int (fun _ _ => rfl)) (pa_cons pe_int (pa_cons (pe_op op_sub (pv 1) pe_int) pa_nil)))) (pe_and (pe_k c_is_int_in hr (by omega) (by rfl) (pa_cons (pe_ix ix_tup (pv 2) pe_int (fun _ _ => rfl)) (pa_cons pe_int (pa_cons (pe_op op_sub (pv 1) pe_int) pa_nil)))) (pe_and (pe_k c_is_row_of_ints hr (by omega) (by rfl) (pa_cons (pe_ix ix_tup (pv 2) pe_int (fun _ _ => rfl)) (pa_cons (pv 0) pa_nil))) (pe_one (pe_callB (cr_all rfl) (by rfl) T.b.all boot_all (pa_cons (pe_lc (own := [("part", 3)]) (by rfl) sc_is_reading.nd (pi_tup (pe_ix ix_tup (pv 2) pe_int (fun _ _ => rfl))) (blkOk_by (N := ["sides", "tables", "thing", "part"]) (sc := defScope s_is_reading) (by decide +kernel)) (fun _ _ _ _ _ => pg_name (i := 3) sc_is_reading.nd rfl (by first | exact Or.inl rfl | exact Or.inr rfl)) (fun _ _ _ _ _ => pts_nil) (fun _ _ _ _ _ => (pe_chain op_le op_le (pe_un un_neg (pe_gc (by rfl) T.c_LONGEST_STEP)) (pv 3) (pe_gc (by rfl) T.c_LONGEST_STEP)))) pa_nil)))))))))), ?_⟩
    refine ⟨.ref a, rfl, .ref a, .ty "tuple", _, _, true, rfl, .ty _, ty_t h1, k_tt, true, rfl, iteT ?_⟩
    refine ⟨.ref a, rfl, a, _, rfl, .inr h1, rfl, true, rfl, iteT ?_⟩
    refine ⟨.ref a, rfl, a, _, 0, .int k.1, rfl, rfl, h1, rfl, .int ta, rfl, ta, 1, rfl, rfl, k.1, 0, ta - 1, rfl, ?_⟩
    rw [decide_eq_true G.a0, decide_eq_true (show k.1 ≤ ta - 1 by have := G.a1; omega)]
    refine ⟨true, rfl, iteT ?_⟩
    refine ⟨.ref a, rfl, a, _, 1, .int k.2.1, rfl, rfl, h1, rfl, .int ta, rfl, ta, 1, rfl, rfl, k.2.1, 0, ta - 1, rfl, ?_⟩
    rw [decide_eq_true G.b0, decide_eq_true (show k.2.1 ≤ ta - 1 by have := G.b1; omega)]
    refine ⟨true, rfl, iteT ?_⟩
    refine ⟨.ref a, rfl, a, _, 2, .ref t, rfl, rfl, h1, rfl, .int si, rfl, t, k.2.2, si, rfl, h2, G.many, fun H1 e1 => ?_⟩
    rw [decide_eq_true G.ln]
    refine ⟨true, rfl, iteT ?_⟩
    refine ⟨.ref a, rfl, a, _, 2, .ref t, rfl, rfl, T_seq e1 h1, rfl, t, rfl, ⟨_, T_seq e1 h2⟩, fun D0 nD => lc_tup (K := K) (a := t) (xs := k.2.2.map V.int) (fun i H' => Same H1 H' ∧ H' D0 = some (.lst ((List.replicate i true).map V.bl))) ⟨same_new nD, upd_same⟩
      (fun i H' _ p => T_seq p.1 (T_seq e1 h2)) (fun i x H' hx p => ?_) (fun H' p => ?_)⟩
    · obtain ⟨z, rfl, hz⟩ : ∃ z, x = V.int z ∧ z ∈ k.2.2 := by
        rw [List.getElem?_map] at hx
        cases e : k.2.2[i]? with
        | none => rw [e] at hx; cases hx
        | some z => rw [e] at hx; exact ⟨z, (Option.some.inj hx).symm, List.mem_of_getElem? e⟩
      have il : i < k.2.2.length := by
        have := (List.getElem?_eq_some_iff.mp hx).1
        rwa [List.length_map] at this
      have sh := G.sh z hz
      refine ⟨rfl, 1000000000000, rfl, .int z, rfl, _, z, rfl, rfl, true, congrArg V.bl (decide_eq_true (show -1000000000000 ≤ z from sh.1)), z, 1000000000000, rfl, rfl, _, p.2, ?_, same_mut p.1 nD, ?_⟩
      · rw [List.length_map, List.length_replicate]
        exact small1000 (Nat.le_of_lt (Nat.lt_of_lt_of_le il G.toInR.many))
      · rw [upd_same, List.replicate_succ', List.map_append]
        show some (HO.lst (_ ++ [V.bl (decide (z ≤ 1000000000000))])) = _
        rw [decide_eq_true sh.2]
        rfl
    · refine ⟨D0, _, rfl, .inl (.inl p.2), ?_⟩
      have e2 : (List.replicate (k.2.2.map V.int).length true).all id = true := by simp
      rw [e2]
      exact q _ (e1.trans p.1)
/-! ### Program -/
def flds (s t : Int) (r : Addr) : List (Str × V) := putF "readings" (.ref r) (putF "tables" (.int t) (putF "sides" (.int s) []))
theorem n_ts : ¬ (("tables" : Str) = "sides") := by decide +kernel
theorem n_rs : ¬ (("readings" : Str) = "sides") := by decide +kernel
theorem n_rt : ¬ (("readings" : Str) = "tables") := by decide +kernel
theorem flds_s (s t : Int) (r : Addr) : (flds s t r).lookup ("sides" : Str) = some (.int s) := by
  unfold flds
  rw [lookup_putF, if_neg (Ne.symm n_rs), lookup_putF, if_neg (Ne.symm n_ts), lookup_putF, if_pos rfl]
theorem flds_t (s t : Int) (r : Addr) : (flds s t r).lookup ("tables" : Str) = some (.int t) := by
  unfold flds
  rw [lookup_putF, if_neg (Ne.symm n_rt), lookup_putF, if_pos rfl]
theorem flds_r (s t : Int) (r : Addr) : (flds s t r).lookup ("readings" : Str) = some (.ref r) := by
  unfold flds
  rw [lookup_putF, if_pos rfl]
structure GoodP (s t : Int) (L : List RK) : Prop where
  s1 : 1 ≤ s
  s4 : s ≤ 4
  t1 : 1 ≤ t
  t8 : t ≤ 8
  few : L.length ≤ 24
  each : ∀ k ∈ L, ShR s t k
  asc : L.Pairwise rlt
def rf (q : Addr × RK) : V := .ref q.1
def spInit (K : PySem.W.Frag) (C : Addr) : Sp := fun vs H Q _ => ∃ (p dx r : Addr) (s t : Int) (L : Ks), vs = [.ref p, .int s, .int t, .ref r] ∧ H p = some (.ins C dx []) ∧ SqT K H r (L.map rf) ∧ (∀ q ∈ L, RdAt K H q.1 q.2) ∧ GoodP s t (L.map (·.2)) ∧
  ∀ H', (∀ b o, b ≠ p → H b = some o → H' b = some o) → H' p = some (.ins C dx (flds s t r)) → Q .non H'
theorem asc_at {L : List RK} (h : L.Pairwise rlt) {i : Nat} {j k : RK} (hi : L[i]? = some j) (hk : L[i + 1]? = some k) : rlt j k := by
  obtain ⟨a, e1⟩ := List.getElem?_eq_some_iff.mp hi
  obtain ⟨b, e2⟩ := List.getElem?_eq_some_iff.mp hk
  rw [← e1, ← e2]
  exact List.pairwise_iff_getElem.mp h i (i + 1) a b (Nat.lt_succ_self i)
theorem ok_init {f : Addr} {fd : FuncData} (F : Fun K "__init__" "Program.__init__" s_Program___init__ f fd) (T : Tx K mg C) (c_is_int_in : Ca P w K mg base 2 "is_int_in" spIsIntIn) (c_is_reading : Ca P w K mg base 3 "is_reading" (spSh K)) :
    FnOk P w K mg base CX0 5 f fd ["self", "sides", "tables", "readings"] (spInit K C) := by
  refine F.ok sc_Program___init__ (fun vs H Q E h => ?_) (fun cdv A outer s H vs Q E hr h => ?_)
  · obtain ⟨p, dx, r, s, t, L, rfl, _⟩ := h
    rfl
  · obtain ⟨p, dx, r, si, ta, L, rfl, hp, hT, hL, G, q⟩ := h
    refine ⟨_, (pss_cons (ps_if (pt_not (pt_val (pe_k c_is_int_in hr (by omega) (by rfl) (pa_cons (pv 1) (pa_cons pe_int (pa_cons (pe_gc (by rfl) T.c_MOST_SIDES) pa_nil)))))) (pss_one ps_never) pss_nil)
      (pss_cons (ps_if (pt_not (pt_val (pe_k c_is_int_in hr (by omega) (by rfl) (pa_cons (pv 2) (pa_cons pe_int (pa_cons (pe_gc (by rfl) T.c_MOST_TABLES) pa_nil)))))) (pss_one ps_never) pss_nil)
      (pss_cons (ps_if (PW.pt (pw_or (pt_not (pt_val (pe_callB call_isi (by rfl) T.b.isinstance boot_isinstance (pa_cons (pv 3) (pa_cons (pe_bltn (v := .ty "tuple") (by rfl) T.b.tuple boot_tuple rfl) pa_nil))))) (pw_or1 (pt_cmpR op_gt (pe_callB call_len_seq (by rfl) T.b.len boot_len (pa_cons (pv 3) pa_nil)) (pe_gc (by rfl) T.c_MOST_READINGS) (nomark _))))) (pss_one ps_never) pss_nil)
      (pss_cons (ps_for PassesOwn.never rfl (pi_enumT (by rfl) T.b.enumerate (pa_cons (pv 3) pa_nil)) (pg_tup (by rfl) (pgs_cons (pg_name (i := 4) sc_Program___init__.nd rfl (by first | exact Or.inl rfl | exact Or.inr rfl)) (pgs_cons (pg_name (i := 5) sc_Program___init__.nd rfl (by first | exact Or.inl rfl | exact Or.inr rfl)) pgs_nil))) (pss_cons (ps_if (pt_not (pt_val (pe_k c_is_reading hr (by omega) (by rfl) (pa_cons (pv 1) (pa_cons (pv 2) (pa_cons (pv 5) pa_nil)))))) (pss_one ps_never) pss_nil)
      (pss_one (ps_if (PW.pt (pw_and (pt_cmpR op_gt (pv 4) pe_int (nomark _)) (pw_and1 (pt_cmpR (op_leR hr.units) (pv 5) (pe_ix ix_tup (pv 3) (pe_op op_sub (pv 4) pe_int) (fun _ _ => rfl)) (nomark _))))) (pss_one ps_never) pss_nil))))
      (pss_cons (ps_fld (pv 0) (pv 1) rfl)
      (pss_cons (ps_fld (pv 0) (pv 2) rfl)
      (pss_one (ps_fld (pv 0) (pv 3) rfl)))))))), ?_⟩
    refine ⟨.int si, rfl, si, 1, 4, rfl, ?_⟩
    rw [decide_eq_true G.s1, decide_eq_true G.s4]
    refine ⟨true, rfl, .int ta, rfl, ta, 1, 8, rfl, ?_⟩
    rw [decide_eq_true G.t1, decide_eq_true G.t8]
    have lenL : ((L.map rf).length : Int) ≤ 24 := by
      have := G.few
      rw [List.length_map] at this ⊢
      omega
    refine ⟨true, rfl, .ref r, rfl, .ref r, .ty "tuple", _, _, true, rfl, .ty _, ty_t hT, k_tt, true, rfl, .ref r, rfl, r, _, rfl, .inr hT, _, 24, rfl, rfl, false, congrArg V.bl (decide_eq_false (by omega)), ?_⟩
    refine ⟨.ref r, rfl, r, _, rfl, hT, for_enumT (K := K) (a := r) (xs := L.map rf) (fun i σ H2 => ∃ x4 x5, σ = [some (.ref p), some (.int si), some (.int ta), some (.ref r), x4, x5] ∧ Same H H2) ⟨none, none, rfl, Same.refl _⟩
      (fun i σ H2 ⟨_, _, _, e⟩ => T_seq e hT) ?_ ?_⟩
    · rintro i x T0 σ H2 hx ⟨x4, x5, rfl, e⟩ nT
      obtain ⟨z, hz, rfl⟩ : ∃ z, L[i]? = some z ∧ x = rf z := by
        rw [List.getElem?_map] at hx
        cases e : L[i]? with
        | none => rw [e] at hx; cases hx
        | some z => rw [e] at hx; exact ⟨z, rfl, (Option.some.inj hx).symm⟩
      have e2 : Same H (upd H2 T0 (.tup [.int (i : Nat), rf z])) := e.trans (same_new nT)
      have hz2 : (L.map (·.2))[i]? = some z.2 := by rw [List.getElem?_map, hz]; rfl
      refine ⟨T0, [.int (i : Nat), rf z], rfl, T_new, rfl, .int (i : Nat), [rf z], rfl, rf z, [], rfl, rfl, ?_⟩
      refine ⟨.int si, rfl, .int ta, rfl, rf z, rfl, si, ta, z.1, z.2, rfl, rd_same e2 (hL z (List.mem_of_getElem? hz)), G.each _ (List.mem_of_getElem? hz2), fun H3 e3 => ⟨true, rfl, ?_⟩⟩
      have e4 := e2.trans e3
      cases i with
      | zero => exact ⟨.int ((0 : Nat) : Int), rfl, ((0 : Nat) : Int), 0, rfl, rfl, false, rfl, _, _, rfl, e4⟩
      | succ i =>
        have il : i < L.length := Nat.lt_of_succ_lt (List.getElem?_eq_some_iff.mp hz).1
        have hy : L[i]? = some L[i] := List.getElem?_eq_getElem il
        have hy2 : (L.map (·.2))[i]? = some L[i].2 := by rw [List.getElem?_map, hy]; rfl
        have hy3 : (L.map rf)[i]? = some (rf L[i]) := by rw [List.getElem?_map, hy]; rfl
        have lt := asc_at G.asc hy2 hz2
        have pos : decide ((0 : Int) < ((i + 1 : Nat) : Int)) = true := decide_eq_true (by omega)
        refine ⟨.int ((i + 1 : Nat) : Int), rfl, ((i + 1 : Nat) : Int), 0, rfl, rfl, true, congrArg V.bl pos, ?_⟩
        refine ⟨rf z, rfl, .ref r, rfl, .int ((i + 1 : Nat) : Int), rfl, ((i + 1 : Nat) : Int), 1, rfl, rfl, r, _, ((i + 1 : Nat) : Int) - 1, rf L[i], rfl, rfl, T_seq e4 hT, by rw [show ((i + 1 : Nat) : Int) - 1 = (i : Int) by omega]; exact atI_nat hy3, ?_⟩
        refine ⟨z.1, L[i].1, z.2, L[i].2, rfl, rfl, rd_same e4 (hL z (List.mem_of_getElem? hz)), rd_same e4 (hL _ (List.mem_of_getElem? hy)), false, by rw [decide_eq_true lt]; rfl, ?_⟩
        exact ⟨_, _, rfl, e4⟩
    · rintro σ H2 ⟨x4, x5, rfl, e⟩
      refine ⟨.int si, rfl, .ref p, rfl, p, C, dx, [], rfl, e _ _ hp, T.cl, T.nS, (by show 0 < 1000; decide), ?_⟩
      refine ⟨.int ta, rfl, .ref p, rfl, p, C, dx, _, rfl, upd_same, T.cl, T.nT, (by show 1 < 1000; decide), ?_⟩
      refine ⟨.ref r, rfl, .ref p, rfl, p, C, dx, _, rfl, upd_same, T.cl, T.nR, (by show 2 < 1000; decide), ?_⟩
      exact q _ (fun b o hb e' => by rw [upd_ne hb, upd_ne hb, upd_ne hb]; exact e _ _ e') upd_same
end

end LW
set_option Elab.async false
set_option linter.all false
set_option maxRecDepth 100000
set_option maxHeartbeats 4000000
namespace LW
open PySem PySem.Spec PyProof.Rows L2 RS LB
section
variable {P : Program} {w : World} {K : PySem.W.Frag} {mg : Str → Option Value} {base : Heap} {C : Addr}
/-! ### data -/
theorem lay_ints : ∀ xs : List Int, PyData.canLayAll0 (xs.map PyData.int) = true
  | [] => rfl
  | x :: xs => by
    show (PyData.canLay0 (.int x) && PyData.canLayAll0 (xs.map PyData.int)) = true
    rw [lay_ints xs]
    rfl
theorem lay_enc (k : RK) : (enc k).canLay0 = true := by
  show (true && (true && (PyData.canLayAll0 (k.2.2.map PyData.int) && true))) = true
  rw [lay_ints]
  rfl
theorem lay_encs : ∀ L : List RK, PyData.canLayAll0 (L.map enc) = true
  | [] => rfl
  | k :: L => by
    show (PyData.canLay0 (enc k) && PyData.canLayAll0 (L.map enc)) = true
    rw [lay_encs L, lay_enc]
    rfl
theorem depth_encs : ∀ L : List RK, PyData.depthAll (L.map enc) ≤ 2
  | [] => Nat.zero_le _
  | k :: L => by
    have := depth_enc k
    have := depth_encs L
    show Nat.max (enc k).depth (PyData.depthAll (L.map enc)) ≤ 2
    exact Nat.max_le.mpr ⟨by assumption, by assumption⟩
theorem shaped_ints (ns : List Int) : SeqAt.shaped (.list (ns.map .int)) = true := by
  unfold SeqAt.shaped
  rw [Bool.and_eq_true]
  refine ⟨lay_ints ns, decide_eq_true ?_⟩
  simp only [PyData.depth, PySem.W.depth_ints]
  decide
theorem shaped_encs (L : List RK) : SeqAt.shaped (.tuple (L.map enc)) = true := by
  unfold SeqAt.shaped
  rw [Bool.and_eq_true]
  refine ⟨lay_encs L, decide_eq_true ?_⟩
  have := depth_encs L
  simp only [PyData.depth]
  omega
theorem eqv_ints : ∀ xs ys : List Int, PyData.eqvAll (xs.map .int) (ys.map .int) = decide (xs = ys)
  | [], [] => by simp [PyData.eqvAll]
  | [], _ :: _ => by simp [PyData.eqvAll]
  | _ :: _, [] => by simp [PyData.eqvAll]
  | x :: xs, y :: ys => by
    simp [PyData.eqvAll, PyData.eqv, eqv_ints xs ys]
    by_cases e : x = y <;> simp [e]
theorem eqv_enc (j k : RK) : PyData.eqv (enc j) (enc k) = decide (j = k) := by
  unfold enc
  simp only [PyData.eqv, PyData.eqvAll, eqv_ints, Bool.and_true]
  obtain ⟨a, b, c⟩ := j
  obtain ⟨a', b', c'⟩ := k
  by_cases h1 : a = a' <;> by_cases h2 : b = b' <;> by_cases h3 : c = c' <;> simp [h1, h2, h3]
theorem eqv_encs : ∀ xs ys : List RK, PyData.eqvAll (xs.map enc) (ys.map enc) = decide (xs = ys)
  | [], [] => by simp [PyData.eqvAll]
  | [], _ :: _ => by simp [PyData.eqvAll]
  | _ :: _, [] => by simp [PyData.eqvAll]
  | x :: xs, y :: ys => by
    simp only [List.map_cons, PyData.eqvAll, eqv_enc, eqv_encs xs ys]
    by_cases e : x = y <;> simp [e]
theorem dp_ints {H : Hp} : ∀ ns : List Int, DpAll K H (ns.map V.int) (ns.map .int)
  | [] => .nil
  | x :: ns => .cons (.int x) (dp_ints ns)
theorem dp_rd {H : Hp} {a : Addr} {k : RK} (h : RdAt K H a k) : Dp K H (.ref a) (enc k) := by
  obtain ⟨t, h1, h2⟩ := h
  exact .tup h1 (.cons (.int _) (.cons (.int _) (.cons (.tup h2 (dp_ints _)) .nil)))
theorem dp_rds {H : Hp} : ∀ {L : Ks}, (∀ q ∈ L, RdAt K H q.1 q.2) → DpAll K H (L.map rf) ((L.map (·.2)).map enc)
  | [], _ => .nil
  | q :: L, h => .cons (dp_rd (h q List.mem_cons_self)) (dp_rds fun r hr => h r (List.mem_cons_of_mem _ hr))
/-! ### a program -/
structure PgAt (K : PySem.W.Frag) (C : Addr) (H : Hp) (p : Addr) (s t : Int) (L : List RK) : Prop where
  ex : ∃ (dx : Addr) (fs : List (Str × V)) (r : Addr) (ks : Ks), H p = some (.ins C dx fs) ∧ fs.lookup ("sides" : Str) = some (.int s) ∧ fs.lookup ("tables" : Str) = some (.int t) ∧ fs.lookup ("readings" : Str) = some (.ref r) ∧
    SqT K H r (ks.map rf) ∧ (∀ q ∈ ks, RdAt K H q.1 q.2) ∧ ks.map (·.2) = L
theorem PgAt.same {H H' : Hp} {p : Addr} {s t : Int} {L : List RK} (e : Same H H') (h : PgAt K C H p s t L) : PgAt K C H' p s t L := by
  obtain ⟨dx, fs, r, ks, h1, h2, h3, h4, h5, h6, h7⟩ := h.ex
  exact ⟨dx, fs, r, ks, e _ _ h1, h2, h3, h4, T_seq e h5, fun q hq => rd_same e (h6 q hq), h7⟩
def spPEq (K : PySem.W.Frag) (C : Addr) : Addr → Addr → Bool → Hp → Prop := fun a b c H => ∃ s t L s' t' L', PgAt K C H a s t L ∧ PgAt K C H b s' t' L' ∧ c = decide (s = s' ∧ t = t' ∧ L = L')
theorem ok_eq {f : Addr} {fd : FuncData} (F : Fun K "__eq__" "Program.__eq__" s_Program___eq__ f fd) (T : Tx K mg C) :
    FnOk P w K mg base CX0 1 f fd ["self", "other"] (spEqB (spPEq K C)) := by
  refine F.ok sc_Program___eq__ (fun vs H Q E h => ?_) (fun cdv A outer s H vs Q E hr h => ?_)
  · obtain ⟨p, q, c, rfl, _⟩ := h
    rfl
  · obtain ⟨a, b, c, rfl, ⟨si, ta, L, si', ta', L', ha, hb, rfl⟩, q⟩ := h
    obtain ⟨dx, fs, r, ks, h1, h2, h3, h4, h5, h6, rfl⟩ := ha.ex
    obtain ⟨dx', fs', r', ks', h1', h2', h3', h4', h5', h6', rfl⟩ := hb.ex
    have q := q H (Same.refl _)
    refine ⟨_, (pss_one (ps_ret (pe_and (pe_callB (C8.call_isC T.ins) (by rfl) T.b.isinstance boot_isinstance (pa_cons (pv 1) (pa_cons (pe_gc (by rfl) T.k_Program) pa_nil))) (pe_and (pe_cmpR op_eq (pe_fld (pv 0) rfl) (pe_fld (pv 1) rfl) (nomark _)) (pe_and (pe_cmpR op_eq (pe_fld (pv 0) rfl) (pe_fld (pv 1) rfl) (nomark _)) (pe_one (pe_cmpR (op_eqD hr.units) (pe_fld (pv 0) rfl) (pe_fld (pv 1) rfl) (nomark _)))))))), ?_⟩
    refine ⟨.ref b, rfl, b, dx', fs', rfl, h1', true, rfl, iteT ?_⟩
    refine ⟨.ref a, rfl, a, C, dx, fs, .int si, rfl, h1, T.cl, T.nS, h2, .ref b, rfl, b, C, dx', fs', .int si', rfl, h1', T.cl, T.nS, h2', rfl, _, rfl, ?_⟩
    by_cases z1 : si = si'
    · subst z1
      rw [decide_eq_true (rfl : V.int si = V.int si)]
      refine iteT ⟨.ref a, rfl, a, C, dx, fs, .int ta, rfl, h1, T.cl, T.nT, h3, .ref b, rfl, b, C, dx', fs', .int ta', rfl, h1', T.cl, T.nT, h3', rfl, _, rfl, ?_⟩
      by_cases z2 : ta = ta'
      · subst z2
        rw [decide_eq_true (rfl : V.int ta = V.int ta)]
        refine iteT ⟨.ref a, rfl, a, C, dx, fs, .ref r, rfl, h1, T.cl, T.nR, h4, .ref b, rfl, b, C, dx', fs', .ref r', rfl, h1', T.cl, T.nR, h4', _, _, .tup h5 (dp_rds h6), .tup h5' (dp_rds h6'), shaped_encs _, shaped_encs _, ?_⟩
        have e : PyData.eqv (.tuple ((ks.map (·.2)).map enc)) (.tuple ((ks'.map (·.2)).map enc)) = decide (si = si ∧ ta = ta ∧ ks.map (·.2) = ks'.map (·.2)) := by
          show PyData.eqvAll _ _ = _
          rw [eqv_encs]
          exact decide_eq_decide.mpr ⟨fun e => ⟨rfl, rfl, e⟩, fun e => e.2.2⟩
        rw [e]
        exact q
      · rw [decide_eq_false (show ¬ V.int ta = V.int ta' from fun e => z2 (V.int.inj e))]
        refine iteF ?_
        rw [decide_eq_false (show ¬ (si = si ∧ ta = ta' ∧ ks.map (·.2) = ks'.map (·.2)) from fun e => z2 e.2.1)] at q
        exact q
    · rw [decide_eq_false (show ¬ V.int si = V.int si' from fun e => z1 (V.int.inj e))]
      refine iteF ?_
      rw [decide_eq_false (show ¬ (si = si' ∧ ta = ta' ∧ ks.map (·.2) = ks'.map (·.2)) from fun e => z1 e.1)] at q
      exact q
theorem L_seq {H H' : Hp} {a : Addr} {xs : List V} (e : Same H H') (h : SqL K H a xs) : SqL K H' a xs := by
  rcases h with (h | ⟨o, h⟩) | h
  · exact .inl (.inl (e _ _ h))
  · exact .inl (.inr ⟨o, e _ _ h⟩)
  · exact .inr h
/-! ### program_of -/
/-- M: the readings of L ascending -/
structure Asc (L M : List RK) : Prop where
  pm : M.Perm L
  up : M.Pairwise rlt
theorem Asc.one {L L' M M' : List RK} (x : Asc L M) (y : Asc L' M') (h : ∀ k, k ∈ L ↔ k ∈ L') : M = M' :=
  asc_one x.up y.up fun k => ⟨fun z => y.pm.mem_iff.mpr ((h k).mp (x.pm.mem_iff.mp z)), fun z => x.pm.mem_iff.mpr ((h k).mpr (y.pm.mem_iff.mp z))⟩
theorem Asc.nodup {L M : List RK} (x : Asc L M) : M.Nodup := x.up.imp fun {a b} h (e : a = b) => by subst e; exact rlt_irrefl a h
theorem up_nodup {M : List RK} (x : M.Pairwise rlt) : M.Nodup := x.imp fun {a b} h (e : a = b) => by subst e; exact rlt_irrefl a h
end

end LW
set_option Elab.async false
set_option linter.all false
set_option maxRecDepth 100000
set_option maxHeartbeats 4000000
namespace LW
open PySem PySem.Spec PyProof.Rows L2 RS LB
section
variable {P : Program} {w : World} {K : PySem.W.Frag} {mg : Str → Option Value} {base : Heap} {C : Addr}
theorem k_ss : PySem.W.kitOne K (.type "str") (.type "str") = some true := kit_ty (by decide +kernel)
/-! ### is_int_in of numbers and tuples -/
def spIsIntInA (K : PySem.W.Frag) : Sp := fun vs H Q E => spIsIntIn vs H Q E ∨ ∃ (a : Addr) (xs : List V) (lo hi : Int), vs = [.ref a, .int lo, .int hi] ∧ SqT K H a xs ∧ Q (.bl false) H
theorem ok_is_int_inA {f : Addr} {fd : FuncData} (D : Df K mg "is_int_in" ["thing", "least", "most"] s_is_int_in f fd) (c_is_int : Ca P w K mg base 1 "is_int" (spIsInt K)) : Ca P w K mg base 2 "is_int_in" (spIsIntInA K) := by
  refine D.ca sc_is_int_in (fun vs H Q E h => ?_) (fun cdv A outer s H vs Q E hr h => ?_)
  · rcases h with ⟨i, lo, hi, rfl, _⟩ | ⟨a, xs, lo, hi, rfl, _⟩ <;> rfl
  · refine ⟨_, (pss_one (ps_ret (pe_and (pe_k c_is_int hr (by omega) (by rfl) (pa_cons (pv 0) pa_nil)) (pe_one (pe_chain op_le op_le (pv 1) (pv 0) (pv 2)))))), ?_⟩
    rcases h with ⟨i, lo, hi, rfl, q⟩ | ⟨a, xs, lo, hi, rfl, h, q⟩
    · refine ⟨.int i, rfl, .int i, _, true, false, rfl, .base (.int i), k_ii, k_ib, true, rfl, iteT ?_⟩
      refine ⟨.int lo, rfl, .int i, rfl, lo, i, rfl, rfl, decide (lo ≤ i), rfl, ?_⟩
      by_cases z : lo ≤ i
      · rw [decide_eq_true z] at q ⊢
        exact iteT ⟨.int hi, rfl, i, hi, rfl, rfl, q⟩
      · rw [decide_eq_false z] at q ⊢
        exact iteF q
    · exact ⟨.ref a, rfl, .ref a, _, false, false, rfl, ty_t h, k_ti, k_tb, false, rfl, iteF q⟩
/-! ### has_form, is_rounds: of right logs -/
def spForm (K : PySem.W.Frag) (C : Addr) (d : Nat) : Sp := fun vs H Q _ => ∃ (p a : Addr) (s t : Int) (L : List RK) (us : List V) (its : List Lgi), vs = [.ref p, .ref a, .int (d : Nat)] ∧ PgAt K C H p s t L ∧ SqT K H a us ∧ IsL K H us its ∧ okL L.length d its ∧ ∀ H', Same H H' → Q (.bl true) H'
def spRo (K : PySem.W.Frag) (C : Addr) (d : Nat) : Sp := fun vs H Q _ => ∃ (p a : Addr) (s t : Int) (L : List RK) (m : Int) (its : List Lgi), vs = [.ref p, .ref a, .int (d : Nat)] ∧ PgAt K C H p s t L ∧ IsI K H (.ref a) (.ro m its) ∧ (Lgi.ro m its).ok L.length d ∧ ∀ H', Same H H' → Q (.bl true) H'
theorem ok_has_form {f : Addr} {fd : FuncData} (D : Df K mg "has_form" ["program", "thing", "deep"] s_has_form f fd) (T : Tx K mg C) (c_is_int_in : Ca P w K mg base 2 "is_int_in" (spIsIntInA K)) {d : Nat} (c_is_rounds : Ca P w K mg base (2 * d + 3) "is_rounds" (spRo K C d)) :
    Ca P w K mg base (2 * d + 4) "has_form" (spForm K C d) := by
  refine D.ca sc_has_form (fun vs H Q E h => ?_) (fun cdv A outer s H vs Q E hr h => ?_)
  · obtain ⟨p, a, s, t, L, us, its, rfl, _⟩ := h
    rfl
  · obtain ⟨p, a, si, ta, L, us, its, rfl, hp, ha, hl, ok, q⟩ := h
    obtain ⟨dx, fs, r, ks, h1, h2, h3, h4, h5, h6, rfl⟩ := id hp.ex
    have lk : ((ks.map rf).length : Nat) = (ks.map (·.2)).length := by rw [List.length_map, List.length_map]
    refine ⟨_, (pss_cons (ps_if (pt_not (pt_val (pe_callB call_isi (by rfl) T.b.isinstance boot_isinstance (pa_cons (pv 1) (pa_cons (pe_bltn (v := .ty "tuple") (by rfl) T.b.tuple boot_tuple rfl) pa_nil))))) (pss_one (ps_ret pe_bl)) pss_nil)
      (pss_cons (ps_for PassesOwn.never rfl (pi_tup (pv 1)) (pg_name (i := 3) sc_has_form.nd rfl (by first | exact Or.inl rfl | exact Or.inr rfl)) (pss_one (ps_if (PW.pt (pw_and (pt_not (pt_val (pe_k c_is_int_in hr (by omega) (by rfl) (pa_cons (pv 3) (pa_cons pe_int (pa_cons (pe_op op_sub (pe_callB call_len_seq (by rfl) T.b.len boot_len (pa_cons (pe_fld (pv 0) rfl) pa_nil)) pe_int) pa_nil)))))) (pw_and1 (pt_not (pt_val (pe_k c_is_rounds hr (by omega) (by rfl) (pa_cons (pv 0) (pa_cons (pv 3) (pa_cons (pv 2) pa_nil))))))))) (pss_one (ps_ret pe_bl)) pss_nil)))
      (pss_one (ps_ret pe_bl)))), ?_⟩
    refine ⟨.ref a, rfl, .ref a, .ty "tuple", _, _, true, rfl, .ty _, ty_t ha, k_tt, true, rfl, iteF ?_⟩
    refine ⟨.ref a, rfl, a, rfl, ⟨_, ha⟩, for_tup (K := K) (a := a) (xs := us) (fun i σ H' => (∃ x3, σ = [some (.ref p), some (.ref a), some (.int (d : Nat)), x3]) ∧ Same H H') ⟨⟨_, rfl⟩, Same.refl _⟩
      (fun i σ H' _ z => T_seq z.2 ha) ?_ ?_⟩
    · rintro i x σ H' hx ⟨⟨x3, rfl⟩, e⟩
      obtain ⟨it, hit, hi⟩ := hl.at hx
      have oki := ok.mem it (List.mem_of_getElem? hit)
      refine ⟨x, rfl, .ref p, rfl, p, C, dx, fs, .ref r, rfl, e _ _ h1, T.cl, T.nR, h4, r, _, rfl, .inr (T_seq e h5), _, 1, rfl, rfl, ?_⟩
      cases hi with
      | rd k =>
        unfold Lgi.ok at oki
        refine .inl ⟨(k : Nat), 0, _, rfl, ?_⟩
        rw [decide_eq_true (show (0 : Int) ≤ (k : Nat) by omega), decide_eq_true (show ((k : Nat) : Int) ≤ ((ks.map rf).length : Nat) - 1 by rw [lk]; omega)]
        exact ⟨true, rfl, iteF ⟨⟨_, rfl⟩, e⟩⟩
      | @ro b l ws m jts g1 g2 g3 =>
        refine .inr ⟨b, _, 0, _, rfl, T_seq e g1, false, rfl, iteT ?_⟩
        refine ⟨.ref p, rfl, .ref b, rfl, .int (d : Nat), rfl, p, b, si, ta, _, m, jts, rfl, hp.same e, (IsI.ro g1 g2 g3).same e, oki, fun H2 e2 => ⟨true, rfl, iteF ⟨⟨_, rfl⟩, e.trans e2⟩⟩⟩
    · rintro σ H' ⟨⟨x3, rfl⟩, e⟩
      exact q _ e
theorem ok_is_rounds {f : Addr} {fd : FuncData} (D : Df K mg "is_rounds" ["program", "item", "deep"] s_is_rounds f fd) (T : Tx K mg C) (c_is_int : Ca P w K mg base 1 "is_int" (spIsInt K)) {d : Nat} (c_has_form : Ca P w K mg base (2 * d + 4) "has_form" (spForm K C d)) :
    Ca P w K mg base (2 * (d + 1) + 3) "is_rounds" (spRo K C (d + 1)) := by
  refine D.ca (k := 2 * (d + 1) + 2) sc_is_rounds (fun vs H Q E h => ?_) (fun cdv A outer s H vs Q E hr h => ?_)
  · obtain ⟨p, a, s, t, L, m, its, rfl, _⟩ := h
    rfl
  · obtain ⟨p, a, si, ta, L, m, its, rfl, hp, hi, ok, q⟩ := h
    cases hi with
    | @ro _ l ws _ _ g1 g2 g3 =>
      unfold Lgi.ok at ok
      obtain ⟨_, m1, mb, ne, few, ok⟩ := ok
      refine ⟨_, (pss_cons (ps_if (PW.pt (pw_or (pt_cmpR op_eq (pv 2) pe_int (nomark _)) (pw_or (pt_not (pt_val (pe_callB call_isi (by rfl) T.b.isinstance boot_isinstance (pa_cons (pv 1) (pa_cons (pe_bltn (v := .ty "tuple") (by rfl) T.b.tuple boot_tuple rfl) pa_nil))))) (pw_or1 (pt_cmpR op_ne (pe_callB call_len_seq (by rfl) T.b.len boot_len (pa_cons (pv 1) pa_nil)) pe_int (nomark _)))))) (pss_one (ps_ret pe_bl)) pss_nil)
      (pss_cons (ps_asg (pv 1) (pg_tup (by rfl) (pgs_cons (pg_name (i := 3) sc_is_rounds.nd rfl (by first | exact Or.inl rfl | exact Or.inr rfl)) (pgs_cons (pg_name (i := 4) sc_is_rounds.nd rfl (by first | exact Or.inl rfl | exact Or.inr rfl)) (pgs_cons (pg_name (i := 5) sc_is_rounds.nd rfl (by first | exact Or.inl rfl | exact Or.inr rfl)) pgs_nil)))))
      (pss_cons (ps_if (PW.pt (pw_or (pt_not (pt_val (pe_callB call_isi (by rfl) T.b.isinstance boot_isinstance (pa_cons (pv 3) (pa_cons (pe_bltn (v := .ty "str") (by rfl) T.b.str boot_str rfl) pa_nil))))) (pw_or (pt_cmpR op_ne (pv 3) pe_str (nomark _)) (pw_or (pt_not (pt_val (pe_k c_is_int hr (by omega) (by rfl) (pa_cons (pv 4) pa_nil)))) (pw_or1 (pt_cmpR op_lt (pv 4) pe_int (nomark _))))))) (pss_one (ps_ret pe_bl)) pss_nil)
      (pss_one (ps_ret (pe_and (pe_k c_has_form hr (by omega) (by rfl) (pa_cons (pv 0) (pa_cons (pv 5) (pa_cons (pe_op op_sub (pv 2) pe_int) pa_nil)))) (pe_one (pe_cmpR op_gt (pe_callB call_len_seq (by rfl) T.b.len boot_len (pa_cons (pv 5) pa_nil)) pe_int (nomark _))))))))), ?_⟩
      refine ⟨.int ((d + 1 : Nat)), rfl, rfl, false, congrArg V.bl (decide_eq_false (fun h => by have := V.int.inj h; omega)), iteF ?_⟩
      refine ⟨.ref a, rfl, .ref a, .ty "tuple", _, _, true, rfl, .ty _, ty_t g1, k_tt, true, rfl, iteF ?_⟩
      refine ⟨.ref a, rfl, a, _, rfl, .inr g1, rfl, false, rfl, iteF ?_⟩
      refine ⟨.ref a, rfl, a, _, rfl, g1, rfl, .str "times", [.int m, .ref l], rfl, .int m, [.ref l], rfl, .ref l, [], rfl, rfl, ?_⟩
      refine ⟨.str "times", rfl, .str "times", .ty "str", _, _, true, rfl, .ty _, .base (.str _), k_ss, true, rfl, iteF ?_⟩
      refine ⟨.str "times", rfl, rfl, false, by rw [decide_eq_true rfl]; rfl, iteF ?_⟩
      refine ⟨.int m, rfl, .int m, _, true, false, rfl, .base (.int m), k_ii, k_ib, true, rfl, iteF ?_⟩
      refine ⟨.int m, rfl, m, 1, rfl, rfl, false, congrArg V.bl (decide_eq_false (by omega)), iteF ?_⟩
      refine ⟨.ref p, rfl, .ref l, rfl, .int ((d + 1 : Nat)), rfl, ((d + 1 : Nat)), 1, rfl, rfl, p, l, si, ta, L, ws, its, ?_, hp, g2, g3, ok, fun H' e => ⟨true, rfl, iteT ⟨.ref l, rfl, l, _, rfl, .inr (T_seq e g2), _, 0, rfl, rfl, ?_⟩⟩⟩
      · show [V.ref p, V.ref l, V.int (((d + 1 : Nat) : Int) - 1)] = [V.ref p, V.ref l, V.int (d : Nat)]
        rw [show ((d + 1 : Nat) : Int) - 1 = (d : Nat) by omega]
      · have : 0 < ws.length := by
          rw [g3.len]
          exact List.length_pos_iff.mpr ne
        have := q H' e
        show Q (V.bl (decide ((0 : Int) < (ws.length : Nat)))) H'
        rw [decide_eq_true (show (0 : Int) < (ws.length : Nat) by omega)]
        exact this
theorem ok_rounds0 {f : Addr} {fd : FuncData} (D : Df K mg "is_rounds" ["program", "item", "deep"] s_is_rounds f fd) : Ca P w K mg base (2 * 0 + 3) "is_rounds" (spRo K C 0) :=
  D.ca (k := 2) sc_is_rounds (fun vs H Q E h => by obtain ⟨p, a, s, t, L, m, its, rfl, _⟩ := h; rfl) (fun cdv A outer s H vs Q E hr h => by
    obtain ⟨p, a, s, t, L, m, its, _, _, _, ok, _⟩ := h
    unfold Lgi.ok at ok
    exact absurd ok.1 (Nat.lt_irrefl 0))
theorem ok_forms {f g : Addr} {fd gd : FuncData} (D : Df K mg "has_form" ["program", "thing", "deep"] s_has_form f fd) (D' : Df K mg "is_rounds" ["program", "item", "deep"] s_is_rounds g gd) (T : Tx K mg C) (c_is_int : Ca P w K mg base 1 "is_int" (spIsInt K)) (c_is_int_in : Ca P w K mg base 2 "is_int_in" (spIsIntInA K)) :
    ∀ d, Ca P w K mg base (2 * d + 4) "has_form" (spForm K C d)
  | 0 => ok_has_form D T c_is_int_in (ok_rounds0 D')
  | d + 1 => ok_has_form D T c_is_int_in (ok_is_rounds D' T c_is_int (ok_forms D D' T c_is_int c_is_int_in d))
end

end LW
set_option Elab.async false
set_option linter.all false
set_option maxRecDepth 100000
set_option maxHeartbeats 4000000
namespace LW
open PySem PySem.Spec PyProof.Rows L2 RS LB
section
variable {P : Program} {w : World} {K : PySem.W.Frag} {mg : Str → Option Value} {base : Heap} {C : Addr}
/-! ### where an item begins and ends -/
theorem ko_at {L : Ks} {k : Nat} (h : k < L.length) : (L.map (·.2)).getD k (0, 0, []) = (L[k]).2 := by
  rw [List.getD_eq_getElem?_getD, List.getElem?_map, List.getElem?_eq_getElem h]
  rfl
theorem first_ro {m : Int} {i : Lgi} {its : List Lgi} : (Lgi.ro m (i :: its)).first = i.first := by simp [Lgi.first]
theorem lastL_at : ∀ {its : List Lgi} {i : Lgi}, its[its.length - 1]? = some i → lastL its = i.last
  | [], _, h => by cases h
  | [j], i, h => by
    cases h
    simp [lastL]
  | j :: k :: its, i, h => by
    have : (k :: its)[(k :: its).length - 1]? = some i := by simpa using h
    rw [← lastL_at this]
    simp [lastL]
def spBeg (K : PySem.W.Frag) (C : Addr) (g : Lgi → Nat) (f : List RK → Nat → Int) : Sp := fun vs H Q _ => ∃ (p : Addr) (x : V) (s t : Int) (L : List RK) (it : Lgi) (d : Nat), vs = [.ref p, x] ∧ PgAt K C H p s t L ∧ IsI K H x it ∧ it.ok L.length d ∧ Q (.int (f L (g it))) H
theorem ok_begins_in {f : Addr} {fd : FuncData} (D : Df K mg "begins_in" ["program", "item"] s_begins_in f fd) (T : Tx K mg C) : Ca P w K mg base 1 "begins_in" (spBeg K C Lgi.first rdr) := by
  refine D.ca sc_begins_in (fun vs H Q E h => ?_) (fun cdv A outer s H vs Q E hr h => ?_)
  · obtain ⟨p, x, s, t, L, it, d, rfl, _⟩ := h
    rfl
  · obtain ⟨p, x, si, ta, L, it, d, rfl, hp, hi, ok, q⟩ := h
    obtain ⟨dx, fs, r, ks, h1, h2, h3, h4, h5, h6, rfl⟩ := id hp.ex
    refine ⟨_, (pss_cons (ps_while PassesOwn.never (pt_val (pe_callB call_isi (by rfl) T.b.isinstance boot_isinstance (pa_cons (pv 1) (pa_cons (pe_bltn (v := .ty "tuple") (by rfl) T.b.tuple boot_tuple rfl) pa_nil)))) (pss_one (ps_set (i := 1) sc_begins_in.nd rfl (by first | exact Or.inl rfl | exact Or.inr rfl) (pe_ix ix_tup (pe_ix ix_tup (pv 1) pe_int (fun _ _ => rfl)) pe_int (fun _ _ => rfl)))))
      (pss_one (ps_ret (pe_ix ix_tup (pe_ix ix_tup (pe_fld (pv 0) rfl) (pv 1) (fun _ _ => rfl)) pe_int (fun _ _ => rfl))))), ?_⟩
    refine ⟨fun m σ H' => H' = H ∧ ∃ y jt e, σ = [some (.ref p), some y] ∧ IsI K H y jt ∧ jt.ok (ks.map (·.2)).length e ∧ jt.first = it.first ∧ sizeOf jt = m, ⟨_, rfl, x, it, d, rfl, hi, ok, rfl, rfl⟩, ?_⟩
    rintro m σ H' ⟨rfl, y, jt, e, rfl, hj, okj, ej, rfl⟩
    cases hj with
    | rd k =>
      unfold Lgi.ok at okj
      rw [List.length_map] at okj
      refine ⟨.int (k : Nat), rfl, .int (k : Nat), .ty "tuple", _, _, false, rfl, .ty _, .base (.int _), k_it, false, rfl, iteF ?_⟩
      have hk := h6 _ (List.getElem_mem okj)
      obtain ⟨t, y1, y2⟩ := hk
      refine ⟨.ref p, rfl, p, C, dx, fs, .ref r, rfl, h1, T.cl, T.nR, h4, .int (k : Nat), rfl, r, _, (k : Nat), rf ks[k], rfl, rfl, h5, atI_nat (by rw [List.getElem?_map, List.getElem?_eq_getElem okj]; rfl), ks[k].1, _, 0, .int ks[k].2.1, rfl, rfl, y1, rfl, ?_⟩
      have e2 : rdr (ks.map (·.2)) it.first = ks[k].2.1 := by
        rw [← ej]
        unfold rdr Lgi.first
        rw [ko_at okj]
      rw [e2] at q
      exact q
    | @ro a l ws m jts g1 g2 g3 =>
      unfold Lgi.ok at okj
      obtain ⟨_, _, _, ne, _, okj⟩ := okj
      refine ⟨.ref a, rfl, .ref a, .ty "tuple", _, _, true, rfl, .ty _, ty_t g1, k_tt, true, rfl, iteT ?_⟩
      cases jts with
      | nil => exact absurd rfl ne
      | cons j jts =>
        cases g3 with
        | @cons v vs _ _ f1 f2 =>
          refine ⟨fun σ' H2 => H2 = H' ∧ σ' = [some (.ref p), some v], fun σ' H2 z => ⟨sizeOf j, by simp; omega, z.1, v, j, e - 1, z.2, f1, okj.mem j List.mem_cons_self, by rw [← ej, first_ro], rfl⟩, ?_⟩
          exact ⟨.ref a, rfl, a, _, 2, .ref l, rfl, rfl, g1, rfl, l, _, 0, v, rfl, rfl, g2, atI_nat (j := 0) rfl, rfl, rfl⟩
theorem ok_ends_in {f : Addr} {fd : FuncData} (D : Df K mg "ends_in" ["program", "item"] s_ends_in f fd) (T : Tx K mg C) : Ca P w K mg base 1 "ends_in" (spBeg K C Lgi.last rds) := by
  refine D.ca sc_ends_in (fun vs H Q E h => ?_) (fun cdv A outer s H vs Q E hr h => ?_)
  · obtain ⟨p, x, s, t, L, it, d, rfl, _⟩ := h
    rfl
  · obtain ⟨p, x, si, ta, L, it, d, rfl, hp, hi, ok, q⟩ := h
    obtain ⟨dx, fs, r, ks, h1, h2, h3, h4, h5, h6, rfl⟩ := id hp.ex
    refine ⟨_, (pss_cons (ps_while PassesOwn.never (pt_val (pe_callB call_isi (by rfl) T.b.isinstance boot_isinstance (pa_cons (pv 1) (pa_cons (pe_bltn (v := .ty "tuple") (by rfl) T.b.tuple boot_tuple rfl) pa_nil)))) (pss_one (ps_set (i := 1) sc_ends_in.nd rfl (by first | exact Or.inl rfl | exact Or.inr rfl) (pe_ix ix_tup (pe_ix ix_tup (pv 1) pe_int (fun _ _ => rfl)) (pe_un un_neg pe_int) (fun _ _ => rfl)))))
      (pss_one (ps_ret (pe_ix ix_tup (pe_ix ix_tup (pe_fld (pv 0) rfl) (pv 1) (fun _ _ => rfl)) pe_int (fun _ _ => rfl))))), ?_⟩
    refine ⟨fun m σ H' => H' = H ∧ ∃ y jt e, σ = [some (.ref p), some y] ∧ IsI K H y jt ∧ jt.ok (ks.map (·.2)).length e ∧ jt.last = it.last ∧ sizeOf jt = m, ⟨_, rfl, x, it, d, rfl, hi, ok, rfl, rfl⟩, ?_⟩
    rintro m σ H' ⟨rfl, y, jt, e, rfl, hj, okj, ej, rfl⟩
    cases hj with
    | rd k =>
      unfold Lgi.ok at okj
      rw [List.length_map] at okj
      refine ⟨.int (k : Nat), rfl, .int (k : Nat), .ty "tuple", _, _, false, rfl, .ty _, .base (.int _), k_it, false, rfl, iteF ?_⟩
      have hk := h6 _ (List.getElem_mem okj)
      obtain ⟨t, y1, y2⟩ := hk
      refine ⟨.ref p, rfl, p, C, dx, fs, .ref r, rfl, h1, T.cl, T.nR, h4, .int (k : Nat), rfl, r, _, (k : Nat), rf ks[k], rfl, rfl, h5, atI_nat (by rw [List.getElem?_map, List.getElem?_eq_getElem okj]; rfl), ks[k].1, _, 1, .int ks[k].2.2.1, rfl, rfl, y1, rfl, ?_⟩
      have e2 : rds (ks.map (·.2)) it.last = ks[k].2.2.1 := by
        rw [← ej]
        unfold rds Lgi.last
        rw [ko_at okj]
      rw [e2] at q
      exact q
    | @ro a l ws m jts g1 g2 g3 =>
      unfold Lgi.ok at okj
      obtain ⟨_, _, _, ne, _, okj⟩ := okj
      refine ⟨.ref a, rfl, .ref a, .ty "tuple", _, _, true, rfl, .ty _, ty_t g1, k_tt, true, rfl, iteT ?_⟩
      have lp : 0 < jts.length := List.length_pos_iff.mpr ne
      have hj : jts[jts.length - 1]? = some jts[jts.length - 1] := List.getElem?_eq_getElem (by omega)
      obtain ⟨v, hv, f1⟩ := g3.of hj
      have jm := List.mem_of_getElem? hj
      have hat : atI ws (-1) = some v := by
        unfold atI
        have : ixN ws.length (-1) = some (jts.length - 1) := by
          unfold ixN
          have := g3.len
          rw [if_neg (by omega), if_pos (by omega)]
          congr 1
          omega
        rw [this]
        exact hv
      refine ⟨fun σ' H2 => H2 = H' ∧ σ' = [some (.ref p), some v], fun σ' H2 z => ⟨sizeOf jts[jts.length - 1], ?_, z.1, v, jts[jts.length - 1], e - 1, z.2, f1, okj.mem _ jm, ?_, rfl⟩, ?_⟩
      · have := List.sizeOf_lt_of_mem jm
        simp
        omega
      · rw [← ej, ← lastL_at hj]
        simp [Lgi.last]
      · exact ⟨.ref a, rfl, a, _, 2, .ref l, rfl, rfl, g1, rfl, 1, rfl, l, _, -1, v, rfl, rfl, g2, hat, rfl, rfl⟩
end

end LW
set_option Elab.async false
set_option linter.all false
set_option maxRecDepth 100000
set_option maxHeartbeats 4000000
namespace LW
open PySem PySem.Spec PyProof.Rows L2 RS LB
section
variable {P : Program} {w : World} {K : PySem.W.Frag} {mg : Str → Option Value} {base : Heap} {C : Addr}
theorem _root_.LB.Ca.imp {k : Nat} {x : Str} {sp sp' : Sp} (c : Ca P w K mg base k x sp) (h : ∀ vs H Q E, sp' vs H Q E → sp vs H Q E) : Ca P w K mg base k x sp' := by
  obtain ⟨f, fd, ps, F, r⟩ := c.ex
  exact ⟨f, fd, ps, F.imp h, r⟩
theorem _root_.LB.Ca.up {j k : Nat} {x : Str} {sp : Sp} (c : Ca P w K mg base j x sp) (h : j ≤ k) : Ca P w K mg base k x sp := by
  obtain ⟨f, fd, ps, F, r⟩ := c.ex
  exact ⟨f, fd, ps, F.mono h, r⟩
/-! ### leads_on, is_log: either answer -/
theorem lead_pre {L : List RK} : ∀ {xs ys : List Lgi}, leadsL L (xs ++ ys) → leadsL L xs
  | [], ys, _ => by unfold leadsL; trivial
  | x :: xs, ys, h => by
    have h' : leadsL L (x :: (xs ++ ys)) := h
    unfold leadsL at h' ⊢
    refine ⟨h'.1, lead_pre h'.2.1, fun j hj => h'.2.2 j ?_⟩
    cases xs with
    | nil => cases hj
    | cons y xs => exact hj
theorem lead_snoc {L : List RK} {i : Lgi} : ∀ {xs : List Lgi}, leadsL L (xs ++ [i]) ↔ leadsL L xs ∧ i.leads L ∧ ∀ j, xs.getLast? = some j → rds L j.last = rdr L i.first
  | [] => by
    show leadsL L [i] ↔ _
    simp only [leadsL]
    exact ⟨fun h => ⟨trivial, h.1, fun j hj => by cases hj⟩, fun h => ⟨h.2.1, trivial, fun j hj => by cases hj⟩⟩
  | [x] => by
    show leadsL L [x, i] ↔ _
    simp only [leadsL]
    constructor
    · rintro ⟨h1, ⟨h2, _, _⟩, h3⟩
      exact ⟨⟨h1, trivial, fun j hj => by cases hj⟩, h2, fun j hj => by cases hj; exact h3 i rfl⟩
    · rintro ⟨⟨h1, _, _⟩, h2, h3⟩
      exact ⟨h1, ⟨h2, trivial, fun j hj => by cases hj⟩, fun j hj => by cases hj; exact h3 x rfl⟩
  | x :: y :: xs => by
    have ih := lead_snoc (L := L) (i := i) (xs := y :: xs)
    have e1 : leadsL L ((x :: y :: xs) ++ [i]) ↔ x.leads L ∧ leadsL L ((y :: xs) ++ [i]) ∧ rds L x.last = rdr L y.first := by
      show leadsL L (x :: (y :: xs ++ [i])) ↔ _
      simp only [leadsL]
      exact ⟨fun h => ⟨h.1, h.2.1, h.2.2 y rfl⟩, fun h => ⟨h.1, h.2.1, fun j hj => by cases hj; exact h.2.2⟩⟩
    have e2 : leadsL L (x :: y :: xs) ↔ x.leads L ∧ leadsL L (y :: xs) ∧ rds L x.last = rdr L y.first := by
      simp only [leadsL]
      exact ⟨fun h => ⟨h.1, h.2.1, h.2.2 y rfl⟩, fun h => ⟨h.1, h.2.1, fun j hj => by cases hj; exact h.2.2⟩⟩
    rw [e1, e2, ih]
    constructor
    · rintro ⟨h1, ⟨h2, h3, h4⟩, h5⟩
      exact ⟨⟨h1, h2, h5⟩, h3, h4⟩
    · rintro ⟨⟨h1, h2, h5⟩, h3, h4⟩
      exact ⟨h1, ⟨h2, h3, h4⟩, h5⟩
theorem lead_not {L : List RK} {its : List Lgi} {n : Nat} (h : ¬ leadsL L (its.take n)) : ¬ leadsL L its := fun z => h (by
  rw [← List.take_append_drop n its] at z
  exact lead_pre z)
def spLeadB (K : PySem.W.Frag) (C : Addr) (n : Nat) : Sp := fun vs H Q _ => ∃ (p a : Addr) (s t : Int) (L : List RK) (us : List V) (its : List Lgi) (d : Nat), vs = [.ref p, .ref a] ∧ PgAt K C H p s t L ∧ SqT K H a us ∧ IsL K H us its ∧ okL L.length d its ∧ d < n ∧
  ∀ H' b, Same H H' → (b = true ↔ leadsL L its) → Q (.bl b) H'
theorem ok_leads_on {f : Addr} {fd : FuncData} (D : Df K mg "leads_on" ["program", "log"] s_leads_on f fd) (T : Tx K mg C) (c_begins_in : Ca P w K mg base 1 "begins_in" (spBeg K C Lgi.first rdr)) (c_ends_in : Ca P w K mg base 1 "ends_in" (spBeg K C Lgi.last rds)) :
    ∀ n, Ca P w K mg base (n + 2) "leads_on" (spLeadB K C n)
  | 0 => D.ca sc_leads_on (fun vs H Q E h => by obtain ⟨p, a, s, t, L, us, its, d, rfl, _⟩ := h; rfl) (fun cdv A outer s H vs Q E hr h => by
      obtain ⟨p, a, s, t, L, us, its, d, _, _, _, _, _, z, _⟩ := h
      exact absurd z (Nat.not_lt_zero _))
  | n + 1 => by
    have c_leads_on := ok_leads_on D T c_begins_in c_ends_in n
    refine D.ca sc_leads_on (fun vs H Q E h => ?_) (fun cdv A outer s H vs Q E hr h => ?_)
    · obtain ⟨p, a, s, t, L, us, its, d, rfl, _⟩ := h
      rfl
    · obtain ⟨p, a, si, ta, L, us, its, d, rfl, hp, ha, hl, ok, dn, q⟩ := h
      refine ⟨_, (pss_cons (ps_for PassesOwn.never rfl (pi_enumT (by rfl) T.b.enumerate (pa_cons (pv 1) pa_nil)) (pg_tup (by rfl) (pgs_cons (pg_name (i := 2) sc_leads_on.nd rfl (by first | exact Or.inl rfl | exact Or.inr rfl)) (pgs_cons (pg_name (i := 3) sc_leads_on.nd rfl (by first | exact Or.inl rfl | exact Or.inr rfl)) pgs_nil))) (C8.pss_cut (ps_if (PW.pt (pw_and (pt_cmpR op_gt (pv 2) pe_int (nomark _)) (pw_and1 (pt_cmpR op_ne (pe_k c_ends_in hr (by omega) (by rfl) (pa_cons (pv 0) (pa_cons (pe_ix ix_tup (pv 1) (pe_op op_sub (pv 2) pe_int) (fun _ _ => rfl)) pa_nil))) (pe_k c_begins_in hr (by omega) (by rfl) (pa_cons (pv 0) (pa_cons (pv 3) pa_nil))) (nomark _))))) (pss_one (ps_ret pe_bl)) pss_nil)
      (pss_one (ps_if (pt_val (pe_callB call_isi (by rfl) T.b.isinstance boot_isinstance (pa_cons (pv 3) (pa_cons (pe_bltn (v := .ty "tuple") (by rfl) T.b.tuple boot_tuple rfl) pa_nil)))) (pss_cons (ps_asg (pv 3) (pg_tup (by rfl) (pgs_cons (pg_name (i := 4) sc_leads_on.nd rfl (by first | exact Or.inl rfl | exact Or.inr rfl)) (pgs_cons (pg_name (i := 5) sc_leads_on.nd rfl (by first | exact Or.inl rfl | exact Or.inr rfl)) (pgs_cons (pg_name (i := 6) sc_leads_on.nd rfl (by first | exact Or.inl rfl | exact Or.inr rfl)) pgs_nil)))))
      (pss_cons (ps_if (pt_not (pt_val (pe_k c_leads_on hr (by omega) (by rfl) (pa_cons (pv 0) (pa_cons (pv 6) pa_nil))))) (pss_one (ps_ret pe_bl)) pss_nil)
      (pss_one (ps_if (PW.pt (pw_and (pt_cmpR op_gt (pv 5) pe_int (nomark _)) (pw_and1 (pt_cmpR op_ne (pe_k c_ends_in hr (by omega) (by rfl) (pa_cons (pv 0) (pa_cons (pv 3) pa_nil))) (pe_k c_begins_in hr (by omega) (by rfl) (pa_cons (pv 0) (pa_cons (pv 3) pa_nil))) (nomark _))))) (pss_one (ps_ret pe_bl)) pss_nil)))) pss_nil))))
      (pss_one (ps_ret pe_bl))), ?_⟩
      refine ⟨.ref a, rfl, a, _, rfl, ha, for_enumT (K := K) (a := a) (xs := us) (fun i σ H' => (∃ x2 x3 x4 x5 x6, σ = [some (.ref p), some (.ref a), x2, x3, x4, x5, x6]) ∧ Same H H' ∧ leadsL L (its.take i)) ⟨⟨_, _, _, _, _, rfl⟩, Same.refl _, by rw [List.take_zero]; unfold leadsL; trivial⟩
        (fun i σ H' z => T_seq z.2.1 ha) ?_ ?_⟩
      · rintro i x T0 σ H' hx ⟨⟨x2, x3, x4, x5, x6, rfl⟩, e, ld⟩ nT
        obtain ⟨it, hit, hi⟩ := hl.at hx
        have im := List.mem_of_getElem? hit
        have oki := ok.mem it im
        have e2 : Same H (upd H' T0 (.tup [.int (i : Nat), x])) := e.trans (same_new nT)
        have tk : its.take (i + 1) = its.take i ++ [it] := by rw [List.take_add_one, hit]; rfl
        have no : ∀ Hz, Same H Hz → ¬ (leadsL L (its.take i) ∧ it.leads L ∧ ∀ j, (its.take i).getLast? = some j → rds L j.last = rdr L it.first) → Q (.bl false) Hz := fun Hz ez hz => q Hz false ez ⟨fun h => absurd h Bool.false_ne_true, fun h => absurd h (lead_not (n := i + 1) (by rw [tk, lead_snoc]; exact hz))⟩
        refine ⟨T0, [.int (i : Nat), x], rfl, T_new, rfl, .int (i : Nat), [x], rfl, x, [], rfl, rfl, ?_⟩
        have hi2 := hi.same e2
        have hp2 := hp.same e2
        refine ⟨fun σ' Hz => (∃ x4 x5 x6, σ' = [some (.ref p), some (.ref a), some (.int (i : Nat)), some x, x4, x5, x6]) ∧ Hz = upd H' T0 (.tup [.int (i : Nat), x]) ∧ ∀ j, (its.take i).getLast? = some j → rds L j.last = rdr L it.first, ?_, ?_⟩
        · cases i with
          | zero => exact ⟨.int ((0 : Nat) : Int), rfl, ((0 : Nat) : Int), 0, rfl, rfl, false, rfl, iteF ⟨⟨_, _, _, rfl⟩, rfl, fun j hj => by cases hj⟩⟩
          | succ i =>
            have il := (List.getElem?_eq_some_iff.mp hit).1
            have hy : its[i]? = some its[i] := List.getElem?_eq_getElem (by omega)
            obtain ⟨y, hy2, hyi⟩ := hl.of hy
            have ei : ((i + 1 : Nat) : Int) - 1 = (i : Nat) := by omega
            have gl : (its.take (i + 1)).getLast? = some its[i] := by rw [List.take_add_one, hy, Option.toList, List.getLast?_append]; rfl
            refine ⟨.int ((i + 1 : Nat) : Int), rfl, ((i + 1 : Nat) : Int), 0, rfl, rfl, true, congrArg V.bl (decide_eq_true (by omega)), iteT ?_⟩
            refine ⟨.ref p, rfl, .ref a, rfl, .int ((i + 1 : Nat) : Int), rfl, ((i + 1 : Nat) : Int), 1, rfl, rfl, a, us, _, y, rfl, rfl, T_seq e2 ha, by rw [ei]; exact atI_nat hy2, p, y, si, ta, L, its[i], d, rfl, hp2, hyi.same e2, ok.mem _ (List.mem_of_getElem? hy), ?_⟩
            refine ⟨.ref p, rfl, x, rfl, p, x, si, ta, L, it, d, rfl, hp2, hi2, oki, rfl, !decide (V.int (rds L (its[i]).last) = V.int (rdr L it.first)), rfl, ?_⟩
            by_cases z : rds L (its[i]).last = rdr L it.first
            · rw [decide_eq_true (show V.int (rds L (its[i]).last) = V.int (rdr L it.first) by rw [z])]
              exact iteF ⟨⟨_, _, _, rfl⟩, rfl, fun j hj => by rw [gl] at hj; cases hj; exact z⟩
            · rw [decide_eq_false (fun h => z (V.int.inj h))]
              exact iteT (no _ e2 fun h => z (h.2.2 _ gl))
        · rintro σ' Hz ⟨⟨x4, x5, x6, rfl⟩, rfl, jn⟩
          have yes : it.leads L → leadsL L (its.take (i + 1)) := fun h => by rw [tk, lead_snoc]; exact ⟨ld, h, jn⟩
          cases hi2 with
          | rd k => exact ⟨.int (k : Nat), rfl, .int (k : Nat), .ty "tuple", _, _, false, rfl, .ty _, .base (.int _), k_it, false, rfl, iteF ⟨⟨_, _, _, _, _, rfl⟩, e2, yes (by unfold Lgi.leads; trivial)⟩⟩
          | @ro b l ws m jts g1 g2 g3 =>
            have hib : IsI K _ (.ref b) (.ro m jts) := .ro g1 g2 g3
            have oki' := oki
            unfold Lgi.ok at oki'
            obtain ⟨d0, m1, mb, ne, few, okj⟩ := oki'
            refine ⟨.ref b, rfl, .ref b, .ty "tuple", _, _, true, rfl, .ty _, ty_t g1, k_tt, true, rfl, iteT ?_⟩
            refine ⟨.ref b, rfl, b, _, rfl, g1, rfl, .str "times", [.int m, .ref l], rfl, .int m, [.ref l], rfl, .ref l, [], rfl, rfl, ?_⟩
            refine ⟨.ref p, rfl, .ref l, rfl, p, l, si, ta, L, ws, jts, d - 1, rfl, hp2, g2, g3, okj, by omega, fun H3 bb e3 hb => ⟨bb, rfl, ?_⟩⟩
            cases bb with
            | false => exact iteT (no _ (e2.trans e3) fun h => by have := h.2.1; unfold Lgi.leads at this; exact absurd (hb.mpr this.1) Bool.false_ne_true)
            | true =>
              have ij := hb.mp rfl
              refine iteF ?_
              by_cases zm : 1 < m
              · refine ⟨.int m, rfl, m, 1, rfl, rfl, true, congrArg V.bl (decide_eq_true zm), iteT ?_⟩
                refine ⟨.ref p, rfl, .ref b, rfl, p, .ref b, si, ta, L, .ro m jts, d, rfl, hp2.same e3, hib.same e3, oki, ?_⟩
                have e9 : (Lgi.ro m jts).last = lastL jts := by simp [Lgi.last]
                refine ⟨.ref p, rfl, .ref b, rfl, p, .ref b, si, ta, L, .ro m jts, d, rfl, hp2.same e3, hib.same e3, oki, rfl, !decide (V.int (rds L (Lgi.ro m jts).last) = V.int (rdr L (Lgi.ro m jts).first)), rfl, ?_⟩
                by_cases z : rds L (Lgi.ro m jts).last = rdr L (Lgi.ro m jts).first
                · rw [decide_eq_true (show V.int (rds L (Lgi.ro m jts).last) = V.int (rdr L (Lgi.ro m jts).first) by rw [z])]
                  exact iteF ⟨⟨_, _, _, _, _, rfl⟩, e2.trans e3, yes (by unfold Lgi.leads; exact ⟨ij, fun _ => by rw [← e9]; exact z⟩)⟩
                · rw [decide_eq_false (fun h => z (V.int.inj h))]
                  exact iteT (no _ (e2.trans e3) fun h => by have := h.2.1; unfold Lgi.leads at this; exact z (by rw [e9]; exact this.2 zm))
              · exact ⟨.int m, rfl, m, 1, rfl, rfl, false, congrArg V.bl (decide_eq_false zm), iteF ⟨⟨_, _, _, _, _, rfl⟩, e2.trans e3, yes (by unfold Lgi.leads; exact ⟨ij, fun h => absurd h zm⟩)⟩⟩
      · rintro σ H' ⟨⟨x2, x3, x4, x5, x6, rfl⟩, e, ld⟩
        rw [List.take_of_length_le (by rw [hl.len]; exact Nat.le_refl _)] at ld
        exact q _ true e ⟨fun _ => ld, fun _ => rfl⟩
def spIsLogB (K : PySem.W.Frag) (C : Addr) : Sp := fun vs H Q _ => ∃ (p a : Addr) (s t : Int) (L : List RK) (us : List V) (its : List Lgi), vs = [.ref p, .ref a] ∧ PgAt K C H p s t L ∧ SqT K H a us ∧ IsL K H us its ∧ okL L.length 30 its ∧ ∀ H' b, Same H H' → (b = true ↔ leadsL L its) → Q (.bl b) H'
theorem ok_is_logB {f : Addr} {fd : FuncData} (D : Df K mg "is_log" ["program", "thing"] s_is_log f fd) (T : Tx K mg C) (c_has_form : Ca P w K mg base 64 "has_form" (spForm K C 30)) (c_leads_on : Ca P w K mg base 33 "leads_on" (spLeadB K C 31)) : Ca P w K mg base 65 "is_log" (spIsLogB K C) := by
  refine D.ca sc_is_log (fun vs H Q E h => ?_) (fun cdv A outer s H vs Q E hr h => ?_)
  · obtain ⟨p, a, s, t, L, us, its, rfl, _⟩ := h
    rfl
  · obtain ⟨p, a, si, ta, L, us, its, rfl, hp, ha, hl, ok, q⟩ := h
    refine ⟨_, (pss_one (ps_ret (pe_and (pe_k c_has_form hr (by omega) (by rfl) (pa_cons (pv 0) (pa_cons (pv 1) (pa_cons (pe_gc (by rfl) T.c_DEEPEST_ROUNDS) pa_nil)))) (pe_one (pe_k c_leads_on hr (by omega) (by rfl) (pa_cons (pv 0) (pa_cons (pv 1) pa_nil))))))), ?_⟩
    refine ⟨.ref p, rfl, .ref a, rfl, p, a, si, ta, L, us, its, rfl, hp, ha, hl, ok, fun H1 e1 => ⟨true, rfl, iteT ?_⟩⟩
    exact ⟨.ref p, rfl, .ref a, rfl, p, a, si, ta, L, us, its, 30, rfl, hp.same e1, T_seq e1 ha, hl.same e1, ok, by decide, fun H2 b e2 hb => q _ b (e1.trans e2) hb⟩
def spIsLog (K : PySem.W.Frag) (C : Addr) : Sp := fun vs H Q _ => ∃ (p a : Addr) (s t : Int) (L : List RK) (us : List V) (its : List Lgi), vs = [.ref p, .ref a] ∧ PgAt K C H p s t L ∧ SqT K H a us ∧ IsL K H us its ∧ okL L.length 30 its ∧ leadsL L its ∧ ∀ H', Same H H' → Q (.bl true) H'
theorem ok_is_log (c : Ca P w K mg base 65 "is_log" (spIsLogB K C)) : Ca P w K mg base 65 "is_log" (spIsLog K C) := c.imp fun vs H Q E h => by
  obtain ⟨p, a, s, t, L, us, its, h1, h2, h3, h4, h5, h6, h7⟩ := h
  exact ⟨p, a, s, t, L, us, its, h1, h2, h3, h4, h5, fun H' b e hb => by rw [hb.mpr h6]; exact h7 H' e⟩
end

end LW
set_option Elab.async false
set_option linter.all false
set_option maxRecDepth 100000
set_option maxHeartbeats 4000000
namespace LW
open PySem PySem.Spec PyProof.Rows L2 RS LB
section
variable {P : Program} {w : World} {K : PySem.W.Frag} {mg : Str → Option Value} {base : Heap} {C : Addr}
theorem _root_.L2.Same.none {H H' : Hp} {p : Addr} (e : Same H H') (h : H' p = none) : H p = none := by
  cases q : H p with
  | none => rfl
  | some o => rw [e _ _ q] at h; cases h
/-! ### lists of readings that grow -/
def Bt (K : PySem.W.Frag) (D : Addr) (M : List RK) (H : Hp) : Prop := ∃ ks : Ks, H D = some (.lst (ks.map rf)) ∧ (∀ q ∈ ks, RdAt K H q.1 q.2) ∧ ks.map (·.2) = M
theorem Bt.zero {D : Addr} {H : Hp} : Bt K D [] (upd H D (.lst [])) := ⟨[], upd_same, (fun q hq => by cases hq), rfl⟩
theorem Bt.same {D : Addr} {H H' : Hp} {M : List RK} (e : Same H H') (h : Bt K D M H) : Bt K D M H' := by
  obtain ⟨ks, h1, h2, h3⟩ := h
  exact ⟨ks, e _ _ h1, fun q hq => rd_same e (h2 q hq), h3⟩
theorem T_mutL {H : Hp} {D a : Addr} {xs ys zs : List V} (h : H D = some (.lst xs)) (q : SqT K H a zs) : SqT K (upd H D (.lst ys)) a zs := by
  rcases q with (q | ⟨o, q⟩) | q
  · exact .inl (.inl (by rw [upd_ne (fun z => by rw [z, h] at q; cases q)]; exact q))
  · exact .inl (.inr ⟨o, by rw [upd_ne (fun z => by rw [z, h] at q; cases q)]; exact q⟩)
  · exact .inr q
theorem rd_mutL {H : Hp} {D a : Addr} {xs ys : List V} {k : RK} (h : H D = some (.lst xs)) (q : RdAt K H a k) : RdAt K (upd H D (.lst ys)) a k := by
  obtain ⟨t, h1, h2⟩ := q
  exact ⟨t, T_mutL h h1, T_mutL h h2⟩
theorem small {n : Nat} (h : n ≤ 1000) : n ≤ sizeLine := by rw [sizeLine_eq]; omega
theorem smallt {n : Nat} (h : n < 1000) : n < sizeLine := by rw [sizeLine_eq]; omega
theorem Bt.push {D a : Addr} {H : Hp} {M : List RK} {k : RK} (h : Bt K D M H) (r : RdAt K H a k) (few : M.length < 1000) : ∃ acc, H D = some (.lst acc) ∧ acc.length < sizeLine ∧ Bt K D (M ++ [k]) (upd H D (.lst (acc ++ [.ref a]))) := by
  obtain ⟨ks, h1, h2, h3⟩ := h
  refine ⟨_, h1, smallt (by rw [List.length_map, ← List.length_map (f := fun q : Addr × RK => q.2), h3]; exact few), ks ++ [(a, k)], ?_, ?_, ?_⟩
  · rw [upd_same, List.map_append]; rfl
  · intro q hq
    rcases List.mem_append.mp hq with z | z
    · exact rd_mutL h1 (h2 q z)
    · rw [List.mem_singleton.mp z]; exact rd_mutL h1 r
  · rw [List.map_append, h3]; rfl
theorem take_map_succ {α β : Type} {L : List α} {g : α → β} {i : Nat} {k : α} (h : L[i]? = some k) : (L.take i).map g ++ [g k] = (L.take (i + 1)).map g := by
  rw [List.take_add_one, h, Option.toList, List.map_append]
  rfl
theorem all_taken {α β : Type} {L : List α} {g : α → β} : (L.take L.length).map g = L.map g := by rw [List.take_length]
theorem rf_at {L : Ks} {i : Nat} {x : V} (h : (L.map rf)[i]? = some x) : ∃ q, L[i]? = some q ∧ x = rf q := by
  rw [List.getElem?_map] at h
  cases e : L[i]? with
  | none => rw [e] at h; cases h
  | some q => rw [e] at h; exact ⟨q, rfl, (Option.some.inj h).symm⟩
theorem int_at {L : List Int} {i : Nat} {x : V} (h : (L.map V.int)[i]? = some x) : ∃ z, L[i]? = some z ∧ x = .int z := by
  rw [List.getElem?_map] at h
  cases e : L[i]? with
  | none => rw [e] at h; cases h
  | some q => rw [e] at h; exact ⟨q, rfl, (Option.some.inj h).symm⟩
/-! ### programs of any steps -/
structure Pok (s t : Int) (L : List RK) : Prop where
  s1 : 1 ≤ s
  s4 : s ≤ 4
  t1 : 1 ≤ t
  tm : t ≤ 1000
  few : L.length ≤ 900
  each : ∀ k ∈ L, InR s t k
  up : L.Pairwise rlt
theorem GoodP.ok {s t : Int} {L : List RK} (g : GoodP s t L) : Pok s t L := ⟨g.s1, g.s4, g.t1, by have := g.t8; omega, by have := g.few; omega, fun k hk => (g.each k hk).toInR, g.asc⟩
/-- the readings led otherwise, one by one, are a program's again -/
theorem Pok.led {s t s' t' : Int} {L M : List RK} {g : RK → RK} (G : Pok s t L) (h1 : 1 ≤ s') (h2 : s' ≤ 4) (h3 : 1 ≤ t') (h4 : t' ≤ 1000) (hg : ∀ k, InR s t k → InR s' t' (g k)) (a : Asc (L.map g) M) : Pok s' t' M :=
  ⟨h1, h2, h3, h4, by rw [a.pm.length_eq, List.length_map]; exact G.few, fun k hk => by
    obtain ⟨j, hj, rfl⟩ := List.mem_map.mp (a.pm.mem_iff.mp hk)
    exact hg j (G.each j hj), a.up⟩
theorem nodup_led {s t : Int} {L : List RK} {g : RK → RK} (G : Pok s t L) (inj : ∀ j k, InR s t j → InR s t k → g j = g k → j = k) : (L.map g).Nodup :=
  List.pairwise_map.mpr (List.Pairwise.imp_of_mem (fun {j k} hj hk (lt : rlt j k) e => by
    have := inj j k (G.each j hj) (G.each k hk) e
    subst this
    exact rlt_irrefl _ lt) G.up)
end

end LW
set_option Elab.async false
set_option linter.all false
set_option maxRecDepth 100000
set_option maxHeartbeats 4000000
namespace LW
open PySem PySem.Spec PyProof.Rows L2 RS LB
section
variable {P : Program} {w : World} {K : PySem.W.Frag} {mg : Str → Option Value} {base : Heap} {C : Addr}
/-! ### the pool -/
theorem cut_upto (ns : List Int) (lo hi : Option Int) : ∃ ms : List Int, cutV (ns.map V.int) lo hi = ms.map V.int ∧ ms.length ≤ ns.length := by
  unfold cutV
  refine ⟨(ns.drop (HT.sIx (ns.map V.int).length 0 lo)).take (HT.sIx (ns.map V.int).length (ns.map V.int).length hi - HT.sIx (ns.map V.int).length 0 lo), by rw [← List.map_drop, ← List.map_take], ?_⟩
  rw [List.length_take, List.length_drop]
  omega
def spPool (K : PySem.W.Frag) : Sp := fun vs H Q _ => ∃ (a : Addr) (ns : List Int), vs = [.ref a] ∧ SqL K H a (ns.map V.int) ∧ ns.length ≤ 63 ∧ ∀ H' p c, Same H H' → H p = none → H c = none → Pool H' p c → Q (.ref p) H'
theorem ok__law_pool {f : Addr} {fd : FuncData} (D : Df K mg "_law_pool" ["_law_script"] s__law_pool f fd) (T : Tx K mg C) : Ca P w K mg base 1 "_law_pool" (spPool K) := by
  refine D.ca sc__law_pool (fun vs H Q E h => ?_) (fun cdv A outer s H vs Q E hr h => ?_)
  · obtain ⟨a, ns, rfl, _⟩ := h
    rfl
  · obtain ⟨a, ns, rfl, ha, few, q⟩ := h
    refine ⟨_, (pss_cons (ps_set (i := 1) sc__law_pool.nd rfl (by first | exact Or.inl rfl | exact Or.inr rfl) (pe_op op_add (pe_op op_add (pe_op op_mod (pe_callTy call_int1 (by rfl) T.b.int boot_int (pa_cons (pe_callB (cr_sum rfl) (by rfl) T.b.sum boot_sum (pa_cons (pe_slice sl_list (pv 0) po_none (po_some pe_int)) pa_nil)) pa_nil)) pe_int) (pe_callB call_len_seq (by rfl) T.b.len boot_len (pa_cons (pv 0) pa_nil))) pe_int))
      (pss_cons (ps_for PassesOwn.never rfl (pi_list (pe_slice sl_list (pv 0) po_none (po_some pe_int))) (pg_name (i := 2) sc__law_pool.nd rfl (by first | exact Or.inl rfl | exact Or.inr rfl)) (pss_one (ps_set (i := 1) sc__law_pool.nd rfl (by first | exact Or.inl rfl | exact Or.inr rfl) (pe_op op_mod (pe_callTy call_int1 (by rfl) T.b.int boot_int (pa_cons (pe_op op_add (pe_op op_add (pe_op op_mul (pv 1) pe_int) (pe_op op_mod (pe_callTy call_int1 (by rfl) T.b.int boot_int (pa_cons (pv 2) pa_nil)) pe_int)) pe_int) pa_nil)) pe_int))))
      (pss_one (ps_ret (pe_lst (pa_cons (pv 1) (pa_cons pe_int (pa_cons (pe_lc (own := [("_law_cell", 2)]) (by rfl) sc__law_pool.nd (pi_list (pe_slice sl_list (pv 0) po_none (po_some pe_int))) (blkOk_by (N := ["_law_script", "_law_seed", "_law_cell"]) (sc := defScope s__law_pool) (by decide +kernel)) (fun _ _ _ _ _ => pg_name (i := 2) sc__law_pool.nd rfl (by first | exact Or.inl rfl | exact Or.inr rfl)) (fun _ _ _ _ _ => pts_one (pt_cmpR op_ge (pe_callB call_abs (by rfl) T.b.abs boot_abs (pa_cons (pv 2) pa_nil)) (pe_op op_pow pe_int pe_int) (nomark _))) (fun _ _ _ _ _ => (pe_callB call_abs (by rfl) T.b.abs boot_abs (pa_cons (pv 2) pa_nil)))) pa_nil)))))))), ?_⟩
    refine ⟨.ref a, rfl, 1, rfl, a, _, rfl, ha, fun p1 n1 => ?_⟩
    obtain ⟨c1, e1, l1⟩ := cut_upto ns none (some 1)
    rw [e1]
    have S1 : Same H (upd H p1 (.lst (c1.map V.int))) := same_new n1
    refine ⟨p1, c1, rfl, .inl (.inl upd_same), .inl ⟨c1.sum, rfl, c1.sum, 1000003, rfl, rfl, (show (0 : Int) < 1000003 by decide), .ref a, rfl, a, _, rfl, .inl (L_seq S1 ha), c1.sum % 1000003, (ns.map V.int).length, rfl, rfl, c1.sum % 1000003 + (ns.map V.int).length, 1, rfl, rfl, ?_⟩⟩
    refine ⟨.ref a, rfl, 63, rfl, a, _, rfl, L_seq S1 ha, fun p2 n2 => ?_⟩
    obtain ⟨c2, e2, l2⟩ := cut_upto ns none (some 63)
    rw [e2]
    have S2 : Same H (upd (upd H p1 (.lst (c1.map V.int))) p2 (.lst (c2.map V.int))) := S1.trans (same_new n2)
    refine ⟨p2, rfl, ⟨_, .inl (.inl upd_same)⟩, for_list (K := K) (a := p2) (xs := c2.map V.int) (fun i σ H' => ∃ sd x2, σ = [some (.ref a), some (.int sd), x2] ∧ 0 ≤ sd ∧ sd < 2147483647 ∧ Same H H' ∧ H' p2 = some (.lst (c2.map V.int))) ⟨_, _, rfl, ?_, ?_, S2, upd_same⟩
      (fun i σ H' _ ⟨_, _, _, _, _, _, z⟩ => .inl (.inl z)) ?_ ?_⟩
    · have := Int.emod_nonneg c1.sum (b := 1000003) (by decide)
      omega
    · have := Int.emod_lt_of_pos c1.sum (b := 1000003) (by decide)
      rw [List.length_map]
      omega
    · rintro i x σ H' hx ⟨sd, x2, rfl, s0, s1, e, hp2⟩
      obtain ⟨y, hy, rfl⟩ := int_at hx
      refine ⟨.int sd, rfl, sd, 48271, rfl, rfl, .inr (by decide), .int y, rfl, .inl ⟨y, rfl, y, 2147483629, rfl, rfl, (show (0 : Int) < 2147483629 by decide), sd * 48271, y % 2147483629, rfl, rfl, sd * 48271 + y % 2147483629, 11, rfl, rfl, .inl ⟨_, rfl, sd * 48271 + y % 2147483629 + 11, 2147483647, rfl, rfl, (show (0 : Int) < 2147483647 by decide), ?_⟩⟩⟩
      exact ⟨_, _, rfl, Int.emod_nonneg _ (by decide), Int.emod_lt_of_pos _ (by decide), e, hp2⟩
    · rintro σ H' ⟨sd, x2, rfl, s0, s1, e, hp2⟩
      refine ⟨.int sd, rfl, .ref a, rfl, 63, rfl, a, _, rfl, L_seq e ha, fun p3 n3 => ?_⟩
      rw [e2]
      have S3 : Same H (upd H' p3 (.lst (c2.map V.int))) := e.trans (same_new n3)
      refine ⟨p3, rfl, ⟨_, .inl (.inl upd_same)⟩, fun D0 nD => lc_list (K := K) (a := p3) (xs := c2.map V.int) (fun i H2 => Same H H2 ∧ H2 p3 = some (.lst (c2.map V.int)) ∧ ∃ ms : List Int, H2 D0 = some (.lst (ms.map V.int)) ∧ ms.length ≤ i) ⟨S3.trans (same_new nD), same_new nD _ _ upd_same, [], upd_same, Nat.le_refl _⟩
        (fun i H2 _ z => .inl (.inl z.2.1)) (fun i x H2 hx z => ?_) (fun H2 z => ?_)⟩
      · obtain ⟨y, hy, rfl⟩ := int_at hx
        obtain ⟨z1, z2, ms, z3, z4⟩ := z
        refine ⟨rfl, .int y, rfl, y, rfl, 10, 18, rfl, rfl, ⟨by decide, by decide, by decide⟩, _, 10 ^ (18 : Int).toNat, rfl, rfl, decide ((10 : Int) ^ (18 : Int).toNat ≤ if y < 0 then -y else y), rfl, ?_⟩
        have n0 : H D0 = none := S3.none nD
        by_cases b : (10 : Int) ^ (18 : Int).toNat ≤ if y < 0 then -y else y
        · rw [decide_eq_true b]
          refine iteT ⟨.int y, rfl, y, rfl, _, z3, ?_, same_mut z1 n0, ?_, ms ++ [if y < 0 then -y else y], ?_, ?_⟩
          · rw [List.length_map]
            have := (List.getElem?_eq_some_iff.mp hy).1
            exact smallt (by omega)
          · rw [upd_ne (fun h => by rw [h, upd_same] at nD; cases nD)]; exact z2
          · rw [upd_same, List.map_append]; rfl
          · rw [List.length_append]; exact Nat.succ_le_succ z4
        · rw [decide_eq_false b]
          exact iteF ⟨z1, z2, ms, z3, Nat.le_succ_of_le z4⟩
      · obtain ⟨z1, z2, ms, z3, z4⟩ := z
        refine ⟨small (Nat.le_of_ble_eq_true rfl), fun p np => ?_⟩
        have n0 : H D0 = none := S3.none nD
        rw [List.length_map] at z4
        exact q _ p D0 (z1.trans (same_new np)) (z1.none np) n0 ⟨(ne_of_none z3 np).symm, sd, 0, ms, upd_same, same_new np _ _ z3, s0, s1, by omega⟩
end

end LW
set_option Elab.async false
set_option linter.all false
set_option maxRecDepth 100000
set_option maxHeartbeats 4000000
namespace LW
open PySem PySem.Spec PyProof.Rows L2 RS LB
section
variable {P : Program} {w : World} {K : PySem.W.Frag} {mg : Str → Option Value} {base : Heap} {C : Addr}
theorem ixN_zero {n : Nat} (h : 0 < n) : ixN n 0 = some 0 := by
  unfold ixN
  rw [if_pos (Int.le_refl 0), if_pos (by omega)]
  rfl
def spDraw : Sp := fun vs H Q _ => ∃ (p c : Addr) (n : Int), vs = [.ref p, .int n] ∧ Pool H p c ∧ 0 < n ∧ n < 1073741824 ∧ ∀ H' d, But p c H H' → Pool H' p c → 0 ≤ d → d < n → Q (.int d) H'
theorem ok__law_draw {f : Addr} {fd : FuncData} (D : Df K mg "_law_draw" ["_law_pool_here", "_law_many"] s__law_draw f fd) (T : Tx K mg C) : Ca P w K mg base 1 "_law_draw" spDraw := by
  refine D.ca sc__law_draw (fun vs H Q E h => ?_) (fun cdv A outer s H vs Q E hr h => ?_)
  · obtain ⟨p, c, n, rfl, _⟩ := h
    rfl
  · obtain ⟨p, c, n, rfl, hP, n0, n1, q⟩ := h
    obtain ⟨a, b, ns, hp, hc, a0, a1, few⟩ := hP.ex
    refine ⟨_, (pss_cons (ps_asg (pe_op op_add (pe_ix ix_list (pv 0) pe_int (fun _ _ => rfl)) pe_int) (pg_sub (pv 0) pe_int set_list))
      (pss_cons (ps_set (i := 2) sc__law_draw.nd rfl (by first | exact Or.inl rfl | exact Or.inr rfl) (pe_ix ix_list (pv 0) pe_int (fun _ _ => rfl)))
      (pss_cons (ps_if (pt_cmpR op_gt (pe_callB call_len_seq (by rfl) T.b.len boot_len (pa_cons (pv 2) pa_nil)) pe_int (nomark _)) (pss_cons (ps_set (i := 3) sc__law_draw.nd rfl (by first | exact Or.inl rfl | exact Or.inr rfl) (pe_op op_mod (pe_callTy call_int1 (by rfl) T.b.int boot_int (pa_cons (pe_ix ix_list (pv 2) pe_int (fun _ _ => rfl)) pa_nil)) (pv 1)))
      (pss_cons (ps_asg (pe_op op_fdiv (pe_callTy call_int1 (by rfl) T.b.int boot_int (pa_cons (pe_ix ix_list (pv 2) pe_int (fun _ _ => rfl)) pa_nil)) (pv 1)) (pg_sub (pv 2) pe_int set_list))
      (pss_cons (ps_if (pt_cmpR op_eq (pe_ix ix_list (pv 2) pe_int (fun _ _ => rfl)) pe_int (nomark _)) (pss_one (ps_expr (pe_bm PySem.F.plainAttrs_list PySem.F.slot_list_pop PySem.F.type_list_pop mt_popAt (pv 2) (pa_cons pe_int pa_nil)))) pss_nil)
      (pss_one (ps_ret (pv 3)))))) pss_nil)
      (pss_cons (ps_set (i := 4) sc__law_draw.nd rfl (by first | exact Or.inl rfl | exact Or.inr rfl) (pe_op op_mod (pe_callTy call_int1 (by rfl) T.b.int boot_int (pa_cons (pe_op op_mul (pe_op op_add (pe_ix ix_list (pv 0) pe_int (fun _ _ => rfl)) (pe_op op_mul pe_int (pe_ix ix_list (pv 0) pe_int (fun _ _ => rfl)))) pe_int) pa_nil)) pe_int))
      (pss_cons (ps_set (i := 4) sc__law_draw.nd rfl (by first | exact Or.inl rfl | exact Or.inr rfl) (pe_op op_mod (pe_callTy call_int1 (by rfl) T.b.int boot_int (pa_cons (pe_op op_mul (pv 4) (pe_op op_add (pe_op op_fdiv (pv 4) pe_int) pe_int)) pa_nil)) pe_int))
      (pss_cons (ps_set (i := 4) sc__law_draw.nd rfl (by first | exact Or.inl rfl | exact Or.inr rfl) (pe_op op_mod (pe_callTy call_int1 (by rfl) T.b.int boot_int (pa_cons (pe_op op_mul (pv 4) (pe_op op_add (pe_op op_fdiv (pv 4) pe_int) pe_int)) pa_nil)) pe_int))
      (pss_one (ps_ret (pe_op op_mod (pe_callTy call_int1 (by rfl) T.b.int boot_int (pa_cons (pe_op op_fdiv (pv 4) pe_int) pa_nil)) (pv 1)))))))))), ?_⟩
    refine ⟨.ref p, rfl, p, _, 1, .int b, rfl, rfl, .inl (.inl hp), rfl, b, 1, rfl, rfl, .ref p, rfl, p, _, 1, 1, rfl, rfl, hp, rfl, ?_⟩
    have hp1 : upd H p (.lst [.int a, .int (b + 1), .ref c]) p = some (.lst [.int a, .int (b + 1), .ref c]) := upd_same
    have hc1 : upd H p (.lst [.int a, .int (b + 1), .ref c]) c = some (.lst (ns.map V.int)) := by rw [upd_ne hP.ne.symm]; exact hc
    have B1 : But p c H (upd H p (.lst [.int a, .int (b + 1), .ref c])) := fun x o h1 h2 h => by rw [upd_ne h1]; exact h
    refine ⟨.ref p, rfl, p, _, 2, .ref c, rfl, rfl, .inl (.inl hp1), rfl, ?_⟩
    cases ns with
    | nil =>
      refine ⟨.ref c, rfl, c, _, rfl, .inl (.inl (.inl hc1)), _, 0, rfl, rfl, false, rfl, iteF ?_⟩
      refine ⟨.ref p, rfl, p, _, 0, .int a, rfl, rfl, .inl (.inl hp1), rfl, .ref p, rfl, p, _, 1, .int (b + 1), rfl, rfl, .inl (.inl hp1), rfl, 7919, b + 1, rfl, rfl, .inl (by decide), a, 7919 * (b + 1), rfl, rfl, a + 7919 * (b + 1), 48271, rfl, rfl, .inr (by decide), .inl ⟨_, rfl, (a + 7919 * (b + 1)) * 48271, 2147483647, rfl, rfl, (show (0 : Int) < 2147483647 by decide), ?_⟩⟩
      have m0 := Int.emod_nonneg ((a + 7919 * (b + 1)) * 48271) (b := 2147483647) (by decide)
      have m1 := Int.emod_lt_of_pos ((a + 7919 * (b + 1)) * 48271) (b := 2147483647) (by decide)
      obtain ⟨m, em⟩ : ∃ m, (a + 7919 * (b + 1)) * 48271 % 2147483647 = m := ⟨_, rfl⟩
      rw [em] at m0 m1
      have sm := congrArg (fun z : Int => some (some (V.int z))) em
      refine ⟨.int m, sm, .int m, sm, m, 1009, rfl, rfl, ⟨by decide, by decide⟩, m / 1009, 69621, rfl, rfl, m, m / 1009 + 69621, rfl, rfl, .inl ⟨by omega, by omega⟩, .inl ⟨_, rfl, m * (m / 1009 + 69621), 2147483647, rfl, rfl, (show (0 : Int) < 2147483647 by decide), ?_⟩⟩
      have k0 := Int.emod_nonneg (m * (m / 1009 + 69621)) (b := 2147483647) (by decide)
      have k1 := Int.emod_lt_of_pos (m * (m / 1009 + 69621)) (b := 2147483647) (by decide)
      obtain ⟨k, ek⟩ : ∃ k, m * (m / 1009 + 69621) % 2147483647 = k := ⟨_, rfl⟩
      rw [ek] at k0 k1
      have sk := congrArg (fun z : Int => some (some (V.int z))) ek
      refine ⟨.int k, sk, .int k, sk, k, 2003, rfl, rfl, ⟨by decide, by decide⟩, k / 2003, 40692, rfl, rfl, k, k / 2003 + 40692, rfl, rfl, .inl ⟨by omega, by omega⟩, .inl ⟨_, rfl, k * (k / 2003 + 40692), 2147483399, rfl, rfl, (show (0 : Int) < 2147483399 by decide), ?_⟩⟩
      refine ⟨.int _, rfl, k * (k / 2003 + 40692) % 2147483399, 16, rfl, rfl, ⟨by decide, by decide⟩, .inl ⟨_, rfl, .int n, rfl, k * (k / 2003 + 40692) % 2147483399 / 16, n, rfl, rfl, n0, ?_⟩⟩
      exact q _ _ B1 ⟨hP.ne, a, b + 1, [], hp1, hc1, a0, a1, few⟩ (Int.emod_nonneg _ (by omega)) (Int.emod_lt_of_pos _ n0)
    | cons x r =>
      refine ⟨.ref c, rfl, c, _, rfl, .inl (.inl (.inl hc1)), _, 0, rfl, rfl, true, congrArg V.bl (decide_eq_true (show (0 : Int) < (((x :: r).map V.int).length : Int) by rw [List.length_map, List.length_cons]; omega)), iteT ?_⟩
      refine ⟨.ref c, rfl, c, _, 0, .int x, rfl, rfl, .inl (.inl hc1), atI_nat (j := 0) rfl, .inl ⟨x, rfl, .int n, rfl, x, n, rfl, rfl, n0, ?_⟩⟩
      refine ⟨.ref c, rfl, c, _, 0, .int x, rfl, rfl, .inl (.inl hc1), atI_nat (j := 0) rfl, .inl ⟨x, rfl, .int n, rfl, x, n, rfl, rfl, ⟨n0, n1⟩, .ref c, rfl, c, _, 0, 0, rfl, rfl, hc1, ixN_zero (by rw [List.length_map]; exact Nat.succ_pos _), ?_⟩⟩
      have hc2 : upd (upd H p (.lst [.int a, .int (b + 1), .ref c])) c (.lst (.int (x / n) :: r.map V.int)) c = some (.lst (.int (x / n) :: r.map V.int)) := upd_same
      have hp2 : upd (upd H p (.lst [.int a, .int (b + 1), .ref c])) c (.lst (.int (x / n) :: r.map V.int)) p = some (.lst [.int a, .int (b + 1), .ref c]) := by rw [upd_ne hP.ne]; exact hp1
      have B2 : But p c H (upd (upd H p (.lst [.int a, .int (b + 1), .ref c])) c (.lst (.int (x / n) :: r.map V.int))) := fun y o h1 h2 h => by rw [upd_ne h2, upd_ne h1]; exact h
      refine ⟨.ref c, rfl, c, _, 0, .int (x / n), rfl, rfl, .inl (.inl hc2), atI_nat (j := 0) rfl, rfl, decide (V.int (x / n) = V.int 0), rfl, ?_⟩
      have d0 := Int.emod_nonneg x (b := n) (by omega)
      have d1 := Int.emod_lt_of_pos x n0
      by_cases z : V.int (x / n) = V.int 0
      · rw [decide_eq_true z]
        refine iteT ⟨.ref c, rfl, .inl ⟨rfl, _, .inl (.inl hc2)⟩, c, _, 0, 0, .int (x / n), rfl, rfl, hc2, by decide, by decide, (ixN_seq (ixN_zero (Nat.succ_pos _))).1, rfl, ?_⟩
        refine ⟨.int (x % n), rfl, ?_⟩
        exact q _ _ (fun y o h1 h2 h => by rw [upd_ne h2]; exact B2 y o h1 h2 h) ⟨hP.ne, a, b + 1, r, by rw [upd_ne hP.ne]; exact hp2, upd_same, a0, a1, Nat.le_of_succ_le few⟩ d0 d1
      · rw [decide_eq_false z]
        refine iteF ⟨.int (x % n), rfl, ?_⟩
        exact q _ _ B2 ⟨hP.ne, a, b + 1, x / n :: r, hp2, hc2, a0, a1, few⟩ d0 d1
end

end LW
set_option Elab.async false
set_option linter.all false
set_option maxRecDepth 100000
set_option maxHeartbeats 4000000
namespace LW
open PySem PySem.Spec PyProof.Rows L2 RS LB
section
variable {P : Program} {w : World} {K : PySem.W.Frag} {mg : Str → Option Value} {base : Heap} {C : Addr}
theorem cons_erase {α : Type} : ∀ {xs : List α} {i : Nat} (h : i < xs.length), (xs[i] :: xs.eraseIdx i).Perm xs
  | x :: xs, 0, _ => .refl _
  | x :: xs, i + 1, h => (List.Perm.swap x _ _).trans (List.Perm.cons x (cons_erase (Nat.lt_of_succ_lt_succ h)))
theorem ixN_in {n : Nat} {d : Int} (h0 : 0 ≤ d) (h1 : d < n) : ixN n d = some d.toNat := by
  unfold ixN
  rw [if_pos h0, if_pos h1]
theorem atI_in {α : Type} {xs : List α} {d : Int} (h0 : 0 ≤ d) (h1 : d < xs.length) : ∃ v, xs[d.toNat]? = some v ∧ atI xs d = some v := by
  have l : d.toNat < xs.length := by omega
  refine ⟨xs[d.toNat], List.getElem?_eq_getElem l, ?_⟩
  unfold atI
  rw [ixN_in h0 h1]
  exact List.getElem?_eq_getElem l
theorem _root_.LB.Pool.np {H : Hp} {p c l : Addr} (P : Pool H p c) (h : H l = none) : l ≠ p ∧ l ≠ c := by
  obtain ⟨a, b, ns, hp, hc, _⟩ := P.ex
  exact ⟨(ne_of_none hp h).symm, (ne_of_none hc h).symm⟩
def spSome (K : PySem.W.Frag) : Sp := fun vs H Q _ => ∃ (p c l : Addr) (xs : List V), vs = [.ref p, .ref l] ∧ Pool H p c ∧ l ≠ p ∧ l ≠ c ∧ SqL K H l xs ∧ 0 < xs.length ∧ xs.length ≤ 1000 ∧ ∀ H' v, But p c H H' → Pool H' p c → v ∈ xs → Q v H'
theorem ok__law_some {f : Addr} {fd : FuncData} (D : Df K mg "_law_some" ["_law_pool_here", "_law_things"] s__law_some f fd) (T : Tx K mg C) (c__law_draw : Ca P w K mg base 1 "_law_draw" spDraw) : Ca P w K mg base 2 "_law_some" (spSome K) := by
  refine D.ca sc__law_some (fun vs H Q E h => ?_) (fun cdv A outer s H vs Q E hr h => ?_)
  · obtain ⟨p, c, l, xs, rfl, _⟩ := h
    rfl
  · obtain ⟨p, c, l, xs, rfl, hP, n1, n2, hl, l0, l1, q⟩ := h
    refine ⟨_, (pss_one (ps_ret (pe_ix ix_list (pv 1) (pe_k c__law_draw hr (by omega) (by rfl) (pa_cons (pv 0) (pa_cons (pe_callB call_len_seq (by rfl) T.b.len boot_len (pa_cons (pv 1) pa_nil)) pa_nil))) (fun _ _ => rfl)))), ?_⟩
    refine ⟨.ref l, rfl, .ref p, rfl, .ref l, rfl, l, _, rfl, .inl hl, p, c, (xs.length : Int), rfl, hP, by omega, by omega, fun H' d B P' d0 d1 => ?_⟩
    obtain ⟨v, hv, he⟩ := atI_in d0 d1
    exact ⟨l, xs, d, v, rfl, rfl, B.l n1 n2 hl, he, q _ _ B P' (List.mem_of_getElem? hv)⟩
/-! ### _law_integer, _law_same -/
def spInteger (K : PySem.W.Frag) : Sp := fun vs H Q _ => ∃ i, vs = [.int i] ∧ Q (.bl true) H
theorem ok__law_integer {f : Addr} {fd : FuncData} (D : Df K mg "_law_integer" ["_law_thing"] s__law_integer f fd) (T : Tx K mg C) : Ca P w K mg base 1 "_law_integer" (spInteger K) := by
  refine D.ca sc__law_integer (fun vs H Q E h => ?_) (fun cdv A outer s H vs Q E hr h => ?_)
  · obtain ⟨i, rfl, _⟩ := h
    rfl
  · obtain ⟨i, rfl, q⟩ := h
    refine ⟨_, (pss_one (ps_ret (pe_and (pe_callB call_isi (by rfl) T.b.isinstance boot_isinstance (pa_cons (pv 0) (pa_cons (pe_bltn (v := .ty "int") (by rfl) T.b.int boot_int rfl) pa_nil))) (pe_one (pe_not (pe_callB call_isi (by rfl) T.b.isinstance boot_isinstance (pa_cons (pv 0) (pa_cons (pe_bltn (v := .ty "bool") (by rfl) T.b.bool boot_bool rfl) pa_nil)))))))), ?_⟩
    exact ⟨.int i, rfl, .int i, .ty "int", _, _, true, rfl, .ty _, .base (.int i), k_ii, true, rfl, iteT ⟨.int i, rfl, .int i, .ty "bool", _, _, false, rfl, .ty _, .base (.int i), k_ib, false, rfl, q⟩⟩
end

end LW
set_option Elab.async false
set_option linter.all false
set_option maxRecDepth 100000
set_option maxHeartbeats 4000000
namespace LW
open PySem PySem.Spec PyProof.Rows L2 RS LB
section
variable {P : Program} {w : World} {K : PySem.W.Frag} {mg : Str → Option Value} {base : Heap} {C : Addr}
/-! ### _law_same of alike data -/
def itD : Nat → PyData → Prop
  | 0, _ => False
  | _ + 1, .int _ => True
  | n + 1, .tuple ds => ds.length ≤ 1000 ∧ ∀ d ∈ ds, itD n d
  | _ + 1, _ => False
def spSame (K : PySem.W.Frag) (n : Nat) : Sp := fun vs H Q _ => ∃ x y d, vs = [x, y] ∧ Dp K H x d ∧ Dp K H y d ∧ itD n d ∧ Q (.bl true) H
theorem dpAll_len {H : Hp} : ∀ {xs : List V} {ds : List PyData}, DpAll K H xs ds → xs.length = ds.length
  | _, _, .nil => rfl
  | _, _, .cons _ t => congrArg (· + 1) (dpAll_len t)
theorem dpAll_at' {H : Hp} : ∀ (xs : List V) (ds : List PyData) (i : Nat), DpAll K H xs ds → i < ds.length → ∃ v d, xs[i]? = some v ∧ ds[i]? = some d ∧ Dp K H v d
  | [], [], i, _, h => absurd h (Nat.not_lt_zero _)
  | v :: vs, d :: ds, 0, h, _ => by
    cases h with
    | cons h t => exact ⟨_, _, rfl, rfl, h⟩
  | v :: vs, d :: ds, i + 1, h, l => by
    cases h with
    | cons h t => exact dpAll_at' vs ds i t (Nat.lt_of_succ_lt_succ l)
theorem dpAll_at {H : Hp} {xs : List V} {ds : List PyData} {i : Nat} (h : DpAll K H xs ds) (l : i < ds.length) : ∃ v d, xs[i]? = some v ∧ ds[i]? = some d ∧ Dp K H v d := dpAll_at' xs ds i h l
theorem ok__law_same {f : Addr} {fd : FuncData} (D : Df K mg "_law_same" ["_law_actual", "_law_expected"] s__law_same f fd) (T : Tx K mg C) (c__law_integer : Ca P w K mg base 1 "_law_integer" (spInteger K)) :
    ∀ n, Ca P w K mg base (n + 2) "_law_same" (spSame K n)
  | 0 => D.ca sc__law_same (fun vs H Q E h => by obtain ⟨x, y, d, rfl, _⟩ := h; rfl) (fun cdv A outer s H vs Q E hr h => by
      obtain ⟨x, y, d, rfl, _, _, z, _⟩ := h
      exact False.elim z)
  | n + 1 => by
    have c__law_same := ok__law_same D T c__law_integer n
    refine D.ca sc__law_same (fun vs H Q E h => ?_) (fun cdv A outer s H vs Q E hr h => ?_)
    · obtain ⟨x, y, d, rfl, _⟩ := h
      rfl
    · obtain ⟨x, y, d, rfl, h1, h2, z, q⟩ := h
      refine ⟨_, (pss_cons (ps_if (pt_cmpR op_isN (pv 1) pe_non (nomark _)) (pss_one (ps_ret (pe_cmpR op_isN (pv 0) pe_non (nomark _)))) pss_nil)
      (pss_cons (ps_if (pt_val (pe_callB call_isi (by rfl) T.b.isinstance boot_isinstance (pa_cons (pv 1) (pa_cons (pe_bltn (v := .ty "bool") (by rfl) T.b.bool boot_bool rfl) pa_nil)))) (pss_one (ps_ret (pe_and (pe_callB call_isi (by rfl) T.b.isinstance boot_isinstance (pa_cons (pv 0) (pa_cons (pe_bltn (v := .ty "bool") (by rfl) T.b.bool boot_bool rfl) pa_nil))) (pe_one (pe_cmpR op_eq (pv 0) (pv 1) (nomark _)))))) pss_nil)
      (pss_cons (ps_if (pt_val (pe_callB call_isi (by rfl) T.b.isinstance boot_isinstance (pa_cons (pv 1) (pa_cons (pe_bltn (v := .ty "int") (by rfl) T.b.int boot_int rfl) pa_nil)))) (pss_one (ps_ret (pe_and (pe_k c__law_integer hr (by omega) (by rfl) (pa_cons (pv 0) pa_nil)) (pe_one (pe_cmpR op_eq (pv 0) (pv 1) (nomark _)))))) pss_nil)
      (pss_cons (ps_if (pt_val (pe_callB call_isi (by rfl) T.b.isinstance boot_isinstance (pa_cons (pv 1) (pa_cons (pe_bltn (v := .ty "str") (by rfl) T.b.str boot_str rfl) pa_nil)))) (pss_one (ps_ret (pe_and (pe_callB call_isi (by rfl) T.b.isinstance boot_isinstance (pa_cons (pv 0) (pa_cons (pe_bltn (v := .ty "str") (by rfl) T.b.str boot_str rfl) pa_nil))) (pe_one (pe_cmpR op_eq (pv 0) (pv 1) (nomark _)))))) pss_nil)
      (pss_cons (ps_if (PW.pt (pw_and (pt_val (pe_callB call_isi (by rfl) T.b.isinstance boot_isinstance (pa_cons (pv 1) (pa_cons (pe_bltn (v := .ty "tuple") (by rfl) T.b.tuple boot_tuple rfl) pa_nil)))) (pw_and1 (pt_not (pt_val (pe_callB call_isi (by rfl) T.b.isinstance boot_isinstance (pa_cons (pv 0) (pa_cons (pe_bltn (v := .ty "tuple") (by rfl) T.b.tuple boot_tuple rfl) pa_nil)))))))) (pss_one (ps_ret pe_bl)) pss_nil)
      (pss_cons (ps_if (PW.pt (pw_and (pt_val (pe_callB call_isi (by rfl) T.b.isinstance boot_isinstance (pa_cons (pv 1) (pa_cons (pe_bltn (v := .ty "list") (by rfl) T.b.list boot_list rfl) pa_nil)))) (pw_and1 (pt_not (pt_val (pe_callB call_isi (by rfl) T.b.isinstance boot_isinstance (pa_cons (pv 0) (pa_cons (pe_bltn (v := .ty "list") (by rfl) T.b.list boot_list rfl) pa_nil)))))))) (pss_one (ps_ret pe_bl)) pss_nil)
      (pss_cons (ps_if (pt_cmpR op_ne (pe_callB call_len_seq (by rfl) T.b.len boot_len (pa_cons (pv 0) pa_nil)) (pe_callB call_len_seq (by rfl) T.b.len boot_len (pa_cons (pv 1) pa_nil)) (nomark _)) (pss_one (ps_ret pe_bl)) pss_nil)
      (pss_cons (ps_for PassesOwn.never rfl (pi_range1 (by rfl) T.b.range (pa_cons (pe_callB call_len_seq (by rfl) T.b.len boot_len (pa_cons (pv 1) pa_nil)) pa_nil)) (pg_name (i := 2) sc__law_same.nd rfl (by first | exact Or.inl rfl | exact Or.inr rfl)) (pss_one (ps_if (pt_not (pt_val (pe_k c__law_same hr (by omega) (by rfl) (pa_cons (pe_ix ix_tup (pv 0) (pv 2) (fun _ _ => rfl)) (pa_cons (pe_ix ix_tup (pv 1) (pv 2) (fun _ _ => rfl)) pa_nil))))) (pss_one (ps_ret pe_bl)) pss_nil)))
      (pss_one (ps_ret pe_bl)))))))))), ?_⟩
      cases d with
      | int i =>
        cases h1
        cases h2
        refine ⟨.int i, rfl, rfl, false, congrArg V.bl (decide_eq_false (by intro h; cases h)), iteF ?_⟩
        refine ⟨.int i, rfl, .int i, .ty "bool", _, _, false, rfl, .ty _, .base (.int i), k_ib, false, rfl, iteF ?_⟩
        refine ⟨.int i, rfl, .int i, .ty "int", _, _, true, rfl, .ty _, .base (.int i), k_ii, true, rfl, iteT ?_⟩
        refine ⟨.int i, rfl, i, rfl, true, rfl, iteT ⟨.int i, rfl, .int i, rfl, rfl, ?_⟩⟩
        rw [decide_eq_true (rfl : V.int i = V.int i)]
        exact q
      | tuple ds =>
        cases h1 with
        | @tup a xs _ ha hxs =>
          cases h2 with
          | @tup b ys _ hb hys =>
            obtain ⟨z1, z2⟩ := z
            have l1 := dpAll_len hxs
            have l2 := dpAll_len hys
            refine ⟨.ref b, rfl, rfl, false, congrArg V.bl (decide_eq_false (by intro h; cases h)), iteF ?_⟩
            refine ⟨.ref b, rfl, .ref b, .ty "bool", _, _, false, rfl, .ty _, ty_t hb, k_tb, false, rfl, iteF ?_⟩
            refine ⟨.ref b, rfl, .ref b, .ty "int", _, _, false, rfl, .ty _, ty_t hb, k_ti, false, rfl, iteF ?_⟩
            refine ⟨.ref b, rfl, .ref b, .ty "str", _, _, false, rfl, .ty _, ty_t hb, k_ts, false, rfl, iteF ?_⟩
            refine ⟨.ref b, rfl, .ref b, .ty "tuple", _, _, true, rfl, .ty _, ty_t hb, k_tt, true, rfl, iteT ?_⟩
            refine ⟨.ref a, rfl, .ref a, .ty "tuple", _, _, true, rfl, .ty _, ty_t ha, k_tt, true, rfl, iteF ?_⟩
            refine ⟨.ref b, rfl, .ref b, .ty "list", _, _, false, rfl, .ty _, ty_t hb, k_tl, false, rfl, iteF ?_⟩
            refine iteF ?_
            refine ⟨.ref a, rfl, a, _, rfl, .inr ha, .ref b, rfl, b, _, rfl, .inr hb, rfl, false, by rw [l1, l2]; exact congrArg V.bl (by simp), iteF ?_⟩
            refine ⟨.ref b, rfl, b, _, rfl, .inr hb, _, rfl, by omega, by omega, for_range (lo := 0) (n := ((ys.length : Nat) : Int).toNat) (fun i σ H' => H' = H ∧ ∃ x2, σ = [some (.ref a), some (.ref b), x2]) ⟨rfl, _, rfl⟩ ?_ ?_⟩
            · rintro i σ H' hi ⟨rfl, x2, rfl⟩
              have il : i < ds.length := by omega
              obtain ⟨v, d, e1, e2, e3⟩ := dpAll_at hxs il
              obtain ⟨v', d', e1', e2', e3'⟩ := dpAll_at hys il
              have ed : d' = d := Option.some.inj (e2'.symm.trans e2)
              subst ed
              have ei : (0 : Int) + (i : Nat) = ((i : Nat) : Int) := Int.zero_add _
              refine ⟨.ref a, rfl, .int (0 + (i : Nat)), rfl, a, xs, _, v, rfl, rfl, ha, by rw [ei]; exact atI_nat e1, .ref b, rfl, .int (0 + (i : Nat)), rfl, b, ys, _, v', rfl, rfl, hb, by rw [ei]; exact atI_nat e1', v, v', d', rfl, e3, e3', z2 _ (List.mem_of_getElem? e2), true, rfl, iteF ?_⟩
              exact ⟨rfl, _, rfl⟩
            · rintro σ H' ⟨rfl, x2, rfl⟩
              exact q
      | _ => exact False.elim z
end

end LW
set_option Elab.async false
set_option linter.all false
set_option maxRecDepth 100000
set_option maxHeartbeats 4000000
namespace LW
open PySem PySem.Spec PyProof.Rows L2 RS LB
section
variable {P : Program} {w : World} {K : PySem.W.Frag} {mg : Str → Option Value} {base : Heap} {C : Addr}
def InLong (x : Int) : Prop := -1000000000000 ≤ x ∧ x ≤ 1000000000000
def spStep (K : PySem.W.Frag) : Sp := fun vs H Q _ => ∃ (p c : Addr) (s : Int), vs = [.ref p, .int s] ∧ Pool H p c ∧ 1 ≤ s ∧ s ≤ 4 ∧
  ∀ H' t (ns : List Int), But p c H H' → Pool H' p c → SqT K H' t (ns.map V.int) → (ns.length : Int) = s → (∀ x ∈ ns, InLong x) → Q (.ref t) H'
theorem flat_one (n : Nat) (v : V) : (List.replicate n [v]).flatten = List.replicate n v := by
  induction n with
  | zero => rfl
  | succ n ih => rw [List.replicate_succ, List.flatten_cons, ih]; rfl
theorem But.mut {p c D : Addr} {H H' : Hp} {o : HO} (B : But p c H H') (n : H D = none) : But p c H (upd H' D o) := fun b u h1 h2 h => by
  rw [upd_ne (ne_of_none h n)]
  exact B b u h1 h2 h
theorem _root_.LB.Pool.upd {p c D : Addr} {H : Hp} {o : HO} (P : Pool H p c) (h : D ≠ p ∧ D ≠ c) : Pool (upd H D o) p c := by
  obtain ⟨a, b, ns, hp, hc, r⟩ := P.ex
  exact ⟨P.ne, a, b, ns, by rw [upd_ne h.1.symm]; exact hp, by rw [upd_ne h.2.symm]; exact hc, r⟩
theorem ok__law_step {f : Addr} {fd : FuncData} (D : Df K mg "_law_step" ["_law_pool_here", "_law_sides"] s__law_step f fd) (T : Tx K mg C) (c__law_draw : Ca P w K mg base 1 "_law_draw" spDraw) (c__law_some : Ca P w K mg base 2 "_law_some" (spSome K)) :
    Ca P w K mg base 3 "_law_step" (spStep K) := by
  refine D.ca sc__law_step (fun vs H Q E h => ?_) (fun cdv A outer s H vs Q E hr h => ?_)
  · obtain ⟨p, c, s, rfl, _⟩ := h
    rfl
  · obtain ⟨p, c, si, rfl, hP, s1, s4, q⟩ := h
    refine ⟨_, (pss_cons (ps_set (i := 2) sc__law_step.nd rfl (by first | exact Or.inl rfl | exact Or.inr rfl) (pe_k c__law_draw hr (by omega) (by rfl) (pa_cons (pv 0) (pa_cons pe_int pa_nil))))
      (pss_cons (ps_if (pt_cmpR op_eq (pv 2) pe_int (nomark _)) (pss_one (ps_ret (pe_op op_repAny (pe_tup (pa_cons pe_int pa_nil)) (pv 1)))) pss_nil)
      (pss_cons (ps_if (pt_cmpR op_eq (pv 2) pe_int (nomark _)) (pss_one (ps_ret (pe_callTy call_tuple_of (by rfl) T.b.tuple boot_tuple (pa_cons (pe_lc (own := [("_law_k", 3)]) (by rfl) sc__law_step.nd (pi_range1 (by rfl) T.b.range (pa_cons (pv 1) pa_nil)) (blkOk_by (N := ["_law_pool_here", "_law_sides", "_law_kind", "_law_k"]) (sc := defScope s__law_step) (by decide +kernel)) (fun _ _ _ _ _ => pg_name (i := 3) sc__law_step.nd rfl (by first | exact Or.inl rfl | exact Or.inr rfl)) (fun _ _ _ _ _ => pts_nil) (fun _ _ _ _ _ => (pe_k c__law_some hr (by omega) (by rfl) (pa_cons (pv 0) (pa_cons (pe_lst (pa_cons (pe_un un_neg (pe_op op_pow pe_int pe_int)) (pa_cons (pe_op op_pow pe_int pe_int) (pa_cons (pe_op op_sub pe_int (pe_op op_pow pe_int pe_int)) (pa_cons pe_int (pa_cons pe_int pa_nil)))))) pa_nil))))) pa_nil)))) pss_nil)
      (pss_one (ps_ret (pe_callTy call_tuple_of (by rfl) T.b.tuple boot_tuple (pa_cons (pe_lc (own := [("_law_k", 3)]) (by rfl) sc__law_step.nd (pi_range1 (by rfl) T.b.range (pa_cons (pv 1) pa_nil)) (blkOk_by (N := ["_law_pool_here", "_law_sides", "_law_kind", "_law_k"]) (sc := defScope s__law_step) (by decide +kernel)) (fun _ _ _ _ _ => pg_name (i := 3) sc__law_step.nd rfl (by first | exact Or.inl rfl | exact Or.inr rfl)) (fun _ _ _ _ _ => pts_nil) (fun _ _ _ _ _ => (pe_op op_sub (pe_k c__law_draw hr (by omega) (by rfl) (pa_cons (pv 0) (pa_cons pe_int pa_nil))) pe_int))) pa_nil))))))), ?_⟩
    refine ⟨.ref p, rfl, p, c, 6, rfl, hP, by decide, by decide, fun H1 d B1 P1 d0 d1 => ?_⟩
    refine ⟨.int d, rfl, rfl, decide (V.int d = V.int 0), rfl, ?_⟩
    by_cases z0 : V.int d = V.int 0
    · rw [decide_eq_true z0]
      refine iteT ⟨small (Nat.le_of_ble_eq_true rfl), fun t0 n0 => ⟨.int si, rfl, ?_⟩⟩
      have B2 := B1.trans (LB.Same.but (same_new (o := .tup [.int 0]) n0))
      have P2 := P1.same (same_new (o := .tup [.int 0]) n0)
      by_cases one : si = 1
      · subst one
        exact .inl ⟨t0, _, rfl, rfl, T_new, by simp, q _ t0 [0] B2 P2 T_new rfl (by intro x hx; rw [List.mem_singleton.mp hx]; unfold InLong; decide)⟩
      · refine .inr ⟨t0, si, _, rfl, rfl, T_new, by simp, by omega, by omega, Nat.le_of_ble_eq_true rfl, fun t nt => ?_⟩
        rw [flat_one]
        refine q _ t (List.replicate si.toNat 0) (B2.trans (LB.Same.but (same_new nt))) (P2.same (same_new nt)) ?_ (by rw [List.length_replicate]; omega) (fun x hx => by rw [List.eq_of_mem_replicate hx]; unfold InLong; decide)
        rw [List.map_replicate]
        exact T_new
    · rw [decide_eq_false z0]
      refine iteF ⟨.int d, rfl, rfl, decide (V.int d = V.int 1), rfl, ?_⟩
      by_cases z1 : V.int d = V.int 1
      · rw [decide_eq_true z1]
        refine iteT ⟨.int si, rfl, si, rfl, by omega, by omega, fun D0 nD => lc_range (lo := 0) (n := si.toNat) (fun i H' => But p c H1 H' ∧ Pool H' p c ∧ ∃ ns : List Int, H' D0 = some (.lst (ns.map V.int)) ∧ ns.length = i ∧ ∀ x ∈ ns, InLong x)
          ⟨LB.Same.but (same_new nD), P1.same (same_new nD), [], upd_same, rfl, (by intro x hx; cases hx)⟩ (fun i H' hi z => ?_) (fun H' z => ?_)⟩
        · obtain ⟨B', P', ns, hD, ln, al⟩ := z
          refine ⟨rfl, .ref p, rfl, 10, 12, rfl, rfl, ⟨by decide, by decide, by decide⟩, _, rfl, 10, 12, rfl, rfl, ⟨by decide, by decide, by decide⟩, 10, 11, rfl, rfl, ⟨by decide, by decide, by decide⟩, 7, _, rfl, rfl, small (Nat.le_of_ble_eq_true rfl), fun l nl => ?_⟩
          have nlp := P'.np nl
          refine ⟨p, c, l, _, rfl, P'.same (same_new nl), nlp.1, nlp.2, .inl (.inl upd_same), Nat.le_of_ble_eq_true rfl, Nat.le_of_ble_eq_true rfl, fun H2 v B2 P2 hv => ?_⟩
          obtain ⟨y, rfl, hy⟩ : ∃ y, v = V.int y ∧ InLong y := by
            rcases List.mem_cons.mp hv with rfl | hv
            · exact ⟨_, rfl, by unfold InLong; decide⟩
            rcases List.mem_cons.mp hv with rfl | hv
            · exact ⟨_, rfl, by unfold InLong; decide⟩
            rcases List.mem_cons.mp hv with rfl | hv
            · exact ⟨_, rfl, by unfold InLong; decide⟩
            rcases List.mem_cons.mp hv with rfl | hv
            · exact ⟨_, rfl, by unfold InLong; decide⟩
            · rw [List.mem_singleton] at hv
              exact ⟨_, hv, by unfold InLong; decide⟩
          have nDp := P1.np nD
          have B3 := (B'.trans (LB.Same.but (same_new nl))).trans B2
          have hD2 := B2 _ _ nDp.1 nDp.2 (same_new nl _ _ hD)
          refine ⟨_, hD2, smallt (by rw [List.length_map]; omega), But.mut B3 nD, P2.upd nDp, ns ++ [y], by rw [upd_same, List.map_append]; rfl, by rw [List.length_append, ln]; rfl, fun x hx => ?_⟩
          rcases List.mem_append.mp hx with hx | hx
          · exact al x hx
          · rw [List.mem_singleton.mp hx]; exact hy
        · obtain ⟨B', P', ns, hD, ln, al⟩ := z
          refine ⟨D0, _, rfl, .inl ⟨.inl (.inl hD), fun t nt => ?_⟩⟩
          exact q _ t ns ((B1.trans B').trans (LB.Same.but (same_new nt))) (P'.same (same_new nt)) T_new (by omega) al
      · rw [decide_eq_false z1]
        refine iteF ⟨.int si, rfl, si, rfl, by omega, by omega, fun D0 nD => lc_range (lo := 0) (n := si.toNat) (fun i H' => But p c H1 H' ∧ Pool H' p c ∧ ∃ ns : List Int, H' D0 = some (.lst (ns.map V.int)) ∧ ns.length = i ∧ ∀ x ∈ ns, InLong x)
          ⟨LB.Same.but (same_new nD), P1.same (same_new nD), [], upd_same, rfl, (by intro x hx; cases hx)⟩ (fun i H' hi z => ?_) (fun H' z => ?_)⟩
        · obtain ⟨B', P', ns, hD, ln, al⟩ := z
          refine ⟨rfl, .ref p, rfl, p, c, 5, rfl, P', by decide, by decide, fun H2 y B2 P2 e0 e1 => ⟨y, 2, rfl, rfl, ?_⟩⟩
          have nDp := P1.np nD
          have hD2 := B2 _ _ nDp.1 nDp.2 hD
          refine ⟨_, hD2, smallt (by rw [List.length_map]; omega), But.mut (B'.trans B2) nD, P2.upd nDp, ns ++ [y - 2], by rw [upd_same, List.map_append]; rfl, by rw [List.length_append, ln]; rfl, fun x hx => ?_⟩
          rcases List.mem_append.mp hx with hx | hx
          · exact al x hx
          · rw [List.mem_singleton.mp hx]; unfold InLong; omega
        · obtain ⟨B', P', ns, hD, ln, al⟩ := z
          refine ⟨D0, _, rfl, .inl ⟨.inl (.inl hD), fun t nt => ?_⟩⟩
          exact q _ t ns ((B1.trans B').trans (LB.Same.but (same_new nt))) (P'.same (same_new nt)) T_new (by omega) al
end

end LW
set_option Elab.async false
set_option linter.all false
set_option maxRecDepth 100000
set_option maxHeartbeats 4000000
namespace LW
open PySem PySem.Spec PyProof.Rows L2 RS LB
section
variable {P : Program} {w : World} {K : PySem.W.Frag} {mg : Str → Option Value} {base : Heap} {C : Addr}
/-! ### parts -/
structure PtAt (K : PySem.W.Frag) (H : Hp) (a : Addr) (s t : Int) (L : List RK) : Prop where
  ex : ∃ (r : Addr) (ks : Ks), SqT K H a [.int s, .int t, .ref r] ∧ SqT K H r (ks.map rf) ∧ (∀ q ∈ ks, RdAt K H q.1 q.2) ∧ ks.map (·.2) = L
theorem PtAt.same {H H' : Hp} {a : Addr} {s t : Int} {L : List RK} (e : Same H H') (h : PtAt K H a s t L) : PtAt K H' a s t L := by
  obtain ⟨r, ks, h1, h2, h3, h4⟩ := h.ex
  exact ⟨r, ks, T_seq e h1, T_seq e h2, fun q hq => rd_same e (h3 q hq), h4⟩
theorem PtAt.but {H H' : Hp} {p c a : Addr} {s t : Int} {L : List RK} (P : Pool H p c) (B : But p c H H') (h : PtAt K H a s t L) : PtAt K H' a s t L := by
  obtain ⟨r, ks, h1, h2, h3, h4⟩ := h.ex
  exact ⟨r, ks, P.t B h1, P.t B h2, fun q hq => P.rd B (h3 q hq), h4⟩
theorem PgAt.but {H H' : Hp} {p c a : Addr} {s t : Int} {L : List RK} (P : Pool H p c) (B : But p c H H') (h : PgAt K C H a s t L) : PgAt K C H' a s t L := by
  obtain ⟨dx, fs, r, ks, h1, h2, h3, h4, h5, h6, h7⟩ := h.ex
  obtain ⟨x, y, ns, g1, g2, _⟩ := P.ex
  exact ⟨dx, fs, r, ks, B _ _ (fun z => by rw [z, g1] at h1; cases h1) (fun z => by rw [z, g2] at h1; cases h1) h1, h2, h3, h4, P.t B h5, fun q hq => P.rd B (h6 q hq), h7⟩
/-- M: what stands in L, ascending, each once -/
structure AscM (L M : List RK) : Prop where
  mem : ∀ k, k ∈ M ↔ k ∈ L
  up : M.Pairwise rlt
theorem Asc.eqM {L M M' : List RK} (x : Asc L M) (y : AscM L M') : M = M' := asc_one x.up y.up fun k => by rw [y.mem, x.pm.mem_iff]
theorem nodup_le {α : Type} [DecidableEq α] : ∀ {xs ys : List α}, xs.Nodup → (∀ x ∈ xs, x ∈ ys) → xs.length ≤ ys.length
  | [], ys, _, _ => Nat.zero_le _
  | x :: xs, ys, h, m => by
    obtain ⟨h1, h2⟩ := List.nodup_cons.mp h
    have hx := m x List.mem_cons_self
    have := nodup_le (xs := xs) (ys := ys.erase x) h2 fun z hz => by
      have hne : z ≠ x := fun e => h1 (e ▸ hz)
      exact (List.mem_erase_of_ne hne).mpr (m z (List.mem_cons_of_mem _ hz))
    rw [List.length_erase_of_mem hx] at this
    have := List.length_pos_of_mem hx
    rw [List.length_cons]
    omega
theorem setAsc {ks L M : Ks} (sub : ∀ p ∈ L, p ∈ ks) (all : ∀ p ∈ ks, p.2 ∈ L.map (·.2)) (pm : M.Perm L) (up : (M.map (·.2)).Pairwise rlt) : AscM (ks.map (·.2)) (M.map (·.2)) := by
  refine ⟨fun k => ⟨fun h => ?_, fun h => ?_⟩, up⟩
  · obtain ⟨p, hp, rfl⟩ := List.mem_map.mp h
    exact List.mem_map.mpr ⟨p, sub p (pm.mem_iff.mp hp), rfl⟩
  · obtain ⟨p, hp, rfl⟩ := List.mem_map.mp h
    obtain ⟨q, hq, e⟩ := List.mem_map.mp (all p hp)
    exact List.mem_map.mpr ⟨q, pm.mem_iff.mpr hq, e⟩
theorem Bt.but {p c D : Addr} {H H' : Hp} {M : List RK} (P : Pool H p c) (B : But p c H H') (nd : D ≠ p ∧ D ≠ c) (h : Bt K D M H) : Bt K D M H' := by
  obtain ⟨ks, h1, h2, h3⟩ := h
  exact ⟨ks, B _ _ nd.1 nd.2 h1, fun q hq => P.rd B (h2 q hq), h3⟩
theorem Bt.len {D : Addr} {H : Hp} {M : List RK} {ks : Ks} (h3 : ks.map (·.2) = M) : ks.length = M.length := by rw [← h3, List.length_map]
/-! ### _law_program -/
def spProg (K : PySem.W.Frag) (C : Addr) : Sp := fun vs H Q _ => ∃ (a : Addr) (s t : Int) (L : List RK), vs = [.ref a] ∧ PtAt K H a s t L ∧ GoodP s t L ∧ ∀ H' p, Same H H' → H p = none → PgAt K C H' p s t L → Q (.ref p) H'
theorem ok__law_program {f : Addr} {fd : FuncData} (D : Df K mg "_law_program" ["_law_parts_here"] s__law_program f fd) (T : Tx K mg C) (m_Program : Ma P w K mg base 5 "Program" C (spInit K C)) : Ca P w K mg base 7 "_law_program" (spProg K C) := by
  refine D.ca sc__law_program (fun vs H Q E h => ?_) (fun cdv A outer s H vs Q E hr h => ?_)
  · obtain ⟨a, s, t, L, rfl, _⟩ := h
    rfl
  · obtain ⟨a, si, ta, L, rfl, hp, G, q⟩ := h
    obtain ⟨r, ks, h1, h2, h3, rfl⟩ := hp.ex
    refine ⟨_, (pss_one (ps_ret (pe_mkK m_Program hr (by omega) (by rfl) (pa_cons (pe_ix ix_tup (pv 0) pe_int (fun _ _ => rfl)) (pa_cons (pe_ix ix_tup (pv 0) pe_int (fun _ _ => rfl)) (pa_cons (pe_ix ix_tup (pv 0) pe_int (fun _ _ => rfl)) pa_nil)))))), ?_⟩
    refine ⟨.ref a, rfl, a, _, 0, .int si, rfl, rfl, h1, rfl, .ref a, rfl, a, _, 1, .int ta, rfl, rfl, h1, rfl, .ref a, rfl, a, _, 2, .ref r, rfl, rfl, h1, rfl, ?_⟩
    intro p dx np nd ne
    have e0 : Same H (upd (upd H dx (.own p)) p (.ins C dx [])) := (same_new nd).trans (same_new (by rw [upd_ne ne.symm]; exact np))
    refine ⟨p, dx, r, si, ta, ks, rfl, upd_same, T_seq e0 h2, fun z hz => rd_same e0 (h3 z hz), G, fun H2 e2 g2 => ⟨rfl, ?_⟩⟩
    have e3 : Same H H2 := fun b o e => e2 b o (ne_of_none e np) (e0 b o e)
    exact q H2 p e3 np ⟨dx, _, r, ks, g2, flds_s _ _ _, flds_t _ _ _, flds_r _ _ _, T_seq e3 h2, fun z hz => rd_same e3 (h3 z hz), rfl⟩
end

end LW
set_option Elab.async false
set_option linter.all false
set_option maxRecDepth 100000
set_option maxHeartbeats 4000000
namespace LW
open PySem PySem.Spec PyProof.Rows L2 RS LB
section
variable {P : Program} {w : World} {K : PySem.W.Frag} {mg : Str → Option Value} {base : Heap} {C : Addr}
/-! ### a ring -/
def Ring (L : List RK) (t : Int) : Prop := ∀ i : Int, 0 ≤ i → i < t → ∃ k ∈ L, k.1 = i ∧ k.2.1 = (i + 1) % t
def spRinged (K : PySem.W.Frag) : Sp := fun vs H Q _ => ∃ (p c : Addr), vs = [.ref p] ∧ Pool H p c ∧ ∀ H' a s t L, But p c H H' → Pool H' p c → PtAt K H' a s t L → GoodP s t L → Ring L t → Q (.ref a) H'
theorem ok__law_ringed {f : Addr} {fd : FuncData} (D : Df K mg "_law_ringed" ["_law_pool_here"] s__law_ringed f fd) (T : Tx K mg C) (c__law_draw : Ca P w K mg base 1 "_law_draw" spDraw) (c__law_some : Ca P w K mg base 2 "_law_some" (spSome K)) (c__law_step : Ca P w K mg base 3 "_law_step" (spStep K)) :
    Ca P w K mg base 4 "_law_ringed" (spRinged K) := by
  refine D.ca sc__law_ringed (fun vs H Q E h => ?_) (fun cdv A outer s H vs Q E hr h => ?_)
  · obtain ⟨p, c, rfl, _⟩ := h
    rfl
  · obtain ⟨p, c, rfl, hP, q⟩ := h
    refine ⟨_, (pss_cons (ps_set (i := 1) sc__law_ringed.nd rfl (by first | exact Or.inl rfl | exact Or.inr rfl) (pe_op op_add pe_int (pe_k c__law_draw hr (by omega) (by rfl) (pa_cons (pv 0) (pa_cons pe_int pa_nil)))))
      (pss_cons (ps_set (i := 2) sc__law_ringed.nd rfl (by first | exact Or.inl rfl | exact Or.inr rfl) (pe_op op_add pe_int (pe_k c__law_some hr (by omega) (by rfl) (pa_cons (pv 0) (pa_cons (pe_lst (pa_cons pe_int (pa_cons pe_int (pa_cons pe_int (pa_cons pe_int (pa_cons pe_int (pa_cons pe_int pa_nil))))))) pa_nil)))))
      (pss_cons (ps_setLc (i := 3) (own := [("_law_k", 4)]) (by rfl) sc__law_ringed.nd rfl rfl (sw_true rfl rfl rfl (by decide +kernel)) (pi_range1 (by rfl) T.b.range (pa_cons (pv 2) pa_nil)) (blkOk_by (N := ["_law_pool_here", "_law_sides", "_law_tables", "_law_readings", "_law_k"]) (sc := defScope s__law_ringed) (by decide +kernel)) (fun _ _ _ _ _ => pg_name (i := 4) sc__law_ringed.nd rfl (by first | exact Or.inl rfl | exact Or.inr rfl)) (fun _ _ _ _ _ => pts_nil) (fun _ _ _ _ _ => (pe_tup (pa_cons (pv 4) (pa_cons (pe_op op_mod (pe_callTy call_int1 (by rfl) T.b.int boot_int (pa_cons (pe_op op_add (pv 4) pe_int) pa_nil)) (pv 2)) (pa_cons (pe_k c__law_step hr (by omega) (by rfl) (pa_cons (pv 0) (pa_cons (pv 1) pa_nil))) pa_nil))))))
      (pss_cons (ps_for PassesOwn.never rfl (pi_range1 (by rfl) T.b.range (pa_cons (pe_k c__law_some hr (by omega) (by rfl) (pa_cons (pv 0) (pa_cons (pe_lst (pa_cons pe_int (pa_cons pe_int (pa_cons pe_int (pa_cons pe_int (pa_cons pe_int (pa_cons pe_int pa_nil))))))) pa_nil))) pa_nil)) (pg_name (i := 4) sc__law_ringed.nd rfl (by first | exact Or.inl rfl | exact Or.inr rfl)) (pss_one (ps_expr (pe_bm PySem.F.plainAttrs_list PySem.F.slot_list_append PySem.F.type_list_append mt_append (pv 3) (pa_cons (pe_tup (pa_cons (pe_k c__law_draw hr (by omega) (by rfl) (pa_cons (pv 0) (pa_cons (pv 2) pa_nil))) (pa_cons (pe_k c__law_draw hr (by omega) (by rfl) (pa_cons (pv 0) (pa_cons (pv 2) pa_nil))) (pa_cons (pe_k c__law_step hr (by omega) (by rfl) (pa_cons (pv 0) (pa_cons (pv 1) pa_nil))) pa_nil)))) pa_nil)))))
      (pss_one (ps_ret (pe_tup (pa_cons (pv 1) (pa_cons (pv 2) (pa_cons (pe_callTy call_tuple_of (by rfl) T.b.tuple boot_tuple (pa_cons (pe_callB (cr_sortSet rfl hr.units) (by rfl) T.b.sorted boot_sorted (pa_cons (pe_callTy (cr_setR rfl hr.units) (by rfl) T.b.set boot_set (pa_cons (pv 3) pa_nil)) pa_nil)) pa_nil)) pa_nil)))))))))), ?_⟩
    refine ⟨.ref p, rfl, p, c, 4, rfl, hP, by decide, by decide, fun H1 d B1 P1 d0 d1 => ⟨1, d, rfl, rfl, ?_⟩⟩
    refine ⟨.ref p, rfl, small (Nat.le_of_ble_eq_true rfl), fun l nl => ?_⟩
    have nlp := P1.np nl
    refine ⟨p, c, l, _, rfl, P1.same (same_new nl), nlp.1, nlp.2, .inl (.inl upd_same), Nat.le_of_ble_eq_true rfl, Nat.le_of_ble_eq_true rfl, fun H2 v B2 P2 hv => ?_⟩
    obtain ⟨e, rfl, e0, e7⟩ : ∃ e, v = V.int e ∧ 0 ≤ e ∧ e ≤ 7 := by
      simp only [List.mem_cons, List.not_mem_nil, or_false] at hv
      rcases hv with rfl | rfl | rfl | rfl | rfl | rfl <;> exact ⟨_, rfl, by decide, by decide⟩
    have B2' : But p c H H2 := (B1.trans (LB.Same.but (same_new nl))).trans B2
    refine ⟨1, e, rfl, rfl, .int (1 + e), rfl, 1 + e, rfl, by omega, by omega, fun R nR => ?_⟩
    have nRp := P2.np nR
    refine lc_range (lo := 0) (n := (1 + e).toNat) (fun i H' => But p c H2 H' ∧ Pool H' p c ∧ ∃ M, Bt K R M H' ∧ M.length = i ∧ (∀ k ∈ M, ShR (1 + d) (1 + e) k) ∧ ∀ j : Int, 0 ≤ j → j < (i : Nat) → ∃ k ∈ M, k.1 = j ∧ k.2.1 = (j + 1) % (1 + e))
      ⟨LB.Same.but (same_new nR), P2.same (same_new nR), [], Bt.zero, rfl, (by intro k hk; cases hk), fun j h0 h1 => by omega⟩ (fun i H' hi z => ?_) (fun H' z => ?_)
    · obtain ⟨B', P', M, hM, lM, al, rg⟩ := z
      have em0 := Int.emod_nonneg ((i : Nat) + 1 : Int) (b := 1 + e) (by omega)
      have em1 := Int.emod_lt_of_pos ((i : Nat) + 1 : Int) (b := 1 + e) (by omega)
      refine ⟨rfl, .int _, rfl, .int _, rfl, 0 + (i : Nat), 1, rfl, rfl, .inl ⟨_, rfl, .int (1 + e), rfl, 0 + (i : Nat) + 1, 1 + e, rfl, rfl, (show (0 : Int) < 1 + e by omega), ?_⟩⟩
      refine ⟨.ref p, rfl, .int (1 + d), rfl, p, c, 1 + d, rfl, P', by omega, by omega, fun H7 t ns B7 P7 hT ln ok => ?_⟩
      refine ⟨small (Nat.le_of_ble_eq_true rfl), fun z nz => ?_⟩
      have ei : (0 : Int) + (i : Nat) = (i : Nat) := Int.zero_add _
      have hM7 := Bt.same (same_new (o := .tup [.int (0 + (i : Nat)), .int ((0 + (i : Nat) + 1) % (1 + e)), .ref t]) nz) (Bt.but P' B7 nRp hM)
      obtain ⟨acc, g1, g2, g3⟩ := hM7.push (k := (0 + (i : Nat), (0 + (i : Nat) + 1) % (1 + e), ns)) (a := z) ⟨t, T_new, T_seq (same_new nz) hT⟩ (by omega)
      refine ⟨acc, g1, g2, But.mut ((B'.trans B7).trans (LB.Same.but (same_new nz))) nR, (P7.same (same_new nz)).upd nRp, _, g3, by rw [List.length_append, lM]; rfl, fun k hk => ?_, fun j j0 j1 => ?_⟩
      · rcases List.mem_append.mp hk with hk | hk
        · exact al k hk
        · rw [List.mem_singleton.mp hk, ei]
          exact ⟨⟨by show (0 : Int) ≤ (i : Nat); omega, by show ((i : Nat) : Int) < 1 + e; omega, em0, em1, ln, by show ns.length ≤ 4; omega⟩, ok⟩
      · by_cases h : j < (i : Nat)
        · obtain ⟨k, hk, h1⟩ := rg j j0 h
          exact ⟨k, List.mem_append_left _ hk, h1⟩
        · have : j = (i : Nat) := by omega
          subst this
          exact ⟨_, List.mem_append_right _ (List.mem_singleton.mpr rfl), ei, by show (0 + (i : Nat) + 1) % (1 + e) = _; rw [ei]⟩
    · obtain ⟨B', P', M0, hM0, lM0, al0, rg0⟩ := z
      refine ⟨.ref p, rfl, small (Nat.le_of_ble_eq_true rfl), fun l2 nl2 => ?_⟩
      have nlp2 := P'.np nl2
      refine ⟨p, c, l2, _, rfl, P'.same (same_new nl2), nlp2.1, nlp2.2, .inl (.inl upd_same), Nat.le_of_ble_eq_true rfl, Nat.le_of_ble_eq_true rfl, fun H4 v B4 P4 hv => ?_⟩
      obtain ⟨m, rfl, m0, m12⟩ : ∃ m, v = V.int m ∧ 0 ≤ m ∧ m ≤ 12 := by
        simp only [List.mem_cons, List.not_mem_nil, or_false] at hv
        rcases hv with rfl | rfl | rfl | rfl | rfl | rfl <;> exact ⟨_, rfl, by decide, by decide⟩
      have B4' : But p c H2 H4 := (B'.trans (LB.Same.but (same_new nl2))).trans B4
      have hR4 : Bt K R M0 H4 := Bt.but (P'.same (same_new nl2)) B4 nRp (Bt.same (same_new nl2) hM0)
      refine ⟨m, rfl, by omega, by omega, for_range (lo := 0) (n := m.toNat) (fun i σ H' => (∃ x4, σ = [some (.ref p), some (.int (1 + d)), some (.int (1 + e)), some (.ref R), x4]) ∧ But p c H2 H' ∧ Pool H' p c ∧ ∃ M, Bt K R M H' ∧ M.length ≤ 8 + i ∧ (∀ k ∈ M, ShR (1 + d) (1 + e) k) ∧ ∀ k ∈ M0, k ∈ M)
        ⟨⟨_, rfl⟩, B4', P4, M0, hR4, by omega, al0, fun k hk => hk⟩ ?_ ?_⟩
      · rintro i σ H' hi ⟨⟨x4, rfl⟩, B', P', M, hM, lM, al, sub⟩
        have hL : ∃ xs, H' R = some (.lst xs) := ⟨_, hM.choose_spec.1⟩
        refine ⟨.ref R, rfl, .inl ⟨rfl, _, .inl (.inl hL.choose_spec)⟩, ?_⟩
        refine ⟨.ref p, rfl, .int (1 + e), rfl, p, c, 1 + e, rfl, P', by omega, by omega, fun H5 d5 B5 P5 a0 a1 => ?_⟩
        refine ⟨.ref p, rfl, .int (1 + e), rfl, p, c, 1 + e, rfl, P5, by omega, by omega, fun H6 d6 B6 P6 b0 b1 => ?_⟩
        refine ⟨.ref p, rfl, .int (1 + d), rfl, p, c, 1 + d, rfl, P6, by omega, by omega, fun H7 t ns B7 P7 hT ln ok => ?_⟩
        refine ⟨small (Nat.le_of_ble_eq_true rfl), fun z nz => ?_⟩
        have hM7 := Bt.same (same_new (o := .tup [.int d5, .int d6, .ref t]) nz) (Bt.but P6 B7 nRp (Bt.but P5 B6 nRp (Bt.but P' B5 nRp hM)))
        obtain ⟨acc, g1, g2, g3⟩ := hM7.push (k := (d5, d6, ns)) (a := z) ⟨t, T_new, T_seq (same_new nz) hT⟩ (by omega)
        refine ⟨R, acc, .ref z, rfl, rfl, g1, g2, ?_⟩
        refine ⟨⟨_, rfl⟩, But.mut ((((B'.trans B5).trans B6).trans B7).trans (LB.Same.but (same_new nz))) nR, (P7.same (same_new nz)).upd nRp, _, g3, by rw [List.length_append]; show M.length + 1 ≤ 8 + (i + 1); omega, fun k hk => ?_, fun k hk => List.mem_append_left _ (sub k hk)⟩
        rcases List.mem_append.mp hk with hk | hk
        · exact al k hk
        · rw [List.mem_singleton.mp hk]
          exact ⟨⟨a0, a1, b0, b1, ln, by show ns.length ≤ 4; omega⟩, ok⟩
      · rintro σ H' ⟨⟨x4, rfl⟩, B', P', M, ⟨ks, k1, k2, k3⟩, lM, al, sub⟩
        have lk : ks.length ≤ 20 := by
          have : ks.length = M.length := by rw [← k3, List.length_map]
          omega
        refine ⟨.int (1 + d), rfl, .int (1 + e), rfl, .ref R, rfl, R, ks, rfl, .inl (.inl k1), k2, by omega, fun a L na sub2 all => ?_⟩
        have S1 : Same H' (upd H' a (SetRO w a L)) := same_new na
        refine ⟨a, L, rfl, upd_same, fun p hp => rd_same S1 (k2 p (sub2 p hp)), fun M2 z pm up lt nz => ?_⟩
        have S2 : Same H' _ := S1.trans (same_new (o := .lst (M2.map rf)) nz)
        refine ⟨z, _, rfl, .inl ⟨.inl (.inl upd_same), fun t nt => ?_⟩⟩
        have S3 : Same H' _ := S2.trans (same_new (o := .tup (M2.map rf)) nt)
        refine ⟨small (Nat.le_of_ble_eq_true rfl), fun u nu => ?_⟩
        have S4 : Same H' _ := S3.trans (same_new (o := .tup [.int (1 + d), .int (1 + e), .ref t]) nu)
        have as := setAsc sub2 all pm up
        rw [k3] at as
        refine q _ u (1 + d) (1 + e) (M2.map (·.2)) ((B2'.trans B').trans (LB.Same.but S4)) (P'.same S4) ⟨t, M2, T_new, T_seq (same_new nu) T_new, fun r hr => rd_same S4 (k2 r (sub2 r (pm.mem_iff.mp hr))), rfl⟩ ?_ ?_
        · refine ⟨by omega, by omega, by omega, by omega, ?_, fun k hk => al k ((as.mem k).mp hk), as.up⟩
          have := nodup_le (up_nodup as.up) fun k hk => (as.mem k).mp hk
          omega
        · intro i i0 i1
          obtain ⟨k, hk, h1⟩ := rg0 i i0 (by omega)
          exact ⟨k, (as.mem k).mpr (sub k hk), h1⟩
/-! ### from -/
def frm (L : List RK) (t : Int) (n : Nat) : List Nat := (List.range n).filter fun k => decide (rdr L k = t)
theorem frm_grow {L : List RK} {t : Int} {i : Nat} : frm L t (i + 1) = frm L t i ++ if rdr L i = t then [i] else [] := by
  unfold frm
  rw [List.range_succ, List.filter_append]
  congr 1
  by_cases h : rdr L i = t <;> simp [h]
theorem frm_len {L : List RK} {t : Int} {n : Nat} : (frm L t n).length ≤ n := by
  unfold frm
  have := List.length_filter_le (fun k => decide (rdr L k = t)) (List.range n)
  rwa [List.length_range] at this
theorem frm_mem {L : List RK} {t : Int} {n k : Nat} : k ∈ frm L t n ↔ k < n ∧ rdr L k = t := by
  unfold frm
  rw [List.mem_filter, List.mem_range, decide_eq_true_iff]
def natV (l : List Nat) : List V := l.map fun k => V.int (k : Nat)
def spFrom (K : PySem.W.Frag) : Sp := fun vs H Q _ => ∃ (a : Addr) (s t t0 : Int) (L : List RK), vs = [.ref a, .int t0] ∧ PtAt K H a s t L ∧ L.length ≤ 900 ∧ ∀ H' l, Same H H' → H l = none → H' l = some (.lst (natV (frm L t0 L.length))) → Q (.ref l) H'
theorem ok__law_from {f : Addr} {fd : FuncData} (D : Df K mg "_law_from" ["_law_parts_here", "_law_table"] s__law_from f fd) (T : Tx K mg C) : Ca P w K mg base 1 "_law_from" (spFrom K) := by
  refine D.ca sc__law_from (fun vs H Q E h => ?_) (fun cdv A outer s H vs Q E hr h => ?_)
  · obtain ⟨a, s, t, t0, L, rfl, _⟩ := h
    rfl
  · obtain ⟨a, si, ta, t0, L, rfl, hp, few, q⟩ := h
    obtain ⟨r, ks, h1, h2, h3, h7⟩ := hp.ex
    have lk : ks.length = L.length := by rw [← h7, List.length_map]
    refine ⟨_, (pss_one (ps_ret (pe_lc (own := [("_law_k", 2)]) (by rfl) sc__law_from.nd (pi_range1 (by rfl) T.b.range (pa_cons (pe_callB call_len_seq (by rfl) T.b.len boot_len (pa_cons (pe_ix ix_tup (pv 0) pe_int (fun _ _ => rfl)) pa_nil)) pa_nil)) (blkOk_by (N := ["_law_parts_here", "_law_table", "_law_k"]) (sc := defScope s__law_from) (by decide +kernel)) (fun _ _ _ _ _ => pg_name (i := 2) sc__law_from.nd rfl (by first | exact Or.inl rfl | exact Or.inr rfl)) (fun _ _ _ _ _ => pts_one (pt_cmpR op_eq (pe_ix (ix_tup' K) (pe_ix (ix_tup' K) (pe_ix (ix_tup' K) (pv 0) pe_int (fun _ _ => rfl)) (pv 2) (fun _ _ => rfl)) pe_int (fun _ _ => rfl)) (pv 1) (nomark _))) (fun _ _ _ _ _ => (pv 2))))), ?_⟩
    refine ⟨.ref a, rfl, a, _, 2, .ref r, rfl, rfl, h1, rfl, r, _, rfl, .inr h2, (ks.map rf).length, rfl, by omega, by rw [List.length_map]; omega, fun D0 nD => lc_range (lo := 0) (n := (((ks.map rf).length : Nat) : Int).toNat) (fun i H' => Same H H' ∧ H' D0 = some (.lst (natV (frm L t0 i)))) ⟨same_new nD, upd_same⟩ (fun i H' hi z => ?_) (fun H' z => ?_)⟩
    · obtain ⟨e, z⟩ := z
      rw [Int.toNat_natCast, List.length_map] at hi
      have hy : ks[i]? = some ks[i] := List.getElem?_eq_getElem hi
      have ei : (0 : Int) + (i : Nat) = ((i : Nat) : Int) := Int.zero_add _
      obtain ⟨tt, y1, y2⟩ := rd_same e (h3 _ (List.getElem_mem hi))
      have rs : rdr L i = (ks[i]).2.1 := by
        unfold rdr
        rw [← h7, ko_at hi]
      refine ⟨rfl, .ref a, rfl, a, _, 2, .ref r, rfl, rfl, T_seq e h1, rfl, .int (0 + (i : Nat)), rfl, r, _, 0 + (i : Nat), rf ks[i], rfl, rfl, T_seq e h2, by rw [ei]; exact atI_nat (by rw [List.getElem?_map, hy]; rfl), (ks[i]).1, _, 0, .int (ks[i]).2.1, rfl, rfl, y1, rfl, .int t0, rfl, rfl, decide (V.int (ks[i]).2.1 = V.int t0), rfl, ?_⟩
      by_cases h : (ks[i]).2.1 = t0
      · rw [decide_eq_true (show V.int (ks[i]).2.1 = V.int t0 by rw [h])]
        refine iteT ⟨_, rfl, _, z, smallt (by unfold natV; rw [List.length_map]; have := frm_len (L := L) (t := t0) (n := i); omega), same_mut e nD, ?_⟩
        rw [upd_same, frm_grow, rs, if_pos h, ei]
        unfold natV
        rw [List.map_append]
        rfl
      · rw [decide_eq_false (fun z => h (V.int.inj z))]
        refine iteF ⟨e, ?_⟩
        rw [frm_grow, rs, if_neg h, List.append_nil]
        exact z
    · obtain ⟨e, z⟩ := z
      rw [Int.toNat_natCast, List.length_map, lk] at z
      exact q _ D0 e nD z
end

end LW
set_option Elab.async false
set_option linter.all false
set_option maxRecDepth 100000
set_option maxHeartbeats 4000000
namespace LW
open PySem PySem.Spec PyProof.Rows L2 RS LB
section
variable {P : Program} {w : World} {K : PySem.W.Frag} {mg : Str → Option Value} {base : Heap} {C : Addr}
/-! ### judging things -/
def _root_.LB.Th.inR (lo hi : Int) : Th → Bool
  | .int i => decide (lo ≤ i) && decide (i ≤ hi)
  | _ => false
theorem _root_.LB.Th.inR_no {lo hi : Int} {t : Th} (h : t.isInt = false) : Th.inR lo hi t = false := by cases t with
  | int i => cases h
  | _ => rfl
theorem _root_.LB.Th.inR_yes {lo hi : Int} {t : Th} (h : Th.inR lo hi t = true) : ∃ i, t = .int i ∧ lo ≤ i ∧ i ≤ hi := by cases t with
  | int i =>
    unfold Th.inR at h
    rw [Bool.and_eq_true, decide_eq_true_iff, decide_eq_true_iff] at h
    exact ⟨i, rfl, h.1, h.2⟩
  | _ => cases h
def spIsIntInT (K : PySem.W.Frag) (C : Addr) : Sp := fun vs H Q _ => ∃ (p c : Addr) (v : V) (t : Th) (lo hi : Int), vs = [v, .int lo, .int hi] ∧ IsTh K C p c H v t ∧ Q (.bl (t.inR lo hi)) H
theorem ok_is_int_inT {f : Addr} {fd : FuncData} (D : Df K mg "is_int_in" ["thing", "least", "most"] s_is_int_in f fd) (Z : ThC K C) (c_is_int : Ca P w K mg base 1 "is_int" (spIsInt K)) : Ca P w K mg base 2 "is_int_in" (spIsIntInT K C) := by
  refine D.ca sc_is_int_in (fun vs H Q E h => ?_) (fun cdv A outer s H vs Q E hr h => ?_)
  · obtain ⟨p, c, v, t, lo, hi, rfl, _⟩ := h
    rfl
  · obtain ⟨p, c, v, t, lo, hi, rfl, ht, q⟩ := h
    refine ⟨_, (pss_one (ps_ret (pe_and (pe_k c_is_int hr (by omega) (by rfl) (pa_cons (pv 0) pa_nil)) (pe_one (pe_chain op_le op_le (pv 1) (pv 0) (pv 2)))))), ?_⟩
    refine ⟨v, rfl, v, _, _, _, rfl, ht.tyx Z, kit_num Z t, kit_bl Z t, t.isNum && !t.isBl, rfl, ?_⟩
    rw [Th.int_is]
    cases hz : t.isInt with
    | false =>
      rw [Th.inR_no hz] at q
      exact iteF q
    | true =>
      obtain ⟨i, rfl⟩ := Th.of_int hz
      cases ht
      refine iteT ⟨.int lo, rfl, .int i, rfl, lo, i, rfl, rfl, decide (lo ≤ i), rfl, ?_⟩
      have q : Q (.bl (decide (lo ≤ i) && decide (i ≤ hi))) H := q
      by_cases z : lo ≤ i
      · rw [decide_eq_true z] at q ⊢
        exact iteT ⟨.int hi, rfl, i, hi, rfl, rfl, q⟩
      · rw [decide_eq_false z] at q ⊢
        exact iteF q
theorem isl_nats {H : Hp} : ∀ w : List Nat, IsL K H (w.map fun k => V.int (k : Nat)) (w.map .rd)
  | [] => .nil
  | k :: w => .cons (.rd k) (isl_nats w)
theorem okL_nats {n d : Nat} : ∀ {w : List Nat}, (∀ k ∈ w, k < n) → okL n d (w.map .rd)
  | [], _ => by unfold okL; trivial
  | k :: w, h => by
    show okL n d (.rd k :: w.map .rd)
    unfold okL Lgi.ok
    exact ⟨h k List.mem_cons_self, okL_nats fun j hj => h j (List.mem_cons_of_mem _ hj)⟩
/-- a tuple of numbers, each but the first from where the one ahead leads -/
def _root_.LB.Th.walk (L : List RK) : Th → Prop
  | .tup ts => ∃ w : List Nat, ts = w.map (fun k => Th.int (k : Nat)) ∧ (∀ k ∈ w, k < L.length) ∧ leadsL L (w.map .rd)
  | _ => False
theorem all_nats {n : Nat} : ∀ {ts : List Th}, (ts.all fun t => t.inR 0 ((n : Int) - 1)) = true → ∃ w : List Nat, ts = w.map (fun k => Th.int (k : Nat)) ∧ ∀ k ∈ w, k < n
  | [], _ => ⟨[], rfl, by intro k hk; cases hk⟩
  | t :: ts, h => by
    rw [List.all_cons, Bool.and_eq_true] at h
    obtain ⟨i, rfl, h0, h1⟩ := Th.inR_yes h.1
    obtain ⟨w, rfl, hw⟩ := all_nats h.2
    refine ⟨i.toNat :: w, ?_, fun k hk => ?_⟩
    · rw [List.map_cons, Int.toNat_of_nonneg h0]
    · rcases List.mem_cons.mp hk with rfl | hk
      · omega
      · exact hw k hk
theorem nats_all {n : Nat} : ∀ {w : List Nat}, (∀ k ∈ w, k < n) → ((w.map fun k => Th.int (k : Nat)).all fun t => t.inR 0 ((n : Int) - 1)) = true
  | [], _ => rfl
  | k :: w, h => by
    rw [List.map_cons, List.all_cons, Bool.and_eq_true]
    have := h k List.mem_cons_self
    refine ⟨?_, nats_all fun j hj => h j (List.mem_cons_of_mem _ hj)⟩
    show (decide ((0 : Int) ≤ (k : Nat)) && decide (((k : Nat) : Int) ≤ (n : Int) - 1)) = true
    rw [decide_eq_true (show (0 : Int) ≤ (k : Nat) by omega), decide_eq_true (show ((k : Nat) : Int) ≤ (n : Int) - 1 by omega)]
    rfl
theorem nats_vals {p c : Addr} {H : Hp} : ∀ {w : List Nat} {vs : List V}, IsThs K C p c H vs (w.map fun k => Th.int (k : Nat)) → vs = w.map fun k => V.int (k : Nat)
  | [], _, h => by cases h; rfl
  | k :: w, _, h => by
    cases h with
    | cons h1 h2 =>
      cases h1
      rw [List.map_cons, ← nats_vals h2]
def spIsWalk (K : PySem.W.Frag) (C : Addr) : Sp := fun vs H Q _ => ∃ (p c pr : Addr) (v : V) (s si : Int) (L : List RK) (t : Th), vs = [.ref pr, v] ∧ PgAt K C H pr s si L ∧ IsTh K C p c H v t ∧ t.sz ≤ 100000 ∧ ∀ H' b, Same H H' → (b = true ↔ t.walk L) → Q (.bl b) H'
theorem ok_is_walk {f : Addr} {fd : FuncData} (D : Df K mg "is_walk" ["program", "thing"] s_is_walk f fd) (T : Tx K mg C) (Z : ThC K C) (c_is_int_in : Ca P w K mg base 2 "is_int_in" (spIsIntInT K C)) (c_leads_on : Ca P w K mg base 33 "leads_on" (spLeadB K C 31)) : Ca P w K mg base 34 "is_walk" (spIsWalk K C) := by
  refine D.ca sc_is_walk (fun vs H Q E h => ?_) (fun cdv A outer s H vs Q E hr h => ?_)
  · obtain ⟨p, c, pr, v, si, ta, L, t, rfl, _⟩ := h
    rfl
  · obtain ⟨p, c, pr, v, si, ta, L, t, rfl, hp, ht, sz, q⟩ := h
    obtain ⟨dx, fs, r, ks, h1, h2, h3, h4, h5, h6, h7⟩ := id hp.ex
    have lk : (ks.map rf).length = L.length := by rw [← h7, List.length_map, List.length_map]
    refine ⟨_, (pss_cons (ps_if (pt_not (pt_val (pe_callB call_isi (by rfl) T.b.isinstance boot_isinstance (pa_cons (pv 1) (pa_cons (pe_bltn (v := .ty "tuple") (by rfl) T.b.tuple boot_tuple rfl) pa_nil))))) (pss_one (ps_ret pe_bl)) pss_nil)
      (pss_cons (ps_set (i := 2) sc_is_walk.nd rfl (by first | exact Or.inl rfl | exact Or.inr rfl) (pe_op op_sub (pe_callB call_len_seq (by rfl) T.b.len boot_len (pa_cons (pe_fld (pv 0) rfl) pa_nil)) pe_int))
      (pss_one (ps_ret (pe_and (pe_callB (cr_all rfl) (by rfl) T.b.all boot_all (pa_cons (pe_lc (own := [("item", 3)]) (by rfl) sc_is_walk.nd (pi_tup (pv 1)) (blkOk_by (N := ["program", "thing", "last", "item"]) (sc := defScope s_is_walk) (by decide +kernel)) (fun _ _ _ _ _ => pg_name (i := 3) sc_is_walk.nd rfl (by first | exact Or.inl rfl | exact Or.inr rfl)) (fun _ _ _ _ _ => pts_nil) (fun _ _ _ _ _ => (pe_k c_is_int_in hr (by omega) (by rfl) (pa_cons (pv 3) (pa_cons pe_int (pa_cons (pv 2) pa_nil)))))) pa_nil)) (pe_one (pe_k c_leads_on hr (by omega) (by rfl) (pa_cons (pv 0) (pa_cons (pv 1) pa_nil))))))))), ?_⟩
    refine ⟨v, rfl, v, .ty "tuple", _, _, _, rfl, .ty _, ht.tyx Z, kit_tup Z t, t.isTup, rfl, ?_⟩
    cases hz : t.isTup with
    | false =>
      refine iteT (q _ false (Same.refl _) ⟨fun h => (Bool.false_ne_true h).elim, fun h => ?_⟩)
      cases t with
      | tup ts => cases hz
      | _ => exact h.elim
    | true =>
      obtain ⟨ts, rfl⟩ := Th.of_tup hz
      cases ht with
      | @tup a xs _ ha hi =>
        refine iteF ?_
        refine ⟨.ref pr, rfl, pr, C, dx, fs, .ref r, rfl, h1, T.cl, T.nR, h4, r, _, rfl, .inr h5, _, 1, rfl, rfl, ?_⟩
        refine ⟨.ref a, rfl, a, rfl, ⟨_, ha⟩, fun D0 nD => lc_tup (K := K) (a := a) (xs := xs) (fun i H' => Same H H' ∧ H' D0 = some (.lst (((ts.take i).map fun t => t.inR 0 (((ks.map rf).length : Nat) - 1)).map V.bl))) ⟨same_new nD, upd_same⟩
          (fun i H' _ p => T_seq p.1 ha) (fun i x H' hx z => ?_) (fun H' z => ?_)⟩
        · obtain ⟨t, e1, e2⟩ := hi.at hx
          refine ⟨rfl, x, rfl, .int _, rfl, p, c, x, t, 0, _, rfl, e2.same z.1, _, z.2, ?_, same_mut z.1 nD, ?_⟩
          · have := hi.len
            have : (Th.tup ts).sz = ts.length := rfl
            rw [List.length_map, List.length_map, List.length_take]
            rw [sizeLine_eq]
            omega
          · rw [upd_same, List.take_add_one, e1, List.map_append, List.map_append]
            rfl
        · obtain ⟨z1, z2⟩ := z
          rw [List.take_of_length_le (by rw [hi.len]; exact Nat.le_refl _)] at z2
          refine ⟨D0, _, rfl, .inl (.inl z2), _, rfl, ?_⟩
          have e0 : (ts.map fun t => t.inR 0 (((ks.map rf).length : Nat) - 1)).all id = ts.all fun t => t.inR 0 ((L.length : Int) - 1) := by
            rw [List.all_map, lk]
            rfl
          rw [e0]
          cases hb : (ts.all fun t => t.inR 0 ((L.length : Int) - 1)) with
          | false =>
            refine iteF (q _ false z1 ⟨fun h => (Bool.false_ne_true h).elim, fun h => ?_⟩)
            obtain ⟨w, rfl, hw, _⟩ := h
            rw [nats_all hw] at hb
            cases hb
          | true =>
            obtain ⟨w, rfl, hw⟩ := all_nats hb
            obtain rfl := nats_vals hi
            refine iteT ⟨.ref pr, rfl, .ref a, rfl, pr, a, si, ta, L, _, w.map .rd, 30, rfl, hp.same z1, T_seq z1 ha, (isl_nats w), okL_nats hw, by decide, fun H2 b e2 hb2 => q _ b (z1.trans e2) (hb2.trans ⟨fun h => ⟨w, rfl, hw, h⟩, fun h => ?_⟩)⟩
            obtain ⟨w', e, _, h⟩ := h
            have : w' = w := by
              have := congrArg (List.map fun t : Th => match t with | .int i => i.toNat | _ => 0) e
              rw [List.map_map, List.map_map] at this
              simpa [Function.comp_def] using this.symm
            rw [← this]
            exact h
end

end LW
set_option Elab.async false
set_option linter.all false
set_option maxRecDepth 100000
set_option maxHeartbeats 4000000
namespace LW
open PySem PySem.Spec PyProof.Rows L2 RS LB
section
variable {P : Program} {w : World} {K : PySem.W.Frag} {mg : Str → Option Value} {base : Heap} {C : Addr}
/-! ### _law_parts -/
def spParts (K : PySem.W.Frag) : Sp := fun vs H Q _ => ∃ (p c : Addr), vs = [.ref p] ∧ Pool H p c ∧ ∀ H' a s t L, But p c H H' → Pool H' p c → PtAt K H' a s t L → GoodP s t L → Q (.ref a) H'
theorem ok__law_parts {f : Addr} {fd : FuncData} (D : Df K mg "_law_parts" ["_law_pool_here"] s__law_parts f fd) (T : Tx K mg C) (c__law_draw : Ca P w K mg base 1 "_law_draw" spDraw) (c__law_some : Ca P w K mg base 2 "_law_some" (spSome K)) (c__law_step : Ca P w K mg base 3 "_law_step" (spStep K)) :
    Ca P w K mg base 4 "_law_parts" (spParts K) := by
  refine D.ca sc__law_parts (fun vs H Q E h => ?_) (fun cdv A outer s H vs Q E hr h => ?_)
  · obtain ⟨p, c, rfl, _⟩ := h
    rfl
  · obtain ⟨p, c, rfl, hP, q⟩ := h
    refine ⟨_, (pss_cons (ps_set (i := 1) sc__law_parts.nd rfl (by first | exact Or.inl rfl | exact Or.inr rfl) (pe_op op_add pe_int (pe_k c__law_draw hr (by omega) (by rfl) (pa_cons (pv 0) (pa_cons pe_int pa_nil)))))
      (pss_cons (ps_set (i := 2) sc__law_parts.nd rfl (by first | exact Or.inl rfl | exact Or.inr rfl) (pe_op op_add pe_int (pe_k c__law_some hr (by omega) (by rfl) (pa_cons (pv 0) (pa_cons (pe_lst (pa_cons pe_int (pa_cons pe_int (pa_cons pe_int (pa_cons pe_int (pa_cons pe_int (pa_cons pe_int (pa_cons pe_int pa_nil)))))))) pa_nil)))))
      (pss_cons (ps_set (i := 3) sc__law_parts.nd rfl (by first | exact Or.inl rfl | exact Or.inr rfl) (pe_lst pa_nil))
      (pss_cons (ps_for PassesOwn.never rfl (pi_range1 (by rfl) T.b.range (pa_cons (pe_k c__law_some hr (by omega) (by rfl) (pa_cons (pv 0) (pa_cons (pe_lst (pa_cons pe_int (pa_cons pe_int (pa_cons pe_int (pa_cons pe_int (pa_cons pe_int (pa_cons pe_int (pa_cons pe_int (pa_cons pe_int pa_nil))))))))) pa_nil))) pa_nil)) (pg_name (i := 4) sc__law_parts.nd rfl (by first | exact Or.inl rfl | exact Or.inr rfl)) (pss_one (ps_expr (pe_bm PySem.F.plainAttrs_list PySem.F.slot_list_append PySem.F.type_list_append mt_append (pv 3) (pa_cons (pe_tup (pa_cons (pe_k c__law_draw hr (by omega) (by rfl) (pa_cons (pv 0) (pa_cons (pv 2) pa_nil))) (pa_cons (pe_k c__law_draw hr (by omega) (by rfl) (pa_cons (pv 0) (pa_cons (pv 2) pa_nil))) (pa_cons (pe_k c__law_step hr (by omega) (by rfl) (pa_cons (pv 0) (pa_cons (pv 1) pa_nil))) pa_nil)))) pa_nil)))))
      (pss_one (ps_ret (pe_tup (pa_cons (pv 1) (pa_cons (pv 2) (pa_cons (pe_callTy call_tuple_of (by rfl) T.b.tuple boot_tuple (pa_cons (pe_callB (cr_sortSet rfl hr.units) (by rfl) T.b.sorted boot_sorted (pa_cons (pe_callTy (cr_setR rfl hr.units) (by rfl) T.b.set boot_set (pa_cons (pv 3) pa_nil)) pa_nil)) pa_nil)) pa_nil)))))))))), ?_⟩
    refine ⟨.ref p, rfl, p, c, 4, rfl, hP, by decide, by decide, fun H1 d B1 P1 d0 d1 => ⟨1, d, rfl, rfl, ?_⟩⟩
    refine ⟨.ref p, rfl, small (Nat.le_of_ble_eq_true rfl), fun l nl => ?_⟩
    have nlp := P1.np nl
    refine ⟨p, c, l, _, rfl, P1.same (same_new nl), nlp.1, nlp.2, .inl (.inl upd_same), Nat.le_of_ble_eq_true rfl, Nat.le_of_ble_eq_true rfl, fun H2 v B2 P2 hv => ?_⟩
    obtain ⟨e, rfl, e0, e7⟩ : ∃ e, v = V.int e ∧ 0 ≤ e ∧ e ≤ 7 := by
      simp only [List.mem_cons, List.not_mem_nil, or_false] at hv
      rcases hv with rfl | rfl | rfl | rfl | rfl | rfl | rfl <;> exact ⟨_, rfl, by decide, by decide⟩
    refine ⟨1, e, rfl, rfl, Nat.zero_le _, fun R nR => ?_⟩
    have B2' : But p c H H2 := (B1.trans (LB.Same.but (same_new nl))).trans B2
    have nRp := P2.np nR
    have P3 := P2.same (same_new (o := .lst []) nR)
    refine ⟨.ref p, rfl, small (Nat.le_of_ble_eq_true rfl), fun l2 nl2 => ?_⟩
    have nlp2 := P3.np nl2
    refine ⟨p, c, l2, _, rfl, P3.same (same_new nl2), nlp2.1, nlp2.2, .inl (.inl upd_same), Nat.le_of_ble_eq_true rfl, Nat.le_of_ble_eq_true rfl, fun H4 v B4 P4 hv => ?_⟩
    obtain ⟨m, rfl, m0, m24⟩ : ∃ m, v = V.int m ∧ 0 ≤ m ∧ m ≤ 24 := by
      simp only [List.mem_cons, List.not_mem_nil, or_false] at hv
      rcases hv with rfl | rfl | rfl | rfl | rfl | rfl | rfl | rfl <;> exact ⟨_, rfl, by decide, by decide⟩
    have B4' : But p c H2 H4 := (LB.Same.but ((same_new (o := .lst []) nR).trans (same_new nl2))).trans B4
    have hR4 : Bt K R [] H4 := Bt.but (P3.same (same_new nl2)) B4 nRp (Bt.same (same_new nl2) Bt.zero)
    refine ⟨m, rfl, by omega, by omega, for_range (lo := 0) (n := m.toNat) (fun i σ H' => (∃ x4, σ = [some (.ref p), some (.int (1 + d)), some (.int (1 + e)), some (.ref R), x4]) ∧ But p c H2 H' ∧ Pool H' p c ∧ ∃ M, Bt K R M H' ∧ M.length = i ∧ ∀ k ∈ M, ShR (1 + d) (1 + e) k)
      ⟨⟨_, rfl⟩, B4', P4, [], hR4, rfl, (by intro k hk; cases hk)⟩ ?_ ?_⟩
    · rintro i σ H' hi ⟨⟨x4, rfl⟩, B', P', M, hM, lM, al⟩
      have hL : ∃ xs, H' R = some (.lst xs) := ⟨_, hM.choose_spec.1⟩
      refine ⟨.ref R, rfl, .inl ⟨rfl, _, .inl (.inl hL.choose_spec)⟩, ?_⟩
      refine ⟨.ref p, rfl, .int (1 + e), rfl, p, c, 1 + e, rfl, P', by omega, by omega, fun H5 d5 B5 P5 a0 a1 => ?_⟩
      refine ⟨.ref p, rfl, .int (1 + e), rfl, p, c, 1 + e, rfl, P5, by omega, by omega, fun H6 d6 B6 P6 b0 b1 => ?_⟩
      refine ⟨.ref p, rfl, .int (1 + d), rfl, p, c, 1 + d, rfl, P6, by omega, by omega, fun H7 t ns B7 P7 hT ln ok => ?_⟩
      refine ⟨small (Nat.le_of_ble_eq_true rfl), fun z nz => ?_⟩
      have hM7 := Bt.same (same_new (o := .tup [.int d5, .int d6, .ref t]) nz) (Bt.but P6 B7 nRp (Bt.but P5 B6 nRp (Bt.but P' B5 nRp hM)))
      obtain ⟨acc, g1, g2, g3⟩ := hM7.push (k := (d5, d6, ns)) (a := z) ⟨t, T_new, T_seq (same_new nz) hT⟩ (by omega)
      refine ⟨R, acc, .ref z, rfl, rfl, g1, g2, ?_⟩
      refine ⟨⟨_, rfl⟩, But.mut ((((B'.trans B5).trans B6).trans B7).trans (LB.Same.but (same_new nz))) nR, (P7.same (same_new nz)).upd nRp, _, g3, by rw [List.length_append, lM]; rfl, fun k hk => ?_⟩
      rcases List.mem_append.mp hk with hk | hk
      · exact al k hk
      · rw [List.mem_singleton.mp hk]
        exact ⟨⟨a0, a1, b0, b1, ln, by show ns.length ≤ 4; omega⟩, ok⟩
    · rintro σ H' ⟨⟨x4, rfl⟩, B', P', M, ⟨ks, k1, k2, k3⟩, lM, al⟩
      have lk : ks.length = m.toNat := by rw [← lM, ← k3, List.length_map]
      refine ⟨.int (1 + d), rfl, .int (1 + e), rfl, .ref R, rfl, R, ks, rfl, .inl (.inl k1), k2, by omega, fun a L na sub all => ?_⟩
      have S1 : Same H' (upd H' a (SetRO w a L)) := same_new na
      refine ⟨a, L, rfl, upd_same, fun p hp => rd_same S1 (k2 p (sub p hp)), fun M2 z pm up lt nz => ?_⟩
      have S2 : Same H' _ := S1.trans (same_new (o := .lst (M2.map rf)) nz)
      refine ⟨z, _, rfl, .inl ⟨.inl (.inl upd_same), fun t nt => ?_⟩⟩
      have S3 : Same H' _ := S2.trans (same_new (o := .tup (M2.map rf)) nt)
      refine ⟨small (Nat.le_of_ble_eq_true rfl), fun u nu => ?_⟩
      have S4 : Same H' _ := S3.trans (same_new (o := .tup [.int (1 + d), .int (1 + e), .ref t]) nu)
      have as := setAsc sub all pm up
      rw [k3] at as
      refine q _ u (1 + d) (1 + e) (M2.map (·.2)) ((B2'.trans B').trans (LB.Same.but S4)) (P'.same S4) ⟨t, M2, T_new, T_seq (same_new nu) T_new, fun r hr => rd_same S4 (k2 r (sub r (pm.mem_iff.mp hr))), rfl⟩ ?_
      refine ⟨by omega, by omega, by omega, by omega, ?_, fun k hk => al k ((as.mem k).mp hk), as.up⟩
      have := nodup_le (up_nodup as.up) fun k hk => (as.mem k).mp hk
      omega
end

end LW
set_option Elab.async false
set_option linter.all false
set_option maxRecDepth 100000
set_option maxHeartbeats 4000000
namespace LW
open PySem PySem.Spec PyProof.Rows L2 RS LB
section
variable {P : Program} {w : World} {K : PySem.W.Frag} {mg : Str → Option Value} {base : Heap} {C : Addr}
/-! ### things of any kind -/
def spIntegerT (K : PySem.W.Frag) (C : Addr) : Sp := fun vs H Q _ => ∃ (p c : Addr) (v : V) (t : Th), vs = [v] ∧ IsTh K C p c H v t ∧ Q (.bl t.isInt) H
theorem ok__law_integerT {f : Addr} {fd : FuncData} (D : Df K mg "_law_integer" ["_law_thing"] s__law_integer f fd) (T : Tx K mg C) (Z : ThC K C) : Ca P w K mg base 1 "_law_integer" (spIntegerT K C) := by
  refine D.ca sc__law_integer (fun vs H Q E h => ?_) (fun cdv A outer s H vs Q E hr h => ?_)
  · obtain ⟨p, c, v, t, rfl, _⟩ := h
    rfl
  · obtain ⟨p, c, v, t, rfl, ht, q⟩ := h
    refine ⟨_, (pss_one (ps_ret (pe_and (pe_callB call_isi (by rfl) T.b.isinstance boot_isinstance (pa_cons (pv 0) (pa_cons (pe_bltn (v := .ty "int") (by rfl) T.b.int boot_int rfl) pa_nil))) (pe_one (pe_not (pe_callB call_isi (by rfl) T.b.isinstance boot_isinstance (pa_cons (pv 0) (pa_cons (pe_bltn (v := .ty "bool") (by rfl) T.b.bool boot_bool rfl) pa_nil)))))))), ?_⟩
    rw [← Th.int_is] at q
    refine ⟨v, rfl, v, .ty "int", _, _, t.isNum, rfl, .ty _, ht.tyx Z, kit_num Z t, t.isNum, rfl, ?_⟩
    cases hz : t.isNum with
    | false =>
      rw [hz] at q
      exact iteF q
    | true =>
      rw [hz] at q
      refine iteT ⟨v, rfl, v, .ty "bool", _, _, t.isBl, rfl, .ty _, ht.tyx Z, kit_bl Z t, t.isBl, rfl, q⟩
def nest : Nat → Th
  | 0 => .tup []
  | n + 1 => .tup [nest n]
theorem nest_sz (n : Nat) : (nest n).sz ≤ 1 := by cases n <;> exact Nat.le_of_ble_eq_true rfl
def spDeep (K : PySem.W.Frag) (C : Addr) : Sp := fun vs H Q _ => ∃ (p c : Addr) (n : Nat), vs = [.int (n : Nat)] ∧ n ≤ 1000 ∧ ∀ H' v, Same H H' → IsTh K C p c H' v (nest n) → Q v H'
theorem ok__law_deep {f : Addr} {fd : FuncData} (D : Df K mg "_law_deep" ["_law_many"] s__law_deep f fd) (T : Tx K mg C) : Ca P w K mg base 1 "_law_deep" (spDeep K C) := by
  refine D.ca sc__law_deep (fun vs H Q E h => ?_) (fun cdv A outer s H vs Q E hr h => ?_)
  · obtain ⟨p, c, n, rfl, _⟩ := h
    rfl
  · obtain ⟨p, c, n, rfl, few, q⟩ := h
    refine ⟨_, (pss_cons (ps_set (i := 1) sc__law_deep.nd rfl (by first | exact Or.inl rfl | exact Or.inr rfl) (pe_tup pa_nil))
      (pss_cons (ps_for PassesOwn.never rfl (pi_range1 (by rfl) T.b.range (pa_cons (pv 0) pa_nil)) (pg_name (i := 2) sc__law_deep.nd rfl (by first | exact Or.inl rfl | exact Or.inr rfl)) (pss_one (ps_set (i := 1) sc__law_deep.nd rfl (by first | exact Or.inl rfl | exact Or.inr rfl) (pe_tup (pa_cons (pv 1) pa_nil)))))
      (pss_one (ps_ret (pv 1))))), ?_⟩
    refine ⟨small (Nat.le_of_ble_eq_true rfl), fun e ne => ?_⟩
    refine ⟨.int (n : Nat), rfl, (n : Nat), rfl, by omega, by omega, for_range (lo := 0) (n := ((n : Nat) : Int).toNat) (fun i σ H' => (∃ v x2, σ = [some (.int (n : Nat)), some v, x2] ∧ IsTh K C p c H' v (nest i)) ∧ Same H H') ⟨⟨.ref e, _, rfl, .tup T_new .nil⟩, same_new ne⟩ ?_ ?_⟩
    · rintro i σ H' hi ⟨⟨v, x2, rfl, hv⟩, S⟩
      refine ⟨v, rfl, small (Nat.le_of_ble_eq_true rfl), fun d nd => ?_⟩
      exact ⟨⟨.ref d, _, rfl, .tup T_new (.one (hv.same (same_new nd)))⟩, S.trans (same_new nd)⟩
    · rintro σ H' ⟨⟨v, x2, rfl, hv⟩, S⟩
      rw [Int.toNat_natCast] at hv
      exact ⟨v, rfl, q _ v S hv⟩
def spWith (K : PySem.W.Frag) : Sp := fun vs H Q _ => ∃ (a : Addr) (xs : List V) (i : Nat) (v : V), vs = [.ref a, .int (i : Nat), v] ∧ SqT K H a xs ∧ i < xs.length ∧ xs.length ≤ 100000 ∧ ∀ H' r, Same H H' → SqT K H' r (xs.take i ++ [v] ++ xs.drop (i + 1)) → Q (.ref r) H'
theorem ok__law_with {f : Addr} {fd : FuncData} (D : Df K mg "_law_with" ["_law_row", "_law_place", "_law_thing"] s__law_with f fd) (T : Tx K mg C) : Ca P w K mg base 1 "_law_with" (spWith K) := by
  refine D.ca sc__law_with (fun vs H Q E h => ?_) (fun cdv A outer s H vs Q E hr h => ?_)
  · obtain ⟨a, xs, i, v, rfl, _⟩ := h
    rfl
  · obtain ⟨a, xs, i, v, rfl, ha, il, few, q⟩ := h
    refine ⟨_, (pss_one (ps_ret (pe_callTy call_tuple_of (by rfl) T.b.tuple boot_tuple (pa_cons (pe_op op_cat (pe_op op_cat (pe_callTy call_list_of (by rfl) T.b.list boot_list (pa_cons (pe_slice sl_tupA (pv 0) po_none (po_some (pv 1))) pa_nil)) (pe_lst (pa_cons (pv 2) pa_nil))) (pe_callTy call_list_of (by rfl) T.b.list boot_list (pa_cons (pe_slice sl_tupA (pv 0) (po_some (pe_op op_add (pv 1) pe_int)) po_none) pa_nil))) pa_nil)))), ?_⟩
    refine ⟨.ref a, rfl, .int (i : Nat), rfl, (i : Nat), rfl, slA_take rfl ha (by omega) fun H1 r1 e1 h1 => ?_⟩
    refine ⟨r1, _, rfl, .inr h1, fun l1 n1 => ?_⟩
    refine ⟨v, rfl, small (Nat.le_of_ble_eq_true rfl), fun l2 n2 => ?_⟩
    have g1 := same_new (o := .lst [v]) n2 l1 _ upd_same
    refine ⟨l1, l2, xs.take i, [v], rfl, rfl, g1, upd_same, by rw [sizeLine_eq, List.length_take]; show min i xs.length + 1 ≤ _; omega, fun l3 n3 => ?_⟩
    have S3 : Same H _ := e1.trans (((same_new (o := .lst (xs.take i)) n1).trans (same_new (o := .lst [v]) n2)).trans (same_new (o := .lst (xs.take i ++ [v])) n3))
    refine ⟨.ref a, rfl, .int (i : Nat), rfl, (i : Nat), 1, rfl, rfl, _, rfl, ?_⟩
    refine slA_dropN (z := ((i : Nat) : Int) + 1) (i := i + 1) rfl (T_seq S3 ha) (by omega) fun H2 r2 e2 h2 => ?_
    have g3 := e2 l3 _ (upd_same (o := .lst (xs.take i ++ [v])))
    refine ⟨r2, _, rfl, .inr h2, fun l4 n4 => ?_⟩
    have g4 := same_new (o := .lst (xs.drop (i + 1))) n4 l3 _ g3
    refine ⟨l3, l4, _, _, rfl, rfl, g4, upd_same, by rw [sizeLine_eq, List.length_append, List.length_take, List.length_drop]; show min i xs.length + 1 + _ ≤ _; omega, fun l5 n5 => ?_⟩
    refine ⟨l5, _, rfl, .inl ⟨.inl (.inl upd_same), fun r nr => ?_⟩⟩
    have S : Same H _ := ((S3.trans e2).trans (same_new n4)).trans ((same_new (o := .lst (xs.take i ++ [v] ++ xs.drop (i + 1))) n5).trans (same_new (o := .tup (xs.take i ++ [v] ++ xs.drop (i + 1))) nr))
    exact q _ r S T_new
end

end LW
set_option Elab.async false
set_option linter.all false
set_option maxRecDepth 100000
set_option maxHeartbeats 4000000
namespace LW
open PySem PySem.Spec PyProof.Rows L2 RS LB
section
variable {P : Program} {w : World} {K : PySem.W.Frag} {mg : Str → Option Value} {base : Heap} {C : Addr}
def spStrange (K : PySem.W.Frag) (C : Addr) : Sp := fun vs H Q _ => ∃ (p c : Addr), vs = [.ref p] ∧ Pool H p c ∧ ∀ H' v t, But p c H H' → Pool H' p c → IsTh K C p c H' v t → t.sz ≤ 10000 → Q v H'
theorem good11 : GoodP 1 1 [] := ⟨by decide, by decide, by decide, by decide, by decide, fun k hk => (by cases hk), .nil⟩
theorem th_lst {H : Hp} {p c a : Addr} {vs : List V} {ts : List Th} (Po : Pool H p c) (n : H a = none) (h : IsThs K C p c H vs ts) : IsTh K C p c (upd H a (.lst vs)) (.ref a) (.lst ts) := .lst upd_same (Po.np n).1 (Po.np n).2 (h.same (same_new n))
theorem th_tup {H : Hp} {p c a : Addr} {vs : List V} {ts : List Th} (n : H a = none) (h : IsThs K C p c H vs ts) : IsTh K C p c (upd H a (.tup vs)) (.ref a) (.tup ts) := .tup T_new (h.same (same_new n))
theorem ths_new {H H' : Hp} {p c : Addr} {v : V} {t : Th} {vs : List V} {ts : List Th} (e : Same H H') (h : IsThs K C p c H vs ts) (g : IsTh K C p c H' v t) : IsThs K C p c H' (vs ++ [v]) (ts ++ [t]) := (h.same e).app (.one g)
def Few (ts : List Th) : Prop := ∀ t ∈ ts, t.sz ≤ 10000
theorem Few.nil : Few [] := fun t h => by cases h
theorem Few.cons {t : Th} {ts : List Th} (h : t.sz ≤ 10000) (g : Few ts) : Few (t :: ts) := fun u hu => by
  rcases List.mem_cons.mp hu with rfl | hu
  · exact h
  · exact g u hu
theorem Few.new {t : Th} {ts : List Th} (g : Few ts) (h : t.sz ≤ 10000) : Few (ts ++ [t]) := fun u hu => by
  rcases List.mem_append.mp hu with hu | hu
  · exact g u hu
  · rw [List.mem_singleton.mp hu]; exact h
theorem Few.app {ts us : List Th} (g : Few ts) (h : Few us) : Few (ts ++ us) := fun u hu => (List.mem_append.mp hu).elim (g u) (h u)
theorem ths_rep {H : Hp} {p c : Addr} {v : V} {t : Th} (h : IsTh K C p c H v t) (n : Nat) : IsThs K C p c H (List.replicate n [v]).flatten (List.replicate n t) := by
  rw [show (List.replicate n [v]).flatten = List.replicate n v by simp]
  exact .rep h n
theorem rep_sz (n : Nat) (t : Th) (h : n ≤ 10000) : (Th.tup (List.replicate n t)).sz ≤ 10000 := by
  show (List.replicate n t).length ≤ 10000
  rw [List.length_replicate]
  exact h
theorem ok__law_strange {f : Addr} {fd : FuncData} (D : Df K mg "_law_strange" ["_law_pool_here"] s__law_strange f fd) (T : Tx K mg C) (c__law_some : Ca P w K mg base 2 "_law_some" (spSome K)) (c__law_deep : Ca P w K mg base 1 "_law_deep" (spDeep K C)) (m_Program : Ma P w K mg base 5 "Program" C (spInit K C)) :
    Ca P w K mg base 7 "_law_strange" (spStrange K C) := by
  refine D.ca sc__law_strange (fun vs H Q E h => ?_) (fun cdv A outer s H vs Q E hr h => ?_)
  · obtain ⟨p, c, rfl, _⟩ := h
    rfl
  · obtain ⟨p, c, rfl, hP, q⟩ := h
    refine ⟨_, (pss_cons (ps_set (i := 1) sc__law_strange.nd rfl (by first | exact Or.inl rfl | exact Or.inr rfl) (pe_lst (pa_cons pe_non (pa_cons pe_bl (pa_cons pe_bl (pa_cons pe_int (pa_cons pe_int (pa_cons (pe_un un_neg pe_int) (pa_cons pe_int (pa_cons (pe_op op_pow pe_int pe_int) (pa_cons pe_str (pa_cons pe_str (pa_cons pe_str (pa_cons (pe_lst pa_nil) (pa_cons (pe_lst (pa_cons pe_int pa_nil)) (pa_cons pe_dnewK (pa_cons (pe_disp (pps_cons pe_str pe_int pps_nil) (by rfl) (by rfl) (fun z => by cases z) (by decide)) (pa_cons (pe_tup pa_nil) (pa_cons (pe_tup (pa_cons pe_int pa_nil)) (pa_cons (pe_tup (pa_cons pe_int (pa_cons pe_int pa_nil))) (pa_cons (pe_tup (pa_cons pe_bl pa_nil)) (pa_cons (pe_tup (pa_cons pe_str pa_nil)) pa_nil))))))))))))))))))))))
      (pss_one (ps_ret (pe_k c__law_some hr (by omega) (by rfl) (pa_cons (pv 0) (pa_cons (pe_op op_cat (pv 1) (pe_lst (pa_cons (pe_tup (pa_cons pe_non pa_nil)) (pa_cons (pe_tup (pa_cons pe_int (pa_cons pe_int (pa_cons (pe_tup (pa_cons pe_int pa_nil)) pa_nil)))) (pa_cons (pe_k c__law_deep hr (by omega) (by rfl) (pa_cons pe_int pa_nil)) (pa_cons (pe_mkK m_Program hr (by omega) (by rfl) (pa_cons pe_int (pa_cons pe_int (pa_cons (pe_tup pa_nil) pa_nil)))) (pa_cons (pe_tup (pa_cons (pe_mkK m_Program hr (by omega) (by rfl) (pa_cons pe_int (pa_cons pe_int (pa_cons (pe_tup pa_nil) pa_nil)))) pa_nil)) (pa_cons (pe_op op_repN (pe_tup (pa_cons pe_int pa_nil)) pe_int) pa_nil)))))))) pa_nil)))))), ?_⟩
    refine ⟨1, rfl, 10, 64, rfl, rfl, ⟨by decide, by decide, by decide⟩, ?_⟩
    have A0 : IsThs K C p c H [.non, .bl true, .bl false, .int 0, .int 1, .int (-1), .int 2, .int (10 ^ 64), .str "", .str "0", .str "boxes"] _ := .cons .non (.cons (.bl _) (.cons (.bl _) (.cons (.int _) (.cons (.int _) (.cons (.int _) (.cons (.int _) (.cons (.int _) (.cons (.str _) (.cons (.str _) (.cons (.str _) .nil))))))))))
    have F0 : Few [.non, .bl true, .bl false, .int 0, .int 1, .int (-1), .int 2, .int (10 ^ 64), .str "", .str "0", .str "boxes"] := .cons (Nat.zero_le _) (.cons (Nat.zero_le _) (.cons (Nat.zero_le _) (.cons (Nat.zero_le _) (.cons (Nat.zero_le _) (.cons (Nat.zero_le _) (.cons (Nat.zero_le _) (.cons (Nat.zero_le _) (.cons (Nat.zero_le _) (.cons (Nat.zero_le _) (.cons (Nat.zero_le _) .nil))))))))))
    refine ⟨small (Nat.le_of_ble_eq_true rfl), fun a1 n1 => ⟨small (Nat.le_of_ble_eq_true rfl), fun a2 n2 => ?_⟩⟩
    have S1 := same_new (o := .lst []) n1
    have A1 := ths_new S1 A0 (th_lst hP n1 .nil)
    have P1 := hP.same S1
    have S2 := same_new (o := .lst [.int 0]) n2
    have A2 := ths_new S2 A1 (th_lst P1 n2 (.one (.int 0)))
    have P2 := P1.same S2
    intro a3 n3
    have S3 := same_new (o := .dK []) n3
    have A3 := ths_new S3 A2 (.dic upd_same (P2.np n3).1 (P2.np n3).2)
    have P3 := P2.same S3
    intro a4 n4
    refine ⟨upd_same, [(.inr "a", .int 1)], rfl, by decide, ?_⟩
    have S4 := same_mut (o := .dK (mergeK [] [(.inr "a", .int 1)])) (same_new (o := .dK []) n4) n4
    have A4 := ths_new S4 A3 (.dic upd_same (P3.np n4).1 (P3.np n4).2)
    have P4 := P3.same S4
    have S := ((S1.trans S2).trans S3).trans S4
    have F4 := ((((F0.new (t := .lst []) (Nat.zero_le _)).new (t := .lst [.int 0]) (Nat.zero_le _)).new (t := .dic) (Nat.zero_le _)).new (t := .dic) (Nat.zero_le _))
    generalize upd (upd (upd (upd (upd H a1 (.lst [])) a2 (.lst [.int 0])) a3 (.dK [])) a4 (.dK [])) a4 (.dK (mergeK [] [(.inr "a", .int 1)])) = H4 at S A4 P4 ⊢
    clear S1 S2 S3 S4 A1 A2 A3 A0 P1 P2 P3 n1 n2 n3 n4
    refine ⟨small (Nat.le_of_ble_eq_true rfl), fun a5 n5 => ⟨small (Nat.le_of_ble_eq_true rfl), fun a6 n6 => ⟨small (Nat.le_of_ble_eq_true rfl), fun a7 n7 => ⟨small (Nat.le_of_ble_eq_true rfl), fun a8 n8 => ⟨small (Nat.le_of_ble_eq_true rfl), fun a9 n9 => ?_⟩⟩⟩⟩⟩
    have A5 := ths_new (same_new n5) A4 (th_tup n5 .nil)
    have A6 := ths_new (same_new n6) A5 (th_tup n6 (.one (.int 0)))
    have A7 := ths_new (same_new n7) A6 (th_tup n7 (.cons (.int 0) (.one (.int 0))))
    have A8 := ths_new (same_new n8) A7 (th_tup n8 (.one (.bl true)))
    have A9 := ths_new (same_new n9) A8 (th_tup n9 (.one (.str "0")))
    have S9 := S.trans (((((same_new (o := .tup []) n5).trans (same_new (o := .tup [.int 0]) n6)).trans (same_new (o := .tup [.int 0, .int 0]) n7)).trans (same_new (o := .tup [.bl true]) n8)).trans (same_new (o := .tup [.str "0"]) n9))
    have F9 := (((((F4.new (t := .tup []) (Nat.zero_le _)).new (t := .tup [.int 0]) (Nat.le_of_ble_eq_true rfl)).new (t := .tup [.int 0, .int 0]) (Nat.le_of_ble_eq_true rfl)).new (t := .tup [.bl true]) (Nat.le_of_ble_eq_true rfl)).new (t := .tup [.str "0"]) (Nat.le_of_ble_eq_true rfl))
    generalize upd (upd (upd (upd (upd H4 a5 (.tup [])) a6 (.tup [.int 0])) a7 (.tup [.int 0, .int 0])) a8 (.tup [.bl true])) a9 (.tup [.str "0"]) = H9 at S9 A9 ⊢
    clear A4 A5 A6 A7 A8 n5 n6 n7 n8 n9 S
    have P9 := hP.same S9
    refine ⟨small (Nat.le_of_ble_eq_true rfl), fun l nl => ?_⟩
    have Sl := S9.trans (same_new (o := .lst [.non, .bl true, .bl false, .int 0, .int 1, .int (-1), .int 2, .int (10 ^ 64), .str "", .str "0", .str "boxes", .ref a1, .ref a2, .ref a3, .ref a4, .ref a5, .ref a6, .ref a7, .ref a8, .ref a9]) nl)
    have hl : (upd H9 l (.lst [.non, .bl true, .bl false, .int 0, .int 1, .int (-1), .int 2, .int (10 ^ 64), .str "", .str "0", .str "boxes", .ref a1, .ref a2, .ref a3, .ref a4, .ref a5, .ref a6, .ref a7, .ref a8, .ref a9])) l = some _ := upd_same
    have Al := A9.same (same_new (o := .lst [.non, .bl true, .bl false, .int 0, .int 1, .int (-1), .int 2, .int (10 ^ 64), .str "", .str "0", .str "boxes", .ref a1, .ref a2, .ref a3, .ref a4, .ref a5, .ref a6, .ref a7, .ref a8, .ref a9]) nl)
    clear A9 P9 S9
    have P10 := hP.same Sl
    refine ⟨.ref p, rfl, .ref l, rfl, small (Nat.le_of_ble_eq_true rfl), fun b1 m1 => ⟨small (Nat.le_of_ble_eq_true rfl), fun b2 m2 => ⟨small (Nat.le_of_ble_eq_true rfl), fun b3 m3 => ?_⟩⟩⟩
    have B1 := IsThs.one (th_tup (p := p) (c := c) (C := C) (K := K) m1 (.one .non))
    have B3 := ths_new ((same_new (o := .tup [.int 0]) m2).trans (same_new (o := .tup [.int 0, .int 0, .ref b2]) m3)) B1 (th_tup m3 (.cons (.int 0) (.cons (.int 0) (.one (th_tup m2 (.one (.int 0)))))))
    have Z3 := ((same_new (o := .tup [.non]) m1).trans (same_new (o := .tup [.int 0]) m2)).trans (same_new (o := .tup [.int 0, .int 0, .ref b2]) m3)
    clear B1
    refine ⟨p, c, 70, rfl, by decide, fun H12 vd e12 hd => ?_⟩
    have B4 := ths_new e12 B3 hd
    refine ⟨small (Nat.le_of_ble_eq_true rfl), fun b4 m4 => ?_⟩
    intro p1 x1 np1 nx1 ne1
    have Y1 : Same (upd H12 b4 (.tup [])) (upd (upd (upd H12 b4 (.tup [])) x1 (.own p1)) p1 (.ins C x1 [])) := (same_new nx1).trans (same_new (by rw [upd_ne ne1.symm]; exact np1))
    refine ⟨p1, x1, b4, 1, 1, [], rfl, upd_same, T_seq Y1 T_new, (fun z hz => by cases hz), good11, fun H13 e13 g13 => ⟨rfl, ?_⟩⟩
    have Y3 : Same (upd H12 b4 (.tup [])) H13 := fun b o e => e13 b o (ne_of_none e np1) (Y1 b o e)
    have Z13 := (Z3.trans e12).trans ((same_new (o := .tup []) m4).trans Y3)
    have n13 : p1 ≠ p ∧ p1 ≠ c := ((P10.same (Z3.trans e12)).same (same_new (o := .tup []) m4)).np np1
    have B5 := ths_new ((same_new (o := .tup []) m4).trans Y3) B4 (.pg g13 n13.1 n13.2)
    clear Y1 Y3 e13 B3 B4 np1 nx1 ne1 m4 hd Z3 e12
    refine ⟨small (Nat.le_of_ble_eq_true rfl), fun b5 m5 => ?_⟩
    intro p2 x2 np2 nx2 ne2
    have Y1 : Same (upd H13 b5 (.tup [])) (upd (upd (upd H13 b5 (.tup [])) x2 (.own p2)) p2 (.ins C x2 [])) := (same_new nx2).trans (same_new (by rw [upd_ne ne2.symm]; exact np2))
    refine ⟨p2, x2, b5, 1, 1, [], rfl, upd_same, T_seq Y1 T_new, (fun z hz => by cases hz), good11, fun H14 e14 g14 => ⟨rfl, ?_⟩⟩
    have Y3 : Same (upd H13 b5 (.tup [])) H14 := fun b o e => e14 b o (ne_of_none e np2) (Y1 b o e)
    have Z14 := Z13.trans ((same_new (o := .tup []) m5).trans Y3)
    have n14 : p2 ≠ p ∧ p2 ≠ c := ((P10.same Z13).same (same_new (o := .tup []) m5)).np np2
    refine ⟨small (Nat.le_of_ble_eq_true rfl), fun b6 m6 => ⟨small (Nat.le_of_ble_eq_true rfl), fun b7 m7 => ?_⟩⟩
    have B6 := ths_new (((same_new (o := .tup []) m5).trans Y3).trans (same_new m6)) B5 (th_tup m6 (.one (.pg g14 n14.1 n14.2)))
    refine ⟨b7, 9000, [.int 0], rfl, rfl, T_new, by decide, by decide, by decide, fun b8 m8 => ?_⟩
    have B7 := ths_new ((same_new m7).trans (same_new m8)) B6 (.tup T_new (ths_rep (.int 0) (Int.toNat 9000)))
    have G7 : Few ([Th.tup [Th.non]] ++ [Th.tup [Th.int 0, Th.int 0, Th.tup [Th.int 0]]] ++ [nest 70] ++ [Th.pg] ++ [Th.tup [Th.pg]] ++ [Th.tup (List.replicate (Int.toNat 9000) (.int 0))]) :=
      (((((Few.nil.cons (t := Th.tup [Th.non]) (Nat.le_of_ble_eq_true rfl)).new (t := Th.tup [Th.int 0, Th.int 0, Th.tup [Th.int 0]]) (Nat.le_of_ble_eq_true rfl)).new (Nat.le_trans (nest_sz 70) (by decide))).new (t := .pg) (Nat.zero_le _)).new (t := Th.tup [Th.pg]) (Nat.le_of_ble_eq_true rfl)).new (rep_sz _ _ (by decide))
    have Z8 := Z14.trans (((same_new (o := .tup [.ref p2]) m6).trans (same_new (o := .tup [.int 0]) m7)).trans (same_new (o := .tup (List.replicate (Int.toNat 9000) [V.int 0]).flatten) m8))
    refine ⟨small (Nat.le_of_ble_eq_true rfl), fun l2 nl2 => ?_⟩
    have Z9 := Z8.trans (same_new (o := .lst [.ref b1, .ref b3, vd, .ref p1, .ref b6, .ref b8]) nl2)
    have B9 := B7.same (same_new (o := .lst [.ref b1, .ref b3, vd, .ref p1, .ref b6, .ref b8]) nl2)
    have A10 := Al.same Z9
    have h10 := Z9 l _ hl
    refine ⟨l, l2, _, _, rfl, rfl, h10, upd_same, small (Nat.le_of_ble_eq_true rfl), fun l3 nl3 => ?_⟩
    have P9 := P10.same Z9
    have nlp := P9.np nl3
    refine ⟨p, c, l3, _, rfl, P9.same (same_new nl3), nlp.1, nlp.2, .inl (.inl upd_same), Nat.le_of_ble_eq_true rfl, Nat.le_of_ble_eq_true rfl, fun H' v B' P' hv => ?_⟩
    obtain ⟨t, ht, h⟩ := (A10.app B9).mem hv
    exact q H' v t ((LB.Same.but (Sl.trans (Z9.trans (same_new nl3)))).trans B') P' ((h.same (same_new nl3)).but (P9.same (same_new nl3)) B') ((F9.app G7) t ht)
end

end LW
set_option Elab.async false
set_option linter.all false
set_option maxRecDepth 100000
set_option maxHeartbeats 4000000
namespace LW
open PySem PySem.Spec PyProof.Rows L2 RS LB
section
variable {P : Program} {w : World} {K : PySem.W.Frag} {mg : Str → Option Value} {base : Heap} {C : Addr}
/-! ### the law's own judge -/
theorem wk_all {L : List RK} {ts : List Th} (h : (Th.tup ts).walk L) : ∀ t ∈ ts, t.inR 0 ((L.length : Int) - 1) = true := by
  obtain ⟨w, rfl, hw, _⟩ := h
  exact List.all_eq_true.mp (nats_all hw)
theorem take_all {n : Nat} {ts : List Th} {i : Nat} {t : Th} (e : ts[i]? = some t) (h : ((ts.take i).all fun t => t.inR 0 ((n : Int) - 1)) = true) (g : t.inR 0 ((n : Int) - 1) = true) : ((ts.take (i + 1)).all fun t => t.inR 0 ((n : Int) - 1)) = true := by
  rw [List.take_add_one, e, List.all_append, h]
  show (true && (t.inR 0 ((n : Int) - 1) && true)) = true
  rw [g]
  rfl
theorem walk_nats {L : List RK} {w : List Nat} (hw : ∀ k ∈ w, k < L.length) : (Th.tup (w.map fun k => Th.int (k : Nat))).walk L ↔ leadsL L (w.map .rd) := by
  refine ⟨fun h => ?_, fun h => ⟨w, rfl, hw, h⟩⟩
  obtain ⟨w', e, _, h⟩ := h
  have : w' = w := by
    have := congrArg (List.map fun t : Th => match t with | .int i => i.toNat | _ => 0) e
    rw [List.map_map, List.map_map] at this
    simpa [Function.comp_def] using this.symm
  rw [← this]
  exact h
theorem leads_take {L : List RK} {w : List Nat} {i : Nat} {j k : Nat} (ej : w[i]? = some j) (ek : w[i + 1]? = some k) (h : leadsL L ((w.take (i + 1)).map .rd)) : leadsL L ((w.take (i + 2)).map .rd) ↔ rds L j = rdr L k := by
  rw [List.take_add_one (i := i + 1), ek, List.map_append]
  show leadsL L ((w.take (i + 1)).map .rd ++ [.rd k]) ↔ _
  rw [lead_snoc]
  have gl : ((w.take (i + 1)).map Lgi.rd).getLast? = some (.rd j) := by
    rw [List.take_add_one, ej, List.map_append, List.getLast?_append]
    rfl
  refine ⟨fun h => h.2.2 _ gl, fun e => ⟨h, by unfold Lgi.leads; trivial, fun z hz => ?_⟩⟩
  rw [gl] at hz
  cases hz
  exact e
theorem leads_not {L : List RK} {w : List Nat} {i : Nat} (h : ¬ leadsL L ((w.take i).map .rd)) : ¬ leadsL L (w.map .rd) := fun z => by
  rw [List.map_take] at h
  exact lead_not h z
theorem rds_at {L : List RK} {ks : Ks} {i : Nat} (e : ks.map (·.2) = L) (h : i < ks.length) : rds L i = (ks[i]).2.2.1 := by
  subst e
  unfold rds
  rw [ko_at h]
theorem rdr_at {L : List RK} {ks : Ks} {i : Nat} (e : ks.map (·.2) = L) (h : i < ks.length) : rdr L i = (ks[i]).2.1 := by
  subst e
  unfold rdr
  rw [ko_at h]
theorem int_is {H : Hp} {p c : Addr} {v : V} {j : Int} (h : IsTh K C p c H v (.int j)) : v = .int j := by cases h; rfl
def spLawWalk (K : PySem.W.Frag) (C : Addr) : Sp := fun vs H Q _ => ∃ (p c pa : Addr) (v : V) (s si : Int) (L : List RK) (t : Th), vs = [.ref pa, v] ∧ PtAt K H pa s si L ∧ L.length ≤ 900 ∧ IsTh K C p c H v t ∧ t.sz ≤ 100000 ∧ ∀ b, (b = true ↔ t.walk L) → Q (.bl b) H
theorem ok__law_is_walk {f : Addr} {fd : FuncData} (D : Df K mg "_law_is_walk" ["_law_parts_here", "_law_thing"] s__law_is_walk f fd) (T : Tx K mg C) (Z : ThC K C) (c__law_integer : Ca P w K mg base 1 "_law_integer" (spIntegerT K C)) : Ca P w K mg base 2 "_law_is_walk" (spLawWalk K C) := by
  refine D.ca sc__law_is_walk (fun vs H Q E h => ?_) (fun cdv A outer s H vs Q E hr h => ?_)
  · obtain ⟨p, c, pr, v, si, ta, L, t, rfl, _⟩ := h
    rfl
  · obtain ⟨p, c, pa, v, si, ta, L, t, rfl, hp, lf, ht, sz, q⟩ := h
    obtain ⟨r, ks, h1, h2, h3, h7⟩ := id hp.ex
    have lk : (ks.map rf).length = L.length := by rw [← h7, List.length_map, List.length_map]
    refine ⟨_, (pss_cons (ps_if (pt_not (pt_val (pe_callB call_isi (by rfl) T.b.isinstance boot_isinstance (pa_cons (pv 1) (pa_cons (pe_bltn (v := .ty "tuple") (by rfl) T.b.tuple boot_tuple rfl) pa_nil))))) (pss_one (ps_ret pe_bl)) pss_nil)
      (pss_cons (ps_for PassesOwn.never rfl (pi_range1 (by rfl) T.b.range (pa_cons (pe_callB call_len_seq (by rfl) T.b.len boot_len (pa_cons (pv 1) pa_nil)) pa_nil)) (pg_name (i := 2) sc__law_is_walk.nd rfl (by first | exact Or.inl rfl | exact Or.inr rfl)) (pss_one (ps_if (PW.pt (pw_or (pt_not (pt_val (pe_k c__law_integer hr (by omega) (by rfl) (pa_cons (pe_ix ix_tup (pv 1) (pv 2) (fun _ _ => rfl)) pa_nil)))) (pw_or (pt_cmpR op_lt (pe_ix ix_tup (pv 1) (pv 2) (fun _ _ => rfl)) pe_int (nomark _)) (pw_or1 (pt_cmpR op_ge (pe_ix ix_tup (pv 1) (pv 2) (fun _ _ => rfl)) (pe_callB call_len_seq (by rfl) T.b.len boot_len (pa_cons (pe_ix ix_tup (pv 0) pe_int (fun _ _ => rfl)) pa_nil)) (nomark _)))))) (pss_one (ps_ret pe_bl)) pss_nil)))
      (pss_cons (ps_for PassesOwn.never rfl (pi_range2 (by rfl) T.b.range (pa_cons pe_int (pa_cons (pe_callB call_len_seq (by rfl) T.b.len boot_len (pa_cons (pv 1) pa_nil)) pa_nil))) (pg_name (i := 2) sc__law_is_walk.nd rfl (by first | exact Or.inl rfl | exact Or.inr rfl)) (pss_one (ps_if (pt_cmpR op_ne (pe_ix ix_tup (pe_ix ix_tup (pe_ix ix_tup (pv 0) pe_int (fun _ _ => rfl)) (pe_ix ix_tup (pv 1) (pe_op op_sub (pv 2) pe_int) (fun _ _ => rfl)) (fun _ _ => rfl)) pe_int (fun _ _ => rfl)) (pe_ix ix_tup (pe_ix ix_tup (pe_ix ix_tup (pv 0) pe_int (fun _ _ => rfl)) (pe_ix ix_tup (pv 1) (pv 2) (fun _ _ => rfl)) (fun _ _ => rfl)) pe_int (fun _ _ => rfl)) (nomark _)) (pss_one (ps_ret pe_bl)) pss_nil)))
      (pss_one (ps_ret pe_bl))))), ?_⟩
    refine ⟨v, rfl, v, .ty "tuple", _, _, _, rfl, .ty _, ht.tyx Z, kit_tup Z t, t.isTup, rfl, ?_⟩
    cases hz : t.isTup with
    | false =>
      refine iteT (q false ⟨fun h => (Bool.false_ne_true h).elim, fun h => ?_⟩)
      cases t with
      | tup ts => cases hz
      | _ => exact h.elim
    | true =>
      obtain ⟨ts, rfl⟩ := Th.of_tup hz
      have fsz : ts.length ≤ 100000 := sz
      cases ht with
      | @tup a xs _ ha hi =>
        have lx := hi.len
        refine iteF ?_
        refine ⟨.ref a, rfl, a, xs, rfl, .inr ha, _, rfl, by omega, by omega, for_range (lo := 0) (n := ((xs.length : Nat) : Int).toNat) (fun i σ H' => H' = H ∧ (∃ x2, σ = [some (.ref pa), some (.ref a), x2]) ∧ ((ts.take i).all fun t => t.inR 0 ((L.length : Int) - 1)) = true) ⟨rfl, ⟨_, rfl⟩, rfl⟩ ?_ ?_⟩
        · rintro i σ H' hi' ⟨rfl, ⟨x2, rfl⟩, al⟩
          have il : i < xs.length := by omega
          have ex : xs[i]? = some xs[i] := List.getElem?_eq_getElem il
          obtain ⟨t', e1, e2⟩ := hi.at ex
          have ei : (0 : Int) + (i : Nat) = ((i : Nat) : Int) := Int.zero_add _
          have at' : atI xs (0 + (i : Nat)) = some xs[i] := by rw [ei]; exact atI_nat ex
          have no : t'.inR 0 ((L.length : Int) - 1) = false → Q (.bl false) H' := fun h => q false ⟨fun h => (Bool.false_ne_true h).elim, fun h' => by rw [wk_all h' t' (List.mem_of_getElem? e1)] at h; cases h⟩
          refine ⟨.ref a, rfl, .int _, rfl, a, xs, _, _, rfl, rfl, ha, at', p, c, _, t', rfl, e2, t'.isInt, rfl, ?_⟩
          cases hn : t'.isInt with
          | false => exact iteT (iteT (no (Th.inR_no hn)))
          | true =>
            obtain ⟨j, rfl⟩ := Th.of_int hn
            have at' := at'
            rw [int_is e2] at at'
            refine iteF ⟨.ref a, rfl, .int _, rfl, a, xs, _, .int j, rfl, rfl, ha, at', j, 0, rfl, rfl, decide (j < 0), rfl, ?_⟩
            by_cases z0 : j < 0
            · rw [decide_eq_true z0]
              exact iteT (iteT (no (by show (decide ((0 : Int) ≤ j) && decide (j ≤ (L.length : Int) - 1)) = false; rw [decide_eq_false (show ¬ (0 : Int) ≤ j by omega)]; rfl)))
            · rw [decide_eq_false z0]
              refine iteF ⟨.ref a, rfl, .int _, rfl, a, xs, _, .int j, rfl, rfl, ha, at', .ref pa, rfl, pa, _, 2, .ref r, rfl, rfl, h1, rfl, r, _, rfl, .inr h2, j, _, rfl, rfl, decide ((((ks.map rf).length : Nat) : Int) ≤ j), rfl, ?_⟩
              by_cases z1 : (((ks.map rf).length : Nat) : Int) ≤ j
              · rw [decide_eq_true z1]
                exact iteT (no (by show (decide ((0 : Int) ≤ j) && decide (j ≤ (L.length : Int) - 1)) = false; rw [decide_eq_false (show ¬ j ≤ (L.length : Int) - 1 by omega), Bool.and_false]))
              · rw [decide_eq_false z1]
                exact iteF ⟨rfl, ⟨_, rfl⟩, take_all e1 al (by show (decide ((0 : Int) ≤ j) && decide (j ≤ (L.length : Int) - 1)) = true; rw [decide_eq_true (show (0 : Int) ≤ j by omega), decide_eq_true (show j ≤ (L.length : Int) - 1 by omega)]; rfl)⟩
        · rintro σ H' ⟨rfl, ⟨x2, rfl⟩, al⟩
          rw [List.take_of_length_le (by omega)] at al
          obtain ⟨w, rfl, hw⟩ := all_nats al
          obtain rfl := nats_vals hi
          have wl : w.length ≤ 100000 := by rw [List.length_map] at fsz; exact fsz
          refine ⟨.ref a, rfl, a, _, rfl, .inr ha, 1, _, rfl, ⟨by decide, by decide, by omega, by rw [List.length_map]; omega⟩, for_range (lo := 1) (n := (((w.map fun k => V.int (k : Nat)).length : Nat) - 1 : Int).toNat) (fun i σ H'' => H'' = H' ∧ (∃ x2, σ = [some (.ref pa), some (.ref a), x2]) ∧ leadsL L ((w.take (i + 1)).map .rd)) ⟨rfl, ⟨_, rfl⟩, ?_⟩ ?_ ?_⟩
          · cases w with
            | nil => unfold leadsL; trivial
            | cons k w =>
              show leadsL L [.rd k]
              simp only [leadsL, Lgi.leads]
              exact ⟨trivial, trivial, fun j hj => by cases hj⟩
          · rintro i σ H'' hi' ⟨rfl, ⟨x2, rfl⟩, ld⟩
            rw [List.length_map] at hi'
            have il : i + 1 < w.length := by omega
            have ej : w[i]? = some w[i] := List.getElem?_eq_getElem (by omega)
            have ek : w[i + 1]? = some w[i + 1] := List.getElem?_eq_getElem il
            have oj := hw _ (List.mem_of_getElem? ej)
            have ok := hw _ (List.mem_of_getElem? ek)
            have aj : atI (w.map fun k => V.int (k : Nat)) (((1 : Int) + (i : Nat)) - 1) = some (.int (w[i] : Nat)) := by
              rw [show ((1 : Int) + (i : Nat)) - 1 = (i : Nat) by omega]
              exact atI_nat (by rw [List.getElem?_map, ej]; rfl)
            have ak : atI (w.map fun k => V.int (k : Nat)) ((1 : Int) + (i : Nat)) = some (.int (w[i + 1] : Nat)) := by
              rw [show (1 : Int) + (i : Nat) = ((i + 1 : Nat) : Int) by omega]
              exact atI_nat (by rw [List.getElem?_map, ek]; rfl)
            have lks : ks.length = L.length := by rw [← h7, List.length_map]
            have fj : ks[w[i]]? = some (ks[w[i]]'(by omega)) := List.getElem?_eq_getElem (by omega)
            have fk : ks[w[i + 1]]? = some (ks[w[i + 1]]'(by omega)) := List.getElem?_eq_getElem (by omega)
            obtain ⟨tj, yj, _⟩ := h3 _ (List.getElem_mem (show w[i] < ks.length by omega))
            obtain ⟨tk, yk, _⟩ := h3 _ (List.getElem_mem (show w[i + 1] < ks.length by omega))
            have rj : rds L w[i] = (ks[w[i]]'(by omega)).2.2.1 := rds_at h7 _
            have rk : rdr L w[i + 1] = (ks[w[i + 1]]'(by omega)).2.1 := rdr_at h7 _
            have lt := leads_take ej ek ld
            refine ⟨.ref pa, rfl, pa, _, 2, .ref r, rfl, rfl, h1, rfl, .ref a, rfl, .int _, rfl, _, 1, rfl, rfl, a, _, _, _, rfl, rfl, ha, aj, r, _, _, rf (ks[w[i]]'(by omega)), rfl, rfl, h2, atI_nat (by rw [List.getElem?_map, fj]; rfl), _, _, 1, .int _, rfl, rfl, yj, rfl, ?_⟩
            refine ⟨.ref pa, rfl, pa, _, 2, .ref r, rfl, rfl, h1, rfl, .ref a, rfl, .int _, rfl, a, _, _, _, rfl, rfl, ha, ak, r, _, _, rf (ks[w[i + 1]]'(by omega)), rfl, rfl, h2, atI_nat (by rw [List.getElem?_map, fk]; rfl), _, _, 0, .int _, rfl, rfl, yk, rfl, rfl, !decide (V.int (rds L w[i]) = V.int (rdr L w[i + 1])), by rw [rj, rk], ?_⟩
            by_cases z : rds L w[i] = rdr L w[i + 1]
            · rw [decide_eq_true (show V.int (rds L w[i]) = V.int (rdr L w[i + 1]) by rw [z])]
              exact iteF ⟨rfl, ⟨_, rfl⟩, lt.mpr z⟩
            · rw [decide_eq_false (fun h => z (V.int.inj h))]
              refine iteT (q false ⟨fun h => (Bool.false_ne_true h).elim, fun h => ?_⟩)
              exact absurd ((walk_nats hw).mp h) (leads_not (i := i + 2) fun h => z (lt.mp h))
          · rintro σ H'' ⟨rfl, ⟨x2, rfl⟩, ld⟩
            refine q true ⟨fun _ => (walk_nats hw).mpr ?_, fun _ => rfl⟩
            rw [List.take_of_length_le (by rw [List.length_map]; omega)] at ld
            exact ld
end

end LW
set_option Elab.async false
set_option linter.all false
set_option maxRecDepth 100000
set_option maxHeartbeats 4000000
namespace LW
open PySem PySem.Spec PyProof.Rows L2 RS LB
section
variable {P : Program} {w : World} {K : PySem.W.Frag} {mg : Str → Option Value} {base : Heap} {C : Addr}
/-! ### walks led on -/
def spWk (K : PySem.W.Frag) : Sp := fun vs H Q _ => ∃ (p c pa : Addr) (m s si : Int) (L : List RK), vs = [.ref p, .ref pa, .int m] ∧ Pool H p c ∧ PtAt K H pa s si L ∧ L.length ≤ 900 ∧ 0 < m ∧ m ≤ 3000 ∧
  ∀ H' r (w : List Nat), But p c H H' → Pool H' p c → SqT K H' r (w.map fun k : Nat => V.int (k : Nat)) → (∀ k ∈ w, k < L.length) → leadsL L (w.map .rd) → w.length ≤ 4000 → Q (.ref r) H'
theorem leads_on1 {L : List RK} {w : List Nat} {j k : Nat} (gl : w.getLast? = some j) (h : leadsL L (w.map .rd)) (e : rds L j = rdr L k) : leadsL L ((w ++ [k]).map .rd) := by
  rw [List.map_append]
  show leadsL L (w.map .rd ++ [.rd k])
  rw [lead_snoc]
  refine ⟨h, by unfold Lgi.leads; trivial, fun z hz => ?_⟩
  rw [List.getLast?_map, gl] at hz
  cases hz
  exact e
theorem mem_snoc {n k : Nat} {w : List Nat} (h : ∀ j ∈ w, j < n) (g : k < n) : ∀ j ∈ w ++ [k], j < n := fun j hj => (List.mem_append.mp hj).elim (h j) fun e => by rw [List.mem_singleton.mp e]; exact g
theorem ok__law_walk {f : Addr} {fd : FuncData} (D : Df K mg "_law_walk" ["_law_pool_here", "_law_parts_here", "_law_most"] s__law_walk f fd) (T : Tx K mg C) (c__law_draw : Ca P w K mg base 1 "_law_draw" spDraw) (c__law_some : Ca P w K mg base 2 "_law_some" (spSome K)) (c__law_from : Ca P w K mg base 1 "_law_from" (spFrom K)) : Ca P w K mg base 3 "_law_walk" (spWk K) := by
  refine D.ca sc__law_walk (fun vs H Q E h => ?_) (fun cdv A outer s H vs Q E hr h => ?_)
  · obtain ⟨p, c, pa, m, si, ta, L, rfl, _⟩ := h
    rfl
  · obtain ⟨p, c, pa, m, si, ta, L, rfl, hP, hp, lf, m0, m1, q⟩ := h
    obtain ⟨r, ks, h1, h2, h3, h7⟩ := id hp.ex
    have lk : (ks.map rf).length = L.length := by rw [← h7, List.length_map, List.length_map]
    have lks : ks.length = L.length := by rw [← h7, List.length_map]
    refine ⟨_, (pss_cons (ps_set (i := 3) sc__law_walk.nd rfl (by first | exact Or.inl rfl | exact Or.inr rfl) (pe_lst pa_nil))
      (pss_cons (ps_if (pt_cmpR op_gt (pe_callB call_len_seq (by rfl) T.b.len boot_len (pa_cons (pe_ix ix_tup (pv 1) pe_int (fun _ _ => rfl)) pa_nil)) pe_int (nomark _)) (pss_cons (ps_expr (pe_bm PySem.F.plainAttrs_list PySem.F.slot_list_append PySem.F.type_list_append mt_append (pv 3) (pa_cons (pe_k c__law_draw hr (by omega) (by rfl) (pa_cons (pv 0) (pa_cons (pe_callB call_len_seq (by rfl) T.b.len boot_len (pa_cons (pe_ix ix_tup (pv 1) pe_int (fun _ _ => rfl)) pa_nil)) pa_nil))) pa_nil)))
      (pss_one (ps_for PassesOwn.never rfl (pi_range1 (by rfl) T.b.range (pa_cons (pe_k c__law_draw hr (by omega) (by rfl) (pa_cons (pv 0) (pa_cons (pv 2) pa_nil))) pa_nil)) (pg_name (i := 4) sc__law_walk.nd rfl (by first | exact Or.inl rfl | exact Or.inr rfl)) (pss_cons (ps_set (i := 5) sc__law_walk.nd rfl (by first | exact Or.inl rfl | exact Or.inr rfl) (pe_k c__law_from hr (by omega) (by rfl) (pa_cons (pv 1) (pa_cons (pe_ix ix_tup (pe_ix ix_tup (pe_ix ix_tup (pv 1) pe_int (fun _ _ => rfl)) (pe_ix ix_list (pv 3) (pe_un un_neg pe_int) (fun _ _ => rfl)) (fun _ _ => rfl)) pe_int (fun _ _ => rfl)) pa_nil))))
      (pss_cons (ps_if (pt_cmpR op_eq (pe_callB call_len_seq (by rfl) T.b.len boot_len (pa_cons (pv 5) pa_nil)) pe_int (nomark _)) (pss_one ps_break) pss_nil)
      (pss_one (ps_expr (pe_bm PySem.F.plainAttrs_list PySem.F.slot_list_append PySem.F.type_list_append mt_append (pv 3) (pa_cons (pe_k c__law_some hr (by omega) (by rfl) (pa_cons (pv 0) (pa_cons (pv 5) pa_nil))) pa_nil))))))))) pss_nil)
      (pss_one (ps_ret (pe_callTy call_tuple_of (by rfl) T.b.tuple boot_tuple (pa_cons (pv 3) pa_nil)))))), ?_⟩
    refine ⟨small (Nat.le_of_ble_eq_true rfl), fun R nR => ?_⟩
    have nRp := hP.np nR
    have S1 := same_new (o := .lst []) nR
    refine ⟨.ref pa, rfl, pa, _, 2, .ref r, rfl, rfl, T_seq S1 h1, rfl, r, _, rfl, .inr (T_seq S1 h2), _, 0, rfl, rfl, decide ((0 : Int) < ((ks.map rf).length : Nat)), rfl, ?_⟩
    by_cases z : (0 : Int) < ((ks.map rf).length : Nat)
    · rw [decide_eq_true z]
      refine iteT ⟨.ref R, rfl, .inl ⟨rfl, _, .inl (.inl upd_same)⟩, ?_⟩
      refine ⟨.ref p, rfl, .ref pa, rfl, pa, _, 2, .ref r, rfl, rfl, T_seq S1 h1, rfl, r, _, rfl, .inr (T_seq S1 h2), p, c, _, rfl, hP.same S1, z, by omega, fun H2 d B2 P2 d0 d1 => ?_⟩
      have g1 := B2 R _ nRp.1 nRp.2 (upd_same (o := .lst []))
      refine ⟨R, [], .int d, rfl, rfl, g1, small (Nat.le_of_ble_eq_true rfl), ?_⟩
      have B3 : But p c H (upd H2 R (.lst [.int d])) := But.mut ((LB.Same.but S1).trans B2) nR
      have P3 : Pool (upd H2 R (.lst [.int d])) p c := P2.upd nRp
      refine ⟨.ref p, rfl, .int m, rfl, p, c, m, rfl, P3, m0, by omega, fun H4 e B4 P4 e0 e1 => ?_⟩
      have i4 : (upd H2 R (.lst [.int d])) R = some (.lst ([d.toNat].map fun k : Nat => V.int (k : Nat))) := by
        rw [upd_same]
        show some (HO.lst [V.int d]) = some (HO.lst [V.int (d.toNat : Nat)])
        rw [Int.toNat_of_nonneg d0]
      refine ⟨e, rfl, by omega, by omega, for_range (lo := 0) (n := e.toNat) (fun i σ H' => (∃ x4 x5, σ = [some (.ref p), some (.ref pa), some (.int m), some (.ref R), x4, x5]) ∧ But p c H H' ∧ Pool H' p c ∧ ∃ w : List Nat, H' R = some (.lst (w.map fun k : Nat => V.int (k : Nat))) ∧ (∀ k ∈ w, k < L.length) ∧ leadsL L (w.map .rd) ∧ w ≠ [] ∧ w.length ≤ i + 1)
        ⟨⟨_, _, rfl⟩, B3.trans B4, P4, [d.toNat], B4 R _ nRp.1 nRp.2 i4, fun k hk => by rw [List.mem_singleton.mp hk]; omega, (by show leadsL L [.rd _]; simp only [leadsL, Lgi.leads]; exact ⟨trivial, trivial, fun j hj => by cases hj⟩), (List.cons_ne_nil _ _), Nat.le_refl _⟩ ?_ ?_⟩
      · rintro i σ H' hi ⟨⟨x4, x5, rfl⟩, B', P', w, hR, hw, ld, ne, wl⟩
        have el : w.getLast? = some (w.getLast ne) := List.getLast?_eq_some_getLast ne
        have wp : 0 < w.length := List.length_pos_iff.mpr ne
        have lm := hw _ (List.getLast_mem ne)
        have a1 : atI (w.map fun k : Nat => V.int (k : Nat)) (-1) = some (.int (w.getLast ne : Nat)) := by
          have e := List.dropLast_concat_getLast ne
          have : (w.map fun k : Nat => V.int (k : Nat)) = (w.dropLast.map fun k : Nat => V.int (k : Nat)) ++ [.int (w.getLast ne : Nat)] := by
            conv => lhs; rw [← e]
            rw [List.map_append]
            rfl
          rw [this]
          exact atI_last _ _
        have fk : ks[w.getLast ne]? = some (ks[w.getLast ne]'(by omega)) := List.getElem?_eq_getElem (by omega)
        have hp' := hp.but hP B'
        obtain ⟨tk, yk, _⟩ := hP.rd B' (h3 _ (List.getElem_mem (show w.getLast ne < ks.length by omega)))
        refine ⟨.ref pa, rfl, .ref pa, rfl, pa, _, 2, .ref r, rfl, rfl, hP.t B' h1, rfl, .ref R, rfl, 1, rfl, R, _, _, _, rfl, rfl, .inl (.inl hR), a1, r, _, _, rf (ks[w.getLast ne]'(by omega)), rfl, rfl, hP.t B' h2, atI_nat (by rw [List.getElem?_map, fk]; rfl), _, _, 1, .int _, rfl, rfl, yk, rfl, ?_⟩
        refine ⟨pa, si, ta, _, L, rfl, hp', lf, fun H5 o e5 no ho => ?_⟩
        have P5 := P'.same e5
        have nop := P'.np no
        have hR5 := e5 R _ hR
        have B5 := B'.trans (LB.Same.but e5)
        have rs : (ks[w.getLast ne]'(by omega)).2.2.1 = rds L (w.getLast ne) := (rds_at h7 _).symm
        have ln : (natV (frm L (ks[w.getLast ne]'(by omega)).2.2.1 L.length)).length = (frm L (rds L (w.getLast ne)) L.length).length := by rw [rs]; unfold natV; rw [List.length_map]
        have fl := frm_len (L := L) (t := rds L (w.getLast ne)) (n := L.length)
        refine ⟨.ref o, rfl, o, _, rfl, .inl (.inl (.inl ho)), rfl, _, rfl, ?_⟩
        by_cases zo : (frm L (rds L (w.getLast ne)) L.length).length = 0
        · rw [ln, zo]
          refine iteT ⟨.ref R, rfl, R, _, rfl, .inl ⟨.inl (.inl hR5), fun u nu => ?_⟩⟩
          exact q _ u w (B5.trans (LB.Same.but (same_new nu))) (P5.same (same_new nu)) T_new hw ld (by omega)
        · rw [ln, decide_eq_false (fun h => zo (by have := V.int.inj h; omega))]
          refine iteF ⟨.ref R, rfl, .inl ⟨rfl, _, .inl (.inl hR5)⟩, .ref p, rfl, .ref o, rfl, p, c, o, _, rfl, P5, nop.1, nop.2, .inl (.inl ho), by omega, by omega, fun H6 v B6 P6 hv => ?_⟩
          have hR6 := B6 R _ nRp.1 nRp.2 hR5
          rw [rs] at hv
          obtain ⟨k, hk, rfl⟩ := List.mem_map.mp hv
          obtain ⟨k1, k2⟩ := frm_mem.mp hk
          refine ⟨R, _, _, rfl, rfl, hR6, (by rw [sizeLine_eq, List.length_map]; omega), ⟨_, _, rfl⟩, But.mut (B5.trans B6) nR, P6.upd nRp, w ++ [k], ?_, mem_snoc hw k1, leads_on1 el ld k2.symm, by simp, by rw [List.length_append]; show w.length + 1 ≤ _; omega⟩
          rw [upd_same, List.map_append]
          rfl
      · rintro σ H' ⟨⟨x4, x5, rfl⟩, B', P', w, hR, hw, ld, ne, wl⟩
        refine ⟨.ref R, rfl, R, _, rfl, .inl ⟨.inl (.inl hR), fun u nu => ?_⟩⟩
        exact q _ u w (B'.trans (LB.Same.but (same_new nu))) (P'.same (same_new nu)) T_new hw ld (by omega)
    · rw [decide_eq_false z]
      refine iteF ⟨.ref R, rfl, R, _, rfl, .inl ⟨.inl (.inl upd_same), fun u nu => ?_⟩⟩
      exact q _ u [] (LB.Same.but (S1.trans (same_new nu))) ((hP.same S1).same (same_new nu)) T_new (by intro k hk; cases hk) (by show leadsL L []; unfold leadsL; trivial) (by decide)
end

end LW
set_option Elab.async false
set_option linter.all false
set_option maxRecDepth 100000
set_option maxHeartbeats 4000000
namespace LW
open PySem PySem.Spec PyProof.Rows L2 RS LB
section
variable {P : Program} {w : World} {K : PySem.W.Frag} {mg : Str → Option Value} {base : Heap} {C : Addr}
/-! ### things bent -/
def spBent (K : PySem.W.Frag) (C : Addr) : Sp := fun vs H Q _ => ∃ (p c pa : Addr) (v : V) (t : Th) (s si : Int) (L : List RK) (b : Nat), vs = [.ref p, .ref pa, v] ∧ Pool H p c ∧ PtAt K H pa s si L ∧ L.length ≤ 900 ∧ IsTh K C p c H v t ∧ t.sz ≤ b ∧ 10000 ≤ b ∧ b ≤ 50000 ∧
  ∀ H' v' t', But p c H H' → Pool H' p c → IsTh K C p c H' v' t' → t'.sz ≤ b + 1 → Q v' H'
theorem ok__law_bent {f : Addr} {fd : FuncData} (D : Df K mg "_law_bent" ["_law_pool_here", "_law_parts_here", "_law_walk_here"] s__law_bent f fd) (T : Tx K mg C) (Z : ThC K C) (c__law_draw : Ca P w K mg base 1 "_law_draw" spDraw) (c__law_some : Ca P w K mg base 2 "_law_some" (spSome K)) (c__law_with : Ca P w K mg base 1 "_law_with" (spWith K)) (c__law_strange : Ca P w K mg base 7 "_law_strange" (spStrange K C)) : Ca P w K mg base 8 "_law_bent" (spBent K C) := by
  refine D.ca sc__law_bent (fun vs H Q E h => ?_) (fun cdv A outer s H vs Q E hr h => ?_)
  · obtain ⟨p, c, pa, v, t, si, ta, L, b, rfl, _⟩ := h
    rfl
  · obtain ⟨p, c, pa, v, t, si, ta, L, b, rfl, hP, hp, lf, ht, sz, b1, b2, q⟩ := h
    obtain ⟨r, ks, h1, h2, h3, h7⟩ := id hp.ex
    have lk : (ks.map rf).length = L.length := by rw [← h7, List.length_map, List.length_map]
    refine ⟨_, (pss_cons (ps_if (PW.pt (pw_or (pt_not (pt_val (pe_callB call_isi (by rfl) T.b.isinstance boot_isinstance (pa_cons (pv 2) (pa_cons (pe_bltn (v := .ty "tuple") (by rfl) T.b.tuple boot_tuple rfl) pa_nil))))) (pw_or1 (pt_cmpR op_eq (pe_callB call_len_seq (by rfl) T.b.len boot_len (pa_cons (pv 2) pa_nil)) pe_int (nomark _))))) (pss_one (ps_ret (pe_k c__law_strange hr (by omega) (by rfl) (pa_cons (pv 0) pa_nil)))) pss_nil)
      (pss_cons (ps_set (i := 3) sc__law_bent.nd rfl (by first | exact Or.inl rfl | exact Or.inr rfl) (pe_k c__law_draw hr (by omega) (by rfl) (pa_cons (pv 0) (pa_cons (pe_callB call_len_seq (by rfl) T.b.len boot_len (pa_cons (pv 2) pa_nil)) pa_nil))))
      (pss_cons (ps_set (i := 4) sc__law_bent.nd rfl (by first | exact Or.inl rfl | exact Or.inr rfl) (pe_k c__law_draw hr (by omega) (by rfl) (pa_cons (pv 0) (pa_cons (pe_op op_add (pe_callB call_len_seq (by rfl) T.b.len boot_len (pa_cons (pe_ix ix_tup (pv 1) pe_int (fun _ _ => rfl)) pa_nil)) pe_int) pa_nil))))
      (pss_cons (ps_set (i := 5) sc__law_bent.nd rfl (by first | exact Or.inl rfl | exact Or.inr rfl) (pe_k c__law_draw hr (by omega) (by rfl) (pa_cons (pv 0) (pa_cons pe_int pa_nil))))
      (pss_cons (ps_if (pt_cmpR op_eq (pv 5) pe_int (nomark _)) (pss_one (ps_ret (pe_op op_catS (pe_slice sl_tupA (pv 2) po_none (po_some (pv 3))) (pe_slice sl_tupA (pv 2) (po_some (pe_op op_add (pv 3) pe_int)) po_none)))) pss_nil)
      (pss_cons (ps_if (pt_cmpR op_eq (pv 5) pe_int (nomark _)) (pss_one (ps_ret (pe_op op_catS (pe_op op_catS (pe_slice sl_tupA (pv 2) po_none (po_some (pv 3))) (pe_tup (pa_cons (pv 4) pa_nil))) (pe_slice sl_tupA (pv 2) (po_some (pv 3)) po_none)))) pss_nil)
      (pss_cons (ps_if (pt_cmpR op_eq (pv 5) pe_int (nomark _)) (pss_one (ps_ret (pe_op op_catS (pe_op op_catS (pe_slice sl_tupA (pv 2) po_none (po_some (pv 3))) (pe_tup (pa_cons (pv 4) pa_nil))) (pe_slice sl_tupA (pv 2) (po_some (pe_op op_add (pv 3) pe_int)) po_none)))) pss_nil)
      (pss_cons (ps_if (pt_cmpR op_eq (pv 5) pe_int (nomark _)) (pss_one (ps_ret (pe_op op_catS (pe_slice sl_tupA (pv 2) po_none (po_some (pe_op op_add (pv 3) pe_int))) (pe_slice sl_tupA (pv 2) (po_some (pv 3)) po_none)))) pss_nil)
      (pss_cons (ps_if (pt_cmpR op_eq (pv 5) pe_int (nomark _)) (pss_one (ps_ret (pe_revT (pv 2)))) pss_nil)
      (pss_cons (ps_if (pt_cmpR op_eq (pv 5) pe_int (nomark _)) (pss_one (ps_ret (pe_k c__law_some hr (by omega) (by rfl) (pa_cons (pv 0) (pa_cons (pe_lst (pa_cons (pe_callTy call_list_of (by rfl) T.b.list boot_list (pa_cons (pv 2) pa_nil)) (pa_cons (pe_tup (pa_cons (pv 2) pa_nil)) (pa_cons (pe_op op_catS (pv 2) (pe_tup (pa_cons (pe_callB call_len_seq (by rfl) T.b.len boot_len (pa_cons (pe_ix ix_tup (pv 1) pe_int (fun _ _ => rfl)) pa_nil)) pa_nil))) (pa_cons (pe_op op_catS (pe_tup (pa_cons (pe_un un_neg pe_int) pa_nil)) (pv 2)) (pa_cons (pe_op op_catS (pv 2) (pe_tup (pa_cons pe_bl pa_nil))) (pa_cons (pe_op op_catS (pv 2) (pe_tup (pa_cons pe_non pa_nil))) pa_nil))))))) pa_nil))))) pss_nil)
      (pss_cons (ps_if (pt_cmpR op_eq (pv 5) pe_int (nomark _)) (pss_one (ps_ret (pe_k c__law_with hr (by omega) (by rfl) (pa_cons (pv 2) (pa_cons (pv 3) (pa_cons (pe_k c__law_some hr (by omega) (by rfl) (pa_cons (pv 0) (pa_cons (pe_lst (pa_cons (pe_un un_neg pe_int) (pa_cons pe_bl (pa_cons pe_bl (pa_cons pe_non (pa_cons pe_str (pa_cons (pe_tup (pa_cons pe_int pa_nil)) (pa_cons (pe_callB call_len_seq (by rfl) T.b.len boot_len (pa_cons (pe_ix ix_tup (pv 1) pe_int (fun _ _ => rfl)) pa_nil)) (pa_cons (pe_op op_pow pe_int pe_int) pa_nil))))))))) pa_nil))) pa_nil)))))) pss_nil)
      (pss_one (ps_ret (pe_k c__law_strange hr (by omega) (by rfl) (pa_cons (pv 0) pa_nil))))))))))))))), ?_⟩
    refine ⟨v, rfl, v, .ty "tuple", _, _, t.isTup, rfl, .ty _, ht.tyx Z, kit_tup Z t, t.isTup, rfl, ?_⟩
    cases hz : t.isTup with
    | false => exact iteT (iteT ⟨.ref p, rfl, p, c, rfl, hP, fun H' v' t' B' P' h' s' => q H' v' t' B' P' h' (by omega)⟩)
    | true =>
      obtain ⟨ts, rfl⟩ := Th.of_tup hz
      have fsz : ts.length ≤ b := sz
      cases ht with
      | @tup a xs _ ha hi =>
        have lx := hi.len
        refine iteF ⟨.ref a, rfl, a, xs, rfl, .inr ha, rfl, _, rfl, ?_⟩
        by_cases z : xs.length = 0
        · rw [z]
          exact iteT ⟨.ref p, rfl, p, c, rfl, hP, fun H' v' t' B' P' h' s' => q H' v' t' B' P' h' (by omega)⟩
        rw [decide_eq_false (fun h => z (by have := V.int.inj h; omega))]
        refine iteF ?_
        refine ⟨.ref p, rfl, .ref a, rfl, a, xs, rfl, .inr ha, p, c, _, rfl, hP, by omega, by omega, fun H1 pl B1 P1 l0 l1 => ?_⟩
        refine ⟨.ref p, rfl, .ref pa, rfl, pa, _, 2, .ref r, rfl, rfl, hP.t B1 h1, rfl, r, _, rfl, .inr (hP.t B1 h2), _, 1, rfl, rfl, p, c, _, rfl, P1, by omega, by omega, fun H2 nu B2 P2 u0 u1 => ?_⟩
        refine ⟨.ref p, rfl, p, c, 8, rfl, P2, by decide, by decide, fun H3 kd B3 P3 k0 k1 => ?_⟩
        have B := (B1.trans B2).trans B3
        have ha3 := hP.t B ha
        have hi3 := hi.but hP B
        have g1 := hP.t B h1
        have g2 := hP.t B h2
        clear B1 B2 B3 P1 P2 ha hi h1 h2
        have fin : ∀ H' r xs' ts', Same H3 H' → SqT K H' r xs' → IsThs K C p c H3 xs' ts' → ts'.length ≤ b + 1 → Q (.ref r) H' := fun H' r xs' ts' e h g l => q H' _ (.tup ts') (B.trans (LB.Same.but e)) (P3.same e) (.tup h (g.same e)) l
        obtain ⟨i, rfl⟩ : ∃ i : Nat, pl = (i : Nat) := ⟨pl.toNat, (Int.toNat_of_nonneg l0).symm⟩
        have il : i < xs.length := by omega
        refine ⟨.int kd, rfl, rfl, _, rfl, ?_⟩
        by_cases z0 : kd = 0
        · rw [decide_eq_true (show V.int kd = V.int 0 by rw [z0])]
          refine iteT ⟨.ref a, rfl, .int (i : Nat), rfl, (i : Nat), rfl, slA_take rfl ha3 (by omega) fun H4 r4 e4 h4 => ?_⟩
          refine ⟨.ref a, rfl, .int (i : Nat), rfl, (i : Nat), 1, rfl, rfl, _, rfl, ?_⟩
          refine slA_dropN (z := ((i : Nat) : Int) + 1) (i := i + 1) rfl (T_seq e4 ha3) (by omega) fun H5 r5 e5 h5 => ?_
          refine ⟨r4, r5, _, _, rfl, rfl, T_seq e5 h4, h5, by rw [sizeLine_eq, List.length_take, List.length_drop]; omega, fun H6 r6 e6 h6 => ?_⟩
          exact fin H6 r6 _ _ ((e4.trans e5).trans e6) h6 ((hi3.take i).app (hi3.drop (i + 1))) (by rw [List.length_append, List.length_take, List.length_drop]; omega)
        rw [decide_eq_false (fun h => z0 (V.int.inj h))]
        refine iteF ⟨.int kd, rfl, rfl, _, rfl, ?_⟩
        by_cases z1 : kd = 1
        · rw [decide_eq_true (show V.int kd = V.int 1 by rw [z1])]
          refine iteT ⟨.ref a, rfl, .int (i : Nat), rfl, (i : Nat), rfl, slA_take rfl ha3 (by omega) fun H4 r4 e4 h4 => ?_⟩
          refine ⟨.int nu, rfl, small (Nat.le_of_ble_eq_true rfl), fun o no => ?_⟩
          have e5 := same_new (o := .tup [.int nu]) no
          refine ⟨r4, o, _, [.int nu], rfl, rfl, T_seq e5 h4, T_new, by rw [sizeLine_eq, List.length_take]; show _ + 1 ≤ _; omega, fun H6 r6 e6 h6 => ?_⟩
          have E6 := (e4.trans e5).trans e6
          refine ⟨.ref a, rfl, .int (i : Nat), rfl, (i : Nat), rfl, ?_⟩
          refine slA_dropN (z := ((i : Nat) : Int)) (i := i) rfl (T_seq E6 ha3) (by omega) fun H7 r7 e7 h7' => ?_
          refine ⟨r6, r7, _, _, rfl, rfl, T_seq e7 h6, h7', by rw [sizeLine_eq, List.length_append, List.length_take, List.length_drop]; show _ + 1 + _ ≤ _; omega, fun H8 r8 e8 h8 => ?_⟩
          exact fin H8 r8 _ _ ((E6.trans e7).trans e8) h8 (((hi3.take i).app (.one (.int nu))).app (hi3.drop i)) (by rw [List.length_append, List.length_append, List.length_take, List.length_drop]; show _ + 1 + _ ≤ _; omega)
        rw [decide_eq_false (fun h => z1 (V.int.inj h))]
        refine iteF ⟨.int kd, rfl, rfl, _, rfl, ?_⟩
        by_cases z2 : kd = 2
        · rw [decide_eq_true (show V.int kd = V.int 2 by rw [z2])]
          refine iteT ⟨.ref a, rfl, .int (i : Nat), rfl, (i : Nat), rfl, slA_take rfl ha3 (by omega) fun H4 r4 e4 h4 => ?_⟩
          refine ⟨.int nu, rfl, small (Nat.le_of_ble_eq_true rfl), fun o no => ?_⟩
          have e5 := same_new (o := .tup [.int nu]) no
          refine ⟨r4, o, _, [.int nu], rfl, rfl, T_seq e5 h4, T_new, by rw [sizeLine_eq, List.length_take]; show _ + 1 ≤ _; omega, fun H6 r6 e6 h6 => ?_⟩
          have E6 := (e4.trans e5).trans e6
          refine ⟨.ref a, rfl, .int (i : Nat), rfl, (i : Nat), 1, rfl, rfl, _, rfl, ?_⟩
          refine slA_dropN (z := ((i : Nat) : Int) + 1) (i := i + 1) rfl (T_seq E6 ha3) (by omega) fun H7 r7 e7 h7' => ?_
          refine ⟨r6, r7, _, _, rfl, rfl, T_seq e7 h6, h7', by rw [sizeLine_eq, List.length_append, List.length_take, List.length_drop]; show _ + 1 + _ ≤ _; omega, fun H8 r8 e8 h8 => ?_⟩
          exact fin H8 r8 _ _ ((E6.trans e7).trans e8) h8 (((hi3.take i).app (.one (.int nu))).app (hi3.drop (i + 1))) (by rw [List.length_append, List.length_append, List.length_take, List.length_drop]; show _ + 1 + _ ≤ _; omega)
        rw [decide_eq_false (fun h => z2 (V.int.inj h))]
        refine iteF ⟨.int kd, rfl, rfl, _, rfl, ?_⟩
        by_cases z3 : kd = 3
        · rw [decide_eq_true (show V.int kd = V.int 3 by rw [z3])]
          refine iteT ⟨.ref a, rfl, .int (i : Nat), rfl, (i : Nat), 1, rfl, rfl, _, rfl, ?_⟩
          refine slA_take (z := ((i : Nat) : Int) + 1) (i := i + 1) rfl ha3 (by omega) fun H4 r4 e4 h4 => ?_
          refine ⟨.ref a, rfl, .int (i : Nat), rfl, (i : Nat), rfl, ?_⟩
          refine slA_dropN (z := ((i : Nat) : Int)) (i := i) rfl (T_seq e4 ha3) (by omega) fun H5 r5 e5 h5 => ?_
          refine ⟨r4, r5, _, _, rfl, rfl, T_seq e5 h4, h5, by rw [sizeLine_eq, List.length_take, List.length_drop]; omega, fun H6 r6 e6 h6 => ?_⟩
          exact fin H6 r6 _ _ ((e4.trans e5).trans e6) h6 ((hi3.take (i + 1)).app (hi3.drop i)) (by rw [List.length_append, List.length_take, List.length_drop]; omega)
        rw [decide_eq_false (fun h => z3 (V.int.inj h))]
        refine iteF ⟨.int kd, rfl, rfl, _, rfl, ?_⟩
        by_cases z4 : kd = 4
        · rw [decide_eq_true (show V.int kd = V.int 4 by rw [z4])]
          refine iteT ⟨.ref a, rfl, a, xs, rfl, ha3, fun o no => ?_⟩
          exact fin _ o _ _ (same_new no) T_new hi3.rev (by rw [List.length_reverse]; omega)
        rw [decide_eq_false (fun h => z4 (V.int.inj h))]
        refine iteF ⟨.int kd, rfl, rfl, _, rfl, ?_⟩
        by_cases z5 : kd = 5
        · rw [decide_eq_true (show V.int kd = V.int 5 by rw [z5])]
          refine iteT ⟨.ref p, rfl, .ref a, rfl, a, xs, rfl, .inr ha3, fun l1 n1 => ?_⟩
          have e1 := same_new (o := .lst xs) n1
          have N1 := P3.np n1
          have A1 : IsThs K C p c _ [.ref l1] [.lst ts] := .one (.lst upd_same N1.1 N1.2 (hi3.same e1))
          refine ⟨.ref a, rfl, small (Nat.le_of_ble_eq_true rfl), fun o2 n2 => ?_⟩
          have e2 := same_new (o := .tup [.ref a]) n2
          have E2 := e1.trans e2
          have A2 := ths_new e2 A1 (.tup T_new (.one (.tup (T_seq E2 ha3) (hi3.same E2))))
          refine ⟨.ref a, rfl, .ref pa, rfl, pa, _, 2, .ref r, rfl, rfl, T_seq E2 g1, rfl, r, _, rfl, .inr (T_seq E2 g2), small (Nat.le_of_ble_eq_true rfl), fun o3 n3 => ?_⟩
          have e3 := same_new (o := .tup [.int ((ks.map rf).length : Nat)]) n3
          refine ⟨a, o3, xs, [.int ((ks.map rf).length : Nat)], rfl, rfl, T_seq (E2.trans e3) ha3, T_new, by rw [sizeLine_eq]; show _ + 1 ≤ _; omega, fun H4 r4 e4 h4 => ?_⟩
          have E4 := (E2.trans e3).trans e4
          have A4 := ths_new (e3.trans e4) A2 (.tup h4 ((hi3.same E4).app (.one (.int _))))
          refine ⟨1, rfl, small (Nat.le_of_ble_eq_true rfl), fun o5 n5 => ?_⟩
          have e5 := same_new (o := .tup [.int (-1)]) n5
          refine ⟨.ref a, rfl, o5, a, [.int (-1)], xs, rfl, rfl, T_new, T_seq (E4.trans e5) ha3, by rw [sizeLine_eq]; show 1 + _ ≤ _; omega, fun H6 r6 e6 h6 => ?_⟩
          have E6 := (E4.trans e5).trans e6
          have A6 := ths_new (e5.trans e6) A4 (.tup h6 ((IsThs.one (.int _)).app (hi3.same E6)))
          refine ⟨.ref a, rfl, small (Nat.le_of_ble_eq_true rfl), fun o7 n7 => ?_⟩
          have e7 := same_new (o := .tup [.bl true]) n7
          refine ⟨a, o7, xs, [.bl true], rfl, rfl, T_seq (E6.trans e7) ha3, T_new, by rw [sizeLine_eq]; show _ + 1 ≤ _; omega, fun H8 r8 e8 h8 => ?_⟩
          have E8 := (E6.trans e7).trans e8
          have A8 := ths_new (e7.trans e8) A6 (.tup h8 ((hi3.same E8).app (.one (.bl _))))
          refine ⟨.ref a, rfl, small (Nat.le_of_ble_eq_true rfl), fun o9 n9 => ?_⟩
          have e9 := same_new (o := .tup [.non]) n9
          refine ⟨a, o9, xs, [.non], rfl, rfl, T_seq (E8.trans e9) ha3, T_new, by rw [sizeLine_eq]; show _ + 1 ≤ _; omega, fun H10 r10 e10 h10 => ?_⟩
          have E10 := (E8.trans e9).trans e10
          have A10 := ths_new (e9.trans e10) A8 (.tup h10 ((hi3.same E10).app (.one .non)))
          refine ⟨small (Nat.le_of_ble_eq_true rfl), fun l nl => ?_⟩
          have P10 := P3.same E10
          have nlp := P10.np nl
          refine ⟨p, c, l, _, rfl, P10.same (same_new nl), nlp.1, nlp.2, .inl (.inl upd_same), Nat.le_of_ble_eq_true rfl, Nat.le_of_ble_eq_true rfl, fun H' v B' P' hv => ?_⟩
          obtain ⟨t, htm, h⟩ := A10.mem hv
          refine q H' v t (B.trans ((LB.Same.but (E10.trans (same_new nl))).trans B')) P' ((h.same (same_new nl)).but (P10.same (same_new nl)) B') ?_
          have f1 : ∀ u : Th, (Th.tup (ts ++ [u])).sz ≤ b + 1 := fun u => by show (ts ++ [u]).length ≤ _; rw [List.length_append]; show ts.length + 1 ≤ _; omega
          have f2 : ∀ u : Th, (Th.tup ([u] ++ ts)).sz ≤ b + 1 := fun u => by show ([u] ++ ts).length ≤ _; rw [List.length_append]; show 1 + ts.length ≤ _; omega
          simp only [List.mem_append, List.mem_singleton] at htm
          rcases htm with ((((rfl | rfl) | rfl) | rfl) | rfl) | rfl
          · exact Nat.zero_le _
          · show 1 ≤ b + 1
            omega
          · exact f1 _
          · exact f2 _
          · exact f1 _
          · exact f1 _
        rw [decide_eq_false (fun h => z5 (V.int.inj h))]
        refine iteF ⟨.int kd, rfl, rfl, _, rfl, ?_⟩
        by_cases z6 : kd = 6
        · rw [decide_eq_true (show V.int kd = V.int 6 by rw [z6])]
          refine iteT ⟨.ref a, rfl, .int (i : Nat), rfl, .ref p, rfl, 1, rfl, small (Nat.le_of_ble_eq_true rfl), fun o no => ?_⟩
          have e1 := same_new (o := .tup [.int 0]) no
          refine ⟨.ref pa, rfl, pa, _, 2, .ref r, rfl, rfl, T_seq e1 g1, rfl, r, _, rfl, .inr (T_seq e1 g2), 10, 64, rfl, rfl, ⟨by decide, by decide, by decide⟩, small (Nat.le_of_ble_eq_true rfl), fun l nl => ?_⟩
          have P4 := P3.same e1
          have nlp := P4.np nl
          have A1 : IsThs K C p c (upd H3 o (.tup [.int 0])) [.int (-1), .bl true, .bl false, .non, .str "0", .ref o, .int ((ks.map rf).length : Nat), .int (10 ^ 64)] _ := .cons (.int _) (.cons (.bl _) (.cons (.bl _) (.cons .non (.cons (.str _) (.cons (.tup (T_new (a := o)) (.one (.int 0))) (.cons (.int _) (.one (.int _))))))))
          refine ⟨p, c, l, _, rfl, P4.same (same_new nl), nlp.1, nlp.2, .inl (.inl upd_same), Nat.le_of_ble_eq_true rfl, Nat.le_of_ble_eq_true rfl, fun H' v B' P' hv => ?_⟩
          obtain ⟨t, htm, h⟩ := A1.mem hv
          have Ba : But p c H3 _ := (LB.Same.but (e1.trans (same_new nl))).trans B'
          refine ⟨a, xs, i, v, rfl, P3.t Ba ha3, il, by omega, fun H'' r' e' h' => ?_⟩
          refine q H'' _ (.tup (ts.take i ++ [t] ++ ts.drop (i + 1))) ((B.trans Ba).trans (LB.Same.but e')) (P'.same e') (.tup h' ?_) ?_
          · exact ((((hi3.take i).but P3 Ba).same e').app (.one (((h.same (same_new nl)).but (P4.same (same_new nl)) B').same e'))).app (((hi3.drop (i + 1)).but P3 Ba).same e')
          · show (ts.take i ++ [t] ++ ts.drop (i + 1)).length ≤ _
            rw [List.length_append, List.length_append, List.length_take, List.length_drop]
            show _ + 1 + _ ≤ _
            omega
        rw [decide_eq_false (fun h => z6 (V.int.inj h))]
        exact iteF ⟨.ref p, rfl, p, c, rfl, P3, fun H' v' t' B' P' h' s' => q H' v' t' (B.trans B') P' h' (by omega)⟩
end

end LW
set_option Elab.async false
set_option linter.all false
set_option maxRecDepth 100000
set_option maxHeartbeats 4000000
namespace LW
open PySem PySem.Spec PyProof.Rows L2 RS LB
section
variable {P : Program} {w : World} {K : PySem.W.Frag} {mg : Str → Option Value} {base : Heap} {C : Addr}
theorem k_bb : PySem.W.kitOne K (.type "bool") (.type "bool") = some true := kit_ty (by decide +kernel)
def spSameB (K : PySem.W.Frag) : Sp := fun vs H Q _ => ∃ a b : Bool, vs = [.bl a, .bl b] ∧ Q (.bl (decide (a = b))) H
theorem ok__law_sameB {f : Addr} {fd : FuncData} (D : Df K mg "_law_same" ["_law_actual", "_law_expected"] s__law_same f fd) (T : Tx K mg C) (c__law_integer : Ca P w K mg base 1 "_law_integer" (spIntegerT K C)) (c__law_same : Ca P w K mg base 2 "_law_same" (spSame K 0)) : Ca P w K mg base 3 "_law_same" (spSameB K) := by
  refine D.ca sc__law_same (fun vs H Q E h => ?_) (fun cdv A outer s H vs Q E hr h => ?_)
  · obtain ⟨a, b, rfl, _⟩ := h
    rfl
  · obtain ⟨a, b, rfl, q⟩ := h
    refine ⟨_, (pss_cons (ps_if (pt_cmpR op_isN (pv 1) pe_non (nomark _)) (pss_one (ps_ret (pe_cmpR op_isN (pv 0) pe_non (nomark _)))) pss_nil)
      (pss_cons (ps_if (pt_val (pe_callB call_isi (by rfl) T.b.isinstance boot_isinstance (pa_cons (pv 1) (pa_cons (pe_bltn (v := .ty "bool") (by rfl) T.b.bool boot_bool rfl) pa_nil)))) (pss_one (ps_ret (pe_and (pe_callB call_isi (by rfl) T.b.isinstance boot_isinstance (pa_cons (pv 0) (pa_cons (pe_bltn (v := .ty "bool") (by rfl) T.b.bool boot_bool rfl) pa_nil))) (pe_one (pe_cmpR op_eq (pv 0) (pv 1) (nomark _)))))) pss_nil)
      (pss_cons (ps_if (pt_val (pe_callB call_isi (by rfl) T.b.isinstance boot_isinstance (pa_cons (pv 1) (pa_cons (pe_bltn (v := .ty "int") (by rfl) T.b.int boot_int rfl) pa_nil)))) (pss_one (ps_ret (pe_and (pe_k c__law_integer hr (by omega) (by rfl) (pa_cons (pv 0) pa_nil)) (pe_one (pe_cmpR op_eq (pv 0) (pv 1) (nomark _)))))) pss_nil)
      (pss_cons (ps_if (pt_val (pe_callB call_isi (by rfl) T.b.isinstance boot_isinstance (pa_cons (pv 1) (pa_cons (pe_bltn (v := .ty "str") (by rfl) T.b.str boot_str rfl) pa_nil)))) (pss_one (ps_ret (pe_and (pe_callB call_isi (by rfl) T.b.isinstance boot_isinstance (pa_cons (pv 0) (pa_cons (pe_bltn (v := .ty "str") (by rfl) T.b.str boot_str rfl) pa_nil))) (pe_one (pe_cmpR op_eq (pv 0) (pv 1) (nomark _)))))) pss_nil)
      (pss_cons (ps_if (PW.pt (pw_and (pt_val (pe_callB call_isi (by rfl) T.b.isinstance boot_isinstance (pa_cons (pv 1) (pa_cons (pe_bltn (v := .ty "tuple") (by rfl) T.b.tuple boot_tuple rfl) pa_nil)))) (pw_and1 (pt_not (pt_val (pe_callB call_isi (by rfl) T.b.isinstance boot_isinstance (pa_cons (pv 0) (pa_cons (pe_bltn (v := .ty "tuple") (by rfl) T.b.tuple boot_tuple rfl) pa_nil)))))))) (pss_one (ps_ret pe_bl)) pss_nil)
      (pss_cons (ps_if (PW.pt (pw_and (pt_val (pe_callB call_isi (by rfl) T.b.isinstance boot_isinstance (pa_cons (pv 1) (pa_cons (pe_bltn (v := .ty "list") (by rfl) T.b.list boot_list rfl) pa_nil)))) (pw_and1 (pt_not (pt_val (pe_callB call_isi (by rfl) T.b.isinstance boot_isinstance (pa_cons (pv 0) (pa_cons (pe_bltn (v := .ty "list") (by rfl) T.b.list boot_list rfl) pa_nil)))))))) (pss_one (ps_ret pe_bl)) pss_nil)
      (pss_cons (ps_if (pt_cmpR op_ne (pe_callB call_len_seq (by rfl) T.b.len boot_len (pa_cons (pv 0) pa_nil)) (pe_callB call_len_seq (by rfl) T.b.len boot_len (pa_cons (pv 1) pa_nil)) (nomark _)) (pss_one (ps_ret pe_bl)) pss_nil)
      (pss_cons (ps_for PassesOwn.never rfl (pi_range1 (by rfl) T.b.range (pa_cons (pe_callB call_len_seq (by rfl) T.b.len boot_len (pa_cons (pv 1) pa_nil)) pa_nil)) (pg_name (i := 2) sc__law_same.nd rfl (by first | exact Or.inl rfl | exact Or.inr rfl)) (pss_one (ps_if (pt_not (pt_val (pe_k c__law_same hr (by omega) (by rfl) (pa_cons (pe_ix ix_tup (pv 0) (pv 2) (fun _ _ => rfl)) (pa_cons (pe_ix ix_tup (pv 1) (pv 2) (fun _ _ => rfl)) pa_nil))))) (pss_one (ps_ret pe_bl)) pss_nil)))
      (pss_one (ps_ret pe_bl)))))))))), ?_⟩
    refine ⟨.bl b, rfl, rfl, false, congrArg V.bl (decide_eq_false (by intro h; cases h)), iteF ?_⟩
    refine ⟨.bl b, rfl, .bl b, .ty "bool", _, _, true, rfl, .ty _, .base (.bl b), k_bb, true, rfl, iteT ?_⟩
    refine ⟨.bl a, rfl, .bl a, .ty "bool", _, _, true, rfl, .ty _, .base (.bl a), k_bb, true, rfl, iteT ⟨.bl a, rfl, .bl b, rfl, rfl, ?_⟩⟩
    have : decide (V.bl a = V.bl b) = decide (a = b) := decide_eq_decide.mpr ⟨fun h => by cases h; rfl, congrArg _⟩
    rw [this]
    exact q
def spLaw (K : PySem.W.Frag) : Sp := fun vs H Q _ => ∃ (a : Addr) (ns : List Int), vs = [.ref a] ∧ SqL K H a (ns.map V.int) ∧ ns.length ≤ 63 ∧ ∀ H', Q (.bl true) H'
theorem ok_law {f : Addr} {fd : FuncData} (D : Df K mg "law" ["_law_script"] s_law f fd) (T : Tx K mg C) (c__law_pool : Ca P w K mg base 1 "_law_pool" (spPool K)) (c__law_draw : Ca P w K mg base 1 "_law_draw" spDraw) (c__law_parts : Ca P w K mg base 4 "_law_parts" (spParts K)) (c__law_ringed : Ca P w K mg base 4 "_law_ringed" (spRinged K))
    (c__law_program : Ca P w K mg base 7 "_law_program" (spProg K C)) (c__law_walk : Ca P w K mg base 3 "_law_walk" (spWk K)) (c_is_walk : Ca P w K mg base 34 "is_walk" (spIsWalk K C)) (c_is_log : Ca P w K mg base 65 "is_log" (spIsLogB K C)) (c__law_bent : Ca P w K mg base 8 "_law_bent" (spBent K C))
    (c__law_same : Ca P w K mg base 3 "_law_same" (spSameB K)) (c__law_is_walk : Ca P w K mg base 2 "_law_is_walk" (spLawWalk K C)) (m_Program : Ma P w K mg base 5 "Program" C (spInit K C)) : FnOk P w K mg base CX0 66 f fd ["_law_script"] (spLaw K) := by
  refine D.fn.ok sc_law (fun vs H Q E h => ?_) (fun cdv A outer s H vs Q E hr h => ?_)
  · obtain ⟨a, ns, rfl, _⟩ := h
    rfl
  · obtain ⟨a, ns, rfl, ha, few, q⟩ := h
    refine ⟨_, (pss_cons (ps_set (i := 1) sc_law.nd rfl (by first | exact Or.inl rfl | exact Or.inr rfl) (pe_k c__law_pool hr (by omega) (by rfl) (pa_cons (pv 0) pa_nil)))
      (pss_cons (ps_for PassesOwn.never rfl (pi_range1 (by rfl) T.b.range (pa_cons pe_int pa_nil)) (pg_name (i := 2) sc_law.nd rfl (by first | exact Or.inl rfl | exact Or.inr rfl)) (pss_cons (ps_set (i := 3) sc_law.nd rfl (by first | exact Or.inl rfl | exact Or.inr rfl) (pe_k c__law_parts hr (by omega) (by rfl) (pa_cons (pv 1) pa_nil)))
      (C8.pss_cut (ps_if (pt_cmpR op_eq (pe_k c__law_draw hr (by omega) (by rfl) (pa_cons (pv 1) (pa_cons pe_int pa_nil))) pe_int (nomark _)) (pss_one (ps_set (i := 3) sc_law.nd rfl (by first | exact Or.inl rfl | exact Or.inr rfl) (pe_k c__law_ringed hr (by omega) (by rfl) (pa_cons (pv 1) pa_nil)))) pss_nil)
      (pss_cons (ps_set (i := 4) sc_law.nd rfl (by first | exact Or.inl rfl | exact Or.inr rfl) (pe_k c__law_program hr (by omega) (by rfl) (pa_cons (pv 3) pa_nil)))
      (pss_cons (ps_set (i := 5) sc_law.nd rfl (by first | exact Or.inl rfl | exact Or.inr rfl) pe_int)
      (C8.pss_cut (ps_if (PW.pt (pw_and (pt_cmpR op_eq (pv 2) pe_int (nomark _)) (pw_and1 (pt_cmpR op_eq (pe_k c__law_draw hr (by omega) (by rfl) (pa_cons (pv 1) (pa_cons pe_int pa_nil))) pe_int (nomark _))))) (pss_one (ps_set (i := 5) sc_law.nd rfl (by first | exact Or.inl rfl | exact Or.inr rfl) pe_int)) pss_nil)
      (pss_cons (ps_set (i := 6) sc_law.nd rfl (by first | exact Or.inl rfl | exact Or.inr rfl) (pe_k c__law_walk hr (by omega) (by rfl) (pa_cons (pv 1) (pa_cons (pv 3) (pa_cons (pv 5) pa_nil)))))
      (pss_cons (ps_if (PW.pt (pw_or (pt_cmpR op_isnot_bl (pe_k c_is_walk hr (by omega) (by rfl) (pa_cons (pv 4) (pa_cons (pv 6) pa_nil))) pe_bl (nomark _)) (pw_or1 (pt_cmpR op_isnot_bl (pe_k c_is_log hr (by omega) (by rfl) (pa_cons (pv 4) (pa_cons (pv 6) pa_nil))) pe_bl (nomark _))))) (pss_one (ps_ret pe_bl)) pss_nil)
      (pss_cons (ps_set (i := 7) sc_law.nd rfl (by first | exact Or.inl rfl | exact Or.inr rfl) (pv 6))
      (pss_cons (ps_for PassesOwn.never rfl (pi_range1 (by rfl) T.b.range (pa_cons (pe_op op_add pe_int (pe_k c__law_draw hr (by omega) (by rfl) (pa_cons (pv 1) (pa_cons pe_int pa_nil)))) pa_nil)) (pg_name (i := 8) sc_law.nd rfl (by first | exact Or.inl rfl | exact Or.inr rfl)) (pss_one (ps_set (i := 7) sc_law.nd rfl (by first | exact Or.inl rfl | exact Or.inr rfl) (pe_k c__law_bent hr (by omega) (by rfl) (pa_cons (pv 1) (pa_cons (pv 3) (pa_cons (pv 7) pa_nil)))))))
      (pss_cons (ps_if (pt_not (pt_val (pe_k c__law_same hr (by omega) (by rfl) (pa_cons (pe_k c_is_walk hr (by omega) (by rfl) (pa_cons (pv 4) (pa_cons (pv 7) pa_nil))) (pa_cons (pe_k c__law_is_walk hr (by omega) (by rfl) (pa_cons (pv 3) (pa_cons (pv 7) pa_nil))) pa_nil))))) (pss_one (ps_ret pe_bl)) pss_nil)
      (pss_one (ps_if (PW.pt (pw_and (pt_val (pe_k c__law_is_walk hr (by omega) (by rfl) (pa_cons (pv 3) (pa_cons (pv 7) pa_nil)))) (pw_and1 (pt_cmpR op_isnot_bl (pe_k c_is_log hr (by omega) (by rfl) (pa_cons (pv 4) (pa_cons (pv 7) pa_nil))) pe_bl (nomark _))))) (pss_one (ps_ret pe_bl)) pss_nil)))))))))))))
      (pss_one (ps_ret (pe_and (pe_cmpR op_is_bl (pe_k c_is_walk hr (by omega) (by rfl) (pa_cons (pe_mkK m_Program hr (by omega) (by rfl) (pa_cons pe_int (pa_cons pe_int (pa_cons (pe_tup pa_nil) pa_nil)))) (pa_cons (pe_tup pa_nil) pa_nil))) pe_bl (nomark _)) (pe_one (pe_cmpR op_is_bl (pe_k c_is_walk hr (by omega) (by rfl) (pa_cons (pe_mkK m_Program hr (by omega) (by rfl) (pa_cons pe_int (pa_cons pe_int (pa_cons (pe_tup pa_nil) pa_nil)))) (pa_cons (pe_tup (pa_cons pe_int pa_nil)) pa_nil))) pe_bl (nomark _)))))))), ?_⟩
    refine ⟨.ref a, rfl, a, ns, rfl, ha, few, fun H0 p c e0 np nc P0 => ?_⟩
    refine ⟨8, rfl, by decide, by decide, for_range (lo := 0) (n := (8 : Int).toNat) (fun i σ H' => (∃ x2 x3 x4 x5 x6 x7 x8, σ = [some (.ref a), some (.ref p), x2, x3, x4, x5, x6, x7, x8]) ∧ Pool H' p c) ⟨⟨_, _, _, _, _, _, _, rfl⟩, P0⟩ ?_ ?_⟩
    · rintro i σ H1 hi ⟨⟨x2, x3, x4, x5, x6, x7, x8, rfl⟩, P1⟩
      refine ⟨.ref p, rfl, p, c, rfl, P1, fun H2 pa0 si0 ta0 L0 B2 P2 pt0 G0 => ?_⟩
      refine ⟨fun σ' H' => ∃ (pa : Addr) (si ta : Int) (L : List RK), σ' = [some (.ref a), some (.ref p), some (.int (0 + (i : Nat))), some (.ref pa), x4, x5, x6, x7, x8] ∧ Pool H' p c ∧ PtAt K H' pa si ta L ∧ GoodP si ta L, ?_, ?_⟩
      · refine ⟨.ref p, rfl, p, c, 2, rfl, P2, by decide, by decide, fun H3 d B3 P3 d0 d1 => ⟨rfl, _, rfl, ?_⟩⟩
        by_cases z : d = 0
        · rw [decide_eq_true (show V.int d = V.int 0 by rw [z])]
          refine iteT ⟨.ref p, rfl, p, c, rfl, P3, fun H4 pa si ta L B4 P4 pt G _ => ⟨pa, si, ta, L, rfl, P4, pt, G⟩⟩
        · rw [decide_eq_false (fun h => z (V.int.inj h))]
          exact iteF ⟨pa0, si0, ta0, L0, rfl, P3, pt0.but P2 B3, G0⟩
      rintro σ' H3 ⟨pa, si, ta, L, rfl, P3, pt, G⟩
      have l24 := G.few
      refine ⟨.ref pa, rfl, pa, si, ta, L, rfl, pt, G, fun H4 pr e4 n4 pg => ?_⟩
      have P4 := P3.same e4
      have pt4 := pt.same e4
      refine ⟨fun σ' H' => ∃ m : Int, σ' = [some (.ref a), some (.ref p), some (.int (0 + (i : Nat))), some (.ref pa), some (.ref pr), some (.int m), x6, x7, x8] ∧ Pool H' p c ∧ PtAt K H' pa si ta L ∧ PgAt K C H' pr si ta L ∧ 0 < m ∧ m ≤ 3000, ?_, ?_⟩
      · refine ⟨.int _, rfl, rfl, _, rfl, ?_⟩
        generalize decide (V.int (0 + (i : Nat)) = V.int 0) = b1
        cases b1 with
        | false => exact iteF (iteF ⟨13, rfl, P4, pt4, pg, by decide, by decide⟩)
        | true =>
          refine iteT ⟨.ref p, rfl, p, c, 8, rfl, P4, by decide, by decide, fun H5 d B5 P5 d0 d1 => ⟨rfl, _, rfl, ?_⟩⟩
          generalize decide (V.int d = V.int 0) = b2
          cases b2 with
          | false => exact iteF ⟨13, rfl, P5, pt4.but P4 B5, pg.but P4 B5, by decide, by decide⟩
          | true => exact iteT ⟨3000, rfl, P5, pt4.but P4 B5, pg.but P4 B5, by decide, by decide⟩
      rintro σ' H5 ⟨m, rfl, P5, pt5, pg5, m0, m1⟩
      refine ⟨.ref p, rfl, .ref pa, rfl, .int m, rfl, p, c, pa, m, si, ta, L, rfl, P5, pt5, by omega, m0, m1, fun H6 rw6 w6 B6 P6 h6 w6n ld6 wl6 => ?_⟩
      have pg6 := pg5.but P5 B6
      have pt6 := pt5.but P5 B6
      have th6 : IsTh K C p c H6 (.ref rw6) (.tup (w6.map fun k : Nat => Th.int (k : Nat))) := .tup h6 (IsThs.nats w6)
      have sz6 : (Th.tup (w6.map fun k : Nat => Th.int (k : Nat))).sz ≤ 10000 := by show (w6.map _).length ≤ _; rw [List.length_map]; omega
      refine ⟨.ref pr, rfl, .ref rw6, rfl, p, c, pr, _, si, ta, L, _, rfl, pg6, th6, by omega, fun H7 bb e7 hb => ?_⟩
      obtain rfl : bb = true := hb.mpr ((walk_nats w6n).mpr ld6)
      refine ⟨true, true, rfl, rfl, false, rfl, iteF ?_⟩
      refine ⟨.ref pr, rfl, .ref rw6, rfl, pr, rw6, si, ta, L, _, w6.map .rd, rfl, pg6.same e7, T_seq e7 h6, isl_nats w6, okL_nats w6n, fun H8 b8 e8 hb8 => ?_⟩
      obtain rfl : b8 = true := hb8.mpr ld6
      refine ⟨true, true, rfl, rfl, false, rfl, iteF ?_⟩
      have e78 := e7.trans e8
      refine ⟨.ref rw6, rfl, .ref p, rfl, p, c, 2, rfl, P6.same e78, by decide, by decide, fun H9 d B9 P9 d0 d1 => ⟨1, d, rfl, rfl, ?_⟩⟩
      refine ⟨1 + d, rfl, by omega, by omega, for_range (lo := 0) (n := (1 + d).toNat) (fun j σ H' => ∃ (v x8 : V) (t : Th) (x8 : Option V), σ = [some (.ref a), some (.ref p), some (.int (0 + (i : Nat))), some (.ref pa), some (.ref pr), some (.int m), some (.ref rw6), some v, x8] ∧ Pool H' p c ∧ PtAt K H' pa si ta L ∧ PgAt K C H' pr si ta L ∧ IsTh K C p c H' v t ∧ t.sz ≤ 10000 + j)
        ⟨_, .non, _, _, rfl, P9, (pt6.same e78).but (P6.same e78) B9, (pg6.same e78).but (P6.same e78) B9, (th6.same e78).but (P6.same e78) B9, sz6⟩ ?_ ?_⟩
      · rintro j σ H' hj ⟨v, _, t, x8, rfl, P', pt', pg', ht, sz⟩
        refine ⟨.ref p, rfl, .ref pa, rfl, v, rfl, p, c, pa, v, t, si, ta, L, 10000 + j, rfl, P', pt', by omega, ht, sz, by omega, by omega, fun H2' v' t' B' P2' h' s' => ?_⟩
        exact ⟨v', .non, t', _, rfl, P2', pt'.but P' B', pg'.but P' B', h', s'⟩
      · rintro σ H' ⟨v, _, t, x8, rfl, P', pt', pg', ht, sz⟩
        have sz : t.sz ≤ 100000 := by omega
        refine ⟨.ref pr, rfl, v, rfl, p, c, pr, v, si, ta, L, t, rfl, pg', ht, sz, fun Ha ba ea hba => ?_⟩
        refine ⟨.ref pa, rfl, v, rfl, p, c, pa, v, si, ta, L, t, rfl, pt'.same ea, by omega, ht.same ea, sz, fun bc hbc => ?_⟩
        have eb : ba = bc := by
          have := hba.trans hbc.symm
          cases ba <;> cases bc <;> simp_all
        refine ⟨ba, bc, rfl, _, rfl, ?_⟩
        rw [decide_eq_true eb]
        refine iteF ?_
        refine ⟨.ref pa, rfl, v, rfl, p, c, pa, v, si, ta, L, t, rfl, pt'.same ea, by omega, ht.same ea, sz, fun bd hbd => ⟨bd, rfl, ?_⟩⟩
        cases bd with
        | false => exact iteF (iteF ⟨⟨_, _, _, _, _, _, _, rfl⟩, P'.same ea⟩)
        | true =>
          have wk := hbd.mp rfl
          cases t with
          | tup ts =>
            obtain ⟨w9, rfl, w9n, ld9⟩ := wk
            cases ht with
            | @tup a9 xs9 _ ha9 hi9 =>
              obtain rfl := nats_vals hi9
              refine iteT ⟨.ref pr, rfl, .ref a9, rfl, pr, a9, si, ta, L, _, w9.map .rd, rfl, pg'.same ea, T_seq ea ha9, isl_nats w9, okL_nats w9n, fun Hb b8 e8' hb8 => ?_⟩
              obtain rfl : b8 = true := hb8.mpr ld9
              exact ⟨true, true, rfl, rfl, false, rfl, iteF ⟨⟨_, _, _, _, _, _, _, rfl⟩, (P'.same ea).same e8'⟩⟩
          | _ => exact wk.elim
    · rintro σ H1 ⟨⟨x2, x3, x4, x5, x6, x7, x8, rfl⟩, P1⟩
      refine ⟨small (Nat.le_of_ble_eq_true rfl), fun b4 m4 => ?_⟩
      intro p1 y1 np1 ny1 ne1
      have Y1 : Same (upd H1 b4 (.tup [])) (upd (upd (upd H1 b4 (.tup [])) y1 (.own p1)) p1 (.ins C y1 [])) := (same_new ny1).trans (same_new (by rw [upd_ne ne1.symm]; exact np1))
      refine ⟨p1, y1, b4, 1, 1, [], rfl, upd_same, T_seq Y1 T_new, (fun z hz => by cases hz), good11, fun H2 e2 g2 => ⟨rfl, ?_⟩⟩
      have Y3 : Same (upd H1 b4 (.tup [])) H2 := fun b o e => e2 b o (ne_of_none e np1) (Y1 b o e)
      have pg2 : PgAt K C H2 p1 1 1 [] := ⟨y1, _, b4, [], g2, flds_s _ _ _, flds_t _ _ _, flds_r _ _ _, T_seq Y3 T_new, (fun z hz => by cases hz), rfl⟩
      refine ⟨small (Nat.le_of_ble_eq_true rfl), fun b5 m5 => ?_⟩
      have P2 := (P1.same (same_new (o := .tup []) m4)).same Y3
      refine ⟨p, c, p1, _, 1, 1, [], _, rfl, pg2.same (same_new m5), th_tup m5 .nil, Nat.zero_le _, fun H3 b3 e3 hb3 => ?_⟩
      obtain rfl : b3 = true := hb3.mpr ⟨[], rfl, (by intro k hk; cases hk), (by unfold leadsL; trivial)⟩
      refine ⟨true, true, rfl, rfl, true, rfl, iteT ?_⟩
      clear Y1 Y3 e2 g2 pg2 np1 ny1 ne1 m4 hb3
      have P3 := (P2.same (same_new (o := .tup []) m5)).same e3
      refine ⟨small (Nat.le_of_ble_eq_true rfl), fun b6 m6 => ?_⟩
      intro p2 y2 np2 ny2 ne2
      have Y1 : Same (upd H3 b6 (.tup [])) (upd (upd (upd H3 b6 (.tup [])) y2 (.own p2)) p2 (.ins C y2 [])) := (same_new ny2).trans (same_new (by rw [upd_ne ne2.symm]; exact np2))
      refine ⟨p2, y2, b6, 1, 1, [], rfl, upd_same, T_seq Y1 T_new, (fun z hz => by cases hz), good11, fun H4 e4 g4 => ⟨rfl, ?_⟩⟩
      have Y3 : Same (upd H3 b6 (.tup [])) H4 := fun b o e => e4 b o (ne_of_none e np2) (Y1 b o e)
      have pg4 : PgAt K C H4 p2 1 1 [] := ⟨y2, _, b6, [], g4, flds_s _ _ _, flds_t _ _ _, flds_r _ _ _, T_seq Y3 T_new, (fun z hz => by cases hz), rfl⟩
      refine ⟨small (Nat.le_of_ble_eq_true rfl), fun b7 m7 => ?_⟩
      refine ⟨p, c, p2, _, 1, 1, [], _, rfl, pg4.same (same_new m7), th_tup m7 (.one (.int 0)), Nat.le_of_ble_eq_true rfl, fun H5 b5' e5 hb5 => ?_⟩
      obtain rfl : b5' = false := by
        cases b5' with
        | false => rfl
        | true =>
          obtain ⟨w, e, hw, _⟩ := hb5.mp rfl
          cases w with
          | nil => cases e
          | cons k w => exact absurd (hw k List.mem_cons_self) (Nat.not_lt_zero _)
      exact ⟨false, false, rfl, rfl, q _⟩
end

end LW
set_option Elab.async false
set_option linter.all false
set_option maxRecDepth 100000
set_option maxHeartbeats 4000000
namespace LW
open PySem PySem.Spec PyProof.Rows L2 RS LB
theorem all_of {l : PySem.W.OpenLaw} {w : World} {K : PySem.W.Frag} {h : Heap} {mg : Str → Option Value} {fa C : Addr} (X : K.In h) (G : h.Ns mainGlobals mg) (hfa : mg "law" = some (.ref fa)) {t0 t1 t2 t3 t4 : Tok}
    (aC : PySem.W.nsIn K mainGlobals "Program" = some (some (.ref C)))
    (tf_is_int : TopF K "is_int" s_is_int)
    (tf_is_int_in : TopF K "is_int_in" s_is_int_in)
    (tf_is_row_of_ints : TopF K "is_row_of_ints" s_is_row_of_ints)
    (tf_is_reading : TopF K "is_reading" s_is_reading)
    (tf_has_form : TopF K "has_form" s_has_form)
    (tf_is_rounds : TopF K "is_rounds" s_is_rounds)
    (tf_begins_in : TopF K "begins_in" s_begins_in)
    (tf_ends_in : TopF K "ends_in" s_ends_in)
    (tf_leads_on : TopF K "leads_on" s_leads_on)
    (tf_is_walk : TopF K "is_walk" s_is_walk)
    (tf_is_log : TopF K "is_log" s_is_log)
    (tf__law_pool : TopF K "_law_pool" s__law_pool)
    (tf__law_draw : TopF K "_law_draw" s__law_draw)
    (tf__law_some : TopF K "_law_some" s__law_some)
    (tf__law_integer : TopF K "_law_integer" s__law_integer)
    (tf__law_same : TopF K "_law_same" s__law_same)
    (tf__law_with : TopF K "_law_with" s__law_with)
    (tf__law_deep : TopF K "_law_deep" s__law_deep)
    (tf__law_strange : TopF K "_law_strange" s__law_strange)
    (tf__law_step : TopF K "_law_step" s__law_step)
    (tf__law_parts : TopF K "_law_parts" s__law_parts)
    (tf__law_program : TopF K "_law_program" s__law_program)
    (tf__law_ringed : TopF K "_law_ringed" s__law_ringed)
    (tf__law_from : TopF K "_law_from" s__law_from)
    (tf__law_is_walk : TopF K "_law_is_walk" s__law_is_walk)
    (tf__law_walk : TopF K "_law_walk" s__law_walk)
    (tf__law_bent : TopF K "_law_bent" s__law_bent)
    (tf_law : TopF K "law" s_law)
    (tm_Program___init__ : TopM K C "__init__" "Program.__init__" s_Program___init__)
    (ct : ClsTop K C) (ne : PySem.W.findIn K (.ref C) "__ne__" = some (some (.builtin "object.__ne__"))) (ob : PySem.W.subIn K (.ref C) (.type "object") = some true)
    (nS : PySem.W.findIn K (.ref C) "sides" = some none) (nT : PySem.W.findIn K (.ref C) "tables" = some none) (nR : PySem.W.findIn K (.ref C) "readings" = some none)
    (z_tuple : PySem.W.subIn K (.ref C) (.type "tuple") = some false)
    (z_list : PySem.W.subIn K (.ref C) (.type "list") = some false)
    (z_int : PySem.W.subIn K (.ref C) (.type "int") = some false)
    (z_bool : PySem.W.subIn K (.ref C) (.type "bool") = some false)
    (z_str : PySem.W.subIn K (.ref C) (.type "str") = some false)
    (u0 : PySem.W.nsIn K mainGlobals "MOST_SIDES" = some (some (.int 4 t0)))
    (u1 : PySem.W.nsIn K mainGlobals "MOST_TABLES" = some (some (.int 8 t1)))
    (u2 : PySem.W.nsIn K mainGlobals "MOST_READINGS" = some (some (.int 24 t2)))
    (u3 : PySem.W.nsIn K mainGlobals "LONGEST_STEP" = some (some (.int 1000000000000 t3)))
    (u4 : PySem.W.nsIn K mainGlobals "DEEPEST_ROUNDS" = some (some (.int 30 t4)))
    (b_len : PySem.W.nsIn K mainGlobals "len" = some none)
    (b_int : PySem.W.nsIn K mainGlobals "int" = some none)
    (b_bool : PySem.W.nsIn K mainGlobals "bool" = some none)
    (b_str : PySem.W.nsIn K mainGlobals "str" = some none)
    (b_isinstance : PySem.W.nsIn K mainGlobals "isinstance" = some none)
    (b_tuple : PySem.W.nsIn K mainGlobals "tuple" = some none)
    (b_list : PySem.W.nsIn K mainGlobals "list" = some none)
    (b_dict : PySem.W.nsIn K mainGlobals "dict" = some none)
    (b_set : PySem.W.nsIn K mainGlobals "set" = some none)
    (b_sorted : PySem.W.nsIn K mainGlobals "sorted" = some none)
    (b_range : PySem.W.nsIn K mainGlobals "range" = some none)
    (b_abs : PySem.W.nsIn K mainGlobals "abs" = some none)
    (b_sum : PySem.W.nsIn K mainGlobals "sum" = some none)
    (b_all : PySem.W.nsIn K mainGlobals "all" = some none)
    (b_any : PySem.W.nsIn K mainGlobals "any" = some none)
    (b_enumerate : PySem.W.nsIn K mainGlobals "enumerate" = some none)
    (b_min : PySem.W.nsIn K mainGlobals "min" = some none)
    (b_max : PySem.W.nsIn K mainGlobals "max" = some none)
    (b_zip : PySem.W.nsIn K mainGlobals "zip" = some none)
    : ∃ fd : FuncData, (∀ (s : Shared) (v : Value), BindsTo s fd ⟨[v], []⟩ [("_law_script", v)]) ∧ ∀ base : Heap, K.In base → base.Ns mainGlobals mg → FnOk l.prog w K mg base CX0 66 fa fd ["_law_script"] (spLaw K) := by
  have T : Tx K mg C := ⟨⟨PySem.W.mg_none_of X G b_len, PySem.W.mg_none_of X G b_int, PySem.W.mg_none_of X G b_bool, PySem.W.mg_none_of X G b_str, PySem.W.mg_none_of X G b_isinstance, PySem.W.mg_none_of X G b_tuple, PySem.W.mg_none_of X G b_list, PySem.W.mg_none_of X G b_dict, PySem.W.mg_none_of X G b_set, PySem.W.mg_none_of X G b_sorted, PySem.W.mg_none_of X G b_range, PySem.W.mg_none_of X G b_abs, PySem.W.mg_none_of X G b_sum, PySem.W.mg_none_of X G b_all, PySem.W.mg_none_of X G b_any, PySem.W.mg_none_of X G b_enumerate, PySem.W.mg_none_of X G b_min, PySem.W.mg_none_of X G b_max, PySem.W.mg_none_of X G b_zip⟩, ⟨_, PySem.W.mg_of X G u0, ⟨_, rfl⟩⟩, ⟨_, PySem.W.mg_of X G u1, ⟨_, rfl⟩⟩, ⟨_, PySem.W.mg_of X G u2, ⟨_, rfl⟩⟩, ⟨_, PySem.W.mg_of X G u3, ⟨_, rfl⟩⟩, ⟨_, PySem.W.mg_of X G u4, ⟨_, rfl⟩⟩, ⟨_, PySem.W.mg_of X G aC, rfl⟩, ct.cls, nS, nT, nR, ct.ins⟩
  obtain ⟨f_is_int, fd_is_int, D_is_int⟩ := tf_is_int.df (ps := ["thing"]) X G (fun _ _ _ _ _ _ us hl => match us, hl with | [_], _ => rfl)
  obtain ⟨f_is_int_in, fd_is_int_in, D_is_int_in⟩ := tf_is_int_in.df (ps := ["thing", "least", "most"]) X G (fun _ _ _ _ _ _ us hl => match us, hl with | [_, _, _], _ => rfl)
  obtain ⟨f_is_row_of_ints, fd_is_row_of_ints, D_is_row_of_ints⟩ := tf_is_row_of_ints.df (ps := ["thing", "many"]) X G (fun _ _ _ _ _ _ us hl => match us, hl with | [_, _], _ => rfl)
  obtain ⟨f_is_reading, fd_is_reading, D_is_reading⟩ := tf_is_reading.df (ps := ["sides", "tables", "thing"]) X G (fun _ _ _ _ _ _ us hl => match us, hl with | [_, _, _], _ => rfl)
  obtain ⟨f_has_form, fd_has_form, D_has_form⟩ := tf_has_form.df (ps := ["program", "thing", "deep"]) X G (fun _ _ _ _ _ _ us hl => match us, hl with | [_, _, _], _ => rfl)
  obtain ⟨f_is_rounds, fd_is_rounds, D_is_rounds⟩ := tf_is_rounds.df (ps := ["program", "item", "deep"]) X G (fun _ _ _ _ _ _ us hl => match us, hl with | [_, _, _], _ => rfl)
  obtain ⟨f_begins_in, fd_begins_in, D_begins_in⟩ := tf_begins_in.df (ps := ["program", "item"]) X G (fun _ _ _ _ _ _ us hl => match us, hl with | [_, _], _ => rfl)
  obtain ⟨f_ends_in, fd_ends_in, D_ends_in⟩ := tf_ends_in.df (ps := ["program", "item"]) X G (fun _ _ _ _ _ _ us hl => match us, hl with | [_, _], _ => rfl)
  obtain ⟨f_leads_on, fd_leads_on, D_leads_on⟩ := tf_leads_on.df (ps := ["program", "log"]) X G (fun _ _ _ _ _ _ us hl => match us, hl with | [_, _], _ => rfl)
  obtain ⟨f_is_walk, fd_is_walk, D_is_walk⟩ := tf_is_walk.df (ps := ["program", "thing"]) X G (fun _ _ _ _ _ _ us hl => match us, hl with | [_, _], _ => rfl)
  obtain ⟨f_is_log, fd_is_log, D_is_log⟩ := tf_is_log.df (ps := ["program", "thing"]) X G (fun _ _ _ _ _ _ us hl => match us, hl with | [_, _], _ => rfl)
  obtain ⟨f__law_pool, fd__law_pool, D__law_pool⟩ := tf__law_pool.df (ps := ["_law_script"]) X G (fun _ _ _ _ _ _ us hl => match us, hl with | [_], _ => rfl)
  obtain ⟨f__law_draw, fd__law_draw, D__law_draw⟩ := tf__law_draw.df (ps := ["_law_pool_here", "_law_many"]) X G (fun _ _ _ _ _ _ us hl => match us, hl with | [_, _], _ => rfl)
  obtain ⟨f__law_some, fd__law_some, D__law_some⟩ := tf__law_some.df (ps := ["_law_pool_here", "_law_things"]) X G (fun _ _ _ _ _ _ us hl => match us, hl with | [_, _], _ => rfl)
  obtain ⟨f__law_integer, fd__law_integer, D__law_integer⟩ := tf__law_integer.df (ps := ["_law_thing"]) X G (fun _ _ _ _ _ _ us hl => match us, hl with | [_], _ => rfl)
  obtain ⟨f__law_same, fd__law_same, D__law_same⟩ := tf__law_same.df (ps := ["_law_actual", "_law_expected"]) X G (fun _ _ _ _ _ _ us hl => match us, hl with | [_, _], _ => rfl)
  obtain ⟨f__law_with, fd__law_with, D__law_with⟩ := tf__law_with.df (ps := ["_law_row", "_law_place", "_law_thing"]) X G (fun _ _ _ _ _ _ us hl => match us, hl with | [_, _, _], _ => rfl)
  obtain ⟨f__law_deep, fd__law_deep, D__law_deep⟩ := tf__law_deep.df (ps := ["_law_many"]) X G (fun _ _ _ _ _ _ us hl => match us, hl with | [_], _ => rfl)
  obtain ⟨f__law_strange, fd__law_strange, D__law_strange⟩ := tf__law_strange.df (ps := ["_law_pool_here"]) X G (fun _ _ _ _ _ _ us hl => match us, hl with | [_], _ => rfl)
  obtain ⟨f__law_step, fd__law_step, D__law_step⟩ := tf__law_step.df (ps := ["_law_pool_here", "_law_sides"]) X G (fun _ _ _ _ _ _ us hl => match us, hl with | [_, _], _ => rfl)
  obtain ⟨f__law_parts, fd__law_parts, D__law_parts⟩ := tf__law_parts.df (ps := ["_law_pool_here"]) X G (fun _ _ _ _ _ _ us hl => match us, hl with | [_], _ => rfl)
  obtain ⟨f__law_program, fd__law_program, D__law_program⟩ := tf__law_program.df (ps := ["_law_parts_here"]) X G (fun _ _ _ _ _ _ us hl => match us, hl with | [_], _ => rfl)
  obtain ⟨f__law_ringed, fd__law_ringed, D__law_ringed⟩ := tf__law_ringed.df (ps := ["_law_pool_here"]) X G (fun _ _ _ _ _ _ us hl => match us, hl with | [_], _ => rfl)
  obtain ⟨f__law_from, fd__law_from, D__law_from⟩ := tf__law_from.df (ps := ["_law_parts_here", "_law_table"]) X G (fun _ _ _ _ _ _ us hl => match us, hl with | [_, _], _ => rfl)
  obtain ⟨f__law_is_walk, fd__law_is_walk, D__law_is_walk⟩ := tf__law_is_walk.df (ps := ["_law_parts_here", "_law_thing"]) X G (fun _ _ _ _ _ _ us hl => match us, hl with | [_, _], _ => rfl)
  obtain ⟨f__law_walk, fd__law_walk, D__law_walk⟩ := tf__law_walk.df (ps := ["_law_pool_here", "_law_parts_here", "_law_most"]) X G (fun _ _ _ _ _ _ us hl => match us, hl with | [_, _, _], _ => rfl)
  obtain ⟨f__law_bent, fd__law_bent, D__law_bent⟩ := tf__law_bent.df (ps := ["_law_pool_here", "_law_parts_here", "_law_walk_here"]) X G (fun _ _ _ _ _ _ us hl => match us, hl with | [_, _, _], _ => rfl)
  obtain ⟨fd_law, D_law, bt⟩ := tf_law.law (y := "_law_script") X G hfa (fun _ _ _ _ _ _ us hl => match us, hl with | [_], _ => rfl)
  obtain ⟨f_Program___init__, fd_Program___init__, a_Program___init__, i_Program___init__, F_Program___init__, B_Program___init__⟩ := tm_Program___init__.fn (ps := ["self", "sides", "tables", "readings"]) (fun _ _ _ _ _ _ us hl => match us, hl with | [_, _, _, _], _ => rfl)
  have Z : ThC K C := ThC.of ct.ins z_tuple z_list z_int z_bool z_str
  refine ⟨fd_law, bt, fun base _ _ => ?_⟩
  have c_is_int := ok_is_int (P := l.prog) (w := w) (base := base) D_is_int T
  have c_is_int_in := ok_is_int_in (P := l.prog) (w := w) (base := base) D_is_int_in c_is_int
  have c_is_int_inA := ok_is_int_inA (P := l.prog) (w := w) (base := base) D_is_int_in c_is_int
  have c_is_int_inT := ok_is_int_inT (P := l.prog) (w := w) (base := base) D_is_int_in Z c_is_int
  have c_is_row_of_ints := ok_is_row_of_ints (P := l.prog) (w := w) (base := base) D_is_row_of_ints T c_is_int
  have c_is_reading := ok_is_reading (P := l.prog) (w := w) (base := base) D_is_reading T c_is_int_in c_is_row_of_ints
  have m_Program : Ma l.prog w K mg base 5 "Program" C (spInit K C) := ⟨_, _, _, ⟨ct.makes, a_Program___init__, i_Program___init__, ct.kc⟩, ok_init F_Program___init__ T c_is_int_in c_is_reading, PySem.W.mg_of X G aC, B_Program___init__⟩
  have c_has_form := ok_forms (P := l.prog) (w := w) (base := base) D_has_form D_is_rounds T c_is_int c_is_int_inA 30
  have c_begins_in := ok_begins_in (P := l.prog) (w := w) (base := base) D_begins_in T
  have c_ends_in := ok_ends_in (P := l.prog) (w := w) (base := base) D_ends_in T
  have c_leads_on := ok_leads_on (P := l.prog) (w := w) (base := base) D_leads_on T c_begins_in c_ends_in 31
  have c_is_walk := ok_is_walk (P := l.prog) (w := w) (base := base) D_is_walk T Z c_is_int_inT c_leads_on
  have c_is_log := ok_is_logB (P := l.prog) (w := w) (base := base) D_is_log T c_has_form c_leads_on
  have c__law_pool := ok__law_pool (P := l.prog) (w := w) (base := base) D__law_pool T
  have c__law_draw := ok__law_draw (P := l.prog) (w := w) (base := base) D__law_draw T
  have c__law_some := ok__law_some (P := l.prog) (w := w) (base := base) D__law_some T c__law_draw
  have c__law_integer := ok__law_integerT (P := l.prog) (w := w) (base := base) D__law_integer T Z
  have c__law_integer0 := ok__law_integer (P := l.prog) (w := w) (base := base) D__law_integer T
  have c__law_same := ok__law_sameB (P := l.prog) (w := w) (base := base) D__law_same T c__law_integer (ok__law_same D__law_same T c__law_integer0 0)
  have c__law_with := ok__law_with (P := l.prog) (w := w) (base := base) D__law_with T
  have c__law_deep := ok__law_deep (P := l.prog) (w := w) (base := base) D__law_deep T
  have c__law_strange := ok__law_strange (P := l.prog) (w := w) (base := base) D__law_strange T c__law_some c__law_deep m_Program
  have c__law_step := ok__law_step (P := l.prog) (w := w) (base := base) D__law_step T c__law_draw c__law_some
  have c__law_parts := ok__law_parts (P := l.prog) (w := w) (base := base) D__law_parts T c__law_draw c__law_some c__law_step
  have c__law_program := ok__law_program (P := l.prog) (w := w) (base := base) D__law_program T m_Program
  have c__law_ringed := ok__law_ringed (P := l.prog) (w := w) (base := base) D__law_ringed T c__law_draw c__law_some c__law_step
  have c__law_from := ok__law_from (P := l.prog) (w := w) (base := base) D__law_from T
  have c__law_is_walk := ok__law_is_walk (P := l.prog) (w := w) (base := base) D__law_is_walk T Z c__law_integer
  have c__law_walk := ok__law_walk (P := l.prog) (w := w) (base := base) D__law_walk T c__law_draw c__law_some c__law_from
  have c__law_bent := ok__law_bent (P := l.prog) (w := w) (base := base) D__law_bent T Z c__law_draw c__law_some c__law_with c__law_strange
  exact ok_law D_law T c__law_pool c__law_draw c__law_parts c__law_ringed c__law_program c__law_walk c_is_walk c_is_log c__law_bent c__law_same c__law_is_walk m_Program
end LW
open PySem PySem.W PyProof.Rows L2
set_option maxRecDepth 100000 in
set_option maxHeartbeats 0 in
theorem PySem.Challenge.cw_turnsneeded_k09_whole_walks_judged_holds : PySem.Challenge.rw_turnsneeded_k09_whole_walks_judged.Holds := by
  w_on; o_law; k_head; (case hw => w_witness2)
  k_fill
  refine L2.walk_of (l := PySem.Challenge.rw_turnsneeded_k09_whole_walks_judged) (n := 63) (k := 66) (x := "_law_script") (CX := fun _ => L2.CX0) (sp := fun w => LW.spLaw _) rfl (by decide) rfl ⟨rfl, by decide, by decide⟩ (fun w h Y => PySem.W.kIn_of Y) ?F (fun _ _ a ns hl _ hS => ⟨a, ns, rfl, hS, hl, fun _ => rfl⟩) (fun _ _ _ _ _ z => z)
  case F =>
    intro w mg fa h KX G hmg
    refine' LW.all_of KX G hmg ?aC ?tf_is_int ?tf_is_int_in ?tf_is_row_of_ints ?tf_is_reading ?tf_has_form ?tf_is_rounds ?tf_begins_in ?tf_ends_in ?tf_leads_on ?tf_is_walk ?tf_is_log ?tf__law_pool ?tf__law_draw ?tf__law_some ?tf__law_integer ?tf__law_same ?tf__law_with ?tf__law_deep ?tf__law_strange ?tf__law_step ?tf__law_parts ?tf__law_program ?tf__law_ringed ?tf__law_from ?tf__law_is_walk ?tf__law_walk ?tf__law_bent ?tf_law ?tm_Program___init__ ?ct ?ne ?ob ?nS ?nT ?nR ?z_tuple ?z_list ?z_int ?z_bool ?z_str ?u0 ?u1 ?u2 ?u3 ?u4 ?b_len ?b_int ?b_bool ?b_str ?b_isinstance ?b_tuple ?b_list ?b_dict ?b_set ?b_sorted ?b_range ?b_abs ?b_sum ?b_all ?b_any ?b_enumerate ?b_min ?b_max ?b_zip
    (case aC => k_is)
    (case tf_is_int => (refine' LB.TopF.of ?za ?zl ?zc ?zk; (case za => k_is); (case zl => k_is); (case zc => k_is); (case zk => k_is)))
    (case tf_is_int_in => (refine' LB.TopF.of ?za ?zl ?zc ?zk; (case za => k_is); (case zl => k_is); (case zc => k_is); (case zk => k_is)))
    (case tf_is_row_of_ints => (refine' LB.TopF.of ?za ?zl ?zc ?zk; (case za => k_is); (case zl => k_is); (case zc => k_is); (case zk => k_is)))
    (case tf_is_reading => (refine' LB.TopF.of ?za ?zl ?zc ?zk; (case za => k_is); (case zl => k_is); (case zc => k_is); (case zk => k_is)))
    (case tf_has_form => (refine' LB.TopF.of ?za ?zl ?zc ?zk; (case za => k_is); (case zl => k_is); (case zc => k_is); (case zk => k_is)))
    (case tf_is_rounds => (refine' LB.TopF.of ?za ?zl ?zc ?zk; (case za => k_is); (case zl => k_is); (case zc => k_is); (case zk => k_is)))
    (case tf_begins_in => (refine' LB.TopF.of ?za ?zl ?zc ?zk; (case za => k_is); (case zl => k_is); (case zc => k_is); (case zk => k_is)))
    (case tf_ends_in => (refine' LB.TopF.of ?za ?zl ?zc ?zk; (case za => k_is); (case zl => k_is); (case zc => k_is); (case zk => k_is)))
    (case tf_leads_on => (refine' LB.TopF.of ?za ?zl ?zc ?zk; (case za => k_is); (case zl => k_is); (case zc => k_is); (case zk => k_is)))
    (case tf_is_walk => (refine' LB.TopF.of ?za ?zl ?zc ?zk; (case za => k_is); (case zl => k_is); (case zc => k_is); (case zk => k_is)))
    (case tf_is_log => (refine' LB.TopF.of ?za ?zl ?zc ?zk; (case za => k_is); (case zl => k_is); (case zc => k_is); (case zk => k_is)))
    (case tf__law_pool => (refine' LB.TopF.of ?za ?zl ?zc ?zk; (case za => k_is); (case zl => k_is); (case zc => k_is); (case zk => k_is)))
    (case tf__law_draw => (refine' LB.TopF.of ?za ?zl ?zc ?zk; (case za => k_is); (case zl => k_is); (case zc => k_is); (case zk => k_is)))
    (case tf__law_some => (refine' LB.TopF.of ?za ?zl ?zc ?zk; (case za => k_is); (case zl => k_is); (case zc => k_is); (case zk => k_is)))
    (case tf__law_integer => (refine' LB.TopF.of ?za ?zl ?zc ?zk; (case za => k_is); (case zl => k_is); (case zc => k_is); (case zk => k_is)))
    (case tf__law_same => (refine' LB.TopF.of ?za ?zl ?zc ?zk; (case za => k_is); (case zl => k_is); (case zc => k_is); (case zk => k_is)))
    (case tf__law_with => (refine' LB.TopF.of ?za ?zl ?zc ?zk; (case za => k_is); (case zl => k_is); (case zc => k_is); (case zk => k_is)))
    (case tf__law_deep => (refine' LB.TopF.of ?za ?zl ?zc ?zk; (case za => k_is); (case zl => k_is); (case zc => k_is); (case zk => k_is)))
    (case tf__law_strange => (refine' LB.TopF.of ?za ?zl ?zc ?zk; (case za => k_is); (case zl => k_is); (case zc => k_is); (case zk => k_is)))
    (case tf__law_step => (refine' LB.TopF.of ?za ?zl ?zc ?zk; (case za => k_is); (case zl => k_is); (case zc => k_is); (case zk => k_is)))
    (case tf__law_parts => (refine' LB.TopF.of ?za ?zl ?zc ?zk; (case za => k_is); (case zl => k_is); (case zc => k_is); (case zk => k_is)))
    (case tf__law_program => (refine' LB.TopF.of ?za ?zl ?zc ?zk; (case za => k_is); (case zl => k_is); (case zc => k_is); (case zk => k_is)))
    (case tf__law_ringed => (refine' LB.TopF.of ?za ?zl ?zc ?zk; (case za => k_is); (case zl => k_is); (case zc => k_is); (case zk => k_is)))
    (case tf__law_from => (refine' LB.TopF.of ?za ?zl ?zc ?zk; (case za => k_is); (case zl => k_is); (case zc => k_is); (case zk => k_is)))
    (case tf__law_is_walk => (refine' LB.TopF.of ?za ?zl ?zc ?zk; (case za => k_is); (case zl => k_is); (case zc => k_is); (case zk => k_is)))
    (case tf__law_walk => (refine' LB.TopF.of ?za ?zl ?zc ?zk; (case za => k_is); (case zl => k_is); (case zc => k_is); (case zk => k_is)))
    (case tf__law_bent => (refine' LB.TopF.of ?za ?zl ?zc ?zk; (case za => k_is); (case zl => k_is); (case zc => k_is); (case zk => k_is)))
    (case tf_law => (refine' LB.TopF.of ?za ?zl ?zc ?zk; (case za => k_is); (case zl => k_is); (case zc => k_is); (case zk => k_is)))
    (case tm_Program___init__ => (refine' LB.TopM.of ?za ?zi ?zl ?zc ?zk; (case za => k_is); (case zi => k_is); (case zl => k_is); (case zc => k_is); (case zk => k_is)))
    (case ct => (refine' ⟨?y1, ?y2, ?y3, ?y4, ?y5, ?y6, ?y7, ?y8, ?y9, ?y10⟩; (case y1 => k_is); (case y2 => k_is); (case y3 => k_is); (case y4 => k_is); (case y5 => k_is); (case y6 => k_is); (case y7 => k_is); (case y8 => k_is); (case y9 => k_is); (case y10 => k_is)))
    (case ne => k_is)
    (case ob => k_is)
    (case nS => k_is)
    (case nT => k_is)
    (case nR => k_is)
    (case z_tuple => k_is)
    (case z_list => k_is)
    (case z_int => k_is)
    (case z_bool => k_is)
    (case z_str => k_is)
    (case u0 => k_is)
    (case u1 => k_is)
    (case u2 => k_is)
    (case u3 => k_is)
    (case u4 => k_is)
    (case b_len => k_is)
    (case b_int => k_is)
    (case b_bool => k_is)
    (case b_str => k_is)
    (case b_isinstance => k_is)
    (case b_tuple => k_is)
    (case b_list => k_is)
    (case b_dict => k_is)
    (case b_set => k_is)
    (case b_sorted => k_is)
    (case b_range => k_is)
    (case b_abs => k_is)
    (case b_sum => k_is)
    (case b_all => k_is)
    (case b_any => k_is)
    (case b_enumerate => k_is)
    (case b_min => k_is)
    (case b_max => k_is)
    (case b_zip => k_is)
