import PyProof.Rows.All
import Wide.All
import OpenK.AllK
import Wide.FinOn
import HandS.TupSets
import KE.KeyNested
import KE.SortData
import HandS.ForMost
import HandS.IsInst
import HandS.TupAny
import HandS.TupLe
import HandS.Wide
import HandS.Codes
import HandS.TupMul
import HandS.OwnEq
import HandS.Conv
import PyProof.InstNe
import KE.DataCmp
import HandS.Iter
import KE.GoesMore
import HandS.Style
import PySem.Challenge.RW_turnsneeded_k03_whole_steps_turned_and_s
set_option Elab.async false
set_option linter.all false
set_option maxRecDepth 100000
/-! Sets of readings: a reading's key is (reader, read, step), a tuple with a tuple of whole numbers inside it. -/
namespace RS
open PySem PySem.Spec PyProof.Rows L2
abbrev RK := Int × Int × List Int
def nk (k : RK) : NestedKey := .tup [.num k.1, .num k.2.1, .tup (k.2.2.map .num)]
theorem nums_inj : ∀ {xs ys : List Int}, xs.map NestedKey.num = ys.map NestedKey.num → xs = ys
  | [], [], _ => rfl
  | [], _ :: _, h => by cases h
  | _ :: _, [], h => by cases h
  | x :: xs, y :: ys, h => by
    injection h with h1 h2
    injection h1 with h1
    rw [h1, nums_inj h2]
theorem nk_inj {j k : RK} (h : nk j = nk k) : j = k := by
  obtain ⟨a, b, c⟩ := j
  obtain ⟨a', b', c'⟩ := k
  unfold nk at h
  injection h with h
  injection h with h1 h
  injection h with h2 h
  injection h with h3 _
  injection h1 with h1
  injection h2 with h2
  injection h3 with h3
  dsimp only at h1 h2 h3
  rw [h1, h2, nums_inj h3]
theorem nums_depth : ∀ xs : List Int, NestedKey.depthAll (xs.map .num) = 0
  | [] => rfl
  | x :: xs => by
    show max (NestedKey.depth (.num x)) (NestedKey.depthAll (xs.map .num)) = 0
    rw [nums_depth xs]
    rfl
theorem nk_depth (k : RK) : (nk k).depth = 2 := by
  show max 0 (max 0 (max (NestedKey.depthAll (k.2.2.map .num) + 1) 0)) + 1 = 2
  rw [nums_depth]
  rfl
/-- the tuple at a is the reading k -/
def IsR (h : Heap) (k : RK) (a : Addr) : Prop := NestedIs h (nk k) (.ref a)
theorem IsR.inj {h : Heap} {a : Addr} {j k : RK} (x : IsR h j a) (y : IsR h k a) : j = k := nk_inj (NestedIs.inj _ _ _ x y)
theorem IsR.keep {h h' : Heap} {k : RK} {a : Addr} (x : IsR h k a) (m : ∀ c o, h.get? c = some o → h'.get? c = some o) : IsR h' k a := NestedIs.at (fun c o _ _ e _ => m c o e) _ _ x
/-- but for the object at d, which is no tuple and no list -/
theorem IsR.but {h h' : Heap} {k : RK} {a d : Addr} {o : Obj} {es ep t} (x : IsR h k a) (ho : h.get? d = some o) (hd : o.data = .set es ep t) (m : Heap.SameBut d h h') : IsR h' k a :=
  NestedIs.at (fun c u vs n e q => (m.2 c (fun z => by rw [z, ho] at e; cases e; rw [hd] at q; cases q)).trans e) _ _ x
@[irreducible] def rh (w : World) (k : RK) : Int := (nk k).hash w

section
variable {P : Program} {w : World} {A : Around} {E : Value → Shared → Prop} {s : Shared}
/-! ### questions asked of an item ahead of a search -/
abbrev NoCls (P : Program) (w : World) (n : Nat) (s : Shared) (v : Value) : Prop := ∀ (A : Around) (E : Value → Shared → Prop) (Q : Bool → Shared → Prop), Q false s → wpAny (model P w) A (ofAClassStatement n v) Q E s
abbrev ByVal (P : Program) (w : World) (n : Nat) (s : Shared) (v : Value) : Prop := ∀ (A : Around) (E : Value → Shared → Prop) (Q : Bool → Shared → Prop), Q true s → wpAny (model P w) A (hashByValue n v) Q E s
theorem noCls_plain {n : Nat} {v : Value} (hv : ∀ a, v ≠ .ref a) : NoCls P w n s v := fun A E Q q => by
  cases v with
  | ref a => exact absurd rfl (hv a)
  | _ => cases n <;> exact wpAny_pure q
theorem noCls_tup {n m : Nat} {a : Addr} {o : Obj} {vs : Array Value} (ho : s.heap.get? a = some o) (hc : o.cls = .type "tuple") (hd : o.data = .seq vs m) (hq : ∀ v ∈ vs.toList, NoCls P w n s v) : NoCls P w (n + 1) s (.ref a) := fun A E Q q => by
  have ty : s.TypeIs (.ref a) "tuple" := ⟨o, ho, hc⟩
  have tt : (("tuple" : String) == "tuple") = true := by decide
  unfold ofAClassStatement
  refine wpAny_bind (wpAny_typeOf ty ?_)
  dsimp only
  simp only [tt, if_true, Bool.not_true, Bool.false_eq_true, if_false]
  try refine wpAny_bind (wpAny_pure ?_)
  try simp only [Bool.not_true, Bool.false_eq_true, if_false]
  show wpAny _ _ (seqItems? (.ref a) >>= _) _ _ s
  refine wpAny_bind (wpAny_seqItems ho hd ?_)
  dsimp only
  refine wpAny_bind ?_
  show wpAny _ _ (forIn vs _ _) _ _ s
  rw [← Array.forIn_toList]
  refine wpAny_forIn_list _ (fun rest r s1 => r.1 = none ∧ s1 = s ∧ ∀ v ∈ rest, NoCls P w n s v) _ ?_ ?_ _ _ ⟨rfl, rfl, hq⟩
  · rintro v rest r s1 ⟨hr, rfl, hall⟩
    refine wpAny_bind (hall v List.mem_cons_self _ _ _ ?_)
    simp only [Bool.false_eq_true, if_false]
    exact wpAny_pure ⟨rfl, rfl, fun u hu => hall u (List.mem_cons_of_mem _ hu)⟩
  · rintro ⟨r1, r2⟩ s1 ⟨hr, rfl, _⟩
    simp only at hr
    subst hr
    exact wpAny_pure q
theorem byVal_tup {n m : Nat} {a : Addr} {o : Obj} {vs : Array Value} (ho : s.heap.get? a = some o) (hc : o.cls = .type "tuple") (hd : o.data = .seq vs m) (hq : ∀ v ∈ vs.toList, ByVal P w n s v) : ByVal P w (n + 1) s (.ref a) := fun A E Q q => by
  have ty : s.TypeIs (.ref a) "tuple" := ⟨o, ho, hc⟩
  unfold hashByValue
  refine wpAny_bind (wpAny_specialOf ty F.slot_tuple_hash.lookup ?_)
  show wpAny _ _ (seqItems? (.ref a) >>= _) _ _ s
  refine wpAny_bind (wpAny_seqItems ho hd ?_)
  refine wpAny_bind ?_
  show wpAny _ _ (forIn vs _ _) _ _ s
  rw [← Array.forIn_toList]
  refine wpAny_forIn_list _ (fun rest r s1 => r.1 = none ∧ s1 = s ∧ ∀ v ∈ rest, ByVal P w n s v) _ ?_ ?_ _ _ ⟨rfl, rfl, hq⟩
  · rintro v rest r s1 ⟨hr, rfl, hall⟩
    refine wpAny_bind (hall v List.mem_cons_self _ _ _ ?_)
    simp only [Bool.not_true, Bool.false_eq_true, if_false]
    exact wpAny_pure ⟨rfl, rfl, fun u hu => hall u (List.mem_cons_of_mem _ hu)⟩
  · rintro ⟨r1, r2⟩ s1 ⟨hr, rfl, _⟩
    simp only at hr
    subst hr
    exact wpAny_pure q
/-- a key without texts: numbers and tuples of such -/
def plainK : NestedKey → Bool
  | .num _ => true
  | .tup ks => plainAll ks
  | _ => false
where plainAll : List NestedKey → Bool
  | [] => true
  | k :: ks => plainK k && plainAll ks
theorem nums_plain : ∀ xs : List Int, plainK.plainAll (xs.map .num) = true
  | [] => rfl
  | x :: xs => by
    show (plainK (.num x) && plainK.plainAll (xs.map .num)) = true
    rw [nums_plain xs]
    rfl
theorem nk_plain (k : RK) : plainK (nk k) = true := by
  show (true && (true && (plainK.plainAll (k.2.2.map .num) && true))) = true
  rw [nums_plain]
  rfl
mutual
theorem asked : ∀ (k : NestedKey) (v : Value) (n : Nat) (s : Shared), NestedIs s.heap k v → plainK k = true → k.depth ≤ n → NoCls P w n s v ∧ ByVal P w n s v
  | .none, _, _, _, _, p, _ => nomatch p
  | .text _, _, _, _, _, p, _ => nomatch p
  | .num i, _, n, s, x, _, _ => by
    cases x with
    | bool e => exact ⟨noCls_plain (fun a z => by cases z), fun A E Q q => by cases n <;> exact wpAny_pure q⟩
    | int i t => exact ⟨noCls_plain (fun a z => by cases z), fun A E Q q => by cases n <;> exact wpAny_pure q⟩
  | .tup ks, _, n, s, x, p, hn => by
    cases x with
    | tup hg hc hd hk =>
      simp only [NestedKey.depth] at hn
      cases n with
      | zero => omega
      | succ n =>
        have q := asked_all ks _ n s hk p (by omega)
        exact ⟨noCls_tup hg hc hd fun v hv => (q v hv).1, byVal_tup hg hc hd fun v hv => (q v hv).2⟩
theorem asked_all : ∀ (ks : List NestedKey) (vs : List Value) (n : Nat) (s : Shared), NestedAll s.heap ks vs → plainK.plainAll ks = true → NestedKey.depthAll ks ≤ n → ∀ v ∈ vs, NoCls P w n s v ∧ ByVal P w n s v
  | [], _, _, _, x, _, _, v, hv => by cases x; cases hv
  | k :: ks, _, n, s, x, p, hn, v, hv => by
    cases x with
    | cons x1 x2 =>
      simp only [NestedKey.depthAll] at hn
      have p2 : plainK k = true ∧ plainK.plainAll ks = true := Bool.and_eq_true_iff.mp p
      rcases List.mem_cons.mp hv with e | hv
      · rw [e]; exact asked k _ n s x1 p2.1 (by omega)
      · exact asked_all ks _ n s x2 p2.2 (by omega) v hv
end
theorem IsR.noCls {k : RK} {a : Addr} (x : IsR s.heap k a) : NoCls P w 8 s (.ref a) := (asked _ _ 8 s x (nk_plain k) (by rw [nk_depth]; decide)).1
theorem IsR.byVal {k : RK} {a : Addr} (x : IsR s.heap k a) : ByVal P w 8 s (.ref a) := (asked _ _ 8 s x (nk_plain k) (by rw [nk_depth]; decide)).2
theorem IsR.quiet {k : RK} {a : Addr} (x : IsR s.heap k a) : QuietAt P w 8 s (.ref a) := quiet_key _ _ 8 s x (by rw [nk_depth]; decide)
theorem IsR.hashed {k : RK} {a : Addr} {Q : Int → Shared → Prop} (x : IsR s.heap k a) (hu : A.units + 2 < cLine) (q : Q (rh w k) { s with toks := s.toks + (nk k).draws }) : wpAny (model P w) A (pyHash (.ref a)) Q E s := by
  unfold rh at q
  exact pyHash_key _ _ _ _ _ x (by rw [nk_depth]; exact hu) q
theorem IsR.same {j k : RK} {a b : Addr} {Q : Bool → Shared → Prop} (x : IsR s.heap j a) (y : IsR s.heap k b) (hu : A.units + 2 < cLine) (q : Q (decide (j = k)) s) : wpAny (model P w) A (eqBool (.ref a) (.ref b)) Q E s := by
  refine eqAt_key _ _ A s _ _ x y (by rw [nk_depth, nk_depth]; exact hu) _ _ _ _ ?_
  rw [← NestedKey.decide_eq]
  have e : decide (nk j = nk k) = decide (j = k) := decide_eq_decide.mpr ⟨nk_inj, congrArg nk⟩
  rw [e]
  exact q
/-- looking for a reading among readings asks nobody -/
theorem unseen {k : RK} {a : Addr} (x : IsR s.heap k a) {Q : Bool → Shared → Prop} {ys : List Value} (hy : ∀ y ∈ ys, ∃ j c, y = Value.ref c ∧ IsR s.heap j c) (q : Q false s) : wpAny (model P w) A (searchCouldBeSeen (.ref a) ys) Q E s := by
  unfold searchCouldBeSeen
  refine wpAny_bind ?_
  refine wpAny_forIn_list _ (fun rest r s1 => r.1 = none ∧ s1 = s ∧ ∀ y ∈ rest, ∃ j c, y = Value.ref c ∧ IsR s.heap j c) _ ?_ ?_ _ _ ⟨rfl, rfl, hy⟩
  · rintro v rest r s1 ⟨hr, rfl, hall⟩
    obtain ⟨j, c, rfl, hc⟩ := hall v List.mem_cons_self
    have more := fun u hu => hall u (List.mem_cons_of_mem _ hu)
    dsimp only
    by_cases very : (a == c || (carriedByValue (.ref a) && carriedByValue (.ref c))) = true
    · exact wp_if_pos very (wpAny_pure ⟨rfl, rfl, more⟩)
    · refine wp_if_neg very (wpAny_bind (x.quiet _ _ _ ?_))
      simp only [Bool.not_true, Bool.false_eq_true, if_false]
      refine wpAny_bind (hc.quiet _ _ _ ?_)
      simp only [Bool.not_true, Bool.false_eq_true, if_false]
      refine wpAny_bind (x.noCls _ _ _ ?_)
      simp only [Bool.false_eq_true, if_false]
      refine wpAny_bind (hc.noCls _ _ _ ?_)
      simp only [Bool.false_eq_true, if_false]
      exact wpAny_pure ⟨rfl, rfl, more⟩
  · rintro ⟨r1, r2⟩ s1 ⟨hr, rfl, _⟩
    simp only at hr
    subst hr
    exact wpAny_pure q
end
end RS
set_option Elab.async false
set_option linter.all false
set_option maxRecDepth 100000
namespace RS
open PySem PySem.Spec PyProof.Rows L2
abbrev Ks := List (Addr × RK)
abbrev hs (w : World) (L : Ks) : List Int := L.map fun p => rh w p.2
/-- how the entries of the set stand: hash, value -/
def ents (w : World) (L : Ks) : List (Int × Value) := L.map fun p => (rh w p.2, Value.ref p.1)
theorem ents_len {w : World} {L : Ks} {es : Array (Int × Value)} (e : es.toList = ents w L) : es.size = L.length := by
  have q := congrArg List.length e
  unfold ents at q
  rwa [Array.length_toList, List.length_map] at q
theorem ents_at {w : World} {L : Ks} {es : Array (Int × Value)} (e : es.toList = ents w L) {i : Nat} {p : Addr × RK} (h : L[i]? = some p) : es[i]? = some (rh w p.2, Value.ref p.1) := by
  rw [← Array.getElem?_toList, e]
  unfold ents
  rw [List.getElem?_map, h] <;> rfl
/-- a set of readings at a: its members L, in the order of their places -/
structure SetR (w : World) (h : Heap) (a : Addr) (L : Ks) (es : Array (Int × Value)) (ep : Nat) (t : SetTable) : Prop where
  ob : ∃ o, h.get? a = some o ∧ o.ExactSet ∧ o.data = .set es ep t
  rows : es.toList = ents w L
  tab : TabOk t (hs w L)
  nd : (L.map (·.2)).Nodup
  tup : ∀ p ∈ L, IsR h p.2 p.1
  plain : t.plain = true
  led : w.params.followText "set-order" = true ∨ t.led = true
  room : L.length * 5 < t.mask * 3
  few : L.length < 64
abbrev step (t : SetTable) (h : Int) (c : Nat) : SetTable.Probe := nth t.mask (runAt t.mask (SetTable.bits h % (t.mask + 1)) (SetTable.bits h)) c
theorem step_add (t : SetTable) (h : Int) (c q : Nat) : nth t.mask (step t h c) q = step t h (c + q) := (nth_add t.mask c _ q).symm
theorem step_j (t : SetTable) (h : Int) (c q : Nat) : (nth t.mask (step t h c) q).j = way t.mask h (c + q) := by rw [step_add]
theorem step_clean (t : SetTable) (h : Int) (c : Nat) : (step t h c).dummy = none := by
  have key : ∀ (n : Nat) (p : SetTable.Probe), p.dummy = none → (nth t.mask p n).dummy = none := by
    intro n
    induction n with
    | zero => exact fun p h => h
    | succ n ih =>
      intro p h
      refine ih (adv t.mask p) ?_
      unfold adv
      split <;> exact h
  exact key c _ rfl
section
variable {P : Program} {w : World} {A : Around} {E : Value → Shared → Prop} {s : Shared} {a : Addr} {L : Ks} {es : Array (Int × Value)} {ep : Nat} {t : SetTable}
theorem SetR.size (R : SetR w s.heap a L es ep t) : es.size = L.length := ents_len R.rows
theorem SetR.placed (R : SetR w s.heap a L es ep t) : t.place.toList.length = L.length := by
  have q := R.tab.sz
  rw [List.length_map] at q
  rw [Array.length_toList, q]
theorem SetR.fits (R : SetR w s.heap a L es ep t) : t.fits es.size = true := by
  have q := R.placed
  rw [Array.length_toList] at q
  have r := R.room
  unfold SetTable.fits SetTable.fill
  rw [R.tab.dm, Bool.and_eq_true, beq_iff_eq, decide_eq_true_eq, R.size]
  show t.place.size = L.length ∧ t.place.size + 0 ≤ t.mask
  omega
theorem SetR.holds (R : SetR w s.heap a L es ep t) : ¬ t.gaveWay = true := by
  unfold SetTable.gaveWay
  rw [mask_odd R.tab.mok]
  decide
/-- from the c-th place of its way on, the search for the reading k -/
theorem look_on (R : SetR w s.heap a L es ep t) {x : Addr} {k : RK} (hx : IsR s.heap k x) (hu : A.units + 2 < cLine) {m : Nat} (hm : m < 10 * SetTable.turns t.mask)
    (free : way t.mask (rh w k) m ∉ t.place.toList) (full : ∀ c, c < m → way t.mask (rh w k) c ∈ t.place.toList) {Q : SetFound → Shared → Prop}
    (yes : k ∈ L.map (·.2) → Q (.there none) s) (no : k ∉ L.map (·.2) → Q (.free (way t.mask (rh w k) m) false) s) :
    ∀ (f c : Nat) (from? : Option SetTable.Probe), from?.getD (t.probeStart (rh w k)) = step t (rh w k) c → c ≤ m → m - c < f →
      (∀ (i : Nat) p, L[i]? = some p → p.2 = k → ∃ d, c ≤ d ∧ d < m ∧ t.place.toList[i]? = some (way t.mask (rh w k) d)) →
      wpAny (model P w) A (setSearchFrom a (.ref x) (rh w k) true f from?) Q E s := by
  obtain ⟨o, ho, hex, hd⟩ := R.ob
  intro f
  induction f with
  | zero => exact fun c from? _ _ hf _ => absurd hf (Nat.not_lt_zero _)
  | succ f ih =>
    intro c from? hst hc hf again
    rw [setSearchFrom_succ]
    refine wpAny_bind (wpAny_setState_of ho hd R.fits ?_)
    dsimp only
    refine wp_if_neg R.holds ?_
    try refine wpAny_bind (wpAny_pure ?_)
    have jj : ∀ q, (nth t.mask (step t (rh w k) c) q).j = way t.mask (rh w k) (c + q) := step_j t (rh w k) c
    have hat : ∀ (i : Nat) p, L[i]? = some p → (fun i => (es[i]?.map (·.1)).getD 0) i = rh w p.2 := fun i p hp => by
      dsimp only
      rw [ents_at R.rows hp, Option.map_some, Option.getD_some]
    rcases go_spec t R.tab.ris R.tab.dm (fun i => (es[i]?.map (·.1)).getD 0) (rh w k) (10 * SetTable.turns t.mask) (m - c) (step t (rh w k) c) (step_clean t _ c) (by omega)
      (fun q hq => by rw [jj]; exact full (c + q) (by omega)) (by rw [jj, show c + (m - c) = m by omega]; exact free) with ⟨q, i, hq, hi, _, before, pr⟩ | ⟨before, pr⟩
    · have pr' : t.probe (fun i => (es[i]?.map (·.1)).getD 0) (rh w k) (from?.getD (t.probeStart (rh w k))) = some (.candidate (way t.mask (rh w k) (c + q)) i (step t (rh w k) (c + (q + 1)))) := by
        rw [hst, ← jj, ← step_add]
        exact pr
      rw [pr']
      dsimp only
      rw [jj] at hi
      have hil : i < L.length := by
        have z : i < t.place.toList.length := (List.getElem?_eq_some_iff.mp hi).1
        rw [R.placed] at z
        exact z
      obtain ⟨p, hp⟩ : ∃ p, L[i]? = some p := ⟨_, List.getElem?_eq_getElem hil⟩
      have inL : p ∈ L := List.mem_of_getElem? hp
      have here := ents_at R.rows hp
      have live : t.slot (way t.mask (rh w k) (c + q)) = .live i := slot_live R.tab.ris hi
      have after : wpAny (model P w) A (searchRest a (.ref x) (rh w k) true f es t (way t.mask (rh w k) (c + q)) i (step t (rh w k) (c + (q + 1)))) Q E s := by
        unfold searchRest
        rw [here]
        dsimp only
        refine wpAny_bind (wpAny_holding ((R.tup p inL).same hx hu ?_))
        refine wpAny_bind (wpAny_setState_of ho hd R.fits ?_)
        dsimp only
        by_cases hk : p.2 = k
        · exact wp_if_pos (by simp [hk]) (wpAny_pure (yes (List.mem_map.mpr ⟨p, inL, hk⟩)))
        · refine wp_if_neg (by simp [hk]) ?_
          try refine wpAny_bind (wpAny_pure ?_)
          rw [sameMem]
          dsimp only
          simp only [if_true, live, here]
          refine wpAny_bind (wpAny_isSame_ref_self (wpAny_bind (wpAny_pure ?_)))
          simp only [if_true]
          refine wp_if_neg (by simp [hk]) (ih (c + (q + 1)) _ rfl (by omega) (by omega) fun j r hr hrk => ?_)
          obtain ⟨d, d1, d2, d3⟩ := again j r hr hrk
          refine ⟨d, ?_, d2, d3⟩
          apply Classical.byContradiction
          intro z
          by_cases y : d = c + q
          · rw [y] at d3
            have e := slot_live R.tab.ris d3
            rw [live] at e
            injection e with e
            rw [← e, hp] at hr
            exact hk ((congrArg Prod.snd (Option.some.inj hr)).trans hrk)
          · exact before (d - c) j (by omega) (by rw [jj, show c + (d - c) = d by omega]; exact d3) ((hat j r hr).trans (congrArg (rh w) hrk))
      by_cases hl : t.led = true
      · refine wp_if_neg (by simp [hl]) ?_
        try refine wpAny_bind (wpAny_pure ?_)
        exact after
      · refine wp_if_pos (by simp [hl]) (wpAny_bind (unseen hx (fun y hy => ?_) ?_))
        · obtain ⟨e, he, rfl⟩ := List.mem_map.mp hy
          have he1 : e ∈ es ∧ e.1 = rh w k := by simpa using he
          have he2 : e ∈ es.toList := by simpa using he1.1
          rw [R.rows] at he2
          obtain ⟨r, hr, rfl⟩ := List.mem_map.mp he2
          exact ⟨r.2, r.1, rfl, R.tup r hr⟩
        · refine wp_if_neg (by decide) ?_
          try refine wpAny_bind (wpAny_pure ?_)
          exact after
    · have pr' : t.probe (fun i => (es[i]?.map (·.1)).getD 0) (rh w k) (from?.getD (t.probeStart (rh w k))) = some (.empty (way t.mask (rh w k) m) none) := by
        have e : way t.mask (rh w k) m = (nth t.mask (step t (rh w k) c) (m - c)).j := by rw [jj, show c + (m - c) = m by omega]
        rw [hst, e]
        exact pr
      rw [pr']
      dsimp only
      refine wpAny_pure (no fun hm' => ?_)
      obtain ⟨r, hr, hrk⟩ := List.mem_map.mp hm'
      obtain ⟨j, hj, rfl⟩ := List.getElem_of_mem hr
      obtain ⟨d, d1, d2, d3⟩ := again j _ (List.getElem?_eq_getElem hj) hrk
      exact before (d - c) j (by omega) (by rw [jj, show c + (d - c) = d by omega]; exact d3) ((hat j _ (List.getElem?_eq_getElem hj)).trans (congrArg (rh w) hrk))
/-- the search, as it is asked ahead of an addition -/
theorem look (R : SetR w s.heap a L es ep t) {x : Addr} {k : RK} (hx : IsR s.heap k x) (hu : A.units + 2 < cLine) {Q : SetFound → Shared → Prop} (yes : k ∈ L.map (·.2) → Q (.there none) s)
    (no : ∀ m, k ∉ L.map (·.2) → way t.mask (rh w k) m ∉ t.place.toList → (∀ c, c < m → way t.mask (rh w k) c ∈ t.place.toList) → Q (.free (way t.mask (rh w k) m) false) s) : wpAny (model P w) A (setSearch a (.ref x) (rh w k) true) Q E s := by
  have hroom := R.room
  obtain ⟨m, hm, free, full⟩ := R.tab.first (by rw [List.length_map]; omega) (rh w k)
  have small : 10 * SetTable.turns t.mask ≤ 1420 := by
    unfold SetTable.turns
    rcases R.tab.mok with e | e | e <;> omega
  unfold setSearch
  refine look_on R hx hu hm free full yes (fun z => no m z free full) 100000 0 none rfl (Nat.zero_le _) (by omega) fun i p hp hk => ?_
  have hi : (hs w L)[i]? = some (rh w k) := by rw [List.getElem?_map, hp, ← hk] <;> rfl
  have hil : i < t.place.toList.length := by rw [R.placed]; exact (List.getElem?_eq_some_iff.mp hp).1
  obtain ⟨c, hc, e⟩ := R.tab.before free hi (List.getElem?_eq_getElem hil)
  exact ⟨c, Nat.zero_le _, hc, by rw [List.getElem?_eq_getElem hil, e]⟩
end
end RS
set_option Elab.async false
set_option linter.all false
set_option maxRecDepth 100000
namespace RS
open PySem PySem.Spec PyProof.Rows L2
section
variable {P : Program} {w : World} {A : Around} {E : Value → Shared → Prop} {s : Shared} {a : Addr} {L : Ks} {es : Array (Int × Value)} {ep : Nat} {t : SetTable}
/-- entries picked out by an order of all places -/
theorem picked (ee : es.toList = ents w L) {order : Array Nat} (hp : order.toList.Perm (List.range L.length)) :
    ∃ M : Ks, (order.filterMap (es[·]?)).toList = ents w M ∧ M.Perm L ∧ hs w M = order.toList.map fun i => (es.map (·.1)).getD i 0 := by
  have pick : ∀ l : List Nat, (∀ i ∈ l, i < L.length) → l.filterMap (fun i => es[i]?) = ents w (l.filterMap fun i => L[i]?) ∧ hs w (l.filterMap fun i => L[i]?) = l.map fun i => (es.map (·.1)).getD i 0 := by
    intro l
    induction l with
    | nil => exact fun _ => ⟨rfl, rfl⟩
    | cons i l ih =>
      intro hl
      have hi := List.getElem?_eq_getElem (hl i List.mem_cons_self)
      have he := ents_at ee hi
      obtain ⟨e1, e2⟩ := ih fun j hj => hl j (List.mem_cons_of_mem _ hj)
      have e3 : (es.map (·.1)).getD i 0 = rh w (L[i]'(hl i List.mem_cons_self)).2 := by
        have e4 : (es.map (·.1))[i]? = some (rh w (L[i]'(hl i List.mem_cons_self)).2) := by rw [Array.getElem?_map, he, Option.map_some]
        rw [Array.getD_eq_getD_getElem?, e4, Option.getD_some]
      rw [List.filterMap_cons_some he, List.filterMap_cons_some hi, e1]
      refine ⟨by unfold ents; rw [List.map_cons], ?_⟩
      rw [List.map_cons, ← e2, e3]
      unfold hs
      rw [List.map_cons]
  have all : ∀ n, n ≤ L.length → (List.range n).filterMap (fun i => L[i]?) = L.take n := by
    intro n
    induction n with
    | zero => exact fun _ => rfl
    | succ n ih =>
      intro hn
      have e := List.getElem?_eq_getElem (show n < L.length from hn)
      rw [List.range_succ, List.filterMap_append, ih (Nat.le_of_succ_le hn), List.take_succ, e, List.filterMap_cons_some e]
      rfl
  obtain ⟨e1, e2⟩ := pick order.toList fun i hi => List.mem_range.mp (hp.mem_iff.mp hi)
  refine ⟨order.toList.filterMap fun i => L[i]?, ?_, ?_, e2⟩
  · rw [Array.toList_filterMap]
    exact e1
  · have q := hp.filterMap fun i => L[i]?
    rw [all L.length (Nat.le_refl _), List.take_length] at q
    exact q
/-- the table grows: laid anew -/
theorem regrown {o : Obj} (ho : s.heap.get? a = some o) (hex : o.ExactSet) (hd : o.data = .set es ep t) (ee : es.toList = ents w L) (T : TabOk t (hs w L)) (fit : L.length ≤ t.mask)
    (nd : (L.map (·.2)).Nodup) (tup : ∀ p ∈ L, IsR s.heap p.2 p.1) (pl : t.plain = true) (ld : w.params.followText "set-order" = true ∨ t.led = true) (few : L.length < 64) {wanted m : Nat}
    (hw : SetTable.sizeAbove wanted - 1 = m) (hm : MaskOk m) (hw2 : SetTable.sizeAbove wanted ≤ 128) (room : L.length * 5 < m * 3) {Q : Unit → Shared → Prop}
    (q : ∀ h' M es' ep' t', Heap.SameBut a s.heap h' → SetR w h' a M es' ep' t' → M.Perm L → Q () { s with heap := h' }) : wpAny (model P w) A (setRelay a wanted) Q E s := by
  have sz := ents_len ee
  have pz : t.place.size = L.length := by
    have z := T.sz
    rwa [List.length_map] at z
  have fits : t.fits es.size = true := by
    unfold SetTable.fits SetTable.fill
    rw [T.dm, Bool.and_eq_true, beq_iff_eq, decide_eq_true_eq, sz]
    show t.place.size = L.length ∧ t.place.size + 0 ≤ t.mask
    omega
  obtain ⟨u, order, e, hp, U, em, el, eP, _⟩ := relaid_ok t (hs := es.map (·.1)) (wanted := wanted) hw hm (by rw [Array.size_map, sz]; omega)
  rw [Array.size_map, sz] at hp
  obtain ⟨M, m1, m2, m3⟩ := picked ee hp
  rw [← m3] at U
  have sz2 : (order.filterMap (es[·]?)).size = es.size := by rw [ents_len m1, m2.length_eq, sz]
  rw [setRelay_eq]
  refine wpAny_bind (wpAny_setState_of ho hd fits ?_)
  dsimp only
  refine wp_if_neg (by rw [sizeLine_eq]; omega) ?_
  try refine wpAny_bind (wpAny_pure ?_)
  rw [e]
  dsimp only
  refine wpAny_bind ?_
  refine wp_if_neg (by rw [sz2]; simp) ?_
  try refine wpAny_bind (wpAny_pure ?_)
  refine wpAny_pure ?_
  dsimp only
  refine wpAny_storeSet_of ho hd ?_ (by rw [sz2, sz, sizeLine_eq]; omega)
  have sb : Heap.SameBut a s.heap (s.heap.update a (Obj.putSet (order.filterMap (es[·]?)) u)) := Heap.SameBut.update ..
  exact q _ M _ (ep + 1) u sb ⟨⟨_, store_at ho hd, ⟨hex.1, hex.2.1, hex.2.2⟩, rfl⟩, m1, U, (m2.map (·.2)).nodup_iff.mpr nd, fun p hp => (tup p (m2.mem_iff.mp hp)).but ho hd sb,
    by rw [eP]; exact pl, by rw [el]; exact ld, by rw [m2.length_eq, em]; exact room, by rw [m2.length_eq]; exact few⟩ m2
/-- one reading is added -/
theorem added (R : SetR w s.heap a L es ep t) {x : Addr} {k : RK} (hx : IsR s.heap k x) (hu : A.units + 2 < cLine) (few : L.length + 1 < 64) {Q : Bool → Shared → Prop}
    (q : ∀ b h' M es' ep' t', Heap.SameBut a s.heap h' → SetR w h' a M es' ep' t' → (k ∈ L.map (·.2) → M = L) → (k ∉ L.map (·.2) → M.Perm ((x, k) :: L)) → Q b { s with heap := h' }) :
    wpAny (model P w) A (setAddHashed a (.ref x) (rh w k)) Q E s := by
  obtain ⟨o, ho, hex, hd⟩ := R.ob
  have room := R.room
  unfold setAddHashed
  refine wpAny_holding ?_
  rw [show (100000 : Nat) = 99999 + 1 from rfl, setAddHashedIn_succ]
  refine wpAny_bind (wpAny_setState_of ho hd R.fits ?_)
  dsimp only
  refine wp_if_neg (by simp [byScan, Value.scannable]) ?_
  try refine wpAny_bind (wpAny_pure ?_)
  refine wpAny_bind (look R hx hu (fun there => ?_) fun m new free full => ?_)
  · dsimp only
    exact wpAny_pure (q false s.heap L es ep t (Heap.SameBut.refl a s.heap) R (fun _ => rfl) fun z => absurd there z)
  dsimp only
  refine wpAny_bind (wpAny_setState_of ho hd R.fits ?_)
  dsimp only
  obtain ⟨z1, z2, z3, z4, z5, z6, z7, z8, z9⟩ := R.tab.put free full
  have pl : (t.put (way t.mask (rh w k) m)).1.plain = true := by rw [z6]; exact R.plain
  generalize t.put (way t.mask (rh w k) m) = both at z1 z3 z4 z5 z9 pl ⊢
  obtain ⟨u, at?⟩ := both
  dsimp only at z1 z3 z4 z5 z9 pl ⊢
  subst z1
  first
    | (refine wpAny_bind ?_; refine wp_if_pos pl ?_; refine hx.byVal _ _ _ ?_)
    | refine wp_if_pos pl (wpAny_bind (hx.byVal _ _ _ ?_))
  simp only [if_true]
  generalize SetTable.below t.place (way t.mask (rh w k) m) = i at z2 z3 ⊢
  have pm : (L.take i ++ (x, k) :: L.drop i).Perm ((x, k) :: L) := by
    have y : (L.take i ++ (x, k) :: L.drop i).Perm ((x, k) :: (L.take i ++ L.drop i)) := List.perm_middle
    rwa [List.take_append_drop] at y
  have ee : (SetTable.insertAt es i (rh w k, Value.ref x)).toList = ents w (L.take i ++ (x, k) :: L.drop i) := by
    rw [SetTable.toList_insertAt, R.rows]
    unfold ents
    rw [List.map_append, List.map_cons, List.map_take, List.map_drop]
  have eh : (hs w L).take i ++ rh w k :: (hs w L).drop i = hs w (L.take i ++ (x, k) :: L.drop i) := by
    unfold hs
    rw [List.map_append, List.map_cons, List.map_take, List.map_drop]
  rw [eh] at z3
  generalize SetTable.insertAt es i (rh w k, Value.ref x) = es1 at ee ⊢
  generalize L.take i ++ (x, k) :: L.drop i = M at pm ee z3
  have ml : M.length = L.length + 1 := pm.length_eq
  have nd : (M.map (·.2)).Nodup := (pm.map (·.2)).nodup_iff.mpr (by rw [List.map_cons]; exact List.nodup_cons.mpr ⟨new, R.nd⟩)
  have sz := ents_len ee
  refine wpAny_bind (wpAny_storeSet_of ho hd ?_ (by rw [sz, ml, sizeLine_eq]; omega))
  have sb : Heap.SameBut a s.heap (s.heap.update a (Obj.putSet es1 u)) := Heap.SameBut.update ..
  have ho1 := store_at (es' := es1) (t' := u) ho hd
  generalize s.heap.update a (Obj.putSet es1 u) = h1 at sb ho1 ⊢
  have tup : ∀ p ∈ M, IsR h1 p.2 p.1 := fun p hp => by
    rcases List.mem_cons.mp (pm.mem_iff.mp hp) with e | hp
    · rw [e]; exact hx.but ho hd sb
    · exact (R.tup p hp).but ho hd sb
  have ld : w.params.followText "set-order" = true ∨ u.led = true := by rw [z5]; exact R.led
  rw [List.length_map] at z9
  by_cases hf : u.tooFull = true
  · first
      | (refine wpAny_bind ?_; refine wp_if_pos (by simp [hf]) ?_)
      | (refine wp_if_pos (by simp [hf]) ?_; refine wpAny_bind ?_)
    have hfull := hf
    unfold SetTable.tooFull at hfull
    rw [decide_eq_true_eq, z9, z4] at hfull
    rw [R.size]
    have two : (t.mask = 7 ∧ L.length = 4) ∨ (t.mask = 31 ∧ L.length = 18) := by
      rcases R.tab.mok with e | e | e
      · rw [e] at hfull room; exact .inl ⟨e, by omega⟩
      · rw [e] at hfull room; exact .inr ⟨e, by omega⟩
      · rw [e] at hfull; omega
    have go : ∀ m', SetTable.sizeAbove (SetTable.grown (L.length + 1)) - 1 = m' → MaskOk m' → SetTable.sizeAbove (SetTable.grown (L.length + 1)) ≤ 128 → (L.length + 1) * 5 < m' * 3 →
        wpAny (model P w) A (setRelay a (SetTable.grown (L.length + 1))) (fun _ s' => wpAny (model P w) A (pure true) Q E s') E { s with heap := h1 } := fun m' y1 y2 y3 y4 =>
      regrown (s := { s with heap := h1 }) ho1 ⟨hex.1, hex.2.1, hex.2.2⟩ rfl ee z3 (by rw [z4, ml]; rcases two with ⟨e, e2⟩ | ⟨e, e2⟩ <;> omega) nd tup pl ld (by rw [ml]; exact few) y1 y2 y3 (by rw [ml]; exact y4)
        fun h2 N es2 ep2 t2 sb2 R2 pm2 => wpAny_pure (q true h2 N es2 ep2 t2 (sb.trans sb2) R2 (fun z => absurd z new) fun _ => pm2.trans pm)
    rcases two with ⟨_, e2⟩ | ⟨_, e2⟩
    · exact go 31 (by rw [e2, size_20]) (.inr (.inl rfl)) (by rw [e2, size_20]; decide) (by omega)
    · exact go 127 (by rw [e2, size_76]) (.inr (.inr rfl)) (by rw [e2, size_76]; decide) (by omega)
  · first
      | refine wp_if_neg (by simp [hf]) ?_
      | (refine wpAny_bind ?_; refine wp_if_neg (by simp [hf]) ?_; refine wpAny_pure ?_)
    have roomy := hf
    unfold SetTable.tooFull at roomy
    rw [decide_eq_true_eq, z9] at roomy
    exact wpAny_pure (q true h1 M es1 (ep + 1) u sb ⟨⟨_, ho1, ⟨hex.1, hex.2.1, hex.2.2⟩, rfl⟩, ee, z3, nd, tup, pl, ld, by rw [ml]; omega, by rw [ml]; exact few⟩ (fun z => absurd z new) fun _ => pm)
theorem SetR.keep {h h' : Heap} (R : SetR w h a L es ep t) (ha : ∀ o, h.get? a = some o → h'.get? a = some o) (ht : ∀ p ∈ L, IsR h' p.2 p.1) : SetR w h' a L es ep t := by
  obtain ⟨o, ho, r⟩ := R.ob
  exact ⟨⟨o, ha o ho, r⟩, R.rows, R.tab, R.nd, ht, R.plain, R.led, R.room, R.few⟩
theorem setR_new {h : Heap} (ho : h.get? a = some { cls := .type "set", dict := none, data := .set #[] 0 (.fresh 0 0 (!w.params.followText "set-order")) }) : SetR w h a [] #[] 0 (.fresh 0 0 (!w.params.followText "set-order")) := by
  refine ⟨⟨_, ho, ⟨rfl, rfl, rfl⟩, rfl⟩, rfl, ⟨List.Pairwise.nil, rfl, rfl, .inl rfl, fun x hx => (by cases hx), fun i h j hi => (by simp at hi)⟩, List.nodup_nil, fun p hp => (by cases hp), rfl, ?_, (by show 0 * 5 < 7 * 3; decide), (by show 0 < 64; decide)⟩
  show _ ∨ (!w.params.followText "set-order") = true
  cases w.params.followText "set-order"
  · exact .inr rfl
  · exact .inl rfl
/-- what the first i items have brought into the set -/
structure Has (ks : Ks) (i : Nat) (L : Ks) : Prop where
  sub : ∀ p ∈ L, p ∈ ks.take i
  all : ∀ p ∈ ks.take i, p.2 ∈ L.map (·.2)
  len : L.length ≤ i
theorem Has.next {ks : Ks} {i : Nat} {M : Ks} {p : Addr × RK} (g : Has ks i L) (h : ks[i]? = some p) (c1 : p.2 ∈ L.map (·.2) → M = L) (c2 : p.2 ∉ L.map (·.2) → M.Perm (p :: L)) : Has ks (i + 1) M := by
  have e : ks.take (i + 1) = ks.take i ++ [p] := by rw [List.take_succ, h]; rfl
  rcases Classical.em (p.2 ∈ L.map (·.2)) with c | c
  · rw [c1 c]
    refine ⟨fun r hr => ?_, fun r hr => ?_, Nat.le_succ_of_le g.len⟩
    · rw [e]; exact List.mem_append_left _ (g.sub r hr)
    · rw [e] at hr
      rcases List.mem_append.mp hr with z | z
      · exact g.all r z
      · rw [List.mem_singleton.mp z]; exact c
  · have pm := c2 c
    refine ⟨fun r hr => ?_, fun r hr => ?_, ?_⟩
    · rw [e]
      rcases List.mem_cons.mp (pm.mem_iff.mp hr) with z | z
      · rw [z]; exact List.mem_append_right _ List.mem_cons_self
      · exact List.mem_append_left _ (g.sub r z)
    · rw [(pm.map (·.2)).mem_iff, List.map_cons]
      rw [e] at hr
      rcases List.mem_append.mp hr with z | z
      · exact List.mem_cons_of_mem _ (g.all r z)
      · rw [List.mem_singleton.mp z]; exact List.mem_cons_self
    · rw [pm.length_eq]
      exact Nat.succ_le_succ g.len
/-- the loop that fills a set from what is walked -/
theorem filled {I : Addr} {fp wr : List Addr} {G : Array GenState → Array GenState → Prop} {n : Nat} {Pv : Nat → Value → Prop} {St : Nat → Shared → Prop} {R : Result → Shared → Prop}
    (W : WalksS P w A.in1 I fp wr G n Pv St) (S : Addr) (hSf : S ∉ fp) (ks : Ks) (hn : n = ks.length) (few : ks.length < 64) (hval : ∀ i v, Pv i v → ∃ p, ks[i]? = some p ∧ v = .ref p.1)
    (h0 : Heap) (hk : ∀ p ∈ ks, IsR h0 p.2 p.1) (hS0 : h0.get? S = none) (hw0 : ∀ b ∈ wr, h0.get? b = none) (hu : A.in1.units + 2 < cLine) :
    ∀ (k i : Nat) (s : Shared), n - i = k → i ≤ n → St i s → (∀ b o, h0.get? b = some o → s.heap.get? b = some o) → (∃ L es ep t, SetR w s.heap S L es ep t ∧ Has ks i L) →
      (∀ s' L es ep t, Moved (S :: wr) G s s' → SetR w s'.heap S L es ep t → Has ks n L → (∀ b o, h0.get? b = some o → s'.heap.get? b = some o) → R (.ok (.ret .none)) s') →
      codeAny (model P w) A (.builtin "set.update.loop" ⟨[.ref S, .ref I], []⟩) R s := by
  have hSw : S ∉ wr := fun h => hSf (W.sub _ h)
  have hsub : ∀ b ∈ wr, b ∈ S :: wr := fun b hb => List.mem_cons_of_mem _ hb
  have old : ∀ {s s' : Shared}, Moved wr G s s' → (∀ b o, h0.get? b = some o → s.heap.get? b = some o) → ∀ b o, h0.get? b = some o → s'.heap.get? b = some o := fun hm kp b o e =>
    hm.heap b o (fun hb => by rw [hw0 b hb] at e; cases e) (kp b o e)
  intro k
  induction k with
  | zero =>
    intro i s hk' hi st kp ⟨L, es, ep, t, hS, g⟩ q
    obtain rfl : i = n := by omega
    refine codeAny_builtin F.entry_set_update_loop ?_
    rw [Around.under_plainId F.plain_set_update_loop _]
    show wpAny _ A.in1 (pyNext (.ref I) >>= _) _ _ s
    refine wpAny_bind (W.done s _ _ st fun s' hm => ?_)
    show wpAny _ A.in1 (ret Value.none) _ _ s'
    exact wpAny_pure (q s' L es ep t (hm.mono hsub) (hS.keep (fun o e => hm.heap S o hSw e) fun p hp => (hk p (List.mem_of_mem_take (g.sub p hp))).keep (old hm kp)) g (old hm kp))
  | succ k ih =>
    intro i s hk' hi st kp ⟨L, es, ep, t, hS, g⟩ q
    have lt : i < n := by omega
    refine codeAny_builtin F.entry_set_update_loop ?_
    rw [Around.under_plainId F.plain_set_update_loop _]
    show wpAny _ A.in1 (pyNext (.ref I) >>= _) _ _ s
    refine wpAny_bind (W.item i s _ _ lt st fun v s' hP st' hm => ?_)
    obtain ⟨p, hp, rfl⟩ := hval i v hP
    have kp' := old hm kp
    have hS' : SetR w s'.heap S L es ep t := hS.keep (fun o e => hm.heap S o hSw e) fun r hr => (hk r (List.mem_of_mem_take (g.sub r hr))).keep kp'
    have hx : IsR s'.heap p.2 p.1 := (hk p (List.mem_of_getElem? hp)).keep kp'
    show wpAny _ A.in1 (holding [Value.ref p.1] (setAdd S (.ref p.1)) >>= _) _ _ s'
    refine wpAny_bind (wpAny_holding ?_)
    unfold setAdd
    refine wpAny_holding ?_
    refine wpAny_bind (hx.hashed hu ?_)
    refine added (s := { s' with toks := s'.toks + (nk p.2).draws }) hS' hx hu (by have := g.len; omega) fun b h' M es' ep' t' sb hM c1 c2 => ?_
    have kp2 : ∀ b o, h0.get? b = some o → h'.get? b = some o := fun b o e => (sb.2 b (fun z => by rw [z, hS0] at e; cases e)).trans (kp' b o e)
    refine wpAny_pure ⟨plainId_quiet F.plain_set_update_loop _, ih (i + 1) _ (by omega) lt (W.frame _ s' _ _ st' (Nat.le_add_right _ _) fun b hb o e => ?_) kp2 ⟨M, es', ep', t', hM, g.next hp c1 c2⟩ fun s'' N es2 ep2 t2 hm2 hN g2 kp3 => ?_⟩
    · rw [sb.2 b (fun h : b = S => hSf (by rw [← h]; exact hb))]; exact e
    · refine q s'' N es2 ep2 t2 (Moved.trans W.gtrans ((hm.mono hsub).then_heap (Nat.le_add_right _ _) fun b o hb e => ?_) hm2) hN g2 kp3
      rw [sb.2 b (fun h : b = S => hb (by rw [h]; exact List.mem_cons_self))]; exact e
end
end RS
set_option Elab.async false
set_option linter.all false
set_option maxRecDepth 100000
namespace RS
open PySem PySem.Spec PyProof.Rows L2
abbrev bareSet (w : World) : Obj := { cls := .type "set", dict := none, data := .set #[] 0 (.fresh 0 0 (!w.params.followText "set-order")) }
section
variable {P : Program} {w : World} {A : Around} {E : Value → Shared → Prop} {s : Shared}
theorem beyond {h : Heap} {b : Addr} (hb : h.objs.size ≤ b) : h.get? b = none := by
  cases q : h.get? b with
  | none => rfl
  | some o => exact absurd (Nat.lt_of_lt_of_le (Heap.lt_size q) hb) (Nat.lt_irrefl _)
set_option maxHeartbeats 3200000 in
/-- set(xs), xs a list of readings -/
theorem set_call {l : Addr} {items : Array Value} (ks : Ks) {Q : Value → Shared → Prop} (hh : A.handled = none) (hl : s.heap.IsList l items) (hit : items.toList = ks.map fun p => Value.ref p.1)
    (hk : ∀ p ∈ ks, IsR s.heap p.2 p.1) (few : ks.length < 64) (hu : A.units + 8 < cLine)
    (q : ∀ (h' : Heap) (tk : Nat) L es ep t, SetR w h' s.heap.objs.size L es ep t → Has ks ks.length L → (∀ b o, s.heap.get? b = some o → h'.get? b = some o) → Q (.ref s.heap.objs.size) { s with heap := h', toks := tk }) :
    wpAny (model P w) A (call (.type "set") [.ref l]) Q E s := by
  have many : items.size = ks.length := by
    have z := congrArg List.length hit
    rwa [Array.length_toList, List.length_map] at z
  obtain ⟨c, tl, hmro⟩ := F.called_set.mro
  have hmade := F.called_set.made
  have hsub := F.called_set.sub
  refine wpAny_call (codeAny_of_tree ?_)
  show wpAny _ _ (callAny (.type "set") _) _ _ _
  refine wpAny_pure ⟨Code.quiet_builtin _ (by decide +kernel), codeAny_builtin F.entry_type_call ?_⟩
  rw [Around.under_plain (weight_type_call_type "set" [.ref l] []) rfl]
  have h1 := F.called_set.notType
  have h2 := F.called_set.canCreate
  have hct := F.typeCall_set_1 (.ref l)
  repeat (any_goals (first | assumption | wp_step))
  refine codeAny_mono (code_set_led1 (.ref l) (E := E) (Q₁ := fun obj s1 => obj = .ref s.heap.objs.size ∧ s1 = { s with heap := s.heap.push (bareSet w) }) ⟨rfl, rfl⟩) fun r s1 hr => ?_
  cases r with
  | error e => exact hr
  | ok fl =>
    cases fl with
    | ret obj =>
      obtain ⟨rfl, rfl⟩ := hr
      have hS : (s.heap.push (bareSet w)).get? s.heap.objs.size = some (bareSet w) := Heap.get?_push_size _ rfl
      have hT : Shared.TypeIs { s with heap := s.heap.push (bareSet w) } (.ref s.heap.objs.size) "set" := ⟨_, hS, rfl⟩
      have hli := F.called_set.init.lookup
      have hbi := F.called_set.init.bind (.ref s.heap.objs.size)
      repeat (any_goals (first | assumption | wp_step))
      refine codeAny_mono (codeAny_call_builtin (R := wants (fun r s2 => r = .none ∧ ∃ h' tk L es ep t, s2 = { s with heap := h', toks := tk } ∧ SetR w h' s.heap.objs.size L es ep t ∧ Has ks ks.length L ∧
          (∀ b o, s.heap.get? b = some o → h'.get? b = some o)) E) F.called_set.init.plain F.entry_set_init (check_set_init_1 hT ?_)) fun r2 s2 hr2 => ?_
      · obtain ⟨ol, hol, hcl, nl, hdl⟩ := hl
        obtain ⟨ocls, odict, odata, oslots⟩ := ol
        simp only at hcl hdl
        subst hcl; subst hdl
        have hol' : (s.heap.push (bareSet w)).get? l = some { cls := .type "list", dict := odict, data := .seq items nl, slots := oslots } := Heap.get?_push_of_some _ hol
        have hsls := F.sub_list_set
        have hslf := F.sub_list_frozenset
        have hne : (Value.type "list" == Value.type "dict") = false := by decide
        have hl1 : (s.heap.push (bareSet w)).IsList l items := ⟨_, hol', rfl, nl, rfl⟩
        unfold Builtin.«set.__init__» noKeywords Builtin.Frozenset.updateFrom
        generalize hPI : pyIter = PI
        wp_walk
        subst hPI
        refine wpAny_pyIter_list hl1 ?_
        refine wpAny_bind (wpAny_runValue ?_)
        have lS : l < s.heap.objs.size := Heap.lt_size hol
        have hh3 : A.in1.in1.in1.handled = none := by simp [hh]
        have z1 : (s.heap.push (bareSet w)).objs.size = s.heap.objs.size + 1 := Heap.size_push ..
        have neI : l ≠ (s.heap.push (bareSet w)).objs.size := by
          rw [z1]; exact Nat.ne_of_lt (Nat.lt_succ_of_lt lS)
        have hSf : s.heap.objs.size ∉ [(s.heap.push (bareSet w)).objs.size, l] := by
          rw [z1]; simp only [List.mem_cons, List.mem_singleton, List.not_mem_nil, or_false, not_or]
          exact ⟨Nat.ne_of_lt (Nat.lt_succ_self _), Nat.ne_of_gt lS⟩
        have hval : ∀ (i : Nat) (v : Value), items[i]? = some v → ∃ p, ks[i]? = some p ∧ v = .ref p.1 := fun i v hv => by
          have z : items.toList[i]? = some v := by rw [Array.getElem?_toList]; exact hv
          rw [hit, List.getElem?_map] at z
          cases y : ks[i]? with
          | none => rw [y] at z; cases z
          | some p =>
            rw [y] at z
            exact ⟨p, rfl, (Option.some.inj z).symm⟩
        refine filled ((Walks.list hh3 _ l neI items).toS) s.heap.objs.size
          hSf ks many few hval s.heap hk (beyond (Nat.le_refl _)) (fun b hb => beyond (by
            rw [List.mem_singleton.mp hb, z1]
            exact Nat.le_succ _)) (by simp only [Around.in1_units] at *; omega) (items.size - 0) 0 _ (by omega) (Nat.zero_le _)
          ⟨⟨_, Heap.get?_push_size _ rfl, rfl, rfl⟩, (hl1.push _)⟩ (fun b o e => Heap.get?_push_of_some _ (Heap.get?_push_of_some _ e)) ?hS0 ?hR
        case hS0 =>
          exact ⟨[], #[], 0, _, setR_new (Heap.get?_push_of_some _ hS), ⟨fun p h => (by cases h), fun p h => (by simp at h), Nat.le_refl _⟩⟩
        case hR =>
          intro s' L es ep t hm hS' g' kp
          obtain ⟨h', g2, d', tk', os'⟩ := s'
          obtain rfl : g2 = s.gens := hm.gens
          obtain rfl : d' = s.drawn := hm.drawn
          obtain rfl : os' = s.os := hm.os
          show wpAny _ _ _ _ _ _
          refine wpAny_pure ?_
          show wpAny _ _ (ret Value.none) _ _ _
          rw [many] at g'
          exact wpAny_pure ⟨rfl, h', tk', L, es, ep, t, rfl, hS', g', kp⟩
      · cases r2 with
        | error e => exact hr2
        | ok fl2 =>
          cases fl2 with
          | ret r =>
            obtain ⟨rfl, h', tk, L, es, ep, t, rfl, hS', g', hk'⟩ := hr2
            repeat (any_goals (first | assumption | wp_step))
            exact q _ _ _ _ _ _ hS' g' hk'
          | _ => exact hr2.elim
    | _ => exact hr.elim
end
end RS
set_option Elab.async false
set_option linter.all false
set_option maxRecDepth 100000
namespace RS
open PySem PySem.Spec PyProof.Rows L2
/-! ### the order of readings -/
def rlt (j k : RK) : Prop := j.1 < k.1 ∨ (j.1 = k.1 ∧ (j.2.1 < k.2.1 ∨ (j.2.1 = k.2.1 ∧ j.2.2 < k.2.2)))
instance (j k : RK) : Decidable (rlt j k) := by unfold rlt; exact inferInstance
theorem rlt_irrefl (j : RK) : ¬ rlt j j := fun h => by
  rcases h with h | ⟨_, h | ⟨_, h⟩⟩
  · exact absurd h (Int.lt_irrefl _)
  · exact absurd h (Int.lt_irrefl _)
  · exact List.lt_irrefl _ h
theorem rlt_trans {i j k : RK} (x : rlt i j) (y : rlt j k) : rlt i k := by
  rcases x with x | ⟨x1, x⟩
  · rcases y with y | ⟨y1, _⟩
    · exact .inl (Int.lt_trans x y)
    · exact .inl (y1 ▸ x)
  · rcases y with y | ⟨y1, y⟩
    · exact .inl (x1 ▸ y)
    · refine .inr ⟨x1.trans y1, ?_⟩
      rcases x with x | ⟨x2, x⟩
      · rcases y with y | ⟨y2, _⟩
        · exact .inl (Int.lt_trans x y)
        · exact .inl (y2 ▸ x)
      · rcases y with y | ⟨y2, y⟩
        · exact .inl (x2 ▸ y)
        · exact .inr ⟨x2.trans y2, List.lt_trans x y⟩
theorem rlt_total (j k : RK) : rlt j k ∨ j = k ∨ rlt k j := by
  obtain ⟨a, b, c⟩ := j
  obtain ⟨a', b', c'⟩ := k
  rcases Int.lt_trichotomy a a' with h | rfl | h
  · exact .inl (.inl h)
  · rcases Int.lt_trichotomy b b' with h | rfl | h
    · exact .inl (.inr ⟨rfl, .inl h⟩)
    · by_cases h : c < c'
      · exact .inl (.inr ⟨rfl, .inr ⟨rfl, h⟩⟩)
      · by_cases h' : c' < c
        · exact .inr (.inr (.inr ⟨rfl, .inr ⟨rfl, h'⟩⟩))
        · have e : c = c' := List.le_antisymm (List.not_lt.mp h') (List.not_lt.mp h)
          exact .inr (.inl (by rw [e]))
    · exact .inr (.inr (.inr ⟨rfl, .inl h⟩))
  · exact .inr (.inr (.inl h))
theorem rlt_not {j k : RK} (h : ¬ rlt j k) : j = k ∨ rlt k j := (rlt_total j k).resolve_left h
/-- two rows without repetition, both ascending, with the same members, are one -/
theorem asc_one : ∀ {xs ys : List RK}, xs.Pairwise rlt → ys.Pairwise rlt → (∀ k, k ∈ xs ↔ k ∈ ys) → xs = ys
  | [], [], _, _, _ => rfl
  | [], y :: ys, _, _, h => absurd ((h y).mpr List.mem_cons_self) (by simp)
  | x :: xs, [], _, _, h => absurd ((h x).mp List.mem_cons_self) (by simp)
  | x :: xs, y :: ys, hx, hy, h => by
    obtain ⟨hx1, hx2⟩ := List.pairwise_cons.mp hx
    obtain ⟨hy1, hy2⟩ := List.pairwise_cons.mp hy
    have e : x = y := by
      rcases List.mem_cons.mp ((h x).mp List.mem_cons_self) with e | z
      · exact e
      · rcases List.mem_cons.mp ((h y).mpr List.mem_cons_self) with e | z'
        · exact e.symm
        · exact absurd (rlt_trans (hx1 y z') (hy1 x z)) (rlt_irrefl _)
    subst e
    rw [asc_one hx2 hy2 fun k => ⟨fun z => ?_, fun z => ?_⟩]
    · rcases List.mem_cons.mp ((h k).mp (List.mem_cons_of_mem _ z)) with e | z'
      · exact absurd (e ▸ hx1 k z) (rlt_irrefl _)
      · exact z'
    · rcases List.mem_cons.mp ((h k).mpr (List.mem_cons_of_mem _ z)) with e | z'
      · exact absurd (e ▸ hy1 k z) (rlt_irrefl _)
      · exact z'
def enc (k : RK) : PyData := .tuple [.int k.1, .int k.2.1, .tuple (k.2.2.map .int)]
theorem alike_enc (j k : RK) : PySem.W.alike (enc j) (enc k) = true := by
  unfold enc
  simp only [PySem.W.alike, PySem.W.alikeAll, PySem.W.alike_ints, Bool.and_true]
theorem lt_enc (j k : RK) : PySem.W.dataLt (enc j) (enc k) = decide (rlt j k) := by
  unfold enc
  have e0 : PyProof.Rows.lexLt itemOrd (PySem.W.keyToksAll []) (PySem.W.keyToksAll []) = false := lex_irrefl _
  have e1 : PySem.W.alike (.tuple (j.2.2.map .int)) (.tuple (k.2.2.map .int)) = true := by simp only [PySem.W.alike, PySem.W.alike_ints]
  have e2 : PySem.W.dataLt (.tuple (j.2.2.map .int)) (.tuple (k.2.2.map .int)) = decide (j.2.2 < k.2.2) := by
    rw [PySem.W.dataLt_tuple]
    exact PySem.W.dataLt_ints _ _
  have e3 : PyData.eqv (.tuple (j.2.2.map .int)) (.tuple (k.2.2.map .int)) = decide (j.2.2 = k.2.2) := by
    have key : ∀ xs ys : List Int, PyData.eqvAll (xs.map .int) (ys.map .int) = decide (xs = ys) := by
      intro xs
      induction xs with
      | nil => intro ys; cases ys <;> simp [PyData.eqvAll]
      | cons x xs ih =>
        intro ys
        cases ys with
        | nil => simp [PyData.eqvAll]
        | cons y ys =>
          simp [PyData.eqvAll, PyData.eqv, ih]
          by_cases e : x = y <;> simp [e]
    simp only [PyData.eqv, key]
  rw [PySem.W.dataLt_tuple, PySem.W.dataLt_cons (by simp only [PySem.W.alike]), PySem.W.dataLt_cons (by simp only [PySem.W.alike]), PySem.W.dataLt_cons e1, e0, e2, e3, PySem.W.dataLt_int, PySem.W.dataLt_int]
  simp only [PyData.eqv, beq_iff_eq]
  unfold rlt
  obtain ⟨a, b, c⟩ := j
  obtain ⟨a', b', c'⟩ := k
  dsimp only
  by_cases h1 : a = a'
  · by_cases h2 : b = b'
    · by_cases h3 : c = c'
      · simp [h1, h2, h3, List.lt_irrefl]
      · simp [h1, h2, h3]
    · simp [h1, h2]
  · simp [h1]
theorem depth_enc (k : RK) : (enc k).depth ≤ 2 := by
  unfold enc
  simp [PyData.depth, PyData.depthAll, PySem.W.depth_ints]
/-- the readings in their order, equal ones side by side -/
def ordered (L : Ks) : Ks := L.mergeSort (PySem.W.dataLe false fun p => enc p.2)
theorem le_enc : (PySem.W.dataLe false fun p : Addr × RK => enc p.2) = fun p q => !decide (rlt q.2 p.2) := by
  funext p q
  rw [PySem.W.dataLe_eq]
  show (!PySem.W.dataLt (enc q.2) (enc p.2)) = _
  rw [lt_enc]
theorem ordered_perm (L : Ks) : (ordered L).Perm L := List.mergeSort_perm _ _
theorem ordered_asc (L : Ks) : (ordered L).Pairwise fun p q => ¬ rlt q.2 p.2 := by
  unfold ordered
  rw [le_enc]
  refine (List.pairwise_mergeSort (fun p q r h1 h2 => ?_) (fun p q => ?_) L).imp fun {p q} h => by simpa using h
  · simp only [Bool.not_eq_true', decide_eq_false_iff_not] at h1 h2 ⊢
    intro z
    rcases rlt_not h1 with e | h1'
    · exact h2 (e ▸ z)
    · exact h2 (rlt_trans z h1')
  · simp only [Bool.or_eq_true, Bool.not_eq_true', decide_eq_false_iff_not]
    rcases rlt_total q.2 p.2 with h | h | h
    · exact .inr fun z => rlt_irrefl _ (rlt_trans h z)
    · exact .inl fun z => rlt_irrefl _ (h ▸ z)
    · exact .inl fun z => rlt_irrefl _ (rlt_trans h z)
theorem ordered_strict {L : Ks} (nd : (L.map (·.2)).Nodup) : ((ordered L).map (·.2)).Pairwise rlt := by
  have n2 : ((ordered L).map (·.2)).Nodup := ((ordered_perm L).map _).nodup_iff.mpr nd
  have q : ((ordered L).map (·.2)).Pairwise fun j k => ¬ rlt k j := List.pairwise_map.mpr (ordered_asc L)
  exact (List.Pairwise.and q n2).imp fun {j k} h => (rlt_not h.1).elim (fun e => absurd e.symm h.2) id
section
variable {P : Program} {w : World} {A : Around} {E : Value → Shared → Prop} {s : Shared}
theorem reads_ints {h : Heap} : ∀ {xs : List Int} {vs : List Value}, IntsAre vs xs → ∃ as, ReadsAll h vs (xs.map .int) as
  | _, _, .nil => ⟨_, .nil⟩
  | _, _, .cons i t r => by
    obtain ⟨as, q⟩ := reads_ints r
    exact ⟨_, .cons (.int i t) q⟩
end
end RS
set_option Elab.async false
set_option linter.all false
set_option maxRecDepth 100000
namespace RS
open PySem PySem.Spec PyProof.Rows L2
def refs (L : Ks) : List Value := L.map fun p => Value.ref p.1
section
variable {P : Program} {w : World} {A : Around} {E : Value → Shared → Prop} {s : Shared}
/-- the tuple at a reads as the reading k -/
def ReadR (h : Heap) (k : RK) (a : Addr) : Prop := Reads h (.ref a) (enc k) []
theorem isT_ref : ∀ (L : Ks), PySem.W.EachIs (fun (v : Value) (p : Addr × RK) => v = .ref p.1) (refs L) L
  | [] => .nil
  | p :: L => .cons rfl (isT_ref L)
theorem refs_of : ∀ {out : List Value} {L : Ks}, PySem.W.EachIs (fun (v : Value) (p : Addr × RK) => v = .ref p.1) out L → out = refs L
  | _, _, .nil => rfl
  | _, _, .cons h t => by rw [h, refs_of t]; rfl
theorem each_read {h : Heap} : ∀ {L : Ks}, (∀ p ∈ L, ReadR h p.2 p.1) → PySem.W.EachIs (fun (v : Value) (p : Addr × RK) => ∃ as, Reads h v (enc p.2) as) (refs L) L
  | [], _ => .nil
  | p :: L, q => .cons ⟨_, q p List.mem_cons_self⟩ (each_read fun r hr => q r (List.mem_cons_of_mem _ hr))
theorem all_alike (L : Ks) : PySem.W.AllAlike (L.map fun p => enc p.2) := PySem.W.AllAlike.of fun _ _ => alike_enc _ _
theorem sortable (L : Ks) : PySem.W.Sortable (L.map fun p => enc p.2) := PySem.W.Sortable.tuples fun p => ⟨.int p.2.1, [.int p.2.2.1, .tuple (p.2.2.2.map .int)], rfl⟩
/-- sorted(xs) of a list of readings -/
theorem sorted_rows {l : Addr} {L : Ks} {Q : Value → Shared → Prop} (hl : s.heap.IsList l (refs L).toArray) (hr : ∀ p ∈ L, ReadR s.heap p.2 p.1) (few : L.length ≤ 1000) (hu : A.units + 8 < cLine)
    (q : Q (.ref (s.heap.objs.size + 1)) { s with heap := sortedAll s.heap (refs L) (refs (ordered L)).toArray }) : wpAny (model P w) A (call (.builtin "sorted") [.ref l]) Q E s :=
  PySem.W.sorted_data (R := fun v p => v = .ref p.1) (enc := fun p : Addr × RK => enc p.2) hl (isT_ref L) (each_read hr) (all_alike L) (sortable L) (by rw [sizeLine_eq]; omega)
    (fun p _ => by have := depth_enc p.2; omega) fun out _ e => by rw [refs_of e]; exact q
/-- sorted(x) of a set of readings -/
theorem sorted_set {a : Addr} {L : Ks} {es : Array (Int × Value)} {ep : Nat} {t : SetTable} {Q : Value → Shared → Prop} (R : SetR w s.heap a L es ep t) (hr : ∀ p ∈ L, ReadR s.heap p.2 p.1) (hh : A.handled = none) (hu : A.units + 8 < cLine)
    (q : ∀ s' p (c : Nat) (M : Ks), (∀ b o, s.heap.get? b = some o → s'.heap.get? b = some o) → s'.gens = s.gens → s'.os = s.os → s.heap.objs.size ≤ p →
      s'.heap.get? p = some (seqObj "list" (refs M).toArray c) → M.Perm L → (M.map (·.2)).Pairwise rlt → Q (.ref p) s') :
    wpAny (model P w) A (call (.builtin "sorted") [.ref a]) Q E s := by
  obtain ⟨o, ho, hex, hd⟩ := R.ob
  have sz := R.size
  have few := R.few
  refine Calls.call_function_entry kind_sorted plain_sorted entry_sorted (args_sorted1 _) ?_
  unfold Builtin.«sorted»
  refine wpAny_bind (m := checkCount "sorted" 1 1 _) (wpAny_pure ?_)
  refine wpAny_bind (collect_set (A := A.in1) hh ⟨o, ho, hex.1, hd⟩ R.fits (by unfold scanBound; omega) R.tab.ris R.led fun s1 vs k1 hz g1 o1 pm => ?_)
  have vals : es.toList.map (·.2) = refs L := by
    rw [R.rows]
    unfold ents refs
    rw [List.map_map]
    rfl
  rw [vals] at pm
  have back : ∀ vs : List Value, (∀ v ∈ vs, ∃ p ∈ L, v = Value.ref p.1) → ∃ N : Ks, vs = refs N ∧ ∀ p ∈ N, p ∈ L := by
    intro vs
    induction vs with
    | nil => exact fun _ => ⟨[], rfl, fun p hp => (by cases hp)⟩
    | cons v vs ih =>
      intro hv
      obtain ⟨p, hp, e⟩ := hv v List.mem_cons_self
      obtain ⟨N, e1, hs⟩ := ih fun u hu => hv u (List.mem_cons_of_mem _ hu)
      refine ⟨p :: N, by rw [e, e1]; rfl, fun r hr => ?_⟩
      rcases List.mem_cons.mp hr with z | z
      · rw [z]; exact hp
      · exact hs r z
  obtain ⟨N, rfl, inL⟩ := back vs fun v hv => by
    obtain ⟨p, hp, e⟩ := List.mem_map.mp (pm.mem_iff.mp hv)
    exact ⟨p, hp, e.symm⟩
  have one : ∀ p ∈ L, ∀ r ∈ L, p.1 = r.1 → p = r := fun p hp r hr e => by
    have x := R.tup p hp
    rw [e] at x
    exact Prod.ext e (x.inj (R.tup r hr))
  have nL : L.Nodup := List.Pairwise.of_map (fun p : Addr × RK => p.2) (fun _ _ hne e => hne (congrArg (·.2) e)) R.nd
  have nref : (refs L).Nodup := by
    refine List.pairwise_map.mpr (List.Pairwise.imp_of_mem (fun {p r} hp hr hne e => ?_) nL)
    injection e with e
    exact hne (one p hp r hr e)
  have nN : N.Nodup := List.Pairwise.of_map (fun p : Addr × RK => Value.ref p.1) (fun _ _ hne e => hne (congrArg (fun p : Addr × RK => Value.ref p.1) e)) (pm.nodup_iff.mpr nref)
  have pN : N.Perm L := (List.perm_ext_iff_of_nodup nN nL).mpr fun p => ⟨inL p, fun hp => by
    obtain ⟨r, hr, e⟩ := List.mem_map.mp (pm.mem_iff.mpr (List.mem_map.mpr ⟨p, hp, rfl⟩))
    injection e with e
    rw [← one r (inL r hr) p hp e]
    exact hr⟩
  have len : (refs N).length = L.length := by rw [pm.length_eq]; unfold refs; rw [List.length_map]
  refine wpAny_bind (wpAny_newList ?_ (by rw [sizeLine_eq, len]; omega))
  have hoL : (s1.heap.push (seqObj "list" (refs N).toArray 0)).get? s1.heap.objs.size = some (seqObj "list" (refs N).toArray 0) := Heap.get?_push_size _ rfl
  have rd : ∀ p ∈ N, ∃ as, Reads (s1.heap.push (seqObj "list" (refs N).toArray 0)) (.ref p.1) (enc p.2) as ∧ s1.heap.objs.size ∉ as := fun p hp => by
    exact ⟨[], PyProof.Rows.Reads.keeps (fun b o e => Heap.get?_push_of_some _ (k1 b o e)) (hr p (inL p hp)), by simp⟩
  have er : PySem.W.EachIs (fun (v : Value) (p : Addr × RK) => ∃ as, Reads (s1.heap.push (seqObj "list" (refs N).toArray 0)) v (enc p.2) as ∧ s1.heap.objs.size ∉ as) (refs N) N := by
    have go : ∀ M : Ks, (∀ p ∈ M, p ∈ N) → PySem.W.EachIs (fun (v : Value) (p : Addr × RK) => ∃ as, Reads (s1.heap.push (seqObj "list" (refs N).toArray 0)) v (enc p.2) as ∧ s1.heap.objs.size ∉ as) (refs M) M := by
      intro M
      induction M with
      | nil => exact fun _ => .nil
      | cons p M ih => exact fun z => .cons (rd p (z p List.mem_cons_self)) (ih fun r hr => z r (List.mem_cons_of_mem _ hr))
    exact go N fun _ z => z
  refine wpAny_bind (wpAny_holding (PySem.W.list_sort_data (R := fun v p => v = .ref p.1) (s := { s1 with heap := s1.heap.push (seqObj "list" (refs N).toArray 0) }) (enc := fun p : Addr × RK => enc p.2) hoL (isT_ref N) er (all_alike N) (sortable N) (by
    have z := pN.length_eq
    rw [sizeLine_eq]; omega) (fun p _ => by have := depth_enc p.2; simp only [Around.in1_units]; omega) fun out _ e => ?_))
  have e' : out = refs (ordered N) := refs_of e
  subst e'
  obtain ⟨c, hc⟩ := sortedHeap_at (vs := refs N) (out := (refs (ordered N)).toArray) hoL
  refine wpAny_pure ⟨_, rfl, q _ s1.heap.objs.size c (ordered N) (fun b u e => ?_) g1 o1 hz hc ((ordered_perm N).trans pN) (ordered_strict ((pN.map _).nodup_iff.mpr R.nd))⟩
  have z := k1 b u e
  have lt := Heap.lt_size z
  show (sortedHeap (s1.heap.push (seqObj "list" (refs N).toArray 0)) s1.heap.objs.size (refs N) _).get? b = some u
  rw [sortedHeap_old (Nat.ne_of_lt lt) (by rw [size_push']; exact Nat.lt_succ_of_lt lt)]
  exact Heap.get?_push_of_some _ z
end
end RS

namespace RS
open PySem PySem.Spec PyProof.Rows L2
/-! ### the rules over the layer -/
/-- the tuple at a is the reading k -/
def RdAt (K : PySem.W.Frag) (H : Hp) (a : Addr) (k : RK) : Prop := ∃ t, SqT K H a [.int k.1, .int k.2.1, .ref t] ∧ SqT K H t (k.2.2.map V.int)
section
variable {X : Cx} {pins : List (Addr × Obj)} {σ : L2.St} {H : Hp} {s : Shared}
theorem reads_of : ∀ {xs : List Int} {us : List Value}, Vals (xs.map V.int) us → NestedAll s.heap (xs.map .num) us ∧ ReadsAll s.heap us (xs.map .int) []
  | [], _, .nil => ⟨.nil, .nil⟩
  | x :: xs, _, .cons r t => by
    obtain ⟨tk, rfl⟩ := r
    obtain ⟨a, b⟩ := reads_of t
    exact ⟨.cons (.int x tk) a, .cons (.int x tk) b⟩
theorem rd_is {a : Addr} {k : RK} (I : Inv X pins σ H s) (h : RdAt X.K H a k) : IsR s.heap k a ∧ ReadR s.heap k a := by
  obtain ⟨t, h1, h2⟩ := h
  obtain ⟨its, r, ⟨o, ho, hc, n, hd⟩, _⟩ := I.tuple h1
  obtain ⟨its2, r2, ⟨o2, ho2, hc2, n2, hd2⟩, _⟩ := I.tuple h2
  obtain ⟨a1, a2⟩ := reads_of (s := s) r2
  cases r with
  | cons x1 r =>
    cases r with
    | cons x2 r =>
      cases r with
      | cons x3 r =>
        cases r
        obtain ⟨t1, rfl⟩ := x1
        obtain ⟨t2, rfl⟩ := x2
        cases x3
        exact ⟨.tup ho hc hd (by simpa using .cons (.int _ t1) (.cons (.int _ t2) (.cons (.tup ho2 hc2 hd2 (by simpa using a1)) .nil))),
          .tuple ho hc hd (by simpa using ReadsAll.cons (Reads.int k.1 t1) (.cons (.int k.2.1 t2) (.cons (as := []) (bs := []) (.tuple ho2 hc2 hd2 (by simpa using a2)) .nil)))⟩
/-- the set at a -/
structure SetK0 (w : World) (h : Heap) (a : Addr) (L : Ks) : Prop where
  ex : ∃ (es : Array (Int × Value)) (ep : Nat) (t : SetTable), (∃ o, h.get? a = some o ∧ o.ExactSet ∧ o.data = .set es ep t) ∧ es.toList = ents w L ∧ TabOk t (hs w L) ∧ (L.map (·.2)).Nodup ∧ t.plain = true ∧
    (w.params.followText "set-order" = true ∨ t.led = true) ∧ L.length * 5 < t.mask * 3 ∧ L.length < 64
def SetRO (w : World) (a : Addr) (L : Ks) : HO := .ext fun h => SetK0 w h a L
theorem vals_refs : ∀ (L : Ks), Vals (L.map fun p => V.ref p.1) (refs L)
  | [] => .nil
  | _ :: L => .cons rfl (vals_refs L)
theorem refs_vals : ∀ {L : Ks} {us : List Value}, Vals (L.map fun p => V.ref p.1) us → us = refs L
  | [], _, .nil => rfl
  | p :: L, _, .cons r t => by
    cases r
    rw [refs_vals t]
    rfl
theorem setRO_ok {P : Program} {w : World} {H : Hp} {h : Heap} {a : Addr} {L : Ks} (R : SetK0 w h a L) : ObjOk P w H h a (SetRO w a L) := by
  have ⟨es, ep, t, ⟨o, ho, r⟩, q⟩ := R.ex
  refine ⟨R, ⟨o, ho⟩, fun h1 h2 p k => ?_⟩
  have ⟨es', ep', t', ⟨o', ho', r'⟩, q'⟩ := SetK0.ex p
  exact ⟨es', ep', t', ⟨o', k o' ho', r'⟩, q'⟩
/-- set(xs) of a list of readings: some of its items, each reading once -/
def rSetR (K : PySem.W.Frag) (w : World) : List V → Hp → VK → Prop := fun xs H Q => ∃ (l : Addr) (ks : Ks), xs = [V.ref l] ∧ SqL K H l (ks.map fun p => V.ref p.1) ∧ (∀ p ∈ ks, RdAt K H p.1 p.2) ∧ ks.length < 64 ∧
  ∀ a L, H a = none → (∀ p ∈ L, p ∈ ks) → (∀ p ∈ ks, p.2 ∈ L.map (·.2)) → Q (.ref a) (upd H a (SetRO w a L))
theorem cr_setR (hc : X.calm = true) (hu : X.A.units + 64 < cLine) : CallR X (.type "set") (rSetR X.K X.w) := by
  intro pins s σ H xs us Q I r h
  obtain ⟨l, ks, rfl, hl, hk, few, q⟩ := h
  rw [Vals.ref1 r]
  obtain ⟨its, rv, pl, hz⟩ := I.list hl
  have hn : H s.heap.objs.size = none := I.hok.fresh (Nat.le_refl _)
  refine set_call (P := X.prog) (w := X.w) ks (I.ok.hd hc) pl.isList (by have z := refs_vals rv; unfold refs at z; simpa using z) (fun p hp => (rd_is I (hk p hp)).1) few (by omega) fun h' tk L es ep t R g k => ?_
  refine ⟨.ref s.heap.objs.size, upd H s.heap.objs.size (SetRO X.w s.heap.objs.size L), I.laid (t' := tk) k (Nat.le_refl _) (setRO_ok ⟨es, ep, t, R.ob, R.rows, R.tab, R.nd, R.plain, R.led, R.room, R.few⟩), rfl, q _ L hn (fun p hp => ?_) fun p hp => ?_⟩
  · exact List.mem_of_mem_take (g.sub p hp)
  · exact g.all p (by rw [List.take_length]; exact hp)
/-- sorted(x) of such a set: the readings ascending -/
def rSortSet (K : PySem.W.Frag) (w : World) : List V → Hp → VK → Prop := fun vs H Q => ∃ (a : Addr) (L : Ks), vs = [V.ref a] ∧ H a = some (SetRO w a L) ∧ (∀ p ∈ L, RdAt K H p.1 p.2) ∧
  ∀ (M : Ks) (p : Addr), M.Perm L → (M.map (·.2)).Pairwise rlt → M.length < 64 → H p = none → Q (.ref p) (upd H p (.lst (M.map fun q => V.ref q.1)))
theorem listed {s' : Shared} {p : Addr} {M : Ks} {c : Nat} (I : Inv X pins σ H s) (k : ∀ b o, s.heap.get? b = some o → s'.heap.get? b = some o) (g : s'.gens = s.gens) (o : s'.os = s.os) (hp : s.heap.objs.size ≤ p)
    (hg : s'.heap.get? p = some (seqObj "list" (refs M).toArray c)) (few : M.length ≤ 1000) : Inv X pins σ (upd H p (.lst (M.map fun q => V.ref q.1))) s' := by
  have hlen : (M.map fun q => V.ref q.1).length ≤ sizeLine := by rw [List.length_map, sizeLine_eq]; omega
  have hn : H p = none := I.hok.fresh hp
  have J : Inv X pins σ (upd H p (.lst (M.map fun q => V.ref q.1))) { s with heap := s'.heap, gens := s'.gens, drawn := s'.drawn, toks := s'.toks } :=
    I.call (ch := []) (Un.laid k hp hn) (I.hok.laid k hp ⟨hlen, refs M, c, vals_refs M, hg⟩) (by rw [g]; exact I.bare) (fun _ z => nomatch z)
  have e : s' = { s with heap := s'.heap, gens := s'.gens, drawn := s'.drawn, toks := s'.toks } := by
    cases s'
    cases s
    cases o
    rfl
  rw [e]
  exact J
theorem cr_sortSet (hc : X.calm = true) (hu : X.A.units + 64 < cLine) : CallR X (.builtin "sorted") (rSortSet X.K X.w) := by
  intro pins s σ H vs us Q I r h
  obtain ⟨a, L, rfl, ha, hk, q⟩ := h
  have R0 : SetK0 X.w s.heap a L := (I.hok a _ ha).1
  obtain ⟨es, ep, t, b1, b2, b3, b4, b5, b6, b7, b8⟩ := R0.ex
  rw [Vals.ref1 r]
  refine sorted_set (P := X.prog) ⟨b1, b2, b3, b4, fun p hp => (rd_is I (hk p hp)).1, b5, b6, b7, b8⟩ (fun p hp => (rd_is I (hk p hp)).2) (I.ok.hd hc) (by omega) fun s' p c M k g o hp hg pm pw => ?_
  have few : M.length < 64 := by rw [pm.length_eq]; exact b8
  exact ⟨.ref p, _, listed I k g o hp hg (by omega), rfl, q M p pm pw few (I.hok.fresh hp)⟩
/-- sorted(xs) of a list of readings -/
def rSortRows (K : PySem.W.Frag) : List V → Hp → VK → Prop := fun vs H Q => ∃ (a : Addr) (L : Ks), vs = [V.ref a] ∧ SqL K H a (L.map fun p => V.ref p.1) ∧ (∀ p ∈ L, RdAt K H p.1 p.2) ∧ L.length ≤ 1000 ∧
  ∀ (p : Addr), H p = none → Q (.ref p) (upd H p (.lst ((ordered L).map fun q => V.ref q.1)))
theorem cr_sortRows (hu : X.A.units + 64 < cLine) : CallR X (.builtin "sorted") (rSortRows X.K) := by
  intro pins s σ H vs us Q I r h
  obtain ⟨a, L, rfl, hl, hk, few, q⟩ := h
  rw [Vals.ref1 r]
  obtain ⟨its, rv, pl, hz⟩ := I.list hl
  have e := refs_vals rv
  subst e
  refine sorted_rows (P := X.prog) pl.isList (fun p hp => (rd_is I (hk p hp)).2) few (by omega) ?_
  obtain ⟨c, hc⟩ := sortedHeap_at (vs := refs L) (out := (refs (ordered L)).toArray) (PySem.W.copyHeap_at s.heap (refs L))
  refine ⟨.ref (s.heap.objs.size + 1), _, listed (M := ordered L) (c := c) I (fun b o e => ?_) rfl rfl (Nat.le_succ _) hc (by rw [(ordered_perm L).length_eq]; exact few), rfl, q _ (I.hok.fresh (Nat.le_succ _))⟩
  have lt := Heap.lt_size e
  show (sortedAll s.heap (refs L) _).get? b = some o
  unfold sortedAll
  rw [sortedHeap_old (Nat.ne_of_lt (Nat.lt_succ_of_lt lt)) (by rw [size_push', Heap.size_update, size_push']; exact Nat.lt_succ_of_lt (Nat.lt_succ_of_lt lt))]
  refine Heap.get?_push_of_some _ ?_
  rw [Heap.get?_update_ne _ _ _ _ (Nat.ne_of_lt lt)]
  exact Heap.get?_push_of_some _ e
end
end RS
set_option Elab.async false
set_option linter.all false
set_option maxRecDepth 100000
/-! What all laws' texts share: the built-in names, a def by its promise, heaps that grow, the pool. -/
namespace LB
open PySem PySem.Spec PyProof.Rows L2 RS
/-- the built-in names stand as they are -/
structure Bl (mg : Str → Option Value) : Prop where
  len : mg "len" = none
  int : mg "int" = none
  bool : mg "bool" = none
  str : mg "str" = none
  isinstance : mg "isinstance" = none
  tuple : mg "tuple" = none
  list : mg "list" = none
  dict : mg "dict" = none
  set : mg "set" = none
  sorted : mg "sorted" = none
  range : mg "range" = none
  abs : mg "abs" = none
  sum : mg "sum" = none
  all : mg "all" = none
  any : mg "any" = none
  enumerate : mg "enumerate" = none
  min : mg "min" = none
  max : mg "max" = none
  zip : mg "zip" = none
/-- a def of the module under its name -/
structure Df (K : PySem.W.Frag) (mg : Str → Option Value) (x : Str) (ps : List Str) (st : Stmt) (f : Addr) (fd : FuncData) : Prop where
  fn : Fun K x x st f fd
  at_ : mg x = some (.ref f)
  bd : Binds K fd ps []
/-- .. by its promise, at a level -/
structure Ca (P : Program) (w : World) (K : PySem.W.Frag) (mg : Str → Option Value) (base : Heap) (k : Nat) (x : Str) (sp : Sp) : Prop where
  ex : ∃ (f : Addr) (fd : FuncData) (ps : List Str), FnOk P w K mg base CX0 k f fd ps sp ∧ mg x = some (.ref f) ∧ PySem.W.keepIn K (.ref f) = true ∧ Binds K fd ps []
section
variable {P : Program} {w : World} {K : PySem.W.Frag} {mg : Str → Option Value} {base : Heap}
theorem Df.ca {x : Str} {ps N : List Str} {st : Stmt} {f : Addr} {fd : FuncData} {k : Nat} {sp : Sp} (D : Df K mg x ps st f fd) (S : FnScope N ps (defScope st)) (len : ∀ vs H Q E, sp vs H Q E → vs.length = ps.length)
    (body : ∀ (cdv : Value) (A : Around) (outer : List Env) (s : Shared) (H : Hp) (vs : List V) (Q : VK) (E : XK), Room k (A.deeper (envOfC x (defScope st) s.heap.objs.size f cdv)) → sp vs H Q E →
      ∃ t, PSs (cxOf CX0 P w K mg base N x (defScope st) f cdv A outer s H E).nox (defBody st) t ∧ t { nx := fun _ H' => Q .non H', rt := Q } (start N vs) H) : Ca P w K mg base (k + 1) x sp :=
  ⟨f, fd, ps, D.fn.ok S len body, D.at_, D.fn.kp, D.bd⟩
theorem Ca.weak {x : Str} {k : Nat} {sp sp' : Sp} (c : Ca P w K mg base k x sp) (h : ∀ vs H Q E, sp' vs H Q E → sp vs H Q E) : True := trivial
end
section
variable {X : Cx} {k j : Nat} {x : Str} {sp : Sp} {p pos : Pos} {e : Expr} {es : List Expr} {t : TA}
theorem pe_k (c : Ca X.prog X.w X.K X.mg X.base k x sp) (hr : Room j X.A) (hk : k ≤ j) (hg : Gl X x) (ha : PA X (e :: es) t)
    (hdb : (x == ("__debug__" : Str)) = false := by decide) (he : starEach (e :: es) X.env = (false, eval e X.env) :: starEach es X.env := by rfl) (hpl : (backTo pos (starEach es X.env)).any (·.1) = false := by rfl) :
    PE X (.Call (.Name x p) (e :: es) [] pos) (tCall sp [] E0 t) := by
  obtain ⟨f, fd, ps, F, hm, kp, b⟩ := c.ex
  exact pe_call F (hr.mono hk) hg hm kp b .nil pass0 ha hdb he hpl
theorem pe_gc {v : V} (hg : Gl X x) (h : ∃ u, X.mg x = some u ∧ RelV v u) (hd : (x == ("__debug__" : Str)) = false := by decide) : PE X (.Name x pos) (tC v) := by
  obtain ⟨u, hm, r⟩ := h
  exact pe_glob hg hm r hd
end
/-- a class that may be made by its name; sp: its __init__ -/
structure Ma (P : Program) (w : World) (K : PySem.W.Frag) (mg : Str → Option Value) (base : Heap) (k : Nat) (x : Str) (C : Addr) (sp : Sp) : Prop where
  ex : ∃ (f : Addr) (fd : FuncData) (ps : List Str), Mk K C f ∧ FnOk P w K mg base CX0 k f fd ps sp ∧ mg x = some (.ref C) ∧ Binds K fd ps []
theorem pe_mkK {X : Cx} {k j : Nat} {x : Str} {sp : Sp} {p pos : Pos} {e : Expr} {es : List Expr} {t : TA} {C : Addr} (c : Ma X.prog X.w X.K X.mg X.base k x C sp) (hr : Room j X.A) (hk : k + 1 ≤ j) (hg : Gl X x) (ha : PA X (e :: es) t)
    (hdb : (x == ("__debug__" : Str)) = false := by decide) (he : starEach (e :: es) X.env = (false, eval e X.env) :: starEach es X.env := by rfl) (hpl : (backTo pos (starEach es X.env)).any (·.1) = false := by rfl) :
    PE X (.Call (.Name x p) (e :: es) [] pos) (tMake C sp [] E0 t) := by
  obtain ⟨f, fd, ps, M, F, hm, b⟩ := c.ex
  exact pe_make M F (hr.mono hk) hg hm b .nil pass0 ha hdb he hpl
/-! ### kinds -/
theorem ty_t {K : PySem.W.Frag} {H : Hp} {a : Addr} {xs : List V} (h : SqT K H a xs) : TyX K H (.ref a) (.type "tuple") := by
  rcases h with (h | ⟨o, h⟩) | ⟨o, its, n, h, c, _⟩
  · exact .base (.tup h)
  · exact .fTuple h
  · exact .kTuple h c
theorem ty_l {K : PySem.W.Frag} {H : Hp} {a : Addr} {xs : List V} (h : SqL K H a xs) : TyX K H (.ref a) (.type "list") := by
  rcases h with (h | ⟨o, h⟩) | ⟨o, its, n, h, c, _⟩
  · exact .base (.lst h)
  · exact .base (.frz h)
  · exact .kList h c
theorem k_ii {K : PySem.W.Frag} : PySem.W.kitOne K (.type "int") (.type "int") = some true := kit_ty (by decide +kernel)
theorem k_ib {K : PySem.W.Frag} : PySem.W.kitOne K (.type "int") (.type "bool") = some false := kit_ty (by decide +kernel)
theorem k_is {K : PySem.W.Frag} : PySem.W.kitOne K (.type "int") (.type "str") = some false := kit_ty (by decide +kernel)
theorem k_it {K : PySem.W.Frag} : PySem.W.kitOne K (.type "int") (.type "tuple") = some false := kit_ty (by decide +kernel)
theorem k_il {K : PySem.W.Frag} : PySem.W.kitOne K (.type "int") (.type "list") = some false := kit_ty (by decide +kernel)
theorem k_tt {K : PySem.W.Frag} : PySem.W.kitOne K (.type "tuple") (.type "tuple") = some true := kit_ty (by decide +kernel)
theorem k_ti {K : PySem.W.Frag} : PySem.W.kitOne K (.type "tuple") (.type "int") = some false := kit_ty (by decide +kernel)
theorem k_tb {K : PySem.W.Frag} : PySem.W.kitOne K (.type "tuple") (.type "bool") = some false := kit_ty (by decide +kernel)
theorem k_ts {K : PySem.W.Frag} : PySem.W.kitOne K (.type "tuple") (.type "str") = some false := kit_ty (by decide +kernel)
theorem k_tl {K : PySem.W.Frag} : PySem.W.kitOne K (.type "tuple") (.type "list") = some false := kit_ty (by decide +kernel)
theorem T_seq {K : PySem.W.Frag} {H H' : Hp} {a : Addr} {xs : List V} (e : Same H H') (h : SqT K H a xs) : SqT K H' a xs := by
  rcases h with (h | ⟨o, h⟩) | h
  · exact .inl (.inl (e _ _ h))
  · exact .inl (.inr ⟨o, e _ _ h⟩)
  · exact .inr h
theorem T_new {K : PySem.W.Frag} {H : Hp} {a : Addr} {xs : List V} : SqT K (upd H a (.tup xs)) a xs := .inl (.inl upd_same)
theorem L_new {K : PySem.W.Frag} {H : Hp} {a : Addr} {xs : List V} : SqL K (upd H a (.lst xs)) a xs := .inl (.inl upd_same)
theorem same_new {H : Hp} {p : Addr} {o : HO} (h : H p = none) : Same H (upd H p o) := fun b u e => by
  rw [upd_ne (ne_of_none e h)]
  exact e
theorem same_mut {H H' : Hp} {p : Addr} {o : HO} (e : Same H H') (h : H p = none) : Same H (upd H' p o) := fun b u q => by
  rw [upd_ne (ne_of_none q h)]
  exact e b u q
theorem rd_same {K : PySem.W.Frag} {H H' : Hp} {a : Addr} {k : RK} (e : Same H H') (h : RdAt K H a k) : RdAt K H' a k := by
  obtain ⟨t, h1, h2⟩ := h
  exact ⟨t, T_seq e h1, T_seq e h2⟩
/-! ### the pool: a list of a seed, a count and a list of cells -/
structure Pool (H : Hp) (p c : Addr) : Prop where
  ne : p ≠ c
  ex : ∃ (a b : Int) (ns : List Int), H p = some (.lst [.int a, .int b, .ref c]) ∧ H c = some (.lst (ns.map V.int)) ∧ 0 ≤ a ∧ a < 2147483647 ∧ ns.length ≤ 63
/-- all but the pool is as it was -/
def But (p c : Addr) (H H' : Hp) : Prop := ∀ b o, b ≠ p → b ≠ c → H b = some o → H' b = some o
theorem But.refl {p c : Addr} {H : Hp} : But p c H H := fun _ _ _ _ h => h
theorem But.trans {p c : Addr} {H H1 H2 : Hp} (x : But p c H H1) (y : But p c H1 H2) : But p c H H2 := fun b o h1 h2 h => y b o h1 h2 (x b o h1 h2 h)
theorem Same.but {p c : Addr} {H H' : Hp} (e : Same H H') : But p c H H' := fun b o _ _ h => e b o h
theorem But.l {p c : Addr} {K : PySem.W.Frag} {H H' : Hp} {a : Addr} {xs : List V} (e : But p c H H') (h1 : a ≠ p) (h2 : a ≠ c) (h : SqL K H a xs) : SqL K H' a xs := by
  rcases h with (h | ⟨o, h⟩) | h
  · exact .inl (.inl (e _ _ h1 h2 h))
  · exact .inl (.inr ⟨o, e _ _ h1 h2 h⟩)
  · exact .inr h
theorem Pool.same {p c : Addr} {H H' : Hp} (e : Same H H') (h : Pool H p c) : Pool H' p c := by
  obtain ⟨a, b, ns, h1, h2, r⟩ := h.ex
  exact ⟨h.ne, a, b, ns, e _ _ h1, e _ _ h2, r⟩
theorem Pool.t {p c : Addr} {K : PySem.W.Frag} {H H' : Hp} {a : Addr} {xs : List V} (h : Pool H p c) (e : But p c H H') (q : SqT K H a xs) : SqT K H' a xs := by
  obtain ⟨u, v, ns, h1, h2, r⟩ := h.ex
  have n1 : ∀ o, H a = some o → (∀ ys, o ≠ .lst ys) → H' a = some o := fun o g d => e a o (fun z => by rw [z, h1] at g; cases g; exact d _ rfl) (fun z => by rw [z, h2] at g; cases g; exact d _ rfl) g
  rcases q with (q | ⟨o, q⟩) | q
  · exact .inl (.inl (n1 _ q fun _ z => by cases z))
  · exact .inl (.inr ⟨o, n1 _ q fun _ z => by cases z⟩)
  · exact .inr q
theorem Pool.rd {p c : Addr} {K : PySem.W.Frag} {H H' : Hp} {a : Addr} {k : RK} (h : Pool H p c) (e : But p c H H') (q : RdAt K H a k) : RdAt K H' a k := by
  obtain ⟨t, h1, h2⟩ := q
  exact ⟨t, h.t e h1, h.t e h2⟩
theorem Pool.old {p c : Addr} {H H' : Hp} {l : Addr} (h : Pool H p c) (e : But p c H H') (n : H' l = none) (hp : Pool H' p c) : H l = none := by
  cases q : H l with
  | none => rfl
  | some o =>
    obtain ⟨a, b, ns, h1, h2, r⟩ := hp.ex
    by_cases z : l = p
    · rw [z, h1] at n; cases n
    · by_cases y : l = c
      · rw [y, h2] at n; cases n
      · rw [e l o z y q] at n; cases n
end LB
set_option Elab.async false
set_option linter.all false
set_option maxRecDepth 100000
set_option maxHeartbeats 1000000
namespace LB
open PySem PySem.Spec PyProof.Rows L2 RS
section
variable {X : Cx} {pins : List (Addr × Obj)} {σ : L2.St} {H : Hp} {s : Shared}
/-! ### a <= b of two readings -/
def rLeR (K : PySem.W.Frag) : R2 := fun x y H Q => ∃ (a b : Addr) (j k : RK), x = .ref a ∧ y = .ref b ∧ RdAt K H a j ∧ RdAt K H b k ∧ Q (.bl (!decide (rlt k j))) H
theorem op_leR (hu : X.A.units + 64 < cLine) : OpR X (compareOp .LtE) (rLeR X.K) := by
  intro pins s σ H x y u v Q I r r' h
  obtain ⟨a, b, j, k, rfl, rfl, h1, h2, q⟩ := h
  cases r
  cases r'
  have e1 := depth_enc j
  refine PySem.W.le_data (rd_is I h1).2 (rd_is I h2).2 (alike_enc j k) (fun z => by cases z) (by omega) ?_
  rw [lt_enc]
  exact ⟨.bl _, H, I, rfl, q⟩
/-! ### t * 1 is t -/
theorem int_rmul_tuple1 (a : Int) (t : Tok) (l : Addr) (items : Array Value) (n : Nat) (dd : Option Addr) (sl : Array (Option Value)) (he : items.isEmpty = false) :
    Meets (Builtin.«tuple.__mul__» ⟨[.ref l, .int 1 t], []⟩) (fun _ R s => s.heap.get? l = some { cls := .type "tuple", dict := dd, data := .seq items n, slots := sl } ∧ R (.ok (.ret (.ref l))) s) :=
  .of_wp fun prog w A R s h => by
    obtain ⟨hp, g, d, tk, os⟩ := s
    obtain ⟨hl, h⟩ := h
    have f1 := AutoSeq1.idx_int
    wp_walk using wpAny_loadPart' hl
    repeat (first
      | (refine wpAny_ite_false (by simp) ?_; wp_walk using wpAny_loadPart' hl)
      | (refine wpAny_ite_true (by simp) ?_; wp_walk using wpAny_loadPart' hl))
    exact ⟨_, rfl, h⟩
def rRep1 (K : PySem.W.Frag) : R2 := fun x y H Q => ∃ l xs, x = .ref l ∧ y = .int 1 ∧ SqT K H l xs ∧ xs ≠ [] ∧ Q (.ref l) H
theorem op_rep1 : OpR X (binaryOp .Mult) (rRep1 X.K) := by
  intro pins s σ H x y v u Q I rx ry h
  obtain ⟨l, xs, rfl, rfl, hT, hne, q⟩ := h
  cases rx
  obtain ⟨t, rfl⟩ := ry
  obtain ⟨its, r, ⟨⟨cls, dd, data, sl⟩, ho, hc, n, hd⟩, hs⟩ := I.tuple hT
  simp only at hc hd
  subst hc hd
  have hle : its.length = xs.length := r.length.symm
  have hi : its.toArray.isEmpty = false := by
    cases its with
    | nil => exact absurd (List.eq_nil_of_length_eq_zero hle.symm) hne
    | cons a b => rfl
  refine wpAny_binaryOp_repeat_ref (T := "tuple") (U := "int") (by decide) ⟨_, ho, rfl⟩ (fun s' => typeIs_int s' 1 t) noFill_tuple_mul F.fills_int_mul F.slot_int_rmul repeat_tuple F.slot_int_index.lookup
    (call_meets F.slot_int_rmul (typeIs_int s 1 t) F.entry_int_rmul (F.args_int_rmul_2 _ _) (int_rmul_tuple 1 t l its.toArray n dd sl)
      ⟨ho, rfl, ⟨_, ho, rfl⟩, call_meets F.slot_tuple_mul ⟨_, ho, rfl⟩ F.entry_tuple_mul (F.args_tuple_mul_2 _ _) (int_rmul_tuple1 1 t l its.toArray n dd sl hi) ⟨ho, ?_⟩⟩)
  exact ⟨.ref l, H, I, rfl, q⟩

/-! ### sorted(t) of a tuple of whole numbers -/
theorem collect_tup {A : Around} {E : Value → Shared → Prop} {prog : Program} {w : World} {l : Addr} {vs : List Value} {Q : List Value → Shared → Prop} (hl : IsTup s.heap l vs.toArray)
    (h : Q vs { s with heap := (s.heap.push (seqObj "list" #[] 0)).update s.heap.objs.size (Obj.mapSeq (· ++ vs.toArray)) }) (hsz : vs.length ≤ sizeLine) :
    wpAny (model prog w) A (collect (.ref l)) Q E s := by
  obtain ⟨o, ho, hc, n, hd⟩ := id hl
  unfold collect
  refine wpAny_bind (wpAny_runValue (codeAny_builtin entry_proto_collect' ?_))
  show wpAny _ _ (do again (.builtin "list.__iadd__" ⟨[← newList [], .ref l], []⟩)) _ _ s
  refine wpAny_bind (wpAny_newList (wpAny_pure ⟨Code.quiet_builtin _ (by decide +kernel), codeAny_builtin entry_list_iadd' ?_⟩))
  show wpAny _ _ (Builtin.List.listExtendWith (.ref s.heap.objs.size) (.ref l) (.ref s.heap.objs.size)) _ _ { s with heap := s.heap.push (seqObj "list" #[] 0) }
  unfold Builtin.List.listExtendWith
  have ho' : (s.heap.push (seqObj "list" #[] 0)).get? l = some o := Heap.get?_push_of_some _ ho
  refine wpAny_bind (wpAny_typeOf (T := "tuple") ⟨o, ho', hc⟩ ?_)
  have ht : (Value.type "tuple" == Value.type "tuple") = true := by rfl
  rw [if_pos (by rw [ht]; simp)]
  refine wpAny_bind (listItems_at ho' hd ?_)
  refine wpAny_bind (listItems_at (xs := #[]) (n := 0) (Heap.get?_push_size _ rfl) rfl ?_)
  rw [if_neg (by simp)]
  refine wpAny_bind (listUpdate_at (xs := #[]) (n := 0) (Heap.get?_push_size _ rfl) rfl ?_ (Nat.zero_le _) (by show (#[] ++ vs.toArray).size ≤ sizeLine + 1; simp only [Array.size_append, List.size_toArray, List.length_nil]; omega))
  refine wpAny_pure ?_
  show wpAny (model prog w) A (do
      let o ← load s.heap.objs.size
      match o.data with
      | .seq xs _ => pure xs.toList
      | _ => unsupported "internal:collect") Q E { s with heap := (s.heap.push (seqObj "list" #[] 0)).update s.heap.objs.size (Obj.mapSeq (· ++ vs.toArray)) }
  refine wpAny_bind (wpAny_load (get?_update_seq (Heap.get?_push_size _ rfl) _) ?_)
  show wpAny _ _ (pure ((#[] : Array Value) ++ vs.toArray).toList) Q E _
  rw [show ((#[] : Array Value) ++ vs.toArray).toList = vs by simp]
  exact wpAny_pure h
theorem each_ints : ∀ {xs : List Int} {us : List Value}, Vals (xs.map V.int) us → PySem.W.EachIs (fun (v : Value) (i : Int) => ∃ t, v = .int i t) us xs
  | [], _, .nil => .nil
  | _ :: _, _, .cons r t => .cons r (each_ints t)
theorem vals_each : ∀ {xs : List Int} {us : List Value}, PySem.W.EachIs (fun (v : Value) (i : Int) => ∃ t, v = .int i t) us xs → Vals (xs.map V.int) us
  | _, _, .nil => .nil
  | _, _, .cons r t => .cons r (vals_each t)
/-- whole numbers in their order -/
def upInts (ns : List Int) : List Int := ns.mergeSort (PySem.W.dataLe false fun i => .int i)
theorem upInts_perm (ns : List Int) : (upInts ns).Perm ns := List.mergeSort_perm _ _
theorem upInts_asc (ns : List Int) : (upInts ns).Pairwise (· ≤ ·) := by
  unfold upInts
  rw [show (PySem.W.dataLe false fun i : Int => PyData.int i) = fun a b => decide (a ≤ b) from PySem.W.dataLe_int id]
  refine (List.pairwise_mergeSort (fun a b c h1 h2 => ?_) (fun a b => ?_) ns).imp fun {a b} h => by simpa using h
  · simp only [decide_eq_true_eq] at *
    omega
  · simp only [Bool.or_eq_true, decide_eq_true_eq]
    omega
def rSortT (K : PySem.W.Frag) : List V → Hp → VK → Prop := fun vs H Q => ∃ (a : Addr) (ns : List Int), vs = [V.ref a] ∧ SqT K H a (ns.map V.int) ∧ ns.length ≤ 1000 ∧ ∀ p, H p = none → Q (.ref p) (upd H p (.lst ((upInts ns).map V.int)))
theorem cr_sortT1 (hu : X.A.units + 64 < cLine) : CallR X (.builtin "sorted") (rSortT X.K) := by
  intro pins s σ H vs us Q I r h
  obtain ⟨a, ns, rfl, hT, few, q⟩ := h
  rw [Vals.ref1 r]
  obtain ⟨its, rv, tp, hz⟩ := I.tuple hT
  have hle : its.length = ns.length := by rw [← rv.length, List.length_map]
  have hsz : its.length ≤ sizeLine := by rw [hle, sizeLine_eq]; omega
  refine Calls.call_function_entry kind_sorted plain_sorted entry_sorted (args_sorted1 _) ?_
  unfold Builtin.«sorted»
  refine wpAny_bind (m := checkCount "sorted" 1 1 _) (wpAny_pure ?_)
  refine wpAny_bind (collect_tup tp ?_ hsz)
  refine wpAny_bind (wpAny_newList ?_ hsz)
  have hS : ((s.heap.push (seqObj "list" #[] 0)).update s.heap.objs.size (Obj.mapSeq (· ++ its.toArray))).objs.size = s.heap.objs.size + 1 := by rw [Heap.size_update, size_push']
  show wpAny _ _ _ _ _ { s with heap := PySem.W.copyHeap s.heap its }
  rw [hS]
  have e1 := each_ints rv
  refine wpAny_bind (wpAny_holding (PySem.W.list_sort_data (R := fun v i => ∃ t, v = .int i t) (s := { s with heap := PySem.W.copyHeap s.heap its }) (enc := fun i : Int => .int i) (PySem.W.copyHeap_at s.heap its) e1 (e1.mono fun v i ⟨t, e⟩ => ⟨[], by rw [e]; exact .int i t, by simp⟩)
    (PySem.W.AllAlike.of fun a b => by simp only [PySem.W.alike]) (PySem.W.Sortable.others fun b => ⟨fun z => (by cases z), fun xs z => (by cases z)⟩) (by rw [sizeLine_eq]; omega) (fun b _ => by show _ + 0 < _; simp only [Around.in1_units]; omega) fun out _ e => ?_))
  obtain ⟨c, hc⟩ := sortedHeap_at (vs := its) (out := out.toArray) (PySem.W.copyHeap_at s.heap its)
  have len : ((upInts ns).map V.int).length ≤ sizeLine := by rw [List.length_map, (upInts_perm ns).length_eq, sizeLine_eq]; omega
  have n0 : s.heap.objs.size ≤ s.heap.objs.size + 1 := Nat.le_succ _
  refine wpAny_pure ⟨_, rfl, .ref (s.heap.objs.size + 1), upd H (s.heap.objs.size + 1) (.lst ((upInts ns).map V.int)), I.laid (t' := s.toks) (fun b o e => ?_) n0 ⟨len, out, c, vals_each e, hc⟩, rfl, q _ (I.hok.fresh n0)⟩
  have lt := Heap.lt_size e
  show (sortedHeap (PySem.W.copyHeap s.heap its) (s.heap.objs.size + 1) its _).get? b = some o
  unfold PySem.W.copyHeap
  rw [sortedHeap_old (Nat.ne_of_lt (Nat.lt_succ_of_lt lt)) (by rw [size_push', Heap.size_update, size_push']; exact Nat.lt_succ_of_lt (Nat.lt_succ_of_lt lt))]
  refine Heap.get?_push_of_some _ ?_
  rw [Heap.get?_update_ne _ _ _ _ (Nat.ne_of_lt lt)]
  exact Heap.get?_push_of_some _ e

/-! ### instances by their own ==: a flag out -/
/-- what an own == promises: whichever flag -/
def spEqB (R : Addr → Addr → Bool → Hp → Prop) : Sp := fun vs H Q _ => ∃ a b c, vs = [.ref a, .ref b] ∧ R a b c H ∧ ∀ H', Same H H' → Q (.bl c) H'
structure EqC (K : PySem.W.Frag) (C f : Addr) : Prop where
  eq : PySem.W.findIn K (.ref C) "__eq__" = some (some (.ref f))
  fn : PySem.W.isFn K (.ref f) = true
  ne : PySem.W.findIn K (.ref C) "__ne__" = some (some (.builtin "object.__ne__"))
  ob : PySem.W.subIn K (.ref C) (.type "object") = some true
variable {n : Nat} {C f : Addr} {fd : FuncData} {ps : List Str} {R : Addr → Addr → Bool → Hp → Prop}
theorem eq_called (F : FnOk X.prog X.w X.K X.mg X.base CX0 n f fd ps (spEqB R)) (hb : Binds X.K fd ps []) {A : Around} (sb : Sub X n A) (I : Inv X pins σ H s) {a b : Addr} {c : Bool} (hr : R a b c H) :
    wpAny (model X.prog X.w) A (call (.ref f) [.ref a, .ref b]) (fun v s' => v = .bool c ∧ ∃ H', Inv X pins σ H' s' ∧ Same H H') X.xe s := by
  have hsp : spEqB R [.ref a, .ref b] H (fun v H' => v = .bl c ∧ Same H H') E0 := ⟨a, b, c, rfl, hr, fun H' e => ⟨rfl, e⟩⟩
  have e0 : Env0 X.prog X.w X.K X.mg X.base A X.stack s H := by
    have e := I.env0
    exact ⟨by rw [sb.fr]; exact e.frames, e.mod, e.bs, e.bsz, e.funs, e.frf, e.hok, e.bare⟩
  have hl := F.len _ _ _ _ hsp
  have r2 : Vals [V.ref a, V.ref b] [Value.ref a, Value.ref b] := .cons rfl (.cons rfl .nil)
  refine wpAny_call (codeAny_mono (F.run A X.stack s H ⟨[.ref a, .ref b], []⟩ [.ref a, .ref b] [.ref a, .ref b] _ E0 sb.room e0 (by
    have := hb s [.ref a, .ref b] I.kIn (by simpa using hl)
    simpa using this) r2 hsp) fun r s' hq => ?_)
  cases r with
  | error e => exact (pass0 (X := X)) pins σ H s e s' I hq
  | ok fl =>
    cases fl with
    | ret w =>
      obtain ⟨z, H', I', rz, ez, ex⟩ := I.after hq
      subst ez
      cases rz
      exact ⟨rfl, H', I', ex⟩
    | next => exact False.elim hq
    | brk => exact False.elim hq
    | cont => exact False.elim hq
def rEqP (C : Addr) (R : Addr → Addr → Bool → Hp → Prop) (neg : Bool) : R2 := fun x y H Q => ∃ a b dx dy fs gs c, x = .ref a ∧ y = .ref b ∧ H a = some (.ins C dx fs) ∧ H b = some (.ins C dy gs) ∧ R a b c H ∧ ∀ H', Same H H' → Q (.bl (if neg then !c else c)) H'
theorem op_eqP (F : FnOk X.prog X.w X.K X.mg X.base CX0 n f fd ps (spEqB R)) (hb : Binds X.K fd ps []) (E : EqC X.K C f) (hr : Room n X.A) : OpR X (compareOp .Eq) (rEqP C R false) := by
  intro pins s σ H x y v u Q I rx ry h
  obtain ⟨a, b, dx, dy, fs, gs, c, rfl, rfl, ha, hb', hR, q⟩ := h
  cases rx
  cases ry
  obtain ⟨mA, J, _⟩ := ins_get I.hok ha
  obtain ⟨mB, J', _⟩ := ins_get I.hok hb'
  obtain ⟨od, J, _⟩ := J.look
  obtain ⟨od', J', _⟩ := J'.look
  obtain ⟨m, hF⟩ := I.fr
  show wpAny (model X.prog X.w) X.A (richCompare .Eq _ _) (EP X pins σ Q) X.xe s
  refine PySem.W.cmp_K (op := .Eq) (tb := .ref C) hr.units0 hF I.ok.mod.kin J J'.type (by simp [PySem.W.notFirst]) E.eq E.fn (wpAny_mono (eq_called F hb ⟨hr, rfl⟩ I hR) (fun v s' z => ?_) fun _ _ e => e)
  obtain ⟨rfl, H', I', e⟩ := z
  exact ⟨.bl c, H', I', rfl, q H' e⟩
theorem ne_bound {M : Model} {A : Around} {E' : Value → Shared → Prop} {args : List Value} {Q : Option Value → Shared → Prop} {x : Addr} {ox : Obj} {od : Option Obj} {K : PySem.W.Frag} (Y : K.In s.heap) (J : PySem.W.InstAt s.heap x ox C od) (hs : PySem.W.findIn K (.ref C) "__ne__" = some (some (.builtin "object.__ne__")))
    (h : wpAny M A (call (.builtin "object.__ne__") (.ref x :: args)) (fun v => Q (some v)) E' s) : wpAny M A (callSpecialIfBound? (.ref x) "__ne__" args) Q E' s := by
  simp only [callSpecialIfBound?, bindSpecialIfBound?]
  refine wpAny_holding (wpAny_bind (wpAny_bind (wpAny_bind (J.type.here ((PySem.W.looks_findIn Y hs).here ?_)))))
  have bd : bindSpecial (.builtin "object.__ne__") (.ref x) = pure (.builtin "object.__ne__", [.ref x]) := F.slot_object_ne.bind (.ref x)
  simp only [bd]
  refine wpAny_bind (wpAny_askSetting (wpAny_ite ?_))
  have fin : wpAny M A (call (.builtin "object.__ne__") ([.ref x] ++ args) >>= fun v => pure (some v)) Q E' s := wpAny_bind (wpAny_mono h (fun v s' h' => wpAny_pure h') fun _ _ h' => h')
  split
  · exact wpAny_bind (wpAny_pure (wpAny_pure fin))
  · exact wpAny_tryCatch (wpAny_bind (wpAny_pure (wpAny_pure fin)))
theorem op_neP (F : FnOk X.prog X.w X.K X.mg X.base CX0 n f fd ps (spEqB R)) (hb : Binds X.K fd ps []) (E : EqC X.K C f) (hr : Room (n + 1) X.A) : OpR X (compareOp .NotEq) (rEqP C R true) := by
  intro pins s σ H x y v u Q I rx ry h
  obtain ⟨a, b, dx, dy, fs, gs, c, rfl, rfl, ha, hb', hR, q⟩ := h
  cases rx
  cases ry
  obtain ⟨mA, J, _⟩ := ins_get I.hok ha
  obtain ⟨mB, J', _⟩ := ins_get I.hok hb'
  obtain ⟨od, J, _⟩ := J.look
  obtain ⟨od', J', _⟩ := J'.look
  have un := hr.un
  have Y := I.kIn
  have one : wpAny (model X.prog X.w) X.A (tryCompare (.ref a) "__ne__" (.ref b)) (fun r s' => ∃ v, r = some v ∧ EP X pins σ Q v s') X.xe s := by
    simp only [tryCompare]
    refine wpAny_bind (ne_bound Y J E.ne (wpAny_call (codeAny_call_builtin PySem.F.slot_object_ne.plain PySem.F.cmpEntry_ne
      (PySem.W.check_slot PySem.F.cmpKind_ne PySem.F.cmpSplit_ne (J.type.andThen (PySem.W.looks_subIn Y E.ob)) (PySem.F.cmpArgs_ne _ _) ?_))))
    have back : wpAny (model X.prog X.w) X.A.in1 (callSpecialIfBound? (.ref a) "__eq__" [.ref b]) (fun r s' => r = some (.bool c) ∧ ∃ H', Inv X pins σ H' s' ∧ Same H H') X.xe s :=
      PySem.W.ifBound_K Y J E.eq E.fn (wpAny_mono (eq_called F hb ⟨hr.in1, rfl⟩ I hR) (fun v s' z => by obtain ⟨rfl, z⟩ := z; exact ⟨rfl, z⟩) fun _ _ e => e)
    unfold Builtin.«object.__ne__»
    repeat (first
      | with_reducible refine wpAny_cRoomFor (by simp only [Around.in1_units]; omega) ?_
      | (refine wpAny_bind (m := callSpecialIfBound? (.ref a) (Str.ofString "__eq__") [.ref b]) (wpAny_mono back (fun r s' z => ?_) fun _ _ e => e))
      | wp_step)
    all_goals (try (obtain ⟨rfl, H', I', e⟩ := z))
    all_goals (repeat (first | (refine wpAny_bind (m := truthy (.bool _)) (wpAny_truthy_bool ?_)) | wp_step))
    all_goals (first
      | exact ⟨_, rfl, .bl (!c), H', I', rfl, q H' e⟩
      | exact ⟨_, rfl, wpAny_pure ⟨_, rfl, .bl (!c), H', I', rfl, q H' e⟩⟩
      | exact ⟨_, rfl, wpAny_pure (wpAny_pure ⟨_, rfl, .bl (!c), H', I', rfl, q H' e⟩)⟩
      | skip)
  show wpAny (model X.prog X.w) X.A (richCompare .NotEq _ _) (EP X pins σ Q) X.xe s
  unfold richCompare
  simp only [oneThing_ref]
  refine wpAny_holding ?_
  refine wpAny_bind (wpAny_cRoomFor (by omega) ?_)
  rw [cmpInfo_NotEq]
  dsimp only
  refine wpAny_bind (J.type.here ?_)
  refine wpAny_bind (J'.type.here ?_)
  rw [show (Value.ref C != Value.ref C) = false from by simp]
  simp only [Bool.false_eq_true, if_false]
  refine wpAny_bind (wpAny_pure ?_)
  simp only [Bool.false_eq_true, if_false]
  refine wpAny_bind (wpAny_mono one (fun r s' z => ?_) fun _ _ e => e)
  obtain ⟨v, rfl, z⟩ := z
  exact wpAny_pure z
end
end LB
set_option Elab.async false
set_option linter.all false
set_option maxRecDepth 100000
set_option maxHeartbeats 1000000
namespace LB
open PySem PySem.Spec PyProof.Rows L2 RS
open AutoSeq1 (wpAny_loadPart')
/-! ### enumerate(t) of a tuple -/
theorem meets_enum_tup (l : Addr) (items : Array Value) (n : Nat) (dct : Option Addr) (sl : Array (Option Value)) :
    Meets (Builtin.«enumerate.__new__» ⟨[.type "enumerate", .ref l], []⟩) (fun _ R s => s.heap.get? l = some { cls := .type "tuple", dict := dct, data := .seq items n, slots := sl } ∧
      R (.ok (.ret (.ref (s.heap.push { cls := .type "tuple_iterator", data := .fields #[.ref l, .int 0 0] }).objs.size)))
        { s with heap := (s.heap.push { cls := .type "tuple_iterator", data := .fields #[.ref l, .int 0 0] }).push { cls := .type "enumerate", data := .fields #[.none, .bool false, .ref s.heap.objs.size, rawInt 0, .none, .none] } }) :=
  .of_wp fun prog w A R s h => by
    obtain ⟨hp, g, d, tk, os⟩ := s
    obtain ⟨hl, h⟩ := h
    have hsub := sub_enumerate
    have hT : Heap.IsTuple (Shared.heap ⟨hp, g, d, tk, os⟩) l items := ⟨_, hl, rfl, n, rfl⟩
    wp_walk using wpAny_loadPart' hl
    refine wpAny_stack_any fun st => wpAny_pure ?_
    split
    · rename_i c _ _ _ _ _
      cases (c == Value.type "enumerate")
      · wp_walk using wpAny_loadPart' hl, wpAny_pyIter_tuple hT
        exact ⟨_, rfl, h⟩
      · wp_walk using wpAny_loadPart' hl, wpAny_pyIter_tuple hT
        exact ⟨_, rfl, h⟩
    · wp_walk using wpAny_loadPart' hl, wpAny_pyIter_tuple hT
      exact ⟨_, rfl, h⟩
theorem call_enum_tup {prog : Program} {w : World} {A : Around} {E : Value → Shared → Prop} {s : Shared} {l : Addr} {items : Array Value} {Q : Value → Shared → Prop} (hL : s.heap.IsTuple l items)
    (h : ∀ h', IsEnum h' (s.heap.objs.size + 1) s.heap.objs.size 0 .none → h'.IsTupleIter s.heap.objs.size l 0 → h'.objs.size = s.heap.objs.size + 2 →
      (∀ b o, s.heap.get? b = some o → h'.get? b = some o) → Q (.ref (s.heap.objs.size + 1)) { s with heap := h' }) :
    wpAny (model prog w) A (call (.type "enumerate") [.ref l]) Q E s := by
  obtain ⟨⟨c, dct, dt, sl⟩, hl, hc, n, hd⟩ := hL
  replace hc : c = .type "tuple" := hc
  replace hd : dt = .seq items n := hd
  subst hc hd
  refine callType_new F.called_enumerate (by decide) (F.typeCall_enumerate_1 _) (F.newCall_enumerate_1 _) (fun obj => F.args_object_init_2 obj _) F.entry_enumerate_new
    (meets_enum_tup l items n dct sl) ⟨hl, ?_⟩
  have hz : (s.heap.push { cls := .type "tuple_iterator", data := .fields #[.ref l, .int 0 0] }).objs.size = s.heap.objs.size + 1 := Heap.size_push ..
  show _ ∧ _
  rw [hz]
  have he : IsEnum ((s.heap.push { cls := .type "tuple_iterator", data := .fields #[.ref l, .int 0 0] }).push
      { cls := .type "enumerate", data := .fields #[.none, .bool false, .ref s.heap.objs.size, rawInt 0, .none, .none] }) (s.heap.objs.size + 1) s.heap.objs.size 0 .none := by
    have q := Heap.get?_push_size (s.heap.push { cls := .type "tuple_iterator", data := .fields #[.ref l, .int 0 0] })
      (o := { cls := .type "enumerate", data := .fields #[.none, .bool false, .ref s.heap.objs.size, rawInt 0, .none, .none] }) rfl
    rw [hz] at q
    exact q
  exact ⟨⟨_, he, rfl⟩, h _ he ⟨_, Heap.get?_push_of_some _ (Heap.get?_push_size _ rfl), rfl, rfl⟩ (by rw [Heap.size_push, hz]) fun b o x => Heap.get?_push_of_some _ (Heap.get?_push_of_some _ x)⟩
/-- the tuple at a, each item in a new pair with its number -/
def IteT (K : PySem.W.Frag) (a : Addr) : It :=
  ⟨fun i H => ∃ (xs : List V) (x : V), SqT K H a xs ∧ xs[i]? = some x, fun i H v H' => ∃ T x, v = .ref T ∧ H T = none ∧ H' = upd H T (.tup [.int (i : Nat), x]) ∧ ∀ xs, SqT K H a xs → xs[i]? = some x,
    fun i H => ∃ xs : List V, SqT K H a xs ∧ xs.length ≤ i⟩
theorem apart_iter {h : Heap} {a it : Addr} {i : Nat} {items : Array Value} (p : h.IsTuple a items) (hit : h.IsTupleIter it a i) : a ≠ it := fun z => by
  obtain ⟨o, ho, hc, _⟩ := p
  obtain ⟨o', ho', hc', _⟩ := hit
  rw [z, ho'] at ho
  cases ho
  rw [hc'] at hc
  injection hc with hc
  exact absurd hc (by decide)
theorem turn_enumT {P : Program} {w : World} {K : PySem.W.Frag} {elts : List Expr} {kk : Nat} {tpos : Pos} (a e it : Addr) :
    Turn P w K (.Tuple elts kk tpos) (IteT K a) [e, it] e (fun i h => (∃ old, IsEnum h e it ((i : Nat) : Int) old) ∧ h.IsTupleIter it a i ∧ e ≠ it) where
  mem := by simp
  obj := fun i h st b hb => by
    obtain ⟨⟨old, he⟩, ⟨o, ho, hc, hd⟩, _⟩ := st
    have e' : b = e ∨ b = it := by simpa using hb
    rcases e' with z | z
    · rw [z]; exact ⟨_, he, fun v q => nomatch q⟩
    · rw [z]; exact ⟨o, ho, fun v q => by rw [hd] at q; cases q⟩
  keep := fun i h h' st k => let ⟨⟨old, he⟩, hi, hne⟩ := st; ⟨⟨old, k e (by simp) _ he⟩, hi.at fun o q => k it (by simp) o q, hne⟩
  item := by
    intro X hP hw hK hc i pins s σ H E I hf st hg
    subst hP hw hK
    obtain ⟨⟨old, he⟩, hit, hne⟩ := st
    obtain ⟨xs, x, hq, hx⟩ := hg
    obtain ⟨its, rv, p, hz⟩ := I.tuple hq
    obtain ⟨u, hu, ru⟩ := rv.get hx
    have hel : e < s.heap.objs.size := Heap.lt_size he
    have hil : it < s.heap.objs.size := by obtain ⟨_, q, _⟩ := hit; exact Heap.lt_size q
    have p' : s.heap.IsTuple a its.toArray := p
    have ai := apart_iter p' hit
    have hi : i < its.toArray.size := by rw [List.size_toArray]; exact (List.getElem?_eq_some_iff.mp hu).1
    have ea : e ≠ a := fun z => by
      obtain ⟨o, ho, hc', _⟩ := p'
      have he' := he
      unfold IsEnum at he'
      rw [z, ho] at he'
      cases he'
      injection hc' with hc'
      exact absurd hc' (by decide)
    refine wpAny_pyNext_enum_itemD (Draws.tuple (A := X.A.in1) (I.ok.hd hc) it a ai its.toArray) he ⟨hit, p'⟩ hi hne (by simp only [List.mem_cons, List.not_mem_nil, or_false, not_or]; exact ⟨hne, ea⟩) fun x' h' tk hP' ho st' hT hsz hk => ?_
    have ex : x' = u := by
      rw [List.getElem?_toArray, hu] at hP'
      exact (Option.some.inj hP').symm
    subst ex
    refine ⟨_, rfl, wpAny_letOwnedTupleGo_enum (s := { s with heap := h', toks := tk + 1 }) ho fun h'' he' sb => ?_⟩
    have hT2 : h''.get? s.heap.objs.size = some { cls := .type "tuple", data := .seq #[.int i tk, x'] } := (sb.2 _ (Nat.ne_of_gt hel)).trans hT
    have new : ObjOk X.prog X.w (upd H s.heap.objs.size (.tup [.int (i : Nat), x])) h'' s.heap.objs.size (.tup [.int (i : Nat), x]) :=
      ⟨by show 2 ≤ sizeLine; decide, [.int i tk, x'], .cons ⟨_, rfl⟩ (.cons ru .nil), ⟨_, hT2, rfl, _, rfl⟩⟩
    have I1 : Inv X pins σ (upd H s.heap.objs.size (.tup [.int (i : Nat), x])) { s with heap := h'', toks := tk + 1 } :=
      I.turnedNew (ch := [e, it]) (fun b ob hb q => (sb.2 b (fun z => hb (by simp [z]))).trans (hk b ob (fun z => hb (by simp [z])) (fun z => hb (by simp [z])) q)) hf (Nat.le_refl _) new
    refine ⟨.ref s.heap.objs.size, _, I1, rfl, ⟨_, x, rfl, I.hok.fresh (Nat.le_refl _), rfl, fun ys hy => by rw [I.tuple_inj hy hq]; exact hx⟩, ⟨⟨x', ?_⟩, st'.1.at fun o q => (sb.2 it (Ne.symm hne)).trans q, hne⟩, fun b hb => ?_⟩
    · have e1 : ((i + 1 : Nat) : Int) = (i : Int) + 1 := by omega
      rw [e1]; exact he'
    · have hb' : b < s.heap.objs.size := by
        have e' : b = e ∨ b = it := by simpa using hb
        rcases e' with z | z
        · rw [z]; exact hel
        · rw [z]; exact hil
      rw [upd_ne (Nat.ne_of_lt hb')]
      exact (hf b hb).1
  done := by
    intro X hP hw hK hc i pins s σ H E I hf st hg
    subst hP hw hK
    obtain ⟨⟨old, he⟩, hit, hne⟩ := st
    obtain ⟨xs, hq, hx⟩ := hg
    obtain ⟨its, rv, p, hz⟩ := I.tuple hq
    obtain ⟨f0, f1, f2, f3, f4, f5⟩ := hf it (by simp)
    have p' : s.heap.IsTuple a its.toArray := p
    have hl := rv.length
    have hT : s.TypeIs (.ref e) "enumerate" := ⟨_, he, rfl⟩
    unfold pyNext
    refine wpAny_bind (wpAny_attempt (wpAny_callSpecial?_slot (name := Str.ofString "__next__") hT F.slot_enumerate_next
      (wpAny_call_entry F.slot_enumerate_next hT F.entry_enumerate_next ?_ (F.args_enumerate_next_1 _))))
    show wpAny _ _ (field (.ref e) 2 >>= _) _ _ _
    refine wpAny_bind (wpAny_field he rfl (x := .ref it) rfl ?_)
    refine wpAny_bind (wpAny_nextOf_tuple_end (A := X.A.in1) (I.ok.hd hc) hit p' (by rw [List.getElem?_toArray]; exact List.getElem?_eq_none (by omega)) fun h' x' eb hx' => ?_)
    obtain ⟨o, ho, hc'⟩ := hx'
    refine wpAny_bind (wpAny_isInstance (T := "StopIteration") (b := true) ⟨o, ho, hc'⟩ isSubtype_stop ?_)
    exact wpAny_pure ⟨rfl, I.turned (t' := s.toks) (fun b o hb q => eb b o hb q) f0 f1 f3 f4 f5⟩
  self := fun A i s Q E st h => let ⟨⟨_, he⟩, _⟩ := st; wpAny_pyIter_enum he h
def iEnumT (K : PySem.W.Frag) (ta : TA) : TI := fun σ H R => ta σ H fun vs H1 => ∃ a xs, vs = [.ref a] ∧ SqT K H1 a xs ∧ R (IteT K a) H1
theorem pi_enumT {X : Cx} {e : Expr} {ta : TA} {p pos tpos : Pos} {elts : List Expr} {kk : Nat} (hg : Gl X "enumerate") (hm : X.mg "enumerate" = none) (ha : PA X [e] ta) (hs : starEach [e] X.env = [(false, eval e X.env)] := by rfl) :
    PI X (.Tuple elts kk tpos) (.Call (.Name "enumerate" p) [e] [] pos) (iEnumT X.K ta) := by
  refine ⟨fun pins s σ H R I h => ?_⟩
  refine Call_ (ld_blt I hg hm boot_enumerate (PyProof.Rows.callWith_type1 (thn (ha.run pos pins s σ H _ I h) fun us s1 ⟨vs, H1, I1, r1, q1⟩ => ?_) hs rfl))
  obtain ⟨a, xs, ex, hq, q⟩ := q1
  subst ex
  cases r1 with
  | cons r rr =>
    cases rr
    cases r
    obtain ⟨its, rv, p', hz⟩ := I1.tuple hq
    have p2 : s1.heap.IsTuple a its.toArray := p'
    refine call_enum_tup p2 fun h' he hit hsz hk => wpAny_pyIter_enum he ?_
    have I2 : Inv X pins σ H1 { s1 with heap := h' } := I1.kept (t' := s1.toks) hk
    refine ⟨s1.heap.objs.size + 1, [s1.heap.objs.size + 1, s1.heap.objs.size], _, _, H1, rfl, I2, turn_enumT a (s1.heap.objs.size + 1) s1.heap.objs.size, ⟨⟨.none, he⟩, hit, Nat.succ_ne_self _⟩, fun b hb => ?_, q⟩
    have e' : b = s1.heap.objs.size + 1 ∨ b = s1.heap.objs.size := by simpa using hb
    have hle : s1.heap.objs.size ≤ b := by
      rcases e' with z | z
      · rw [z]; exact Nat.le_add_right _ _
      · rw [z]; exact Nat.le_refl _
    exact I1.fpOk hle (I1.hok.fresh hle)
/-- a for over it, by an invariant -/
theorem for_enumT {K : PySem.W.Frag} {a : Addr} {xs : List V} {g : TG} {tb : TS} {D : Ends} {σ : L2.St} {H : Hp} (Pv : Nat → L2.St → Hp → Prop) (h0 : Pv 0 σ H) (hq : ∀ i σ H, Pv i σ H → SqT K H a xs)
    (hs : ∀ (i : Nat) (x : V) (T : Addr) (σ : L2.St) (H : Hp), xs[i]? = some x → Pv i σ H → H T = none → g (.ref T) σ (upd H T (.tup [.int (i : Nat), x])) fun σ2 H2 => tb { D with nx := Pv (i + 1), ct := Pv (i + 1), bk := D.nx } σ2 H2) (hd : ∀ σ H, Pv xs.length σ H → D.nx σ H) :
    ∃ W : Nat → Nat → L2.St → Hp → Prop, (∃ m, W 0 m σ H) ∧ ∀ i m σ H, W i m σ H →
      ((IteT K a).stop i H ∧ D.nx σ H) ∨ ((IteT K a).go i H ∧ ∃ N : L2.St → Hp → Prop, (∀ σ' H', N σ' H' → ∃ m', m' < m ∧ W (i + 1) m' σ' H') ∧ ∀ v H', (IteT K a).yld i H v H' → g v σ H' fun σ2 H2 => tb { D with nx := N, ct := N, bk := D.nx } σ2 H2) := by
  refine ⟨fun i m σ H => m = xs.length - i ∧ i ≤ xs.length ∧ Pv i σ H, ⟨xs.length, rfl, Nat.zero_le _, h0⟩, ?_⟩
  rintro i m σ H ⟨rfl, hi, p⟩
  have q := hq i σ H p
  by_cases hlt : i < xs.length
  · have hx : xs[i]? = some xs[i] := List.getElem?_eq_getElem hlt
    refine .inr ⟨⟨xs, _, q, hx⟩, Pv (i + 1), fun σ' H' p' => ⟨xs.length - (i + 1), by omega, rfl, hlt, p'⟩, fun v H' y => ?_⟩
    obtain ⟨T, x', rfl, hT, rfl, f1⟩ := y
    exact hs i x' T σ H (f1 xs q) p hT
  · have e : i = xs.length := by omega
    subst e
    exact .inl ⟨⟨xs, q, Nat.le_refl _⟩, hd σ H p⟩
end LB
set_option Elab.async false
set_option linter.all false
set_option maxRecDepth 100000
/-! The rules whose reading names the module's own fixed part, for use within comprehensions (where it must be said). -/
namespace LB
open PySem PySem.Spec PyProof.Rows L2 RS
variable (K : PySem.W.Frag) {X : Cx}
theorem ix_tup' (h : X.K = K := by rfl) : IxR X (rIxT K) := by subst h; exact ix_tup
theorem ix_list' (h : X.K = K := by rfl) : IxR X (rIxL K) := by subst h; exact ix_list
theorem sl_tup' (h : X.K = K := by rfl) : SlR X (rSlT K) := by subst h; exact sl_tup
theorem sl_list' (h : X.K = K := by rfl) : SlR X (rSlL K) := by subst h; exact sl_list
theorem pe_fld' {e : Expr} {ta : TE} {f : Str} {pos : Pos} (he : PE X e ta) (hb : attributeBase e f X.env (eval e X.env) = eval e X.env) (h : X.K = K := by rfl) : PE X (.Attribute e f pos) (tFld K ta f) := by subst h; exact pe_fld he hb
theorem pg_tup' {es : List Expr} {k : Nat} {t : TGs} {n : Nat} {pos : Pos} (hc : X.calm = true) (h : PGs X es t)
    (hn : (assignEach es X.env).length = n := by rfl) (hst : (assignEach es X.env).findIdx? (·.1) = none := by rfl) (h : X.K = K := by rfl) : PG X (.Tuple es k pos) (gTup K n t) := by subst h; exact pg_tup hc ‹_› hn hst
theorem pi_tup' {tg l : Expr} {tl : TE} (hl : PE X l tl) (h : X.K = K := by rfl) : PI X tg l (iTup K tl) := by subst h; exact pi_tup hl
theorem pi_list' {tg l : Expr} {tl : TE} (hl : PE X l tl) (h : X.K = K := by rfl) : PI X tg l (iList K tl) := by subst h; exact pi_list hl
theorem call_tuple_of' (h : X.K = K := by rfl) : CallR X (.type "tuple") (fun xs H Q => ∃ p ys, xs = [.ref p] ∧ ((SqL K H p ys ∧ ∀ l, H l = none → Q (.ref l) (upd H l (.tup ys))) ∨ (SqT K H p ys ∧ Q (.ref p) H))) := by subst h; exact call_tuple_of
theorem call_list_of' (h : X.K = K := by rfl) : CallR X (.type "list") (fun xs H Q => ∃ p ys, xs = [.ref p] ∧ (SqL K H p ys ∨ SqT K H p ys) ∧ ∀ l, H l = none → Q (.ref l) (upd H l (.lst ys))) := by subst h; exact call_list_of
theorem call_len_seq' (h : X.K = K := by rfl) : CallR X (.builtin "len") (fun xs H Q => ∃ p ys, xs = [.ref p] ∧ (SqL K H p ys ∨ SqT K H p ys) ∧ Q (.int ys.length) H) := by subst h; exact call_len_seq
theorem call_isi' (h : X.K = K := by rfl) : CallR X (.builtin "isinstance") (rIsi K) := by subst h; exact call_isi
theorem cr_sum' (hc : X.calm = true) (h : X.K = K := by rfl) : CallR X (.builtin "sum") (rSum K) := by subst h; exact cr_sum hc
theorem cr_all' (hc : X.calm = true) (h : X.K = K := by rfl) : CallR X (.builtin "all") (rAll K) := by subst h; exact cr_all hc
theorem op_eqD' (hu : X.A.units + 64 < cLine) (h : X.K = K := by rfl) : OpR X (compareOp .Eq) (rEqD K) := by subst h; exact op_eqD hu
theorem op_neD' (hu : X.A.units + 64 < cLine) (h : X.K = K := by rfl) : OpR X (compareOp .NotEq) (rNeD K) := by subst h; exact op_neD hu
theorem op_leR' (hu : X.A.units + 64 < cLine) (h : X.K = K := by rfl) : OpR X (compareOp .LtE) (rLeR K) := by subst h; exact op_leR hu
end LB
namespace LB
open PySem PySem.Spec PyProof.Rows L2 RS
theorem lookup_relabeled {env : Env} {k : NameKind → Bool} : ∀ {names : List (Str × NameKind)} {x : Str} {c : NameKind}, names.lookup x = some c →
    (names.map fun (n, k) => if (k == NameKind.free && env.scope.kind == .function && env.kindOf n == some .cell) then (n, NameKind.cell) else (n, k)).lookup x = some c ∨
    (names.map fun (n, k) => if (k == NameKind.free && env.scope.kind == .function && env.kindOf n == some .cell) then (n, NameKind.cell) else (n, k)).lookup x = some .cell
  | [], _, _, h => by simp at h
  | (n, k) :: r, x, c, h => by
    have ih := @lookup_relabeled env (fun _ => true) r x c
    show List.lookup x ((if (k == NameKind.free && env.scope.kind == .function && env.kindOf n == some .cell) = true then (n, NameKind.cell) else (n, k)) :: _) = _ ∨ List.lookup x ((if (k == NameKind.free && env.scope.kind == .function && env.kindOf n == some .cell) = true then (n, NameKind.cell) else (n, k)) :: _) = _
    cases hx : x == n with
    | true =>
      simp only [List.lookup_cons, hx] at h
      cases h
      by_cases hc : (k == NameKind.free && env.scope.kind == .function && env.kindOf n == some .cell) = true
      · rw [if_pos hc]; right; simp only [List.lookup_cons, hx]
      · rw [if_neg hc]; left; simp only [List.lookup_cons, hx]
    | false =>
      simp only [List.lookup_cons, hx] at h
      by_cases hc : (k == NameKind.free && env.scope.kind == .function && env.kindOf n == some .cell) = true
      · rw [if_pos hc]; simp only [List.lookup_cons, hx]; exact ih h
      · rw [if_neg hc]; simp only [List.lookup_cons, hx]; exact ih h
/-- a comprehension within a comprehension -/
theorem blkOk_in {Y : Cx} {s : Shared} {H : Hp} {sc scope : Scope} {cl : List (Str × Addr)} {C : Addr} {env : Env} {fp : List Addr} {N : List Str} {own : List (Str × Nat)} (h : blkC N sc scope own = true) :
    BlkOk N (Y.blk s H sc (compEnvC sc cl C env) fp).env.scope scope own := by
  have b := blkOk_by h
  refine ⟨b.kind, b.uniq, b.ix, fun y hy e => ?_, b.own⟩
  show (relabel sc env).names.lookup y.1 = _ ∨ (relabel sc env).names.lookup y.1 = _
  rcases b.free y hy e with z | z
  · rcases lookup_relabeled (env := env) (k := fun _ => true) z with q | q
    · exact .inl q
    · exact .inl q
  · rcases lookup_relabeled (env := env) (k := fun _ => true) z with q | q
    · exact .inr q
    · exact .inl q
end LB
namespace LB
open PySem PySem.Spec PyProof.Rows L2 RS
variable (K : PySem.W.Frag) {X : Cx}
theorem pe_bm0' {o : Expr} {to : TE} {name : Str} {apos cpos : Pos} {T id : String} {r : V → List V → Hp → VK → Prop} (pa : PlainAttrs T) (slot : Slot T name id) (hty : typeOf (.builtin id) = pure (.type "method_descriptor")) (hm : MtR X id r) (ho : PE X o to)
    (hbase : attributeBase o name X.env (eval o X.env) = eval o X.env := by rfl) (hline : (apos.endLine == cpos.line) = true := by rfl) (h : X.K = K := by rfl) : PE X (.Call (.Attribute o name apos) [] [] cpos) (tBM0 K T r to) := by
  subst h; exact pe_bm0 pa slot hty hm ho hbase hline
theorem pe_bm' {o e : Expr} {es : List Expr} {to : TE} {t : TA} {name : Str} {apos cpos : Pos} {T id : String} {r : V → List V → Hp → VK → Prop} (pa : PlainAttrs T) (slot : Slot T name id) (hty : typeOf (.builtin id) = pure (.type "method_descriptor")) (hm : MtR X id r) (ho : PE X o to) (ha : PA X (e :: es) t)
    (hbase : attributeBase o name X.env (eval o X.env) = eval o X.env := by rfl)
    (hfew : ((backTo cpos (starEach (e :: es) X.env)).all (fun x => !x.1) && (backToKw cpos (keywordEach [] X.env)).all (fun x => x.1.isSome)
      && decide ((e :: es).length + ([] : List Keyword).length + (if ([] : List Keyword).isEmpty then 0 else 1) < 30)) = true := by rfl)
    (hline : (apos.endLine == cpos.line) = true := by rfl) (hs : starEach (e :: es) X.env = (false, eval e X.env) :: starEach es X.env := by rfl) (hplain : (backTo cpos (starEach es X.env)).any (·.1) = false := by rfl) (h : X.K = K := by rfl) :
    PE X (.Call (.Attribute o name apos) (e :: es) [] cpos) (tBM K T r to t) := by
  subst h; exact pe_bm pa slot hty hm ho ha hbase hfew hline hs hplain
end LB
namespace LB
open PySem PySem.Spec PyProof.Rows L2 RS
variable {X : Cx}
/-- t * n, n at least 1 -/
theorem op_repAny : OpR X (binaryOp .Mult) (fun x y H Q => rRep1 X.K x y H Q ∨ rRepT X.K x y H Q) := by
  intro pins s σ H x y v u Q I rx ry h
  rcases h with h | h
  · exact op_rep1 pins s σ H x y v u Q I rx ry h
  · exact op_repT pins s σ H x y v u Q I rx ry h
end LB
namespace LB
open PySem PySem.Spec PyProof.Rows L2 RS
/-- a class with an own ==, by its promise -/
structure Eq1 (P : Program) (w : World) (K : PySem.W.Frag) (mg : Str → Option Value) (base : Heap) (n : Nat) (C : Addr) (R : Addr → Addr → Bool → Hp → Prop) : Prop where
  ex : ∃ (f : Addr) (fd : FuncData) (ps : List Str), FnOk P w K mg base CX0 n f fd ps (spEqB R) ∧ Binds K fd ps [] ∧ EqC K C f
theorem op_neK {X : Cx} {n j : Nat} {C : Addr} {R : Addr → Addr → Bool → Hp → Prop} (c : Eq1 X.prog X.w X.K X.mg X.base n C R) (hr : Room j X.A) (hk : n + 1 ≤ j) : OpR X (compareOp .NotEq) (rEqP C R true) := by
  obtain ⟨f, fd, ps, F, hb, E⟩ := c.ex
  exact op_neP F hb E (hr.mono hk)
theorem op_eqK {X : Cx} {n j : Nat} {C : Addr} {R : Addr → Addr → Bool → Hp → Prop} (c : Eq1 X.prog X.w X.K X.mg X.base n C R) (hr : Room j X.A) (hk : n ≤ j) : OpR X (compareOp .Eq) (rEqP C R false) := by
  obtain ⟨f, fd, ps, F, hb, E⟩ := c.ex
  exact op_eqP F hb E (hr.mono hk)
end LB
namespace LB
open PySem PySem.Spec PyProof.Rows L2 RS
/-- a + b of two tuples, whichever are empty -/
def rCatS (K : PySem.W.Frag) : R2 := fun x y H Q => ∃ a b xs ys, x = .ref a ∧ y = .ref b ∧ SqT K H a xs ∧ SqT K H b ys ∧ xs.length + ys.length ≤ sizeLine ∧ ∀ H' r, Same H H' → SqT K H' r (xs ++ ys) → Q (.ref r) H'
theorem op_catS {X : Cx} : OpR X (binaryOp .Add) (rCatS X.K) := by
  intro pins s σ H x y v u Q I rx ry h
  obtain ⟨a, b, xs, ys, rfl, rfl, h1, h2, le, q⟩ := h
  refine op_catA pins s σ H _ _ v u Q I rx ry ⟨a, b, xs, ys, rfl, rfl, h1, h2, le, fun e => q _ _ (Same.refl _) (by subst e; exact h2), fun _ e => q _ _ (Same.refl _) (by subst e; rw [List.append_nil]; exact h1), fun _ _ p np => q _ _ (same_new np) T_new⟩
theorem op_catS' (K : PySem.W.Frag) {X : Cx} (h : X.K = K := by rfl) : OpR X (binaryOp .Add) (rCatS K) := by subst h; exact op_catS
end LB
set_option Elab.async false
set_option linter.all false
set_option maxRecDepth 100000
/-! What the top has written, found once: a def, a method, a class, a number. -/
namespace LB
open PySem PySem.Spec PyProof.Rows L2 RS
def TopF (K : PySem.W.Frag) (x : Str) (st : Stmt) : Prop := ∃ (f : Addr) (od an : Option Addr) (sl : Array (Option Value)) (oc kV dc pm cd ct : Value), PySem.W.nsIn K mainGlobals x = some (some (.ref f)) ∧
  K.lookup f = some ⟨oc, od, .func (PySem.W.fnOf x x (defArgs st) (defBody st) (defScope st) .none kV dc pm an cd ct), sl⟩ ∧ PySem.W.codeIn K cd x = true ∧ PySem.W.keepIn K (.ref f) = true
def TopM (K : PySem.W.Frag) (C : Addr) (m q : Str) (st : Stmt) : Prop := ∃ (f : Addr) (od an : Option Addr) (sl : Array (Option Value)) (oc kV dc pm cd ct : Value), PySem.W.findIn K (.ref C) m = some (some (.ref f)) ∧ PySem.W.isFn K (.ref f) = true ∧
  K.lookup f = some ⟨oc, od, .func (PySem.W.fnOf m q (defArgs st) (defBody st) (defScope st) .none kV dc pm an cd ct), sl⟩ ∧ PySem.W.codeIn K cd q = true ∧ PySem.W.keepIn K (.ref f) = true
def BindsF (x q : Str) (st : Stmt) (ps : List Str) : Prop := ∀ (kV doc pm : Value) (an : Option Addr) (cdv ct : Value) (us : List Value), us.length = ps.length → bindArgs (PySem.W.fnOf x q (defArgs st) (defBody st) (defScope st) .none kV doc pm an cdv ct) ⟨us, []⟩ = pure (ps.zip us)
structure ClsTop (K : PySem.W.Frag) (C : Addr) : Prop where
  pg : PySem.W.plainGet K C Str.empty = true
  hd : PySem.W.hasDictIn K C = true
  po : PySem.W.plainOver K C = true
  sa : PySem.W.findIn K (.ref C) "__setattr__" = some (some (.builtin "object.__setattr__"))
  makes : PySem.W.makesIn K C = true
  kc : PySem.W.keepIn K (.ref C) = true
  ha : PySem.W.findIn K (.ref C) "__class__" = some (some (.builtin "object.__class__"))
  hn : PySem.W.specialIn K (.builtin "object.__class__") "__get__" = some (some (.builtin "getset_descriptor.__get__"))
  htk : PySem.W.takesIn K (.builtin "object.__class__") = some true
  hm : PySem.W.mroIn K C (.type "object") = some true
theorem ClsTop.cls {K : PySem.W.Frag} {C : Addr} (c : ClsTop K C) : Cls K C := ⟨c.pg, c.hd, c.po, c.sa⟩
theorem ClsTop.ins {K : PySem.W.Frag} {C : Addr} (c : ClsTop K C) : C8.InsC K C := ⟨c.cls, c.ha, c.hn, c.htk, c.hm, if_pos (by simp)⟩
theorem TopF.df {K : PySem.W.Frag} {mg : Str → Option Value} {h : Heap} {x : Str} {st : Stmt} {ps : List Str} (t : TopF K x st) (X : K.In h) (G : h.Ns mainGlobals mg) (hb : BindsF x x st ps) :
    ∃ (f : Addr) (fd : FuncData), Df K mg x ps st f fd := by
  obtain ⟨f, od, an, sl, oc, kV, dc, pm, cd, ct, a, l, c, k⟩ := t
  have F := L2.fun_mk (st := st) l c k
  exact ⟨f, _, F, PySem.W.mg_of X G a, L2.Fun.binds F hb⟩
theorem TopM.fn {K : PySem.W.Frag} {C : Addr} {m q : Str} {st : Stmt} {ps : List Str} (t : TopM K C m q st) (hb : BindsF m q st ps) :
    ∃ (f : Addr) (fd : FuncData), PySem.W.findIn K (.ref C) m = some (some (.ref f)) ∧ PySem.W.isFn K (.ref f) = true ∧ Fun K m q st f fd ∧ Binds K fd ps [] := by
  obtain ⟨f, od, an, sl, oc, kV, dc, pm, cd, ct, a, i, l, c, k⟩ := t
  have F := L2.fun_mk (st := st) l c k
  exact ⟨f, _, a, i, F, L2.Fun.binds F hb⟩
/-- the law's own def: its frame too -/
theorem TopF.law {K : PySem.W.Frag} {mg : Str → Option Value} {h : Heap} {x y : Str} {st : Stmt} {fa : Addr} (t : TopF K x st) (X : K.In h) (G : h.Ns mainGlobals mg) (hfa : mg x = some (.ref fa)) (hb : BindsF x x st [y]) :
    ∃ (fd : FuncData), Df K mg x [y] st fa fd ∧ ∀ (s : Shared) (v : Value), BindsTo s fd ⟨[v], []⟩ [(y, v)] := by
  obtain ⟨f, od, an, sl, oc, kV, dc, pm, cd, ct, a, l, c, k⟩ := t
  have e := hfa.symm.trans (PySem.W.mg_of X G a)
  cases e
  have F := L2.fun_mk (st := st) l c k
  exact ⟨_, ⟨F, PySem.W.mg_of X G a, L2.Fun.binds F hb⟩, fun s v => .of_eq (hb kV dc pm an cd ct [v] rfl)⟩
end LB
namespace LB
open PySem PySem.Spec PyProof.Rows L2 RS
theorem TopF.of {K : PySem.W.Frag} {x : Str} {st : Stmt} {f : Addr} {od an : Option Addr} {sl : Array (Option Value)} {oc kV dc pm cd ct : Value} (a : PySem.W.nsIn K mainGlobals x = some (some (.ref f)))
    (l : K.lookup f = some ⟨oc, od, .func (PySem.W.fnOf x x (defArgs st) (defBody st) (defScope st) .none kV dc pm an cd ct), sl⟩) (c : PySem.W.codeIn K cd x = true) (k : PySem.W.keepIn K (.ref f) = true) : TopF K x st := ⟨f, od, an, sl, oc, kV, dc, pm, cd, ct, a, l, c, k⟩
theorem TopM.of {K : PySem.W.Frag} {C : Addr} {m q : Str} {st : Stmt} {f : Addr} {od an : Option Addr} {sl : Array (Option Value)} {oc kV dc pm cd ct : Value} (a : PySem.W.findIn K (.ref C) m = some (some (.ref f))) (i : PySem.W.isFn K (.ref f) = true)
    (l : K.lookup f = some ⟨oc, od, .func (PySem.W.fnOf m q (defArgs st) (defBody st) (defScope st) .none kV dc pm an cd ct), sl⟩) (c : PySem.W.codeIn K cd q = true) (k : PySem.W.keepIn K (.ref f) = true) : TopM K C m q st := ⟨f, od, an, sl, oc, kV, dc, pm, cd, ct, a, i, l, c, k⟩
end LB
set_option Elab.async false
set_option linter.all false
/-! Square matrices of one to four rows: doings with rows, what they lead a step to, the determinant. -/
namespace M3
/-- the determinant, along the first row -/
def detN : Nat → List (List Int) → Int
  | 0, _ => 1
  | _ + 1, [] => 1
  | n + 1, r :: rs => go n rs r 0 1
where go (n : Nat) (rs : List (List Int)) : List Int → Nat → Int → Int
  | [], _, _ => 0
  | x :: xs, k, s => s * x * detN n (rs.map (·.eraseIdx k)) + go n rs xs (k + 1) (-s)
theorem det0 (M : List (List Int)) : detN 0 M = 1 := by simp [detN]
theorem detNil (n : Nat) : detN (n + 1) [] = 1 := by simp [detN]
theorem detCons (n : Nat) (r : List Int) (rs : List (List Int)) : detN (n + 1) (r :: rs) = detN.go n rs r 0 1 := by simp [detN]
theorem goNil (n i : Nat) (rs : List (List Int)) (s : Int) : detN.go n rs [] i s = 0 := by simp [detN.go]
theorem goCons (n i : Nat) (rs : List (List Int)) (x s : Int) (xs : List Int) : detN.go n rs (x :: xs) i s = s * x * detN n (rs.map (·.eraseIdx i)) + detN.go n rs xs (i + 1) (-s) := by simp [detN.go]
structure Sq (n : Nat) (M : List (List Int)) : Prop where
  len : M.length = n
  each : ∀ r ∈ M, r.length = n
def dot (r v : List Int) : Int := ((List.range v.length).map fun p => r.getD p 0 * v.getD p 0).sum
def led (M : List (List Int)) (v : List Int) : List Int := M.map fun r => dot r v
abbrev Doing := Nat × Nat × Int
def doneL (M : List (List Int)) (d : Doing) : List (List Int) :=
  if d.1 = d.2.1 then M.set d.1 ((M.getD d.1 []).map fun x => 0 - x)
  else if d.2.2 = 0 then (M.set d.1 (M.getD d.2.1 [])).set d.2.1 (M.getD d.1 [])
  else M.set d.1 ((List.range M.length).map fun p => (M.getD d.1 []).getD p 0 + d.2.2 * (M.getD d.2.1 []).getD p 0)
def act (d : Doing) (v : List Int) : List Int :=
  if d.1 = d.2.1 then v.set d.1 (0 - v.getD d.1 0)
  else if d.2.2 = 0 then (v.set d.1 (v.getD d.2.1 0)).set d.2.1 (v.getD d.1 0)
  else v.set d.1 (v.getD d.1 0 + d.2.2 * v.getD d.2.1 0)
def plainM (n : Nat) : List (List Int) := (List.range n).map fun k => (List.range n).map fun j => if k = j then 1 else 0
structure Okd (n : Nat) (d : Doing) : Prop where
  k : d.1 < n
  j : d.2.1 < n
theorem l1 {α : Type} {xs : List α} (h : xs.length = 1) : ∃ a, xs = [a] := by
  match xs, h with
  | [a], _ => exact ⟨a, rfl⟩
theorem l2 {α : Type} {xs : List α} (h : xs.length = 2) : ∃ a b, xs = [a, b] := by
  match xs, h with
  | [a, b], _ => exact ⟨a, b, rfl⟩
theorem l3 {α : Type} {xs : List α} (h : xs.length = 3) : ∃ a b c, xs = [a, b, c] := by
  match xs, h with
  | [a, b, c], _ => exact ⟨a, b, c, rfl⟩
theorem l4 {α : Type} {xs : List α} (h : xs.length = 4) : ∃ a b c d, xs = [a, b, c, d] := by
  match xs, h with
  | [a, b, c, d], _ => exact ⟨a, b, c, d, rfl⟩
theorem sq1 {M : List (List Int)} (h : Sq 1 M) : ∃ a, M = [[a]] := by
  obtain ⟨r, rfl⟩ := l1 h.len
  obtain ⟨a, rfl⟩ := l1 (h.each r (by simp))
  exact ⟨a, rfl⟩
theorem sq2 {M : List (List Int)} (h : Sq 2 M) : ∃ a b c d, M = [[a, b], [c, d]] := by
  obtain ⟨r, s, rfl⟩ := l2 h.len
  obtain ⟨a, b, rfl⟩ := l2 (h.each r (by simp))
  obtain ⟨c, d, rfl⟩ := l2 (h.each s (by simp))
  exact ⟨a, b, c, d, rfl⟩
theorem sq3 {M : List (List Int)} (h : Sq 3 M) : ∃ a b c d e f g i j, M = [[a, b, c], [d, e, f], [g, i, j]] := by
  obtain ⟨r, s, t, rfl⟩ := l3 h.len
  obtain ⟨a, b, c, rfl⟩ := l3 (h.each r (by simp))
  obtain ⟨d, e, f, rfl⟩ := l3 (h.each s (by simp))
  obtain ⟨g, i, j, rfl⟩ := l3 (h.each t (by simp))
  exact ⟨a, b, c, d, e, f, g, i, j, rfl⟩
theorem sq4 {M : List (List Int)} (h : Sq 4 M) : ∃ a b c d e f g i j k l m o p q r, M = [[a, b, c, d], [e, f, g, i], [j, k, l, m], [o, p, q, r]] := by
  obtain ⟨r, s, t, u, rfl⟩ := l4 h.len
  obtain ⟨a, b, c, d, rfl⟩ := l4 (h.each r (by simp))
  obtain ⟨e, f, g, i, rfl⟩ := l4 (h.each s (by simp))
  obtain ⟨j, k, l, m, rfl⟩ := l4 (h.each t (by simp))
  obtain ⟨o, p, q, r, rfl⟩ := l4 (h.each u (by simp))
  exact ⟨a, b, c, d, e, f, g, i, j, k, l, m, o, p, q, r, rfl⟩
theorem done_sq {n : Nat} {M : List (List Int)} (h : Sq n M) {d : Doing} (o : Okd n d) : Sq n (doneL M d) := by
  have mem : ∀ i, i < n → (M.getD i []).length = n := fun i hi => by
    rw [List.getD_eq_getElem?_getD, List.getElem?_eq_getElem (by rw [h.len]; exact hi)]
    exact h.each _ (List.getElem_mem _)
  unfold doneL
  split
  · refine ⟨by rw [List.length_set, h.len], fun r hr => ?_⟩
    rcases List.mem_or_eq_of_mem_set hr with z | rfl
    · exact h.each r z
    · rw [List.length_map, mem _ o.k]
  · split
    · refine ⟨by rw [List.length_set, List.length_set, h.len], fun r hr => ?_⟩
      rcases List.mem_or_eq_of_mem_set hr with z | rfl
      · rcases List.mem_or_eq_of_mem_set z with z | rfl
        · exact h.each r z
        · exact mem _ o.j
      · exact mem _ o.k
    · refine ⟨by rw [List.length_set, h.len], fun r hr => ?_⟩
      rcases List.mem_or_eq_of_mem_set hr with z | rfl
      · exact h.each r z
      · rw [List.length_map, List.length_range, h.len]
theorem act_len {d : Doing} {v : List Int} : (act d v).length = v.length := by
  unfold act
  split
  · rw [List.length_set]
  · split <;> simp only [List.length_set]
theorem det_done {n : Nat} (h0 : 1 ≤ n) (h4 : n ≤ 4) {M : List (List Int)} (h : Sq n M) {d : Doing} (o : Okd n d) : detN n (doneL M d) = detN n M ∨ detN n (doneL M d) = - detN n M := by
  obtain ⟨k, j, m⟩ := d
  obtain ⟨ok, oj⟩ := o
  simp only at ok oj
  obtain rfl | rfl | rfl | rfl : n = 1 ∨ n = 2 ∨ n = 3 ∨ n = 4 := by omega
  · obtain ⟨a, rfl⟩ := sq1 h
    obtain rfl : k = 0 := by omega
    obtain rfl : j = 0 := by omega
    simp [doneL, detN, detN.go]
  · obtain ⟨a, b, c, d, rfl⟩ := sq2 h
    obtain rfl | rfl : k = 0 ∨ k = 1 := by omega
    all_goals obtain rfl | rfl : j = 0 ∨ j = 1 := by omega
    all_goals by_cases hm : m = 0
    all_goals simp [doneL, detN, detN.go, hm, List.range, List.range.loop]
    all_goals grind
  · obtain ⟨a, b, c, d, e, f, g, i, jj, rfl⟩ := sq3 h
    obtain rfl | rfl | rfl : k = 0 ∨ k = 1 ∨ k = 2 := by omega
    all_goals obtain rfl | rfl | rfl : j = 0 ∨ j = 1 ∨ j = 2 := by omega
    all_goals by_cases hm : m = 0
    all_goals simp [doneL, detN, detN.go, hm, List.range, List.range.loop]
    all_goals grind
  · obtain ⟨a, b, c, d, e, f, g, i, jj, kk, l, mm, o, p, q, r, rfl⟩ := sq4 h
    obtain rfl | rfl | rfl | rfl : k = 0 ∨ k = 1 ∨ k = 2 ∨ k = 3 := by omega
    all_goals obtain rfl | rfl | rfl | rfl : j = 0 ∨ j = 1 ∨ j = 2 ∨ j = 3 := by omega
    all_goals by_cases hm : m = 0
    all_goals simp [doneL, detN, detN.go, hm, List.range, List.range.loop]
    all_goals grind
theorem det_plain {n : Nat} (h4 : n ≤ 4) : detN n (plainM n) = 1 := by
  obtain rfl | rfl | rfl | rfl | rfl : n = 0 ∨ n = 1 ∨ n = 2 ∨ n = 3 ∨ n = 4 := by omega
  all_goals simp [detN, detN.go, plainM, List.range, List.range.loop]
theorem plain_sq (n : Nat) : Sq n (plainM n) := by
  refine ⟨by unfold plainM; rw [List.length_map, List.length_range], fun r hr => ?_⟩
  unfold plainM at hr
  obtain ⟨k, _, rfl⟩ := List.mem_map.mp hr
  rw [List.length_map, List.length_range]
theorem led_len (M : List (List Int)) (v : List Int) : (led M v).length = M.length := by unfold led; rw [List.length_map]
theorem led_plain {n : Nat} (h0 : 1 ≤ n) (h4 : n ≤ 4) {v : List Int} (hv : v.length = n) : led (plainM n) v = v := by
  obtain rfl | rfl | rfl | rfl : n = 1 ∨ n = 2 ∨ n = 3 ∨ n = 4 := by omega
  · obtain ⟨a, rfl⟩ := l1 hv
    simp [led, dot, plainM, List.range, List.range.loop]
  · obtain ⟨a, b, rfl⟩ := l2 hv
    simp [led, dot, plainM, List.range, List.range.loop]
  · obtain ⟨a, b, c, rfl⟩ := l3 hv
    simp [led, dot, plainM, List.range, List.range.loop]
  · obtain ⟨a, b, c, d, rfl⟩ := l4 hv
    simp [led, dot, plainM, List.range, List.range.loop]
theorem led_done {n : Nat} (h0 : 1 ≤ n) (h4 : n ≤ 4) {M : List (List Int)} (h : Sq n M) {v : List Int} (hv : v.length = n) {d : Doing} (o : Okd n d) : led (doneL M d) v = act d (led M v) := by
  obtain ⟨k, j, m⟩ := d
  obtain ⟨ok, oj⟩ := o
  simp only at ok oj
  obtain rfl | rfl | rfl | rfl : n = 1 ∨ n = 2 ∨ n = 3 ∨ n = 4 := by omega
  · obtain ⟨a, rfl⟩ := sq1 h
    obtain ⟨x, rfl⟩ := l1 hv
    obtain rfl : k = 0 := by omega
    obtain rfl : j = 0 := by omega
    simp [doneL, led, dot, act, List.range, List.range.loop, Int.neg_mul]
  · obtain ⟨a, b, c, d, rfl⟩ := sq2 h
    obtain ⟨x, y, rfl⟩ := l2 hv
    obtain rfl | rfl : k = 0 ∨ k = 1 := by omega
    all_goals obtain rfl | rfl : j = 0 ∨ j = 1 := by omega
    all_goals by_cases hm : m = 0
    all_goals simp [doneL, led, dot, act, hm, List.range, List.range.loop]
    all_goals grind
  · obtain ⟨a, b, c, d, e, f, g, i, jj, rfl⟩ := sq3 h
    obtain ⟨x, y, z, rfl⟩ := l3 hv
    obtain rfl | rfl | rfl : k = 0 ∨ k = 1 ∨ k = 2 := by omega
    all_goals obtain rfl | rfl | rfl : j = 0 ∨ j = 1 ∨ j = 2 := by omega
    all_goals by_cases hm : m = 0
    all_goals simp [doneL, led, dot, act, hm, List.range, List.range.loop]
    all_goals grind
  · obtain ⟨a, b, c, d, e, f, g, i, jj, kk, l, mm, o, p, q, r, rfl⟩ := sq4 h
    obtain ⟨x, y, z, w, rfl⟩ := l4 hv
    obtain rfl | rfl | rfl | rfl : k = 0 ∨ k = 1 ∨ k = 2 ∨ k = 3 := by omega
    all_goals obtain rfl | rfl | rfl | rfl : j = 0 ∨ j = 1 ∨ j = 2 ∨ j = 3 := by omega
    all_goals by_cases hm : m = 0
    all_goals simp [doneL, led, dot, act, hm, List.range, List.range.loop]
    all_goals grind
def inv (d : Doing) : Doing := (d.1, d.2.1, 0 - d.2.2)
theorem act_inv {n : Nat} (h4 : n ≤ 4) {v : List Int} (hv : v.length = n) {d : Doing} (o : Okd n d) : act (inv d) (act d v) = v := by
  obtain ⟨k, j, m⟩ := d
  obtain ⟨ok, oj⟩ := o
  simp only at ok oj
  obtain rfl | rfl | rfl | rfl : n = 1 ∨ n = 2 ∨ n = 3 ∨ n = 4 := by omega
  · obtain ⟨x, rfl⟩ := l1 hv
    obtain rfl : k = 0 := by omega
    obtain rfl : j = 0 := by omega
    simp [act, inv]
  · obtain ⟨x, y, rfl⟩ := l2 hv
    obtain rfl | rfl : k = 0 ∨ k = 1 := by omega
    all_goals obtain rfl | rfl : j = 0 ∨ j = 1 := by omega
    all_goals by_cases hm : m = 0
    all_goals simp [act, inv, hm]
    all_goals grind
  · obtain ⟨x, y, z, rfl⟩ := l3 hv
    obtain rfl | rfl | rfl : k = 0 ∨ k = 1 ∨ k = 2 := by omega
    all_goals obtain rfl | rfl | rfl : j = 0 ∨ j = 1 ∨ j = 2 := by omega
    all_goals by_cases hm : m = 0
    all_goals simp [act, inv, hm]
    all_goals grind
  · obtain ⟨x, y, z, w, rfl⟩ := l4 hv
    obtain rfl | rfl | rfl | rfl : k = 0 ∨ k = 1 ∨ k = 2 ∨ k = 3 := by omega
    all_goals obtain rfl | rfl | rfl | rfl : j = 0 ∨ j = 1 ∨ j = 2 ∨ j = 3 := by omega
    all_goals by_cases hm : m = 0
    all_goals simp [act, inv, hm]
    all_goals grind
/-! ### rows of doings -/
def rowsOf (n : Nat) (ds : List Doing) : List (List Int) := ds.foldl doneL (plainM n)
def runs (ds : List Doing) (v : List Int) : List Int := ds.foldl (fun v d => act d v) v
def Oks (n : Nat) (ds : List Doing) : Prop := ∀ d ∈ ds, Okd n d
theorem runs_len : ∀ (ds : List Doing) (v : List Int), (runs ds v).length = v.length
  | [], _ => rfl
  | d :: ds, v => (runs_len ds (act d v)).trans act_len
theorem fold_sq {n : Nat} : ∀ {ds : List Doing} {M : List (List Int)}, Sq n M → Oks n ds → Sq n (ds.foldl doneL M)
  | [], _, h, _ => h
  | d :: ds, M, h, o => fold_sq (ds := ds) (done_sq h (o d List.mem_cons_self)) fun e he => o e (List.mem_cons_of_mem _ he)
theorem rows_sq {n : Nat} {ds : List Doing} (o : Oks n ds) : Sq n (rowsOf n ds) := fold_sq (plain_sq n) o
theorem fold_led {n : Nat} (h0 : 1 ≤ n) (h4 : n ≤ 4) {v : List Int} (hv : v.length = n) : ∀ {ds : List Doing} {M : List (List Int)}, Sq n M → Oks n ds → led (ds.foldl doneL M) v = runs ds (led M v)
  | [], _, _, _ => rfl
  | d :: ds, M, h, o => by
    have o1 := o d List.mem_cons_self
    show led (ds.foldl doneL (doneL M d)) v = runs ds (act d (led M v))
    rw [fold_led h0 h4 hv (ds := ds) (done_sq h o1) fun e he => o e (List.mem_cons_of_mem _ he), led_done h0 h4 h hv o1]
theorem rows_led {n : Nat} (h0 : 1 ≤ n) (h4 : n ≤ 4) {v : List Int} (hv : v.length = n) {ds : List Doing} (o : Oks n ds) : led (rowsOf n ds) v = runs ds v := by
  unfold rowsOf
  rw [fold_led h0 h4 hv (plain_sq n) o, led_plain h0 h4 hv]
theorem fold_det {n : Nat} (h0 : 1 ≤ n) (h4 : n ≤ 4) : ∀ {ds : List Doing} {M : List (List Int)}, Sq n M → Oks n ds → detN n M = 1 ∨ detN n M = -1 → detN n (ds.foldl doneL M) = 1 ∨ detN n (ds.foldl doneL M) = -1
  | [], _, _, _, e => e
  | d :: ds, M, h, o, e => by
    have o1 := o d List.mem_cons_self
    refine fold_det h0 h4 (ds := ds) (done_sq h o1) (fun e he => o e (List.mem_cons_of_mem _ he)) ?_
    rcases det_done h0 h4 h o1 with z | z <;> rw [z] <;> omega
theorem rows_det {n : Nat} (h0 : 1 ≤ n) (h4 : n ≤ 4) {ds : List Doing} (o : Oks n ds) : detN n (rowsOf n ds) = 1 ∨ detN n (rowsOf n ds) = -1 := fold_det h0 h4 (plain_sq n) o (.inl (det_plain h4))
theorem runs_app (ds es : List Doing) (v : List Int) : runs (ds ++ es) v = runs es (runs ds v) := by unfold runs; rw [List.foldl_append]
def con (ds : List Doing) : List Doing := ds.reverse.map inv
theorem con_ok {n : Nat} {ds : List Doing} (o : Oks n ds) : Oks n (con ds) := fun d hd => by
  obtain ⟨e, he, rfl⟩ := List.mem_map.mp hd
  have := o e (List.mem_reverse.mp he)
  exact ⟨this.k, this.j⟩
theorem con_runs {n : Nat} (h4 : n ≤ 4) : ∀ (ds : List Doing) {v : List Int}, v.length = n → Oks n ds → runs (con ds) (runs ds v) = v
  | [], _, _, _ => rfl
  | d :: ds, v, hv, o => by
    have o1 := o d List.mem_cons_self
    show runs (con (d :: ds)) (runs ds (act d v)) = v
    unfold con
    rw [List.reverse_cons, List.map_append, runs_app]
    have ih := con_runs h4 ds (v := act d v) (act_len.trans hv) fun e he => o e (List.mem_cons_of_mem _ he)
    unfold con at ih
    rw [ih]
    exact act_inv h4 hv o1
/-! ### stretched -/
def strc (c : Int) (v : List Int) : List Int := v.map fun x => x * c
theorem act_strc (c : Int) (d : Doing) (v : List Int) {n : Nat} (h4 : n ≤ 4) (hv : v.length = n) (o : Okd n d) : act d (strc c v) = strc c (act d v) := by
  obtain ⟨k, j, m⟩ := d
  obtain ⟨ok, oj⟩ := o
  simp only at ok oj
  obtain rfl | rfl | rfl | rfl : n = 1 ∨ n = 2 ∨ n = 3 ∨ n = 4 := by omega
  · obtain ⟨x, rfl⟩ := l1 hv
    obtain rfl : k = 0 := by omega
    obtain rfl : j = 0 := by omega
    simp [act, strc, Int.neg_mul]
  · obtain ⟨x, y, rfl⟩ := l2 hv
    obtain rfl | rfl : k = 0 ∨ k = 1 := by omega
    all_goals obtain rfl | rfl : j = 0 ∨ j = 1 := by omega
    all_goals by_cases hm : m = 0
    all_goals simp [act, strc, hm]
    all_goals grind
  · obtain ⟨x, y, z, rfl⟩ := l3 hv
    obtain rfl | rfl | rfl : k = 0 ∨ k = 1 ∨ k = 2 := by omega
    all_goals obtain rfl | rfl | rfl : j = 0 ∨ j = 1 ∨ j = 2 := by omega
    all_goals by_cases hm : m = 0
    all_goals simp [act, strc, hm]
    all_goals grind
  · obtain ⟨x, y, z, w, rfl⟩ := l4 hv
    obtain rfl | rfl | rfl | rfl : k = 0 ∨ k = 1 ∨ k = 2 ∨ k = 3 := by omega
    all_goals obtain rfl | rfl | rfl | rfl : j = 0 ∨ j = 1 ∨ j = 2 ∨ j = 3 := by omega
    all_goals by_cases hm : m = 0
    all_goals simp [act, strc, hm]
    all_goals grind
theorem runs_strc (c : Int) {n : Nat} (h4 : n ≤ 4) : ∀ (ds : List Doing) {v : List Int}, v.length = n → Oks n ds → runs ds (strc c v) = strc c (runs ds v)
  | [], _, _, _ => rfl
  | d :: ds, v, hv, o => by
    show runs ds (act d (strc c v)) = strc c (runs ds (act d v))
    rw [act_strc c d v h4 hv (o d List.mem_cons_self)]
    exact runs_strc c h4 ds (act_len.trans hv) fun e he => o e (List.mem_cons_of_mem _ he)
theorem strc_one (v : List Int) : strc 1 v = v := by unfold strc; simp
end M3
set_option Elab.async false
set_option linter.all false
set_option maxRecDepth 100000
set_option maxHeartbeats 4000000
namespace LW
open PySem PySem.Spec PyProof.Rows L2 RS LB
def topS (i : Nat) : Stmt := PySem.Challenge.pw_turnsneeded_k03_whole_steps_turned_and_s.main.body.getD i (.Pass ⟨0, 0, 0, 0⟩)
abbrev s_is_int : Stmt := topS 6
theorem sc_is_int : FnScope ["thing"] ["thing"] (defScope s_is_int) := ⟨rfl, rfl, rfl, by decide +kernel, rfl, by decide +kernel, by decide +kernel⟩
abbrev s_is_int_in : Stmt := topS 7
theorem sc_is_int_in : FnScope ["thing", "least", "most"] ["thing", "least", "most"] (defScope s_is_int_in) := ⟨rfl, rfl, rfl, by decide +kernel, rfl, by decide +kernel, by decide +kernel⟩
abbrev s_is_row_of_ints : Stmt := topS 8
theorem sc_is_row_of_ints : FnScope ["thing", "many", "part"] ["thing", "many"] (defScope s_is_row_of_ints) := ⟨rfl, rfl, rfl, by decide +kernel, rfl, by decide +kernel, by decide +kernel⟩
abbrev s_Program___init__ : Stmt := inClass (topS 15) 0
theorem sc_Program___init__ : FnScope ["self", "sides", "tables", "readings", "k", "reading"] ["self", "sides", "tables", "readings"] (defScope s_Program___init__) := ⟨rfl, rfl, rfl, by decide +kernel, rfl, by decide +kernel, by decide +kernel⟩
abbrev s_Program___eq__ : Stmt := inClass (topS 15) 1
theorem sc_Program___eq__ : FnScope ["self", "other"] ["self", "other"] (defScope s_Program___eq__) := ⟨rfl, rfl, rfl, by decide +kernel, rfl, by decide +kernel, by decide +kernel⟩
abbrev s_is_reading : Stmt := topS 16
theorem sc_is_reading : FnScope ["sides", "tables", "thing", "part"] ["sides", "tables", "thing"] (defScope s_is_reading) := ⟨rfl, rfl, rfl, by decide +kernel, rfl, by decide +kernel, by decide +kernel⟩
abbrev s_program_of : Stmt := topS 17
theorem sc_program_of : FnScope ["sides", "tables", "readings", "program"] ["sides", "tables", "readings"] (defScope s_program_of) := ⟨rfl, rfl, rfl, by decide +kernel, rfl, by decide +kernel, by decide +kernel⟩
abbrev s_determinant : Stmt := topS 18
theorem sc_determinant : FnScope ["rows", "total", "sign", "k", "first", "rest", "row"] ["rows"] (defScope s_determinant) := ⟨rfl, rfl, rfl, by decide +kernel, rfl, by decide +kernel, by decide +kernel⟩
abbrev s_is_matrix : Stmt := topS 19
theorem sc_is_matrix : FnScope ["sides", "thing", "row"] ["sides", "thing"] (defScope s_is_matrix) := ⟨rfl, rfl, rfl, by decide +kernel, rfl, by decide +kernel, by decide +kernel⟩
abbrev s_times_step : Stmt := topS 20
theorem sc_times_step : FnScope ["matrix", "step", "k", "row"] ["matrix", "step"] (defScope s_times_step) := ⟨rfl, rfl, rfl, by decide +kernel, rfl, by decide +kernel, by decide +kernel⟩
abbrev s_turned : Stmt := topS 21
theorem sc_turned : FnScope ["program", "matrix", "readings", "reader", "read", "step"] ["program", "matrix"] (defScope s_turned) := ⟨rfl, rfl, rfl, by decide +kernel, rfl, by decide +kernel, by decide +kernel⟩
abbrev s_stretched : Stmt := topS 22
theorem sc_stretched : FnScope ["program", "times", "readings", "part", "reader", "read", "step"] ["program", "times"] (defScope s_stretched) := ⟨rfl, rfl, rfl, by decide +kernel, rfl, by decide +kernel, by decide +kernel⟩
abbrev s__law_pool : Stmt := topS 24
theorem sc__law_pool : FnScope ["_law_script", "_law_seed", "_law_cell"] ["_law_script"] (defScope s__law_pool) := ⟨rfl, rfl, rfl, by decide +kernel, rfl, by decide +kernel, by decide +kernel⟩
abbrev s__law_draw : Stmt := topS 25
theorem sc__law_draw : FnScope ["_law_pool_here", "_law_many", "_law_cells", "_law_digit", "_law_mixed"] ["_law_pool_here", "_law_many"] (defScope s__law_draw) := ⟨rfl, rfl, rfl, by decide +kernel, rfl, by decide +kernel, by decide +kernel⟩
abbrev s__law_some : Stmt := topS 26
theorem sc__law_some : FnScope ["_law_pool_here", "_law_things"] ["_law_pool_here", "_law_things"] (defScope s__law_some) := ⟨rfl, rfl, rfl, by decide +kernel, rfl, by decide +kernel, by decide +kernel⟩
abbrev s__law_integer : Stmt := topS 27
theorem sc__law_integer : FnScope ["_law_thing"] ["_law_thing"] (defScope s__law_integer) := ⟨rfl, rfl, rfl, by decide +kernel, rfl, by decide +kernel, by decide +kernel⟩
abbrev s__law_same : Stmt := topS 28
theorem sc__law_same : FnScope ["_law_actual", "_law_expected", "_law_k"] ["_law_actual", "_law_expected"] (defScope s__law_same) := ⟨rfl, rfl, rfl, by decide +kernel, rfl, by decide +kernel, by decide +kernel⟩
abbrev s__law_step : Stmt := topS 29
theorem sc__law_step : FnScope ["_law_pool_here", "_law_sides", "_law_kind", "_law_k"] ["_law_pool_here", "_law_sides"] (defScope s__law_step) := ⟨rfl, rfl, rfl, by decide +kernel, rfl, by decide +kernel, by decide +kernel⟩
abbrev s__law_parts : Stmt := topS 30
theorem sc__law_parts : FnScope ["_law_pool_here", "_law_sides", "_law_tables", "_law_readings", "_law_k"] ["_law_pool_here"] (defScope s__law_parts) := ⟨rfl, rfl, rfl, by decide +kernel, rfl, by decide +kernel, by decide +kernel⟩
abbrev s__law_program : Stmt := topS 31
theorem sc__law_program : FnScope ["_law_parts_here"] ["_law_parts_here"] (defScope s__law_program) := ⟨rfl, rfl, rfl, by decide +kernel, rfl, by decide +kernel, by decide +kernel⟩
abbrev s__law_is : Stmt := topS 32
theorem sc__law_is : FnScope ["_law_program_here", "_law_parts_here"] ["_law_program_here", "_law_parts_here"] (defScope s__law_is) := ⟨rfl, rfl, rfl, by decide +kernel, rfl, by decide +kernel, by decide +kernel⟩
abbrev s__law_sorted_parts : Stmt := topS 33
theorem sc__law_sorted_parts : FnScope ["_law_sides", "_law_tables", "_law_readings"] ["_law_sides", "_law_tables", "_law_readings"] (defScope s__law_sorted_parts) := ⟨rfl, rfl, rfl, by decide +kernel, rfl, by decide +kernel, by decide +kernel⟩
abbrev s__law_plain_matrix : Stmt := topS 34
theorem sc__law_plain_matrix : FnScope ["_law_sides", "_law_j", "_law_k"] ["_law_sides"] (defScope s__law_plain_matrix) := ⟨rfl, rfl, rfl, by decide +kernel, rfl, by decide +kernel, by decide +kernel⟩
abbrev s__law_doings : Stmt := topS 35
theorem sc__law_doings : FnScope ["_law_pool_here", "_law_sides", "_law_found", "_law_turn", "_law_k", "_law_j"] ["_law_pool_here", "_law_sides"] (defScope s__law_doings) := ⟨rfl, rfl, rfl, by decide +kernel, rfl, by decide +kernel, by decide +kernel⟩
abbrev s__law_done : Stmt := topS 36
theorem sc__law_done : FnScope ["_law_rows", "_law_doing", "_law_k", "_law_j", "_law_many", "_law_made", "_law_row", "_law_item", "_law_place"] ["_law_rows", "_law_doing"] (defScope s__law_done) := ⟨rfl, rfl, rfl, by decide +kernel, rfl, by decide +kernel, by decide +kernel⟩
abbrev s__law_matrix : Stmt := topS 37
theorem sc__law_matrix : FnScope ["_law_sides", "_law_doings_here", "_law_rows", "_law_doing", "_law_row"] ["_law_sides", "_law_doings_here"] (defScope s__law_matrix) := ⟨rfl, rfl, rfl, by decide +kernel, rfl, by decide +kernel, by decide +kernel⟩
abbrev s__law_led : Stmt := topS 38
theorem sc__law_led : FnScope ["_law_matrix_here", "_law_step_here", "_law_place", "_law_row"] ["_law_matrix_here", "_law_step_here"] (defScope s__law_led) := ⟨rfl, rfl, rfl, by decide +kernel, rfl, by decide +kernel, by decide +kernel⟩
abbrev s__law_turned : Stmt := topS 39
theorem sc__law_turned : FnScope ["_law_parts_here", "_law_matrix_here", "_law_found", "_law_reading"] ["_law_parts_here", "_law_matrix_here"] (defScope s__law_turned) := ⟨rfl, rfl, rfl, by decide +kernel, rfl, by decide +kernel, by decide +kernel⟩
abbrev s_law : Stmt := topS 40
theorem sc_law : FnScope ["_law_script", "_law_pool_here", "_law_turn", "_law_parts_here", "_law_program_here", "_law_doings_here", "_law_more", "_law_contrary", "_law_doing", "_law_matrix_here", "_law_other", "_law_both", "_law_times", "_law_long", "_law_reader", "_law_read", "_law_step_here", "_law_item"] ["_law_script"] (defScope s_law) := ⟨rfl, rfl, rfl, by decide +kernel, rfl, by decide +kernel, by decide +kernel⟩
/-- what the top holds beside the defs -/
structure Tx (K : PySem.W.Frag) (mg : Str → Option Value) (C : Addr) : Prop where
  b : Bl mg
  c_MOST_SIDES : ∃ u, mg "MOST_SIDES" = some u ∧ RelV (.int 4) u
  c_MOST_TABLES : ∃ u, mg "MOST_TABLES" = some u ∧ RelV (.int 8) u
  c_MOST_READINGS : ∃ u, mg "MOST_READINGS" = some u ∧ RelV (.int 24) u
  c_LONGEST_STEP : ∃ u, mg "LONGEST_STEP" = some u ∧ RelV (.int 1000000000000) u
  c_MOST_TIMES : ∃ u, mg "MOST_TIMES" = some u ∧ RelV (.int 1000000000000) u
  k_Program : ∃ u, mg "Program" = some u ∧ RelV (.ref C) u
  cl : Cls K C
  nS : NoAttr K C "sides"
  nT : NoAttr K C "tables"
  nR : NoAttr K C "readings"
  ins : C8.InsC K C
section
variable {P : Program} {w : World} {K : PySem.W.Frag} {mg : Str → Option Value} {base : Heap} {C : Addr}
/-! ### is_int -/
def spIsInt (K : PySem.W.Frag) : Sp := fun vs H Q _ => ∃ x t b1 b2, vs = [x] ∧ TyX K H x t ∧ PySem.W.kitOne K t (.type "int") = some b1 ∧ PySem.W.kitOne K t (.type "bool") = some b2 ∧ Q (.bl (b1 && !b2)) H
theorem ok_is_int {f : Addr} {fd : FuncData} (D : Df K mg "is_int" ["thing"] s_is_int f fd) (T : Tx K mg C) : Ca P w K mg base 1 "is_int" (spIsInt K) := by
  refine D.ca sc_is_int (fun vs H Q E h => ?_) (fun cdv A outer s H vs Q E hr h => ?_)
  · obtain ⟨x, t, b1, b2, rfl, _⟩ := h
    rfl
  · obtain ⟨x, t, b1, b2, rfl, h1, h2, h3, q⟩ := h
    refine ⟨_, (pss_one (ps_ret (pe_and (pe_callB call_isi (by rfl) T.b.isinstance boot_isinstance (pa_cons (pv 0) (pa_cons (pe_bltn (v := .ty "int") (by rfl) T.b.int boot_int rfl) pa_nil))) (pe_one (pe_not (pe_callB call_isi (by rfl) T.b.isinstance boot_isinstance (pa_cons (pv 0) (pa_cons (pe_bltn (v := .ty "bool") (by rfl) T.b.bool boot_bool rfl) pa_nil)))))))), ?_⟩
    refine ⟨x, rfl, x, .ty "int", t, _, b1, rfl, .ty _, h1, h2, b1, rfl, ?_⟩
    cases b1 with
    | false => exact iteF q
    | true => exact iteT ⟨x, rfl, x, .ty "bool", t, _, b2, rfl, .ty _, h1, h3, b2, rfl, q⟩
theorem isInt_int {H : Hp} {i : Int} {Q : VK} {E : XK} (q : Q (.bl true) H) : spIsInt K [.int i] H Q E := ⟨_, _, true, false, rfl, .base (.int i), k_ii, k_ib, q⟩
/-! ### is_int_in -/
def spIsIntIn : Sp := fun vs H Q _ => ∃ (i lo hi : Int), vs = [.int i, .int lo, .int hi] ∧ Q (.bl (decide (lo ≤ i) && decide (i ≤ hi))) H
theorem ok_is_int_in {f : Addr} {fd : FuncData} (D : Df K mg "is_int_in" ["thing", "least", "most"] s_is_int_in f fd) (c_is_int : Ca P w K mg base 1 "is_int" (spIsInt K)) : Ca P w K mg base 2 "is_int_in" spIsIntIn := by
  refine D.ca sc_is_int_in (fun vs H Q E h => ?_) (fun cdv A outer s H vs Q E hr h => ?_)
  · obtain ⟨i, lo, hi, rfl, _⟩ := h
    rfl
  · obtain ⟨i, lo, hi, rfl, q⟩ := h
    refine ⟨_, (pss_one (ps_ret (pe_and (pe_k c_is_int hr (by omega) (by rfl) (pa_cons (pv 0) pa_nil)) (pe_one (pe_chain op_le op_le (pv 1) (pv 0) (pv 2)))))), ?_⟩
    refine ⟨.int i, rfl, .int i, _, true, false, rfl, .base (.int i), k_ii, k_ib, true, rfl, iteT ?_⟩
    refine ⟨.int lo, rfl, .int i, rfl, lo, i, rfl, rfl, decide (lo ≤ i), rfl, ?_⟩
    by_cases z : lo ≤ i
    · rw [decide_eq_true z] at q ⊢
      exact iteT ⟨.int hi, rfl, i, hi, rfl, rfl, q⟩
    · rw [decide_eq_false z] at q ⊢
      exact iteF q
theorem isIn_yes {H : Hp} {i lo hi : Int} {Q : VK} {E : XK} (h1 : lo ≤ i) (h2 : i ≤ hi) (q : Q (.bl true) H) : spIsIntIn [.int i, .int lo, .int hi] H Q E := ⟨i, lo, hi, rfl, by rw [decide_eq_true h1, decide_eq_true h2]; exact q⟩
/-! ### is_row_of_ints -/
def spRow (K : PySem.W.Frag) : Sp := fun vs H Q _ => ∃ (a : Addr) (ns : List Int) (n : Int), vs = [.ref a, .int n] ∧ SqT K H a (ns.map V.int) ∧ ns.length ≤ 1000 ∧ ∀ H', Same H H' → Q (.bl (decide ((ns.length : Int) = n))) H'
theorem ok_is_row_of_ints {f : Addr} {fd : FuncData} (D : Df K mg "is_row_of_ints" ["thing", "many"] s_is_row_of_ints f fd) (T : Tx K mg C) (c_is_int : Ca P w K mg base 1 "is_int" (spIsInt K)) : Ca P w K mg base 2 "is_row_of_ints" (spRow K) := by
  refine D.ca sc_is_row_of_ints (fun vs H Q E h => ?_) (fun cdv A outer s H vs Q E hr h => ?_)
  · obtain ⟨a, ns, n, rfl, _⟩ := h
    rfl
  · obtain ⟨a, ns, n, rfl, hT, hl, q⟩ := h
    refine ⟨_, (pss_one (ps_ret (pe_and (pe_callB call_isi (by rfl) T.b.isinstance boot_isinstance (pa_cons (pv 0) (pa_cons (pe_bltn (v := .ty "tuple") (by rfl) T.b.tuple boot_tuple rfl) pa_nil))) (pe_and (pe_cmpR op_eq (pe_callB call_len_seq (by rfl) T.b.len boot_len (pa_cons (pv 0) pa_nil)) (pv 1) (nomark _)) (pe_one (pe_callB (cr_all rfl) (by rfl) T.b.all boot_all (pa_cons (pe_lc (own := [("part", 2)]) (by rfl) sc_is_row_of_ints.nd (pi_tup (pv 0)) (blkOk_by (N := ["thing", "many", "part"]) (sc := defScope s_is_row_of_ints) (by decide +kernel)) (fun _ _ _ _ _ => pg_name (i := 2) sc_is_row_of_ints.nd rfl (by first | exact Or.inl rfl | exact Or.inr rfl)) (fun _ _ _ _ _ => pts_nil) (fun _ _ _ _ _ => (pe_k c_is_int hr (by omega) (by rfl) (pa_cons (pv 2) pa_nil)))) pa_nil))))))), ?_⟩
    refine ⟨.ref a, rfl, .ref a, .ty "tuple", _, _, true, rfl, .ty _, ty_t hT, k_tt, true, rfl, iteT ?_⟩
    refine ⟨.ref a, rfl, a, _, rfl, .inr hT, .int n, rfl, rfl, _, rfl, ?_⟩
    have e : decide (V.int ((ns.map V.int).length : Int) = V.int n) = decide ((ns.length : Int) = n) := by
      rw [List.length_map]
      exact decide_eq_decide.mpr ⟨V.int.inj, congrArg V.int⟩
    rw [e]
    by_cases z : (ns.length : Int) = n
    · rw [decide_eq_true z] at q ⊢
      refine iteT ⟨.ref a, rfl, a, rfl, ⟨_, hT⟩, fun D0 nD => lc_tup (K := K) (a := a) (xs := ns.map V.int) (fun i H' => Same H H' ∧ H' D0 = some (.lst ((List.replicate i true).map V.bl))) ⟨same_new nD, upd_same⟩
        (fun i H' _ p => T_seq p.1 hT) (fun i x H' hx p => ?_) (fun H' p => ?_)⟩
      · obtain ⟨k, rfl⟩ : ∃ k, x = V.int k := by
          rw [List.getElem?_map] at hx
          cases e : ns[i]? with
          | none => rw [e] at hx; cases hx
          | some k => rw [e] at hx; exact ⟨k, (Option.some.inj hx).symm⟩
        have il : i < ns.length := by
          have := (List.getElem?_eq_some_iff.mp hx).1
          rwa [List.length_map] at this
        refine ⟨rfl, ?_⟩
        refine ⟨.int k, rfl, .int k, _, true, false, rfl, .base (.int k), k_ii, k_ib, _, p.2, ?_, same_mut p.1 nD, ?_⟩
        · rw [List.length_map, List.length_replicate]
          exact small1000 (by omega)
        · rw [upd_same, List.replicate_succ', List.map_append]
          rfl
      · refine ⟨D0, _, rfl, .inl (.inl p.2), ?_⟩
        have e2 : (List.replicate (ns.map V.int).length true).all id = true := by simp
        rw [e2]
        exact q _ p.1
    · rw [decide_eq_false z] at q ⊢
      exact iteF (q _ (Same.refl _))
end

end LW
set_option Elab.async false
set_option linter.all false
set_option maxRecDepth 100000
set_option maxHeartbeats 4000000
namespace LW
open PySem PySem.Spec PyProof.Rows L2 RS LB
section
variable {P : Program} {w : World} {K : PySem.W.Frag} {mg : Str → Option Value} {base : Heap} {C : Addr}
/-! ### is_reading: of right ones -/
structure InR (s t : Int) (k : RK) : Prop where
  a0 : 0 ≤ k.1
  a1 : k.1 < t
  b0 : 0 ≤ k.2.1
  b1 : k.2.1 < t
  ln : (k.2.2.length : Int) = s
  few : k.2.2.length ≤ 4
theorem InR.many {s t : Int} {k : RK} (h : InR s t k) : k.2.2.length ≤ 1000 := Nat.le_trans h.few (by decide)
structure ShR (s t : Int) (k : RK) : Prop extends InR s t k where
  sh : ∀ x ∈ k.2.2, -1000000000000 ≤ x ∧ x ≤ 1000000000000
def spSh (K : PySem.W.Frag) : Sp := fun vs H Q _ => ∃ (s t : Int) (a : Addr) (k : RK), vs = [.int s, .int t, .ref a] ∧ RdAt K H a k ∧ ShR s t k ∧ ∀ H', Same H H' → Q (.bl true) H'
theorem ok_is_reading {f : Addr} {fd : FuncData} (D : Df K mg "is_reading" ["sides", "tables", "thing"] s_is_reading f fd) (T : Tx K mg C) (c_is_int_in : Ca P w K mg base 2 "is_int_in" spIsIntIn) (c_is_row_of_ints : Ca P w K mg base 2 "is_row_of_ints" (spRow K)) :
    Ca P w K mg base 3 "is_reading" (spSh K) := by
  refine D.ca sc_is_reading (fun vs H Q E h => ?_) (fun cdv A outer s H vs Q E hr h => ?_)
  · obtain ⟨s, t, a, k, rfl, _⟩ := h
    rfl
  · obtain ⟨si, ta, a, k, rfl, ⟨t, h1, h2⟩, G, q⟩ := h
    refine ⟨_, (pss_one (ps_ret (pe_and (pe_callB call_isi (by rfl) T.b.isinstance boot_isinstance (pa_cons (pv 2) (pa_cons (pe_bltn (v := .ty "tuple") (by rfl) T.b.tuple boot_tuple rfl) pa_nil))) (pe_and (pe_cmpR op_eq (pe_callB call_len_seq (by rfl) T.b.len boot_len (pa_cons (pv 2) pa_nil)) pe_int (nomark _)) (pe_and (pe_k c_is_int_in hr (by omega) (by rfl) (pa_cons (pe_ix ix_tup (pv 2) pe_int (fun _ _ => rfl)) (pa_cons pe_int (pa_cons (pe_op op_sub (pv 1) pe_int) pa_nil)))) (pe_and (pe_k c_is_int_in hr (by omega) (by rfl) (pa_cons (pe_ix ix_tup (pv 2) pe_int (fun _ _ => rfl)) (pa_cons pe_int (pa_cons (pe_op op_sub (pv 1) pe_int) pa_nil)))) (pe_and (pe_k c_is_row_of_ints hr (by omega) (by rfl) (pa_cons (pe_ix ix_tup (pv 2) pe_int (fun _ _ => rfl)) (pa_cons (pv 0) pa_nil))) (pe_one (pe_callB (cr_all rfl) (by rfl) T.b.all boot_all (pa_cons (pe_lc (own := [("part", 3)]) (by rfl) sc_is_reading.nd (pi_tup (pe_ix ix_tup (pv 2) pe_int (fun _ _ => rfl))) (blkOk_by (N := ["sides", "tables", "thing", "part"]) (sc := defScope s_is_reading) (by decide +kernel)) (fun _ _ _ _ _ => pg_name (i := 3) sc_is_reading.nd rfl (by first | exact Or.inl rfl | exact Or.inr rfl)) (fun _ _ _ _ _ => pts_nil) (fun _ _ _ _ _ => (pe_chain op_le op_le (pe_un un_neg (pe_gc (by rfl) T.c_LONGEST_STEP)) (pv 3) (pe_gc (by rfl) T.c_LONGEST_STEP)))) pa_nil)))))))))), ?_⟩
    refine ⟨.ref a, rfl, .ref a, .ty "tuple", _, _, true, rfl, .ty _, ty_t h1, k_tt, true, rfl, iteT ?_⟩
    refine ⟨.ref a, rfl, a, _, rfl, .inr h1, rfl, true, rfl, iteT ?_⟩
    refine ⟨.ref a, rfl, a, _, 0, .int k.1, rfl, rfl, h1, rfl, .int ta, rfl, ta, 1, rfl, rfl, k.1, 0, ta - 1, rfl, ?_⟩
    rw [decide_eq_true G.a0, decide_eq_true (show k.1 ≤ ta - 1 by have := G.a1; omega)]
    refine ⟨true, rfl, iteT ?_⟩
    refine ⟨.ref a, rfl, a, _, 1, .int k.2.1, rfl, rfl, h1, rfl, .int ta, rfl, ta, 1, rfl, rfl, k.2.1, 0, ta - 1, rfl, ?_⟩
    rw [decide_eq_true G.b0, decide_eq_true (show k.2.1 ≤ ta - 1 by have := G.b1; omega)]
    refine ⟨true, rfl, iteT ?_⟩
    refine ⟨.ref a, rfl, a, _, 2, .ref t, rfl, rfl, h1, rfl, .int si, rfl, t, k.2.2, si, rfl, h2, G.many, fun H1 e1 => ?_⟩
    rw [decide_eq_true G.ln]
    refine ⟨true, rfl, iteT ?_⟩
    refine ⟨.ref a, rfl, a, _, 2, .ref t, rfl, rfl, T_seq e1 h1, rfl, t, rfl, ⟨_, T_seq e1 h2⟩, fun D0 nD => lc_tup (K := K) (a := t) (xs := k.2.2.map V.int) (fun i H' => Same H1 H' ∧ H' D0 = some (.lst ((List.replicate i true).map V.bl))) ⟨same_new nD, upd_same⟩
      (fun i H' _ p => T_seq p.1 (T_seq e1 h2)) (fun i x H' hx p => ?_) (fun H' p => ?_)⟩
    · obtain ⟨z, rfl, hz⟩ : ∃ z, x = V.int z ∧ z ∈ k.2.2 := by
        rw [List.getElem?_map] at hx
        cases e : k.2.2[i]? with
        | none => rw [e] at hx; cases hx
        | some z => rw [e] at hx; exact ⟨z, (Option.some.inj hx).symm, List.mem_of_getElem? e⟩
      have il : i < k.2.2.length := by
        have := (List.getElem?_eq_some_iff.mp hx).1
        rwa [List.length_map] at this
      have sh := G.sh z hz
      refine ⟨rfl, 1000000000000, rfl, .int z, rfl, _, z, rfl, rfl, true, congrArg V.bl (decide_eq_true (show -1000000000000 ≤ z from sh.1)), z, 1000000000000, rfl, rfl, _, p.2, ?_, same_mut p.1 nD, ?_⟩
      · rw [List.length_map, List.length_replicate]
        exact small1000 (Nat.le_of_lt (Nat.lt_of_lt_of_le il G.toInR.many))
      · rw [upd_same, List.replicate_succ', List.map_append]
        show some (HO.lst (_ ++ [V.bl (decide (z ≤ 1000000000000))])) = _
        rw [decide_eq_true sh.2]
        rfl
    · refine ⟨D0, _, rfl, .inl (.inl p.2), ?_⟩
      have e2 : (List.replicate (k.2.2.map V.int).length true).all id = true := by simp
      rw [e2]
      exact q _ (e1.trans p.1)
/-! ### Program -/
def flds (s t : Int) (r : Addr) : List (Str × V) := putF "readings" (.ref r) (putF "tables" (.int t) (putF "sides" (.int s) []))
theorem n_ts : ¬ (("tables" : Str) = "sides") := by decide +kernel
theorem n_rs : ¬ (("readings" : Str) = "sides") := by decide +kernel
theorem n_rt : ¬ (("readings" : Str) = "tables") := by decide +kernel
theorem flds_s (s t : Int) (r : Addr) : (flds s t r).lookup ("sides" : Str) = some (.int s) := by
  unfold flds
  rw [lookup_putF, if_neg (Ne.symm n_rs), lookup_putF, if_neg (Ne.symm n_ts), lookup_putF, if_pos rfl]
theorem flds_t (s t : Int) (r : Addr) : (flds s t r).lookup ("tables" : Str) = some (.int t) := by
  unfold flds
  rw [lookup_putF, if_neg (Ne.symm n_rt), lookup_putF, if_pos rfl]
theorem flds_r (s t : Int) (r : Addr) : (flds s t r).lookup ("readings" : Str) = some (.ref r) := by
  unfold flds
  rw [lookup_putF, if_pos rfl]
structure GoodP (s t : Int) (L : List RK) : Prop where
  s1 : 1 ≤ s
  s4 : s ≤ 4
  t1 : 1 ≤ t
  t8 : t ≤ 8
  few : L.length ≤ 24
  each : ∀ k ∈ L, ShR s t k
  asc : L.Pairwise rlt
def rf (q : Addr × RK) : V := .ref q.1
def spInit (K : PySem.W.Frag) (C : Addr) : Sp := fun vs H Q _ => ∃ (p dx r : Addr) (s t : Int) (L : Ks), vs = [.ref p, .int s, .int t, .ref r] ∧ H p = some (.ins C dx []) ∧ SqT K H r (L.map rf) ∧ (∀ q ∈ L, RdAt K H q.1 q.2) ∧ GoodP s t (L.map (·.2)) ∧
  ∀ H', (∀ b o, b ≠ p → H b = some o → H' b = some o) → H' p = some (.ins C dx (flds s t r)) → Q .non H'
theorem asc_at {L : List RK} (h : L.Pairwise rlt) {i : Nat} {j k : RK} (hi : L[i]? = some j) (hk : L[i + 1]? = some k) : rlt j k := by
  obtain ⟨a, e1⟩ := List.getElem?_eq_some_iff.mp hi
  obtain ⟨b, e2⟩ := List.getElem?_eq_some_iff.mp hk
  rw [← e1, ← e2]
  exact List.pairwise_iff_getElem.mp h i (i + 1) a b (Nat.lt_succ_self i)
theorem ok_init {f : Addr} {fd : FuncData} (F : Fun K "__init__" "Program.__init__" s_Program___init__ f fd) (T : Tx K mg C) (c_is_int_in : Ca P w K mg base 2 "is_int_in" spIsIntIn) (c_is_reading : Ca P w K mg base 3 "is_reading" (spSh K)) :
    FnOk P w K mg base CX0 5 f fd ["self", "sides", "tables", "readings"] (spInit K C) := by
  refine F.ok sc_Program___init__ (fun vs H Q E h => ?_) (fun cdv A outer s H vs Q E hr h => ?_)
  · obtain ⟨p, dx, r, s, t, L, rfl, _⟩ := h
    rfl
  · obtain ⟨p, dx, r, si, ta, L, rfl, hp, hT, hL, G, q⟩ := h
    refine ⟨_, (pss_cons (ps_if (pt_not (pt_val (pe_k c_is_int_in hr (by omega) (by rfl) (pa_cons (pv 1) (pa_cons pe_int (pa_cons (pe_gc (by rfl) T.c_MOST_SIDES) pa_nil)))))) (pss_one ps_never) pss_nil)
      (pss_cons (ps_if (pt_not (pt_val (pe_k c_is_int_in hr (by omega) (by rfl) (pa_cons (pv 2) (pa_cons pe_int (pa_cons (pe_gc (by rfl) T.c_MOST_TABLES) pa_nil)))))) (pss_one ps_never) pss_nil)
      (pss_cons (ps_if (PW.pt (pw_or (pt_not (pt_val (pe_callB call_isi (by rfl) T.b.isinstance boot_isinstance (pa_cons (pv 3) (pa_cons (pe_bltn (v := .ty "tuple") (by rfl) T.b.tuple boot_tuple rfl) pa_nil))))) (pw_or1 (pt_cmpR op_gt (pe_callB call_len_seq (by rfl) T.b.len boot_len (pa_cons (pv 3) pa_nil)) (pe_gc (by rfl) T.c_MOST_READINGS) (nomark _))))) (pss_one ps_never) pss_nil)
      (pss_cons (ps_for PassesOwn.never rfl (pi_enumT (by rfl) T.b.enumerate (pa_cons (pv 3) pa_nil)) (pg_tup (by rfl) (pgs_cons (pg_name (i := 4) sc_Program___init__.nd rfl (by first | exact Or.inl rfl | exact Or.inr rfl)) (pgs_cons (pg_name (i := 5) sc_Program___init__.nd rfl (by first | exact Or.inl rfl | exact Or.inr rfl)) pgs_nil))) (pss_cons (ps_if (pt_not (pt_val (pe_k c_is_reading hr (by omega) (by rfl) (pa_cons (pv 1) (pa_cons (pv 2) (pa_cons (pv 5) pa_nil)))))) (pss_one ps_never) pss_nil)
      (pss_one (ps_if (PW.pt (pw_and (pt_cmpR op_gt (pv 4) pe_int (nomark _)) (pw_and1 (pt_cmpR (op_leR hr.units) (pv 5) (pe_ix ix_tup (pv 3) (pe_op op_sub (pv 4) pe_int) (fun _ _ => rfl)) (nomark _))))) (pss_one ps_never) pss_nil))))
      (pss_cons (ps_fld (pv 0) (pv 1) rfl)
      (pss_cons (ps_fld (pv 0) (pv 2) rfl)
      (pss_one (ps_fld (pv 0) (pv 3) rfl)))))))), ?_⟩
    refine ⟨.int si, rfl, si, 1, 4, rfl, ?_⟩
    rw [decide_eq_true G.s1, decide_eq_true G.s4]
    refine ⟨true, rfl, .int ta, rfl, ta, 1, 8, rfl, ?_⟩
    rw [decide_eq_true G.t1, decide_eq_true G.t8]
    have lenL : ((L.map rf).length : Int) ≤ 24 := by
      have := G.few
      rw [List.length_map] at this ⊢
      omega
    refine ⟨true, rfl, .ref r, rfl, .ref r, .ty "tuple", _, _, true, rfl, .ty _, ty_t hT, k_tt, true, rfl, .ref r, rfl, r, _, rfl, .inr hT, _, 24, rfl, rfl, false, congrArg V.bl (decide_eq_false (by omega)), ?_⟩
    refine ⟨.ref r, rfl, r, _, rfl, hT, for_enumT (K := K) (a := r) (xs := L.map rf) (fun i σ H2 => ∃ x4 x5, σ = [some (.ref p), some (.int si), some (.int ta), some (.ref r), x4, x5] ∧ Same H H2) ⟨none, none, rfl, Same.refl _⟩
      (fun i σ H2 ⟨_, _, _, e⟩ => T_seq e hT) ?_ ?_⟩
    · rintro i x T0 σ H2 hx ⟨x4, x5, rfl, e⟩ nT
      obtain ⟨z, hz, rfl⟩ : ∃ z, L[i]? = some z ∧ x = rf z := by
        rw [List.getElem?_map] at hx
        cases e : L[i]? with
        | none => rw [e] at hx; cases hx
        | some z => rw [e] at hx; exact ⟨z, rfl, (Option.some.inj hx).symm⟩
      have e2 : Same H (upd H2 T0 (.tup [.int (i : Nat), rf z])) := e.trans (same_new nT)
      have hz2 : (L.map (·.2))[i]? = some z.2 := by rw [List.getElem?_map, hz]; rfl
      refine ⟨T0, [.int (i : Nat), rf z], rfl, T_new, rfl, .int (i : Nat), [rf z], rfl, rf z, [], rfl, rfl, ?_⟩
      refine ⟨.int si, rfl, .int ta, rfl, rf z, rfl, si, ta, z.1, z.2, rfl, rd_same e2 (hL z (List.mem_of_getElem? hz)), G.each _ (List.mem_of_getElem? hz2), fun H3 e3 => ⟨true, rfl, ?_⟩⟩
      have e4 := e2.trans e3
      cases i with
      | zero => exact ⟨.int ((0 : Nat) : Int), rfl, ((0 : Nat) : Int), 0, rfl, rfl, false, rfl, _, _, rfl, e4⟩
      | succ i =>
        have il : i < L.length := Nat.lt_of_succ_lt (List.getElem?_eq_some_iff.mp hz).1
        have hy : L[i]? = some L[i] := List.getElem?_eq_getElem il
        have hy2 : (L.map (·.2))[i]? = some L[i].2 := by rw [List.getElem?_map, hy]; rfl
        have hy3 : (L.map rf)[i]? = some (rf L[i]) := by rw [List.getElem?_map, hy]; rfl
        have lt := asc_at G.asc hy2 hz2
        have pos : decide ((0 : Int) < ((i + 1 : Nat) : Int)) = true := decide_eq_true (by omega)
        refine ⟨.int ((i + 1 : Nat) : Int), rfl, ((i + 1 : Nat) : Int), 0, rfl, rfl, true, congrArg V.bl pos, ?_⟩
        refine ⟨rf z, rfl, .ref r, rfl, .int ((i + 1 : Nat) : Int), rfl, ((i + 1 : Nat) : Int), 1, rfl, rfl, r, _, ((i + 1 : Nat) : Int) - 1, rf L[i], rfl, rfl, T_seq e4 hT, by rw [show ((i + 1 : Nat) : Int) - 1 = (i : Int) by omega]; exact atI_nat hy3, ?_⟩
        refine ⟨z.1, L[i].1, z.2, L[i].2, rfl, rfl, rd_same e4 (hL z (List.mem_of_getElem? hz)), rd_same e4 (hL _ (List.mem_of_getElem? hy)), false, by rw [decide_eq_true lt]; rfl, ?_⟩
        exact ⟨_, _, rfl, e4⟩
    · rintro σ H2 ⟨x4, x5, rfl, e⟩
      refine ⟨.int si, rfl, .ref p, rfl, p, C, dx, [], rfl, e _ _ hp, T.cl, T.nS, (by show 0 < 1000; decide), ?_⟩
      refine ⟨.int ta, rfl, .ref p, rfl, p, C, dx, _, rfl, upd_same, T.cl, T.nT, (by show 1 < 1000; decide), ?_⟩
      refine ⟨.ref r, rfl, .ref p, rfl, p, C, dx, _, rfl, upd_same, T.cl, T.nR, (by show 2 < 1000; decide), ?_⟩
      exact q _ (fun b o hb e' => by rw [upd_ne hb, upd_ne hb, upd_ne hb]; exact e _ _ e') upd_same
end

end LW
set_option Elab.async false
set_option linter.all false
set_option maxRecDepth 100000
set_option maxHeartbeats 4000000
namespace LW
open PySem PySem.Spec PyProof.Rows L2 RS LB
section
variable {P : Program} {w : World} {K : PySem.W.Frag} {mg : Str → Option Value} {base : Heap} {C : Addr}
/-! ### data -/
theorem lay_ints : ∀ xs : List Int, PyData.canLayAll0 (xs.map PyData.int) = true
  | [] => rfl
  | x :: xs => by
    show (PyData.canLay0 (.int x) && PyData.canLayAll0 (xs.map PyData.int)) = true
    rw [lay_ints xs]
    rfl
theorem lay_enc (k : RK) : (enc k).canLay0 = true := by
  show (true && (true && (PyData.canLayAll0 (k.2.2.map PyData.int) && true))) = true
  rw [lay_ints]
  rfl
theorem lay_encs : ∀ L : List RK, PyData.canLayAll0 (L.map enc) = true
  | [] => rfl
  | k :: L => by
    show (PyData.canLay0 (enc k) && PyData.canLayAll0 (L.map enc)) = true
    rw [lay_encs L, lay_enc]
    rfl
theorem depth_encs : ∀ L : List RK, PyData.depthAll (L.map enc) ≤ 2
  | [] => Nat.zero_le _
  | k :: L => by
    have := depth_enc k
    have := depth_encs L
    show Nat.max (enc k).depth (PyData.depthAll (L.map enc)) ≤ 2
    exact Nat.max_le.mpr ⟨by assumption, by assumption⟩
theorem shaped_ints (ns : List Int) : SeqAt.shaped (.list (ns.map .int)) = true := by
  unfold SeqAt.shaped
  rw [Bool.and_eq_true]
  refine ⟨lay_ints ns, decide_eq_true ?_⟩
  simp only [PyData.depth, PySem.W.depth_ints]
  decide
theorem shaped_encs (L : List RK) : SeqAt.shaped (.tuple (L.map enc)) = true := by
  unfold SeqAt.shaped
  rw [Bool.and_eq_true]
  refine ⟨lay_encs L, decide_eq_true ?_⟩
  have := depth_encs L
  simp only [PyData.depth]
  omega
theorem eqv_ints : ∀ xs ys : List Int, PyData.eqvAll (xs.map .int) (ys.map .int) = decide (xs = ys)
  | [], [] => by simp [PyData.eqvAll]
  | [], _ :: _ => by simp [PyData.eqvAll]
  | _ :: _, [] => by simp [PyData.eqvAll]
  | x :: xs, y :: ys => by
    simp [PyData.eqvAll, PyData.eqv, eqv_ints xs ys]
    by_cases e : x = y <;> simp [e]
theorem eqv_enc (j k : RK) : PyData.eqv (enc j) (enc k) = decide (j = k) := by
  unfold enc
  simp only [PyData.eqv, PyData.eqvAll, eqv_ints, Bool.and_true]
  obtain ⟨a, b, c⟩ := j
  obtain ⟨a', b', c'⟩ := k
  by_cases h1 : a = a' <;> by_cases h2 : b = b' <;> by_cases h3 : c = c' <;> simp [h1, h2, h3]
theorem eqv_encs : ∀ xs ys : List RK, PyData.eqvAll (xs.map enc) (ys.map enc) = decide (xs = ys)
  | [], [] => by simp [PyData.eqvAll]
  | [], _ :: _ => by simp [PyData.eqvAll]
  | _ :: _, [] => by simp [PyData.eqvAll]
  | x :: xs, y :: ys => by
    simp only [List.map_cons, PyData.eqvAll, eqv_enc, eqv_encs xs ys]
    by_cases e : x = y <;> simp [e]
theorem dp_ints {H : Hp} : ∀ ns : List Int, DpAll K H (ns.map V.int) (ns.map .int)
  | [] => .nil
  | x :: ns => .cons (.int x) (dp_ints ns)
theorem dp_rd {H : Hp} {a : Addr} {k : RK} (h : RdAt K H a k) : Dp K H (.ref a) (enc k) := by
  obtain ⟨t, h1, h2⟩ := h
  exact .tup h1 (.cons (.int _) (.cons (.int _) (.cons (.tup h2 (dp_ints _)) .nil)))
theorem dp_rds {H : Hp} : ∀ {L : Ks}, (∀ q ∈ L, RdAt K H q.1 q.2) → DpAll K H (L.map rf) ((L.map (·.2)).map enc)
  | [], _ => .nil
  | q :: L, h => .cons (dp_rd (h q List.mem_cons_self)) (dp_rds fun r hr => h r (List.mem_cons_of_mem _ hr))
/-! ### a program -/
structure PgAt (K : PySem.W.Frag) (C : Addr) (H : Hp) (p : Addr) (s t : Int) (L : List RK) : Prop where
  ex : ∃ (dx : Addr) (fs : List (Str × V)) (r : Addr) (ks : Ks), H p = some (.ins C dx fs) ∧ fs.lookup ("sides" : Str) = some (.int s) ∧ fs.lookup ("tables" : Str) = some (.int t) ∧ fs.lookup ("readings" : Str) = some (.ref r) ∧
    SqT K H r (ks.map rf) ∧ (∀ q ∈ ks, RdAt K H q.1 q.2) ∧ ks.map (·.2) = L
theorem PgAt.same {H H' : Hp} {p : Addr} {s t : Int} {L : List RK} (e : Same H H') (h : PgAt K C H p s t L) : PgAt K C H' p s t L := by
  obtain ⟨dx, fs, r, ks, h1, h2, h3, h4, h5, h6, h7⟩ := h.ex
  exact ⟨dx, fs, r, ks, e _ _ h1, h2, h3, h4, T_seq e h5, fun q hq => rd_same e (h6 q hq), h7⟩
def spPEq (K : PySem.W.Frag) (C : Addr) : Addr → Addr → Bool → Hp → Prop := fun a b c H => ∃ s t L s' t' L', PgAt K C H a s t L ∧ PgAt K C H b s' t' L' ∧ c = decide (s = s' ∧ t = t' ∧ L = L')
theorem ok_eq {f : Addr} {fd : FuncData} (F : Fun K "__eq__" "Program.__eq__" s_Program___eq__ f fd) (T : Tx K mg C) :
    FnOk P w K mg base CX0 1 f fd ["self", "other"] (spEqB (spPEq K C)) := by
  refine F.ok sc_Program___eq__ (fun vs H Q E h => ?_) (fun cdv A outer s H vs Q E hr h => ?_)
  · obtain ⟨p, q, c, rfl, _⟩ := h
    rfl
  · obtain ⟨a, b, c, rfl, ⟨si, ta, L, si', ta', L', ha, hb, rfl⟩, q⟩ := h
    obtain ⟨dx, fs, r, ks, h1, h2, h3, h4, h5, h6, rfl⟩ := ha.ex
    obtain ⟨dx', fs', r', ks', h1', h2', h3', h4', h5', h6', rfl⟩ := hb.ex
    have q := q H (Same.refl _)
    refine ⟨_, (pss_one (ps_ret (pe_and (pe_callB (C8.call_isC T.ins) (by rfl) T.b.isinstance boot_isinstance (pa_cons (pv 1) (pa_cons (pe_gc (by rfl) T.k_Program) pa_nil))) (pe_and (pe_cmpR op_eq (pe_fld (pv 0) rfl) (pe_fld (pv 1) rfl) (nomark _)) (pe_and (pe_cmpR op_eq (pe_fld (pv 0) rfl) (pe_fld (pv 1) rfl) (nomark _)) (pe_one (pe_cmpR (op_eqD hr.units) (pe_fld (pv 0) rfl) (pe_fld (pv 1) rfl) (nomark _)))))))), ?_⟩
    refine ⟨.ref b, rfl, b, dx', fs', rfl, h1', true, rfl, iteT ?_⟩
    refine ⟨.ref a, rfl, a, C, dx, fs, .int si, rfl, h1, T.cl, T.nS, h2, .ref b, rfl, b, C, dx', fs', .int si', rfl, h1', T.cl, T.nS, h2', rfl, _, rfl, ?_⟩
    by_cases z1 : si = si'
    · subst z1
      rw [decide_eq_true (rfl : V.int si = V.int si)]
      refine iteT ⟨.ref a, rfl, a, C, dx, fs, .int ta, rfl, h1, T.cl, T.nT, h3, .ref b, rfl, b, C, dx', fs', .int ta', rfl, h1', T.cl, T.nT, h3', rfl, _, rfl, ?_⟩
      by_cases z2 : ta = ta'
      · subst z2
        rw [decide_eq_true (rfl : V.int ta = V.int ta)]
        refine iteT ⟨.ref a, rfl, a, C, dx, fs, .ref r, rfl, h1, T.cl, T.nR, h4, .ref b, rfl, b, C, dx', fs', .ref r', rfl, h1', T.cl, T.nR, h4', _, _, .tup h5 (dp_rds h6), .tup h5' (dp_rds h6'), shaped_encs _, shaped_encs _, ?_⟩
        have e : PyData.eqv (.tuple ((ks.map (·.2)).map enc)) (.tuple ((ks'.map (·.2)).map enc)) = decide (si = si ∧ ta = ta ∧ ks.map (·.2) = ks'.map (·.2)) := by
          show PyData.eqvAll _ _ = _
          rw [eqv_encs]
          exact decide_eq_decide.mpr ⟨fun e => ⟨rfl, rfl, e⟩, fun e => e.2.2⟩
        rw [e]
        exact q
      · rw [decide_eq_false (show ¬ V.int ta = V.int ta' from fun e => z2 (V.int.inj e))]
        refine iteF ?_
        rw [decide_eq_false (show ¬ (si = si ∧ ta = ta' ∧ ks.map (·.2) = ks'.map (·.2)) from fun e => z2 e.2.1)] at q
        exact q
    · rw [decide_eq_false (show ¬ V.int si = V.int si' from fun e => z1 (V.int.inj e))]
      refine iteF ?_
      rw [decide_eq_false (show ¬ (si = si' ∧ ta = ta' ∧ ks.map (·.2) = ks'.map (·.2)) from fun e => z1 e.1)] at q
      exact q
theorem L_seq {H H' : Hp} {a : Addr} {xs : List V} (e : Same H H') (h : SqL K H a xs) : SqL K H' a xs := by
  rcases h with (h | ⟨o, h⟩) | h
  · exact .inl (.inl (e _ _ h))
  · exact .inl (.inr ⟨o, e _ _ h⟩)
  · exact .inr h
/-! ### program_of -/
/-- M: the readings of L ascending -/
structure Asc (L M : List RK) : Prop where
  pm : M.Perm L
  up : M.Pairwise rlt
theorem Asc.one {L L' M M' : List RK} (x : Asc L M) (y : Asc L' M') (h : ∀ k, k ∈ L ↔ k ∈ L') : M = M' :=
  asc_one x.up y.up fun k => ⟨fun z => y.pm.mem_iff.mpr ((h k).mp (x.pm.mem_iff.mp z)), fun z => x.pm.mem_iff.mpr ((h k).mpr (y.pm.mem_iff.mp z))⟩
theorem Asc.nodup {L M : List RK} (x : Asc L M) : M.Nodup := x.up.imp fun {a b} h (e : a = b) => by subst e; exact rlt_irrefl a h
theorem up_nodup {M : List RK} (x : M.Pairwise rlt) : M.Nodup := x.imp fun {a b} h (e : a = b) => by subst e; exact rlt_irrefl a h
def spPo (K : PySem.W.Frag) (C : Addr) : Sp := fun vs H Q _ => ∃ (s t : Int) (l : Addr) (ks : Ks), vs = [.int s, .int t, .ref l] ∧ SqL K H l (ks.map rf) ∧ (∀ q ∈ ks, RdAt K H q.1 q.2) ∧ ks.length ≤ 1000 ∧ (ks.map (·.2)).Nodup ∧ 1 ≤ s ∧ s ≤ 4 ∧
  ∀ H' p M, Same H H' → H p = none → PgAt K C H' p s t M → Asc (ks.map (·.2)) M → Q (.ref p) H'
theorem ok_program_of {f : Addr} {fd : FuncData} (D : Df K mg "program_of" ["sides", "tables", "readings"] s_program_of f fd) (T : Tx K mg C) (m_Program : Ma P w K mg base 5 "Program" C (spInit K C)) :
    Ca P w K mg base 7 "program_of" (spPo K C) := by
  refine D.ca sc_program_of (fun vs H Q E h => ?_) (fun cdv A outer s H vs Q E hr h => ?_)
  · obtain ⟨s, t, l, ks, rfl, _⟩ := h
    rfl
  · obtain ⟨si, ta, l, ks, rfl, hl, hk, few, nd, s1, s4, q⟩ := h
    refine ⟨_, (pss_cons (ps_set (i := 3) sc_program_of.nd rfl (by first | exact Or.inl rfl | exact Or.inr rfl) (pe_mkK m_Program hr (by omega) (by rfl) (pa_cons (pv 0) (pa_cons pe_int (pa_cons (pe_tup pa_nil) pa_nil)))))
      (pss_cons (ps_fld (pv 3) (pv 1) rfl)
      (pss_cons (ps_fld (pv 3) (pe_callTy call_tuple_of (by rfl) T.b.tuple boot_tuple (pa_cons (pe_callB (cr_sortRows hr.units) (by rfl) T.b.sorted boot_sorted (pa_cons (pv 2) pa_nil)) pa_nil)) rfl)
      (pss_one (ps_ret (pv 3)))))), ?_⟩
    refine ⟨.int si, rfl, Nat.zero_le _, fun r0 n0 => ?_⟩
    intro p dx np nd' ne
    have np0 : H p = none := by
      cases e : H p with
      | none => rfl
      | some o =>
        rw [upd_ne (ne_of_none e n0), e] at np
        cases np
    have e1 : Same H (upd (upd (upd H r0 (.tup [])) dx (.own p)) p (.ins C dx [])) := ((same_new n0).trans (same_new nd')).trans (same_new (by rw [upd_ne ne.symm]; exact np))
    have hr0 : SqT K (upd (upd (upd H r0 (.tup [])) dx (.own p)) p (.ins C dx [])) r0 (([] : Ks).map rf) := T_seq ((same_new nd').trans (same_new (by rw [upd_ne ne.symm]; exact np))) T_new
    refine ⟨p, dx, r0, si, 1, [], rfl, upd_same, hr0, (by intro q hq; cases hq), ⟨s1, s4, by decide, by decide, Nat.zero_le _, (by intro k hk; cases hk), .nil⟩, fun H2 e2 h2 => ⟨rfl, ?_⟩⟩
    have e3 : Same H H2 := fun b o e => e2 b o (ne_of_none e np0) (e1 b o e)
    refine ⟨.int ta, rfl, .ref p, rfl, p, C, dx, _, rfl, h2, T.cl, T.nT, (by show 3 < 1000; decide), ?_⟩
    have e4 : Same H (upd H2 p (.ins C dx (putF "tables" (.int ta) (flds si 1 r0)))) := same_mut e3 np0
    refine ⟨.ref l, rfl, l, ks, rfl, L_seq e4 hl, fun q hq => rd_same e4 (hk q hq), few, fun l2 n2 => ?_⟩
    refine ⟨l2, _, rfl, .inl ⟨L_new, fun t nt => ?_⟩⟩
    have hp3 : upd H2 p (.ins C dx (putF "tables" (.int ta) (flds si 1 r0))) p = some (.ins C dx (putF "tables" (.int ta) (flds si 1 r0))) := upd_same
    have hp4 := same_new (o := .lst ((ordered ks).map rf)) n2 _ _ hp3
    have hp5 := same_new (o := .tup ((ordered ks).map rf)) nt _ _ hp4
    have e5 : Same H (upd (upd (upd H2 p (.ins C dx (putF "tables" (.int ta) (flds si 1 r0)))) l2 (.lst ((ordered ks).map rf))) t (.tup ((ordered ks).map rf))) := (e4.trans (same_new n2)).trans (same_new nt)
    refine ⟨.ref p, rfl, p, C, dx, _, rfl, hp5, T.cl, T.nR, (by show 3 < 1000; decide), .ref p, rfl, ?_⟩
    have e6 : Same H (upd (upd (upd (upd H2 p (.ins C dx (putF "tables" (.int ta) (flds si 1 r0)))) l2 (.lst ((ordered ks).map rf))) t (.tup ((ordered ks).map rf))) p (.ins C dx (putF "readings" (.ref t) (putF "tables" (.int ta) (flds si 1 r0))))) := same_mut e5 np0
    refine q _ p ((ordered ks).map (·.2)) e6 np0 ⟨dx, _, t, ordered ks, upd_same, ?_, ?_, ?_, ?_, ?_, rfl⟩ ⟨(ordered_perm ks).map _, ordered_strict nd⟩
    · rw [lookup_putF, if_neg (Ne.symm n_rs), lookup_putF, if_neg (Ne.symm n_ts), flds_s]
    · rw [lookup_putF, if_neg (Ne.symm n_rt), lookup_putF, if_pos rfl]
    · rw [lookup_putF, if_pos rfl]
    · refine .inl (.inl ?_)
      have ht : t ≠ p := (ne_of_none hp4 nt).symm
      rw [upd_ne ht, upd_same]
      rfl
    · exact fun q hq => rd_same e6 (hk q ((ordered_perm ks).mem_iff.mp hq))
end

end LW
set_option Elab.async false
set_option linter.all false
set_option maxRecDepth 100000
set_option maxHeartbeats 4000000
namespace LW
open PySem PySem.Spec PyProof.Rows L2 RS LB
section
variable {P : Program} {w : World} {K : PySem.W.Frag} {mg : Str → Option Value} {base : Heap} {C : Addr}
theorem _root_.L2.Same.none {H H' : Hp} {p : Addr} (e : Same H H') (h : H' p = none) : H p = none := by
  cases q : H p with
  | none => rfl
  | some o => rw [e _ _ q] at h; cases h
/-! ### lists of readings that grow -/
def Bt (K : PySem.W.Frag) (D : Addr) (M : List RK) (H : Hp) : Prop := ∃ ks : Ks, H D = some (.lst (ks.map rf)) ∧ (∀ q ∈ ks, RdAt K H q.1 q.2) ∧ ks.map (·.2) = M
theorem Bt.zero {D : Addr} {H : Hp} : Bt K D [] (upd H D (.lst [])) := ⟨[], upd_same, (fun q hq => by cases hq), rfl⟩
theorem Bt.same {D : Addr} {H H' : Hp} {M : List RK} (e : Same H H') (h : Bt K D M H) : Bt K D M H' := by
  obtain ⟨ks, h1, h2, h3⟩ := h
  exact ⟨ks, e _ _ h1, fun q hq => rd_same e (h2 q hq), h3⟩
theorem T_mutL {H : Hp} {D a : Addr} {xs ys zs : List V} (h : H D = some (.lst xs)) (q : SqT K H a zs) : SqT K (upd H D (.lst ys)) a zs := by
  rcases q with (q | ⟨o, q⟩) | q
  · exact .inl (.inl (by rw [upd_ne (fun z => by rw [z, h] at q; cases q)]; exact q))
  · exact .inl (.inr ⟨o, by rw [upd_ne (fun z => by rw [z, h] at q; cases q)]; exact q⟩)
  · exact .inr q
theorem rd_mutL {H : Hp} {D a : Addr} {xs ys : List V} {k : RK} (h : H D = some (.lst xs)) (q : RdAt K H a k) : RdAt K (upd H D (.lst ys)) a k := by
  obtain ⟨t, h1, h2⟩ := q
  exact ⟨t, T_mutL h h1, T_mutL h h2⟩
theorem small {n : Nat} (h : n ≤ 1000) : n ≤ sizeLine := by rw [sizeLine_eq]; omega
theorem smallt {n : Nat} (h : n < 1000) : n < sizeLine := by rw [sizeLine_eq]; omega
theorem Bt.push {D a : Addr} {H : Hp} {M : List RK} {k : RK} (h : Bt K D M H) (r : RdAt K H a k) (few : M.length < 1000) : ∃ acc, H D = some (.lst acc) ∧ acc.length < sizeLine ∧ Bt K D (M ++ [k]) (upd H D (.lst (acc ++ [.ref a]))) := by
  obtain ⟨ks, h1, h2, h3⟩ := h
  refine ⟨_, h1, smallt (by rw [List.length_map, ← List.length_map (f := fun q : Addr × RK => q.2), h3]; exact few), ks ++ [(a, k)], ?_, ?_, ?_⟩
  · rw [upd_same, List.map_append]; rfl
  · intro q hq
    rcases List.mem_append.mp hq with z | z
    · exact rd_mutL h1 (h2 q z)
    · rw [List.mem_singleton.mp z]; exact rd_mutL h1 r
  · rw [List.map_append, h3]; rfl
theorem take_map_succ {α β : Type} {L : List α} {g : α → β} {i : Nat} {k : α} (h : L[i]? = some k) : (L.take i).map g ++ [g k] = (L.take (i + 1)).map g := by
  rw [List.take_add_one, h, Option.toList, List.map_append]
  rfl
theorem all_taken {α β : Type} {L : List α} {g : α → β} : (L.take L.length).map g = L.map g := by rw [List.take_length]
theorem rf_at {L : Ks} {i : Nat} {x : V} (h : (L.map rf)[i]? = some x) : ∃ q, L[i]? = some q ∧ x = rf q := by
  rw [List.getElem?_map] at h
  cases e : L[i]? with
  | none => rw [e] at h; cases h
  | some q => rw [e] at h; exact ⟨q, rfl, (Option.some.inj h).symm⟩
theorem int_at {L : List Int} {i : Nat} {x : V} (h : (L.map V.int)[i]? = some x) : ∃ z, L[i]? = some z ∧ x = .int z := by
  rw [List.getElem?_map] at h
  cases e : L[i]? with
  | none => rw [e] at h; cases h
  | some q => rw [e] at h; exact ⟨q, rfl, (Option.some.inj h).symm⟩
/-! ### programs of any steps -/
structure Pok (s t : Int) (L : List RK) : Prop where
  s1 : 1 ≤ s
  s4 : s ≤ 4
  t1 : 1 ≤ t
  tm : t ≤ 1000
  few : L.length ≤ 900
  each : ∀ k ∈ L, InR s t k
  up : L.Pairwise rlt
theorem GoodP.ok {s t : Int} {L : List RK} (g : GoodP s t L) : Pok s t L := ⟨g.s1, g.s4, g.t1, by have := g.t8; omega, by have := g.few; omega, fun k hk => (g.each k hk).toInR, g.asc⟩
/-- the readings led otherwise, one by one, are a program's again -/
theorem Pok.led {s t s' t' : Int} {L M : List RK} {g : RK → RK} (G : Pok s t L) (h1 : 1 ≤ s') (h2 : s' ≤ 4) (h3 : 1 ≤ t') (h4 : t' ≤ 1000) (hg : ∀ k, InR s t k → InR s' t' (g k)) (a : Asc (L.map g) M) : Pok s' t' M :=
  ⟨h1, h2, h3, h4, by rw [a.pm.length_eq, List.length_map]; exact G.few, fun k hk => by
    obtain ⟨j, hj, rfl⟩ := List.mem_map.mp (a.pm.mem_iff.mp hk)
    exact hg j (G.each j hj), a.up⟩
theorem nodup_led {s t : Int} {L : List RK} {g : RK → RK} (G : Pok s t L) (inj : ∀ j k, InR s t j → InR s t k → g j = g k → j = k) : (L.map g).Nodup :=
  List.pairwise_map.mpr (List.Pairwise.imp_of_mem (fun {j k} hj hk (lt : rlt j k) e => by
    have := inj j k (G.each j hj) (G.each k hk) e
    subst this
    exact rlt_irrefl _ lt) G.up)
end

end LW
set_option Elab.async false
set_option linter.all false
set_option maxRecDepth 100000
set_option maxHeartbeats 4000000
namespace LW
open PySem PySem.Spec PyProof.Rows L2 RS LB
section
variable {P : Program} {w : World} {K : PySem.W.Frag} {mg : Str → Option Value} {base : Heap} {C : Addr}
/-! ### the pool -/
theorem cut_upto (ns : List Int) (lo hi : Option Int) : ∃ ms : List Int, cutV (ns.map V.int) lo hi = ms.map V.int ∧ ms.length ≤ ns.length := by
  unfold cutV
  refine ⟨(ns.drop (HT.sIx (ns.map V.int).length 0 lo)).take (HT.sIx (ns.map V.int).length (ns.map V.int).length hi - HT.sIx (ns.map V.int).length 0 lo), by rw [← List.map_drop, ← List.map_take], ?_⟩
  rw [List.length_take, List.length_drop]
  omega
def spPool (K : PySem.W.Frag) : Sp := fun vs H Q _ => ∃ (a : Addr) (ns : List Int), vs = [.ref a] ∧ SqL K H a (ns.map V.int) ∧ ns.length ≤ 63 ∧ ∀ H' p c, Same H H' → H p = none → H c = none → Pool H' p c → Q (.ref p) H'
theorem ok__law_pool {f : Addr} {fd : FuncData} (D : Df K mg "_law_pool" ["_law_script"] s__law_pool f fd) (T : Tx K mg C) : Ca P w K mg base 1 "_law_pool" (spPool K) := by
  refine D.ca sc__law_pool (fun vs H Q E h => ?_) (fun cdv A outer s H vs Q E hr h => ?_)
  · obtain ⟨a, ns, rfl, _⟩ := h
    rfl
  · obtain ⟨a, ns, rfl, ha, few, q⟩ := h
    refine ⟨_, (pss_cons (ps_set (i := 1) sc__law_pool.nd rfl (by first | exact Or.inl rfl | exact Or.inr rfl) (pe_op op_add (pe_op op_add (pe_op op_mod (pe_callTy call_int1 (by rfl) T.b.int boot_int (pa_cons (pe_callB (cr_sum rfl) (by rfl) T.b.sum boot_sum (pa_cons (pe_slice sl_list (pv 0) po_none (po_some pe_int)) pa_nil)) pa_nil)) pe_int) (pe_callB call_len_seq (by rfl) T.b.len boot_len (pa_cons (pv 0) pa_nil))) pe_int))
      (pss_cons (ps_for PassesOwn.never rfl (pi_list (pe_slice sl_list (pv 0) po_none (po_some pe_int))) (pg_name (i := 2) sc__law_pool.nd rfl (by first | exact Or.inl rfl | exact Or.inr rfl)) (pss_one (ps_set (i := 1) sc__law_pool.nd rfl (by first | exact Or.inl rfl | exact Or.inr rfl) (pe_op op_mod (pe_callTy call_int1 (by rfl) T.b.int boot_int (pa_cons (pe_op op_add (pe_op op_add (pe_op op_mul (pv 1) pe_int) (pe_op op_mod (pe_callTy call_int1 (by rfl) T.b.int boot_int (pa_cons (pv 2) pa_nil)) pe_int)) pe_int) pa_nil)) pe_int))))
      (pss_one (ps_ret (pe_lst (pa_cons (pv 1) (pa_cons pe_int (pa_cons (pe_lc (own := [("_law_cell", 2)]) (by rfl) sc__law_pool.nd (pi_list (pe_slice sl_list (pv 0) po_none (po_some pe_int))) (blkOk_by (N := ["_law_script", "_law_seed", "_law_cell"]) (sc := defScope s__law_pool) (by decide +kernel)) (fun _ _ _ _ _ => pg_name (i := 2) sc__law_pool.nd rfl (by first | exact Or.inl rfl | exact Or.inr rfl)) (fun _ _ _ _ _ => pts_one (pt_cmpR op_ge (pe_callB call_abs (by rfl) T.b.abs boot_abs (pa_cons (pv 2) pa_nil)) (pe_op op_pow pe_int pe_int) (nomark _))) (fun _ _ _ _ _ => (pe_callB call_abs (by rfl) T.b.abs boot_abs (pa_cons (pv 2) pa_nil)))) pa_nil)))))))), ?_⟩
    refine ⟨.ref a, rfl, 1, rfl, a, _, rfl, ha, fun p1 n1 => ?_⟩
    obtain ⟨c1, e1, l1⟩ := cut_upto ns none (some 1)
    rw [e1]
    have S1 : Same H (upd H p1 (.lst (c1.map V.int))) := same_new n1
    refine ⟨p1, c1, rfl, .inl (.inl upd_same), .inl ⟨c1.sum, rfl, c1.sum, 1000003, rfl, rfl, (show (0 : Int) < 1000003 by decide), .ref a, rfl, a, _, rfl, .inl (L_seq S1 ha), c1.sum % 1000003, (ns.map V.int).length, rfl, rfl, c1.sum % 1000003 + (ns.map V.int).length, 1, rfl, rfl, ?_⟩⟩
    refine ⟨.ref a, rfl, 63, rfl, a, _, rfl, L_seq S1 ha, fun p2 n2 => ?_⟩
    obtain ⟨c2, e2, l2⟩ := cut_upto ns none (some 63)
    rw [e2]
    have S2 : Same H (upd (upd H p1 (.lst (c1.map V.int))) p2 (.lst (c2.map V.int))) := S1.trans (same_new n2)
    refine ⟨p2, rfl, ⟨_, .inl (.inl upd_same)⟩, for_list (K := K) (a := p2) (xs := c2.map V.int) (fun i σ H' => ∃ sd x2, σ = [some (.ref a), some (.int sd), x2] ∧ 0 ≤ sd ∧ sd < 2147483647 ∧ Same H H' ∧ H' p2 = some (.lst (c2.map V.int))) ⟨_, _, rfl, ?_, ?_, S2, upd_same⟩
      (fun i σ H' _ ⟨_, _, _, _, _, _, z⟩ => .inl (.inl z)) ?_ ?_⟩
    · have := Int.emod_nonneg c1.sum (b := 1000003) (by decide)
      omega
    · have := Int.emod_lt_of_pos c1.sum (b := 1000003) (by decide)
      rw [List.length_map]
      omega
    · rintro i x σ H' hx ⟨sd, x2, rfl, s0, s1, e, hp2⟩
      obtain ⟨y, hy, rfl⟩ := int_at hx
      refine ⟨.int sd, rfl, sd, 48271, rfl, rfl, .inr (by decide), .int y, rfl, .inl ⟨y, rfl, y, 2147483629, rfl, rfl, (show (0 : Int) < 2147483629 by decide), sd * 48271, y % 2147483629, rfl, rfl, sd * 48271 + y % 2147483629, 11, rfl, rfl, .inl ⟨_, rfl, sd * 48271 + y % 2147483629 + 11, 2147483647, rfl, rfl, (show (0 : Int) < 2147483647 by decide), ?_⟩⟩⟩
      exact ⟨_, _, rfl, Int.emod_nonneg _ (by decide), Int.emod_lt_of_pos _ (by decide), e, hp2⟩
    · rintro σ H' ⟨sd, x2, rfl, s0, s1, e, hp2⟩
      refine ⟨.int sd, rfl, .ref a, rfl, 63, rfl, a, _, rfl, L_seq e ha, fun p3 n3 => ?_⟩
      rw [e2]
      have S3 : Same H (upd H' p3 (.lst (c2.map V.int))) := e.trans (same_new n3)
      refine ⟨p3, rfl, ⟨_, .inl (.inl upd_same)⟩, fun D0 nD => lc_list (K := K) (a := p3) (xs := c2.map V.int) (fun i H2 => Same H H2 ∧ H2 p3 = some (.lst (c2.map V.int)) ∧ ∃ ms : List Int, H2 D0 = some (.lst (ms.map V.int)) ∧ ms.length ≤ i) ⟨S3.trans (same_new nD), same_new nD _ _ upd_same, [], upd_same, Nat.le_refl _⟩
        (fun i H2 _ z => .inl (.inl z.2.1)) (fun i x H2 hx z => ?_) (fun H2 z => ?_)⟩
      · obtain ⟨y, hy, rfl⟩ := int_at hx
        obtain ⟨z1, z2, ms, z3, z4⟩ := z
        refine ⟨rfl, .int y, rfl, y, rfl, 10, 18, rfl, rfl, ⟨by decide, by decide, by decide⟩, _, 10 ^ (18 : Int).toNat, rfl, rfl, decide ((10 : Int) ^ (18 : Int).toNat ≤ if y < 0 then -y else y), rfl, ?_⟩
        have n0 : H D0 = none := S3.none nD
        by_cases b : (10 : Int) ^ (18 : Int).toNat ≤ if y < 0 then -y else y
        · rw [decide_eq_true b]
          refine iteT ⟨.int y, rfl, y, rfl, _, z3, ?_, same_mut z1 n0, ?_, ms ++ [if y < 0 then -y else y], ?_, ?_⟩
          · rw [List.length_map]
            have := (List.getElem?_eq_some_iff.mp hy).1
            exact smallt (by omega)
          · rw [upd_ne (fun h => by rw [h, upd_same] at nD; cases nD)]; exact z2
          · rw [upd_same, List.map_append]; rfl
          · rw [List.length_append]; exact Nat.succ_le_succ z4
        · rw [decide_eq_false b]
          exact iteF ⟨z1, z2, ms, z3, Nat.le_succ_of_le z4⟩
      · obtain ⟨z1, z2, ms, z3, z4⟩ := z
        refine ⟨small (Nat.le_of_ble_eq_true rfl), fun p np => ?_⟩
        have n0 : H D0 = none := S3.none nD
        rw [List.length_map] at z4
        exact q _ p D0 (z1.trans (same_new np)) (z1.none np) n0 ⟨(ne_of_none z3 np).symm, sd, 0, ms, upd_same, same_new np _ _ z3, s0, s1, by omega⟩
end

end LW
set_option Elab.async false
set_option linter.all false
set_option maxRecDepth 100000
set_option maxHeartbeats 4000000
namespace LW
open PySem PySem.Spec PyProof.Rows L2 RS LB
section
variable {P : Program} {w : World} {K : PySem.W.Frag} {mg : Str → Option Value} {base : Heap} {C : Addr}
theorem ixN_zero {n : Nat} (h : 0 < n) : ixN n 0 = some 0 := by
  unfold ixN
  rw [if_pos (Int.le_refl 0), if_pos (by omega)]
  rfl
def spDraw : Sp := fun vs H Q _ => ∃ (p c : Addr) (n : Int), vs = [.ref p, .int n] ∧ Pool H p c ∧ 0 < n ∧ n < 1073741824 ∧ ∀ H' d, But p c H H' → Pool H' p c → 0 ≤ d → d < n → Q (.int d) H'
theorem ok__law_draw {f : Addr} {fd : FuncData} (D : Df K mg "_law_draw" ["_law_pool_here", "_law_many"] s__law_draw f fd) (T : Tx K mg C) : Ca P w K mg base 1 "_law_draw" spDraw := by
  refine D.ca sc__law_draw (fun vs H Q E h => ?_) (fun cdv A outer s H vs Q E hr h => ?_)
  · obtain ⟨p, c, n, rfl, _⟩ := h
    rfl
  · obtain ⟨p, c, n, rfl, hP, n0, n1, q⟩ := h
    obtain ⟨a, b, ns, hp, hc, a0, a1, few⟩ := hP.ex
    refine ⟨_, (pss_cons (ps_asg (pe_op op_add (pe_ix ix_list (pv 0) pe_int (fun _ _ => rfl)) pe_int) (pg_sub (pv 0) pe_int set_list))
      (pss_cons (ps_set (i := 2) sc__law_draw.nd rfl (by first | exact Or.inl rfl | exact Or.inr rfl) (pe_ix ix_list (pv 0) pe_int (fun _ _ => rfl)))
      (pss_cons (ps_if (pt_cmpR op_gt (pe_callB call_len_seq (by rfl) T.b.len boot_len (pa_cons (pv 2) pa_nil)) pe_int (nomark _)) (pss_cons (ps_set (i := 3) sc__law_draw.nd rfl (by first | exact Or.inl rfl | exact Or.inr rfl) (pe_op op_mod (pe_callTy call_int1 (by rfl) T.b.int boot_int (pa_cons (pe_ix ix_list (pv 2) pe_int (fun _ _ => rfl)) pa_nil)) (pv 1)))
      (pss_cons (ps_asg (pe_op op_fdiv (pe_callTy call_int1 (by rfl) T.b.int boot_int (pa_cons (pe_ix ix_list (pv 2) pe_int (fun _ _ => rfl)) pa_nil)) (pv 1)) (pg_sub (pv 2) pe_int set_list))
      (pss_cons (ps_if (pt_cmpR op_eq (pe_ix ix_list (pv 2) pe_int (fun _ _ => rfl)) pe_int (nomark _)) (pss_one (ps_expr (pe_bm PySem.F.plainAttrs_list PySem.F.slot_list_pop PySem.F.type_list_pop mt_popAt (pv 2) (pa_cons pe_int pa_nil)))) pss_nil)
      (pss_one (ps_ret (pv 3)))))) pss_nil)
      (pss_cons (ps_set (i := 4) sc__law_draw.nd rfl (by first | exact Or.inl rfl | exact Or.inr rfl) (pe_op op_mod (pe_callTy call_int1 (by rfl) T.b.int boot_int (pa_cons (pe_op op_mul (pe_op op_add (pe_ix ix_list (pv 0) pe_int (fun _ _ => rfl)) (pe_op op_mul pe_int (pe_ix ix_list (pv 0) pe_int (fun _ _ => rfl)))) pe_int) pa_nil)) pe_int))
      (pss_cons (ps_set (i := 4) sc__law_draw.nd rfl (by first | exact Or.inl rfl | exact Or.inr rfl) (pe_op op_mod (pe_callTy call_int1 (by rfl) T.b.int boot_int (pa_cons (pe_op op_mul (pv 4) (pe_op op_add (pe_op op_fdiv (pv 4) pe_int) pe_int)) pa_nil)) pe_int))
      (pss_cons (ps_set (i := 4) sc__law_draw.nd rfl (by first | exact Or.inl rfl | exact Or.inr rfl) (pe_op op_mod (pe_callTy call_int1 (by rfl) T.b.int boot_int (pa_cons (pe_op op_mul (pv 4) (pe_op op_add (pe_op op_fdiv (pv 4) pe_int) pe_int)) pa_nil)) pe_int))
      (pss_one (ps_ret (pe_op op_mod (pe_callTy call_int1 (by rfl) T.b.int boot_int (pa_cons (pe_op op_fdiv (pv 4) pe_int) pa_nil)) (pv 1)))))))))), ?_⟩
    refine ⟨.ref p, rfl, p, _, 1, .int b, rfl, rfl, .inl (.inl hp), rfl, b, 1, rfl, rfl, .ref p, rfl, p, _, 1, 1, rfl, rfl, hp, rfl, ?_⟩
    have hp1 : upd H p (.lst [.int a, .int (b + 1), .ref c]) p = some (.lst [.int a, .int (b + 1), .ref c]) := upd_same
    have hc1 : upd H p (.lst [.int a, .int (b + 1), .ref c]) c = some (.lst (ns.map V.int)) := by rw [upd_ne hP.ne.symm]; exact hc
    have B1 : But p c H (upd H p (.lst [.int a, .int (b + 1), .ref c])) := fun x o h1 h2 h => by rw [upd_ne h1]; exact h
    refine ⟨.ref p, rfl, p, _, 2, .ref c, rfl, rfl, .inl (.inl hp1), rfl, ?_⟩
    cases ns with
    | nil =>
      refine ⟨.ref c, rfl, c, _, rfl, .inl (.inl (.inl hc1)), _, 0, rfl, rfl, false, rfl, iteF ?_⟩
      refine ⟨.ref p, rfl, p, _, 0, .int a, rfl, rfl, .inl (.inl hp1), rfl, .ref p, rfl, p, _, 1, .int (b + 1), rfl, rfl, .inl (.inl hp1), rfl, 7919, b + 1, rfl, rfl, .inl (by decide), a, 7919 * (b + 1), rfl, rfl, a + 7919 * (b + 1), 48271, rfl, rfl, .inr (by decide), .inl ⟨_, rfl, (a + 7919 * (b + 1)) * 48271, 2147483647, rfl, rfl, (show (0 : Int) < 2147483647 by decide), ?_⟩⟩
      have m0 := Int.emod_nonneg ((a + 7919 * (b + 1)) * 48271) (b := 2147483647) (by decide)
      have m1 := Int.emod_lt_of_pos ((a + 7919 * (b + 1)) * 48271) (b := 2147483647) (by decide)
      obtain ⟨m, em⟩ : ∃ m, (a + 7919 * (b + 1)) * 48271 % 2147483647 = m := ⟨_, rfl⟩
      rw [em] at m0 m1
      have sm := congrArg (fun z : Int => some (some (V.int z))) em
      refine ⟨.int m, sm, .int m, sm, m, 1009, rfl, rfl, ⟨by decide, by decide⟩, m / 1009, 69621, rfl, rfl, m, m / 1009 + 69621, rfl, rfl, .inl ⟨by omega, by omega⟩, .inl ⟨_, rfl, m * (m / 1009 + 69621), 2147483647, rfl, rfl, (show (0 : Int) < 2147483647 by decide), ?_⟩⟩
      have k0 := Int.emod_nonneg (m * (m / 1009 + 69621)) (b := 2147483647) (by decide)
      have k1 := Int.emod_lt_of_pos (m * (m / 1009 + 69621)) (b := 2147483647) (by decide)
      obtain ⟨k, ek⟩ : ∃ k, m * (m / 1009 + 69621) % 2147483647 = k := ⟨_, rfl⟩
      rw [ek] at k0 k1
      have sk := congrArg (fun z : Int => some (some (V.int z))) ek
      refine ⟨.int k, sk, .int k, sk, k, 2003, rfl, rfl, ⟨by decide, by decide⟩, k / 2003, 40692, rfl, rfl, k, k / 2003 + 40692, rfl, rfl, .inl ⟨by omega, by omega⟩, .inl ⟨_, rfl, k * (k / 2003 + 40692), 2147483399, rfl, rfl, (show (0 : Int) < 2147483399 by decide), ?_⟩⟩
      refine ⟨.int _, rfl, k * (k / 2003 + 40692) % 2147483399, 16, rfl, rfl, ⟨by decide, by decide⟩, .inl ⟨_, rfl, .int n, rfl, k * (k / 2003 + 40692) % 2147483399 / 16, n, rfl, rfl, n0, ?_⟩⟩
      exact q _ _ B1 ⟨hP.ne, a, b + 1, [], hp1, hc1, a0, a1, few⟩ (Int.emod_nonneg _ (by omega)) (Int.emod_lt_of_pos _ n0)
    | cons x r =>
      refine ⟨.ref c, rfl, c, _, rfl, .inl (.inl (.inl hc1)), _, 0, rfl, rfl, true, congrArg V.bl (decide_eq_true (show (0 : Int) < (((x :: r).map V.int).length : Int) by rw [List.length_map, List.length_cons]; omega)), iteT ?_⟩
      refine ⟨.ref c, rfl, c, _, 0, .int x, rfl, rfl, .inl (.inl hc1), atI_nat (j := 0) rfl, .inl ⟨x, rfl, .int n, rfl, x, n, rfl, rfl, n0, ?_⟩⟩
      refine ⟨.ref c, rfl, c, _, 0, .int x, rfl, rfl, .inl (.inl hc1), atI_nat (j := 0) rfl, .inl ⟨x, rfl, .int n, rfl, x, n, rfl, rfl, ⟨n0, n1⟩, .ref c, rfl, c, _, 0, 0, rfl, rfl, hc1, ixN_zero (by rw [List.length_map]; exact Nat.succ_pos _), ?_⟩⟩
      have hc2 : upd (upd H p (.lst [.int a, .int (b + 1), .ref c])) c (.lst (.int (x / n) :: r.map V.int)) c = some (.lst (.int (x / n) :: r.map V.int)) := upd_same
      have hp2 : upd (upd H p (.lst [.int a, .int (b + 1), .ref c])) c (.lst (.int (x / n) :: r.map V.int)) p = some (.lst [.int a, .int (b + 1), .ref c]) := by rw [upd_ne hP.ne]; exact hp1
      have B2 : But p c H (upd (upd H p (.lst [.int a, .int (b + 1), .ref c])) c (.lst (.int (x / n) :: r.map V.int))) := fun y o h1 h2 h => by rw [upd_ne h2, upd_ne h1]; exact h
      refine ⟨.ref c, rfl, c, _, 0, .int (x / n), rfl, rfl, .inl (.inl hc2), atI_nat (j := 0) rfl, rfl, decide (V.int (x / n) = V.int 0), rfl, ?_⟩
      have d0 := Int.emod_nonneg x (b := n) (by omega)
      have d1 := Int.emod_lt_of_pos x n0
      by_cases z : V.int (x / n) = V.int 0
      · rw [decide_eq_true z]
        refine iteT ⟨.ref c, rfl, .inl ⟨rfl, _, .inl (.inl hc2)⟩, c, _, 0, 0, .int (x / n), rfl, rfl, hc2, by decide, by decide, (ixN_seq (ixN_zero (Nat.succ_pos _))).1, rfl, ?_⟩
        refine ⟨.int (x % n), rfl, ?_⟩
        exact q _ _ (fun y o h1 h2 h => by rw [upd_ne h2]; exact B2 y o h1 h2 h) ⟨hP.ne, a, b + 1, r, by rw [upd_ne hP.ne]; exact hp2, upd_same, a0, a1, Nat.le_of_succ_le few⟩ d0 d1
      · rw [decide_eq_false z]
        refine iteF ⟨.int (x % n), rfl, ?_⟩
        exact q _ _ B2 ⟨hP.ne, a, b + 1, x / n :: r, hp2, hc2, a0, a1, few⟩ d0 d1
end

end LW
set_option Elab.async false
set_option linter.all false
set_option maxRecDepth 100000
set_option maxHeartbeats 4000000
namespace LW
open PySem PySem.Spec PyProof.Rows L2 RS LB
section
variable {P : Program} {w : World} {K : PySem.W.Frag} {mg : Str → Option Value} {base : Heap} {C : Addr}
theorem cons_erase {α : Type} : ∀ {xs : List α} {i : Nat} (h : i < xs.length), (xs[i] :: xs.eraseIdx i).Perm xs
  | x :: xs, 0, _ => .refl _
  | x :: xs, i + 1, h => (List.Perm.swap x _ _).trans (List.Perm.cons x (cons_erase (Nat.lt_of_succ_lt_succ h)))
theorem ixN_in {n : Nat} {d : Int} (h0 : 0 ≤ d) (h1 : d < n) : ixN n d = some d.toNat := by
  unfold ixN
  rw [if_pos h0, if_pos h1]
theorem atI_in {α : Type} {xs : List α} {d : Int} (h0 : 0 ≤ d) (h1 : d < xs.length) : ∃ v, xs[d.toNat]? = some v ∧ atI xs d = some v := by
  have l : d.toNat < xs.length := by omega
  refine ⟨xs[d.toNat], List.getElem?_eq_getElem l, ?_⟩
  unfold atI
  rw [ixN_in h0 h1]
  exact List.getElem?_eq_getElem l
theorem _root_.LB.Pool.np {H : Hp} {p c l : Addr} (P : Pool H p c) (h : H l = none) : l ≠ p ∧ l ≠ c := by
  obtain ⟨a, b, ns, hp, hc, _⟩ := P.ex
  exact ⟨(ne_of_none hp h).symm, (ne_of_none hc h).symm⟩
def spSome (K : PySem.W.Frag) : Sp := fun vs H Q _ => ∃ (p c l : Addr) (xs : List V), vs = [.ref p, .ref l] ∧ Pool H p c ∧ l ≠ p ∧ l ≠ c ∧ SqL K H l xs ∧ 0 < xs.length ∧ xs.length ≤ 1000 ∧ ∀ H' v, But p c H H' → Pool H' p c → v ∈ xs → Q v H'
theorem ok__law_some {f : Addr} {fd : FuncData} (D : Df K mg "_law_some" ["_law_pool_here", "_law_things"] s__law_some f fd) (T : Tx K mg C) (c__law_draw : Ca P w K mg base 1 "_law_draw" spDraw) : Ca P w K mg base 2 "_law_some" (spSome K) := by
  refine D.ca sc__law_some (fun vs H Q E h => ?_) (fun cdv A outer s H vs Q E hr h => ?_)
  · obtain ⟨p, c, l, xs, rfl, _⟩ := h
    rfl
  · obtain ⟨p, c, l, xs, rfl, hP, n1, n2, hl, l0, l1, q⟩ := h
    refine ⟨_, (pss_one (ps_ret (pe_ix ix_list (pv 1) (pe_k c__law_draw hr (by omega) (by rfl) (pa_cons (pv 0) (pa_cons (pe_callB call_len_seq (by rfl) T.b.len boot_len (pa_cons (pv 1) pa_nil)) pa_nil))) (fun _ _ => rfl)))), ?_⟩
    refine ⟨.ref l, rfl, .ref p, rfl, .ref l, rfl, l, _, rfl, .inl hl, p, c, (xs.length : Int), rfl, hP, by omega, by omega, fun H' d B P' d0 d1 => ?_⟩
    obtain ⟨v, hv, he⟩ := atI_in d0 d1
    exact ⟨l, xs, d, v, rfl, rfl, B.l n1 n2 hl, he, q _ _ B P' (List.mem_of_getElem? hv)⟩
/-! ### _law_integer, _law_same -/
def spInteger (K : PySem.W.Frag) : Sp := fun vs H Q _ => ∃ i, vs = [.int i] ∧ Q (.bl true) H
theorem ok__law_integer {f : Addr} {fd : FuncData} (D : Df K mg "_law_integer" ["_law_thing"] s__law_integer f fd) (T : Tx K mg C) : Ca P w K mg base 1 "_law_integer" (spInteger K) := by
  refine D.ca sc__law_integer (fun vs H Q E h => ?_) (fun cdv A outer s H vs Q E hr h => ?_)
  · obtain ⟨i, rfl, _⟩ := h
    rfl
  · obtain ⟨i, rfl, q⟩ := h
    refine ⟨_, (pss_one (ps_ret (pe_and (pe_callB call_isi (by rfl) T.b.isinstance boot_isinstance (pa_cons (pv 0) (pa_cons (pe_bltn (v := .ty "int") (by rfl) T.b.int boot_int rfl) pa_nil))) (pe_one (pe_not (pe_callB call_isi (by rfl) T.b.isinstance boot_isinstance (pa_cons (pv 0) (pa_cons (pe_bltn (v := .ty "bool") (by rfl) T.b.bool boot_bool rfl) pa_nil)))))))), ?_⟩
    exact ⟨.int i, rfl, .int i, .ty "int", _, _, true, rfl, .ty _, .base (.int i), k_ii, true, rfl, iteT ⟨.int i, rfl, .int i, .ty "bool", _, _, false, rfl, .ty _, .base (.int i), k_ib, false, rfl, q⟩⟩
end

end LW
set_option Elab.async false
set_option linter.all false
set_option maxRecDepth 100000
set_option maxHeartbeats 4000000
namespace LW
open PySem PySem.Spec PyProof.Rows L2 RS LB
section
variable {P : Program} {w : World} {K : PySem.W.Frag} {mg : Str → Option Value} {base : Heap} {C : Addr}
/-! ### _law_same of alike data -/
def itD : Nat → PyData → Prop
  | 0, _ => False
  | _ + 1, .int _ => True
  | n + 1, .tuple ds => ds.length ≤ 1000 ∧ ∀ d ∈ ds, itD n d
  | _ + 1, _ => False
def spSame (K : PySem.W.Frag) (n : Nat) : Sp := fun vs H Q _ => ∃ x y d, vs = [x, y] ∧ Dp K H x d ∧ Dp K H y d ∧ itD n d ∧ Q (.bl true) H
theorem dpAll_len {H : Hp} : ∀ {xs : List V} {ds : List PyData}, DpAll K H xs ds → xs.length = ds.length
  | _, _, .nil => rfl
  | _, _, .cons _ t => congrArg (· + 1) (dpAll_len t)
theorem dpAll_at' {H : Hp} : ∀ (xs : List V) (ds : List PyData) (i : Nat), DpAll K H xs ds → i < ds.length → ∃ v d, xs[i]? = some v ∧ ds[i]? = some d ∧ Dp K H v d
  | [], [], i, _, h => absurd h (Nat.not_lt_zero _)
  | v :: vs, d :: ds, 0, h, _ => by
    cases h with
    | cons h t => exact ⟨_, _, rfl, rfl, h⟩
  | v :: vs, d :: ds, i + 1, h, l => by
    cases h with
    | cons h t => exact dpAll_at' vs ds i t (Nat.lt_of_succ_lt_succ l)
theorem dpAll_at {H : Hp} {xs : List V} {ds : List PyData} {i : Nat} (h : DpAll K H xs ds) (l : i < ds.length) : ∃ v d, xs[i]? = some v ∧ ds[i]? = some d ∧ Dp K H v d := dpAll_at' xs ds i h l
theorem ok__law_same {f : Addr} {fd : FuncData} (D : Df K mg "_law_same" ["_law_actual", "_law_expected"] s__law_same f fd) (T : Tx K mg C) (c__law_integer : Ca P w K mg base 1 "_law_integer" (spInteger K)) :
    ∀ n, Ca P w K mg base (n + 2) "_law_same" (spSame K n)
  | 0 => D.ca sc__law_same (fun vs H Q E h => by obtain ⟨x, y, d, rfl, _⟩ := h; rfl) (fun cdv A outer s H vs Q E hr h => by
      obtain ⟨x, y, d, rfl, _, _, z, _⟩ := h
      exact False.elim z)
  | n + 1 => by
    have c__law_same := ok__law_same D T c__law_integer n
    refine D.ca sc__law_same (fun vs H Q E h => ?_) (fun cdv A outer s H vs Q E hr h => ?_)
    · obtain ⟨x, y, d, rfl, _⟩ := h
      rfl
    · obtain ⟨x, y, d, rfl, h1, h2, z, q⟩ := h
      refine ⟨_, (pss_cons (ps_if (pt_cmpR op_isN (pv 1) pe_non (nomark _)) (pss_one (ps_ret (pe_cmpR op_isN (pv 0) pe_non (nomark _)))) pss_nil)
      (pss_cons (ps_if (pt_val (pe_callB call_isi (by rfl) T.b.isinstance boot_isinstance (pa_cons (pv 1) (pa_cons (pe_bltn (v := .ty "bool") (by rfl) T.b.bool boot_bool rfl) pa_nil)))) (pss_one (ps_ret (pe_and (pe_callB call_isi (by rfl) T.b.isinstance boot_isinstance (pa_cons (pv 0) (pa_cons (pe_bltn (v := .ty "bool") (by rfl) T.b.bool boot_bool rfl) pa_nil))) (pe_one (pe_cmpR op_eq (pv 0) (pv 1) (nomark _)))))) pss_nil)
      (pss_cons (ps_if (pt_val (pe_callB call_isi (by rfl) T.b.isinstance boot_isinstance (pa_cons (pv 1) (pa_cons (pe_bltn (v := .ty "int") (by rfl) T.b.int boot_int rfl) pa_nil)))) (pss_one (ps_ret (pe_and (pe_k c__law_integer hr (by omega) (by rfl) (pa_cons (pv 0) pa_nil)) (pe_one (pe_cmpR op_eq (pv 0) (pv 1) (nomark _)))))) pss_nil)
      (pss_cons (ps_if (pt_val (pe_callB call_isi (by rfl) T.b.isinstance boot_isinstance (pa_cons (pv 1) (pa_cons (pe_bltn (v := .ty "str") (by rfl) T.b.str boot_str rfl) pa_nil)))) (pss_one (ps_ret (pe_and (pe_callB call_isi (by rfl) T.b.isinstance boot_isinstance (pa_cons (pv 0) (pa_cons (pe_bltn (v := .ty "str") (by rfl) T.b.str boot_str rfl) pa_nil))) (pe_one (pe_cmpR op_eq (pv 0) (pv 1) (nomark _)))))) pss_nil)
      (pss_cons (ps_if (PW.pt (pw_and (pt_val (pe_callB call_isi (by rfl) T.b.isinstance boot_isinstance (pa_cons (pv 1) (pa_cons (pe_bltn (v := .ty "tuple") (by rfl) T.b.tuple boot_tuple rfl) pa_nil)))) (pw_and1 (pt_not (pt_val (pe_callB call_isi (by rfl) T.b.isinstance boot_isinstance (pa_cons (pv 0) (pa_cons (pe_bltn (v := .ty "tuple") (by rfl) T.b.tuple boot_tuple rfl) pa_nil)))))))) (pss_one (ps_ret pe_bl)) pss_nil)
      (pss_cons (ps_if (PW.pt (pw_and (pt_val (pe_callB call_isi (by rfl) T.b.isinstance boot_isinstance (pa_cons (pv 1) (pa_cons (pe_bltn (v := .ty "list") (by rfl) T.b.list boot_list rfl) pa_nil)))) (pw_and1 (pt_not (pt_val (pe_callB call_isi (by rfl) T.b.isinstance boot_isinstance (pa_cons (pv 0) (pa_cons (pe_bltn (v := .ty "list") (by rfl) T.b.list boot_list rfl) pa_nil)))))))) (pss_one (ps_ret pe_bl)) pss_nil)
      (pss_cons (ps_if (pt_cmpR op_ne (pe_callB call_len_seq (by rfl) T.b.len boot_len (pa_cons (pv 0) pa_nil)) (pe_callB call_len_seq (by rfl) T.b.len boot_len (pa_cons (pv 1) pa_nil)) (nomark _)) (pss_one (ps_ret pe_bl)) pss_nil)
      (pss_cons (ps_for PassesOwn.never rfl (pi_range1 (by rfl) T.b.range (pa_cons (pe_callB call_len_seq (by rfl) T.b.len boot_len (pa_cons (pv 1) pa_nil)) pa_nil)) (pg_name (i := 2) sc__law_same.nd rfl (by first | exact Or.inl rfl | exact Or.inr rfl)) (pss_one (ps_if (pt_not (pt_val (pe_k c__law_same hr (by omega) (by rfl) (pa_cons (pe_ix ix_tup (pv 0) (pv 2) (fun _ _ => rfl)) (pa_cons (pe_ix ix_tup (pv 1) (pv 2) (fun _ _ => rfl)) pa_nil))))) (pss_one (ps_ret pe_bl)) pss_nil)))
      (pss_one (ps_ret pe_bl)))))))))), ?_⟩
      cases d with
      | int i =>
        cases h1
        cases h2
        refine ⟨.int i, rfl, rfl, false, congrArg V.bl (decide_eq_false (by intro h; cases h)), iteF ?_⟩
        refine ⟨.int i, rfl, .int i, .ty "bool", _, _, false, rfl, .ty _, .base (.int i), k_ib, false, rfl, iteF ?_⟩
        refine ⟨.int i, rfl, .int i, .ty "int", _, _, true, rfl, .ty _, .base (.int i), k_ii, true, rfl, iteT ?_⟩
        refine ⟨.int i, rfl, i, rfl, true, rfl, iteT ⟨.int i, rfl, .int i, rfl, rfl, ?_⟩⟩
        rw [decide_eq_true (rfl : V.int i = V.int i)]
        exact q
      | tuple ds =>
        cases h1 with
        | @tup a xs _ ha hxs =>
          cases h2 with
          | @tup b ys _ hb hys =>
            obtain ⟨z1, z2⟩ := z
            have l1 := dpAll_len hxs
            have l2 := dpAll_len hys
            refine ⟨.ref b, rfl, rfl, false, congrArg V.bl (decide_eq_false (by intro h; cases h)), iteF ?_⟩
            refine ⟨.ref b, rfl, .ref b, .ty "bool", _, _, false, rfl, .ty _, ty_t hb, k_tb, false, rfl, iteF ?_⟩
            refine ⟨.ref b, rfl, .ref b, .ty "int", _, _, false, rfl, .ty _, ty_t hb, k_ti, false, rfl, iteF ?_⟩
            refine ⟨.ref b, rfl, .ref b, .ty "str", _, _, false, rfl, .ty _, ty_t hb, k_ts, false, rfl, iteF ?_⟩
            refine ⟨.ref b, rfl, .ref b, .ty "tuple", _, _, true, rfl, .ty _, ty_t hb, k_tt, true, rfl, iteT ?_⟩
            refine ⟨.ref a, rfl, .ref a, .ty "tuple", _, _, true, rfl, .ty _, ty_t ha, k_tt, true, rfl, iteF ?_⟩
            refine ⟨.ref b, rfl, .ref b, .ty "list", _, _, false, rfl, .ty _, ty_t hb, k_tl, false, rfl, iteF ?_⟩
            refine iteF ?_
            refine ⟨.ref a, rfl, a, _, rfl, .inr ha, .ref b, rfl, b, _, rfl, .inr hb, rfl, false, by rw [l1, l2]; exact congrArg V.bl (by simp), iteF ?_⟩
            refine ⟨.ref b, rfl, b, _, rfl, .inr hb, _, rfl, by omega, by omega, for_range (lo := 0) (n := ((ys.length : Nat) : Int).toNat) (fun i σ H' => H' = H ∧ ∃ x2, σ = [some (.ref a), some (.ref b), x2]) ⟨rfl, _, rfl⟩ ?_ ?_⟩
            · rintro i σ H' hi ⟨rfl, x2, rfl⟩
              have il : i < ds.length := by omega
              obtain ⟨v, d, e1, e2, e3⟩ := dpAll_at hxs il
              obtain ⟨v', d', e1', e2', e3'⟩ := dpAll_at hys il
              have ed : d' = d := Option.some.inj (e2'.symm.trans e2)
              subst ed
              have ei : (0 : Int) + (i : Nat) = ((i : Nat) : Int) := Int.zero_add _
              refine ⟨.ref a, rfl, .int (0 + (i : Nat)), rfl, a, xs, _, v, rfl, rfl, ha, by rw [ei]; exact atI_nat e1, .ref b, rfl, .int (0 + (i : Nat)), rfl, b, ys, _, v', rfl, rfl, hb, by rw [ei]; exact atI_nat e1', v, v', d', rfl, e3, e3', z2 _ (List.mem_of_getElem? e2), true, rfl, iteF ?_⟩
              exact ⟨rfl, _, rfl⟩
            · rintro σ H' ⟨rfl, x2, rfl⟩
              exact q
      | _ => exact False.elim z
end

end LW
set_option Elab.async false
set_option linter.all false
set_option maxRecDepth 100000
set_option maxHeartbeats 4000000
namespace LW
open PySem PySem.Spec PyProof.Rows L2 RS LB
section
variable {P : Program} {w : World} {K : PySem.W.Frag} {mg : Str → Option Value} {base : Heap} {C : Addr}
def InLong (x : Int) : Prop := -1000000000000 ≤ x ∧ x ≤ 1000000000000
def spStep (K : PySem.W.Frag) : Sp := fun vs H Q _ => ∃ (p c : Addr) (s : Int), vs = [.ref p, .int s] ∧ Pool H p c ∧ 1 ≤ s ∧ s ≤ 4 ∧
  ∀ H' t (ns : List Int), But p c H H' → Pool H' p c → SqT K H' t (ns.map V.int) → (ns.length : Int) = s → (∀ x ∈ ns, InLong x) → Q (.ref t) H'
theorem flat_one (n : Nat) (v : V) : (List.replicate n [v]).flatten = List.replicate n v := by
  induction n with
  | zero => rfl
  | succ n ih => rw [List.replicate_succ, List.flatten_cons, ih]; rfl
theorem But.mut {p c D : Addr} {H H' : Hp} {o : HO} (B : But p c H H') (n : H D = none) : But p c H (upd H' D o) := fun b u h1 h2 h => by
  rw [upd_ne (ne_of_none h n)]
  exact B b u h1 h2 h
theorem _root_.LB.Pool.upd {p c D : Addr} {H : Hp} {o : HO} (P : Pool H p c) (h : D ≠ p ∧ D ≠ c) : Pool (upd H D o) p c := by
  obtain ⟨a, b, ns, hp, hc, r⟩ := P.ex
  exact ⟨P.ne, a, b, ns, by rw [upd_ne h.1.symm]; exact hp, by rw [upd_ne h.2.symm]; exact hc, r⟩
theorem ok__law_step {f : Addr} {fd : FuncData} (D : Df K mg "_law_step" ["_law_pool_here", "_law_sides"] s__law_step f fd) (T : Tx K mg C) (c__law_draw : Ca P w K mg base 1 "_law_draw" spDraw) (c__law_some : Ca P w K mg base 2 "_law_some" (spSome K)) :
    Ca P w K mg base 3 "_law_step" (spStep K) := by
  refine D.ca sc__law_step (fun vs H Q E h => ?_) (fun cdv A outer s H vs Q E hr h => ?_)
  · obtain ⟨p, c, s, rfl, _⟩ := h
    rfl
  · obtain ⟨p, c, si, rfl, hP, s1, s4, q⟩ := h
    refine ⟨_, (pss_cons (ps_set (i := 2) sc__law_step.nd rfl (by first | exact Or.inl rfl | exact Or.inr rfl) (pe_k c__law_draw hr (by omega) (by rfl) (pa_cons (pv 0) (pa_cons pe_int pa_nil))))
      (pss_cons (ps_if (pt_cmpR op_eq (pv 2) pe_int (nomark _)) (pss_one (ps_ret (pe_op op_repAny (pe_tup (pa_cons pe_int pa_nil)) (pv 1)))) pss_nil)
      (pss_cons (ps_if (pt_cmpR op_eq (pv 2) pe_int (nomark _)) (pss_one (ps_ret (pe_callTy call_tuple_of (by rfl) T.b.tuple boot_tuple (pa_cons (pe_lc (own := [("_law_k", 3)]) (by rfl) sc__law_step.nd (pi_range1 (by rfl) T.b.range (pa_cons (pv 1) pa_nil)) (blkOk_by (N := ["_law_pool_here", "_law_sides", "_law_kind", "_law_k"]) (sc := defScope s__law_step) (by decide +kernel)) (fun _ _ _ _ _ => pg_name (i := 3) sc__law_step.nd rfl (by first | exact Or.inl rfl | exact Or.inr rfl)) (fun _ _ _ _ _ => pts_nil) (fun _ _ _ _ _ => (pe_k c__law_some hr (by omega) (by rfl) (pa_cons (pv 0) (pa_cons (pe_lst (pa_cons (pe_un un_neg (pe_op op_pow pe_int pe_int)) (pa_cons (pe_op op_pow pe_int pe_int) (pa_cons (pe_op op_sub pe_int (pe_op op_pow pe_int pe_int)) (pa_cons pe_int (pa_cons pe_int pa_nil)))))) pa_nil))))) pa_nil)))) pss_nil)
      (pss_one (ps_ret (pe_callTy call_tuple_of (by rfl) T.b.tuple boot_tuple (pa_cons (pe_lc (own := [("_law_k", 3)]) (by rfl) sc__law_step.nd (pi_range1 (by rfl) T.b.range (pa_cons (pv 1) pa_nil)) (blkOk_by (N := ["_law_pool_here", "_law_sides", "_law_kind", "_law_k"]) (sc := defScope s__law_step) (by decide +kernel)) (fun _ _ _ _ _ => pg_name (i := 3) sc__law_step.nd rfl (by first | exact Or.inl rfl | exact Or.inr rfl)) (fun _ _ _ _ _ => pts_nil) (fun _ _ _ _ _ => (pe_op op_sub (pe_k c__law_draw hr (by omega) (by rfl) (pa_cons (pv 0) (pa_cons pe_int pa_nil))) pe_int))) pa_nil))))))), ?_⟩
    refine ⟨.ref p, rfl, p, c, 6, rfl, hP, by decide, by decide, fun H1 d B1 P1 d0 d1 => ?_⟩
    refine ⟨.int d, rfl, rfl, decide (V.int d = V.int 0), rfl, ?_⟩
    by_cases z0 : V.int d = V.int 0
    · rw [decide_eq_true z0]
      refine iteT ⟨small (Nat.le_of_ble_eq_true rfl), fun t0 n0 => ⟨.int si, rfl, ?_⟩⟩
      have B2 := B1.trans (LB.Same.but (same_new (o := .tup [.int 0]) n0))
      have P2 := P1.same (same_new (o := .tup [.int 0]) n0)
      by_cases one : si = 1
      · subst one
        exact .inl ⟨t0, _, rfl, rfl, T_new, by simp, q _ t0 [0] B2 P2 T_new rfl (by intro x hx; rw [List.mem_singleton.mp hx]; unfold InLong; decide)⟩
      · refine .inr ⟨t0, si, _, rfl, rfl, T_new, by simp, by omega, by omega, Nat.le_of_ble_eq_true rfl, fun t nt => ?_⟩
        rw [flat_one]
        refine q _ t (List.replicate si.toNat 0) (B2.trans (LB.Same.but (same_new nt))) (P2.same (same_new nt)) ?_ (by rw [List.length_replicate]; omega) (fun x hx => by rw [List.eq_of_mem_replicate hx]; unfold InLong; decide)
        rw [List.map_replicate]
        exact T_new
    · rw [decide_eq_false z0]
      refine iteF ⟨.int d, rfl, rfl, decide (V.int d = V.int 1), rfl, ?_⟩
      by_cases z1 : V.int d = V.int 1
      · rw [decide_eq_true z1]
        refine iteT ⟨.int si, rfl, si, rfl, by omega, by omega, fun D0 nD => lc_range (lo := 0) (n := si.toNat) (fun i H' => But p c H1 H' ∧ Pool H' p c ∧ ∃ ns : List Int, H' D0 = some (.lst (ns.map V.int)) ∧ ns.length = i ∧ ∀ x ∈ ns, InLong x)
          ⟨LB.Same.but (same_new nD), P1.same (same_new nD), [], upd_same, rfl, (by intro x hx; cases hx)⟩ (fun i H' hi z => ?_) (fun H' z => ?_)⟩
        · obtain ⟨B', P', ns, hD, ln, al⟩ := z
          refine ⟨rfl, .ref p, rfl, 10, 12, rfl, rfl, ⟨by decide, by decide, by decide⟩, _, rfl, 10, 12, rfl, rfl, ⟨by decide, by decide, by decide⟩, 10, 11, rfl, rfl, ⟨by decide, by decide, by decide⟩, 7, _, rfl, rfl, small (Nat.le_of_ble_eq_true rfl), fun l nl => ?_⟩
          have nlp := P'.np nl
          refine ⟨p, c, l, _, rfl, P'.same (same_new nl), nlp.1, nlp.2, .inl (.inl upd_same), Nat.le_of_ble_eq_true rfl, Nat.le_of_ble_eq_true rfl, fun H2 v B2 P2 hv => ?_⟩
          obtain ⟨y, rfl, hy⟩ : ∃ y, v = V.int y ∧ InLong y := by
            rcases List.mem_cons.mp hv with rfl | hv
            · exact ⟨_, rfl, by unfold InLong; decide⟩
            rcases List.mem_cons.mp hv with rfl | hv
            · exact ⟨_, rfl, by unfold InLong; decide⟩
            rcases List.mem_cons.mp hv with rfl | hv
            · exact ⟨_, rfl, by unfold InLong; decide⟩
            rcases List.mem_cons.mp hv with rfl | hv
            · exact ⟨_, rfl, by unfold InLong; decide⟩
            · rw [List.mem_singleton] at hv
              exact ⟨_, hv, by unfold InLong; decide⟩
          have nDp := P1.np nD
          have B3 := (B'.trans (LB.Same.but (same_new nl))).trans B2
          have hD2 := B2 _ _ nDp.1 nDp.2 (same_new nl _ _ hD)
          refine ⟨_, hD2, smallt (by rw [List.length_map]; omega), But.mut B3 nD, P2.upd nDp, ns ++ [y], by rw [upd_same, List.map_append]; rfl, by rw [List.length_append, ln]; rfl, fun x hx => ?_⟩
          rcases List.mem_append.mp hx with hx | hx
          · exact al x hx
          · rw [List.mem_singleton.mp hx]; exact hy
        · obtain ⟨B', P', ns, hD, ln, al⟩ := z
          refine ⟨D0, _, rfl, .inl ⟨.inl (.inl hD), fun t nt => ?_⟩⟩
          exact q _ t ns ((B1.trans B').trans (LB.Same.but (same_new nt))) (P'.same (same_new nt)) T_new (by omega) al
      · rw [decide_eq_false z1]
        refine iteF ⟨.int si, rfl, si, rfl, by omega, by omega, fun D0 nD => lc_range (lo := 0) (n := si.toNat) (fun i H' => But p c H1 H' ∧ Pool H' p c ∧ ∃ ns : List Int, H' D0 = some (.lst (ns.map V.int)) ∧ ns.length = i ∧ ∀ x ∈ ns, InLong x)
          ⟨LB.Same.but (same_new nD), P1.same (same_new nD), [], upd_same, rfl, (by intro x hx; cases hx)⟩ (fun i H' hi z => ?_) (fun H' z => ?_)⟩
        · obtain ⟨B', P', ns, hD, ln, al⟩ := z
          refine ⟨rfl, .ref p, rfl, p, c, 5, rfl, P', by decide, by decide, fun H2 y B2 P2 e0 e1 => ⟨y, 2, rfl, rfl, ?_⟩⟩
          have nDp := P1.np nD
          have hD2 := B2 _ _ nDp.1 nDp.2 hD
          refine ⟨_, hD2, smallt (by rw [List.length_map]; omega), But.mut (B'.trans B2) nD, P2.upd nDp, ns ++ [y - 2], by rw [upd_same, List.map_append]; rfl, by rw [List.length_append, ln]; rfl, fun x hx => ?_⟩
          rcases List.mem_append.mp hx with hx | hx
          · exact al x hx
          · rw [List.mem_singleton.mp hx]; unfold InLong; omega
        · obtain ⟨B', P', ns, hD, ln, al⟩ := z
          refine ⟨D0, _, rfl, .inl ⟨.inl (.inl hD), fun t nt => ?_⟩⟩
          exact q _ t ns ((B1.trans B').trans (LB.Same.but (same_new nt))) (P'.same (same_new nt)) T_new (by omega) al
end

end LW
set_option Elab.async false
set_option linter.all false
set_option maxRecDepth 100000
set_option maxHeartbeats 4000000
namespace LW
open PySem PySem.Spec PyProof.Rows L2 RS LB
section
variable {P : Program} {w : World} {K : PySem.W.Frag} {mg : Str → Option Value} {base : Heap} {C : Addr}
/-! ### parts -/
structure PtAt (K : PySem.W.Frag) (H : Hp) (a : Addr) (s t : Int) (L : List RK) : Prop where
  ex : ∃ (r : Addr) (ks : Ks), SqT K H a [.int s, .int t, .ref r] ∧ SqT K H r (ks.map rf) ∧ (∀ q ∈ ks, RdAt K H q.1 q.2) ∧ ks.map (·.2) = L
theorem PtAt.same {H H' : Hp} {a : Addr} {s t : Int} {L : List RK} (e : Same H H') (h : PtAt K H a s t L) : PtAt K H' a s t L := by
  obtain ⟨r, ks, h1, h2, h3, h4⟩ := h.ex
  exact ⟨r, ks, T_seq e h1, T_seq e h2, fun q hq => rd_same e (h3 q hq), h4⟩
theorem PtAt.but {H H' : Hp} {p c a : Addr} {s t : Int} {L : List RK} (P : Pool H p c) (B : But p c H H') (h : PtAt K H a s t L) : PtAt K H' a s t L := by
  obtain ⟨r, ks, h1, h2, h3, h4⟩ := h.ex
  exact ⟨r, ks, P.t B h1, P.t B h2, fun q hq => P.rd B (h3 q hq), h4⟩
theorem PgAt.but {H H' : Hp} {p c a : Addr} {s t : Int} {L : List RK} (P : Pool H p c) (B : But p c H H') (h : PgAt K C H a s t L) : PgAt K C H' a s t L := by
  obtain ⟨dx, fs, r, ks, h1, h2, h3, h4, h5, h6, h7⟩ := h.ex
  obtain ⟨x, y, ns, g1, g2, _⟩ := P.ex
  exact ⟨dx, fs, r, ks, B _ _ (fun z => by rw [z, g1] at h1; cases h1) (fun z => by rw [z, g2] at h1; cases h1) h1, h2, h3, h4, P.t B h5, fun q hq => P.rd B (h6 q hq), h7⟩
/-- M: what stands in L, ascending, each once -/
structure AscM (L M : List RK) : Prop where
  mem : ∀ k, k ∈ M ↔ k ∈ L
  up : M.Pairwise rlt
theorem Asc.eqM {L M M' : List RK} (x : Asc L M) (y : AscM L M') : M = M' := asc_one x.up y.up fun k => by rw [y.mem, x.pm.mem_iff]
theorem nodup_le {α : Type} [DecidableEq α] : ∀ {xs ys : List α}, xs.Nodup → (∀ x ∈ xs, x ∈ ys) → xs.length ≤ ys.length
  | [], ys, _, _ => Nat.zero_le _
  | x :: xs, ys, h, m => by
    obtain ⟨h1, h2⟩ := List.nodup_cons.mp h
    have hx := m x List.mem_cons_self
    have := nodup_le (xs := xs) (ys := ys.erase x) h2 fun z hz => by
      have hne : z ≠ x := fun e => h1 (e ▸ hz)
      exact (List.mem_erase_of_ne hne).mpr (m z (List.mem_cons_of_mem _ hz))
    rw [List.length_erase_of_mem hx] at this
    have := List.length_pos_of_mem hx
    rw [List.length_cons]
    omega
/-- what tuple(sorted(set(xs))) comes to -/
def spSp (K : PySem.W.Frag) : Sp := fun vs H Q _ => ∃ (s t : Int) (l : Addr) (ks : Ks), vs = [.int s, .int t, .ref l] ∧ SqL K H l (ks.map rf) ∧ (∀ q ∈ ks, RdAt K H q.1 q.2) ∧ ks.length < 64 ∧
  ∀ H' a M, Same H H' → PtAt K H' a s t M → AscM (ks.map (·.2)) M → Q (.ref a) H'
theorem setAsc {ks L M : Ks} (sub : ∀ p ∈ L, p ∈ ks) (all : ∀ p ∈ ks, p.2 ∈ L.map (·.2)) (pm : M.Perm L) (up : (M.map (·.2)).Pairwise rlt) : AscM (ks.map (·.2)) (M.map (·.2)) := by
  refine ⟨fun k => ⟨fun h => ?_, fun h => ?_⟩, up⟩
  · obtain ⟨p, hp, rfl⟩ := List.mem_map.mp h
    exact List.mem_map.mpr ⟨p, sub p (pm.mem_iff.mp hp), rfl⟩
  · obtain ⟨p, hp, rfl⟩ := List.mem_map.mp h
    obtain ⟨q, hq, e⟩ := List.mem_map.mp (all p hp)
    exact List.mem_map.mpr ⟨q, pm.mem_iff.mpr hq, e⟩
theorem ok__law_sorted_parts {f : Addr} {fd : FuncData} (D : Df K mg "_law_sorted_parts" ["_law_sides", "_law_tables", "_law_readings"] s__law_sorted_parts f fd) (T : Tx K mg C) : Ca P w K mg base 1 "_law_sorted_parts" (spSp K) := by
  refine D.ca sc__law_sorted_parts (fun vs H Q E h => ?_) (fun cdv A outer s H vs Q E hr h => ?_)
  · obtain ⟨s, t, l, ks, rfl, _⟩ := h
    rfl
  · obtain ⟨si, ta, l, ks, rfl, hl, hk, few, q⟩ := h
    refine ⟨_, (pss_one (ps_ret (pe_tup (pa_cons (pv 0) (pa_cons (pv 1) (pa_cons (pe_callTy call_tuple_of (by rfl) T.b.tuple boot_tuple (pa_cons (pe_callB (cr_sortSet rfl hr.units) (by rfl) T.b.sorted boot_sorted (pa_cons (pe_callTy (cr_setR rfl hr.units) (by rfl) T.b.set boot_set (pa_cons (pv 2) pa_nil)) pa_nil)) pa_nil)) pa_nil)))))), ?_⟩
    refine ⟨.int si, rfl, .int ta, rfl, .ref l, rfl, l, ks, rfl, hl, hk, few, fun a L na sub all => ?_⟩
    have S1 : Same H (upd H a (SetRO w a L)) := same_new na
    refine ⟨a, L, rfl, upd_same, fun p hp => rd_same S1 (hk p (sub p hp)), fun M p pm up lt np => ?_⟩
    have S2 : Same H _ := S1.trans (same_new (o := .lst (M.map rf)) np)
    refine ⟨p, _, rfl, .inl ⟨.inl (.inl upd_same), fun t nt => ?_⟩⟩
    have S3 : Same H _ := S2.trans (same_new (o := .tup (M.map rf)) nt)
    refine ⟨small (Nat.le_of_ble_eq_true rfl), fun d nd => ?_⟩
    have S4 : Same H _ := S3.trans (same_new (o := .tup [.int si, .int ta, .ref t]) nd)
    exact q _ d (M.map (·.2)) S4 ⟨t, M, T_new, T_seq (same_new nd) T_new, fun r hr => rd_same S4 (hk r (sub r (pm.mem_iff.mp hr))), rfl⟩ (setAsc sub all pm up)
/-! ### _law_parts -/
def spParts (K : PySem.W.Frag) : Sp := fun vs H Q _ => ∃ (p c : Addr), vs = [.ref p] ∧ Pool H p c ∧ ∀ H' a s t L, But p c H H' → Pool H' p c → PtAt K H' a s t L → GoodP s t L → Q (.ref a) H'
theorem Bt.but {p c D : Addr} {H H' : Hp} {M : List RK} (P : Pool H p c) (B : But p c H H') (nd : D ≠ p ∧ D ≠ c) (h : Bt K D M H) : Bt K D M H' := by
  obtain ⟨ks, h1, h2, h3⟩ := h
  exact ⟨ks, B _ _ nd.1 nd.2 h1, fun q hq => P.rd B (h2 q hq), h3⟩
theorem Bt.len {D : Addr} {H : Hp} {M : List RK} {ks : Ks} (h3 : ks.map (·.2) = M) : ks.length = M.length := by rw [← h3, List.length_map]
theorem ok__law_parts {f : Addr} {fd : FuncData} (D : Df K mg "_law_parts" ["_law_pool_here"] s__law_parts f fd) (T : Tx K mg C) (c__law_draw : Ca P w K mg base 1 "_law_draw" spDraw) (c__law_some : Ca P w K mg base 2 "_law_some" (spSome K)) (c__law_step : Ca P w K mg base 3 "_law_step" (spStep K)) :
    Ca P w K mg base 4 "_law_parts" (spParts K) := by
  refine D.ca sc__law_parts (fun vs H Q E h => ?_) (fun cdv A outer s H vs Q E hr h => ?_)
  · obtain ⟨p, c, rfl, _⟩ := h
    rfl
  · obtain ⟨p, c, rfl, hP, q⟩ := h
    refine ⟨_, (pss_cons (ps_set (i := 1) sc__law_parts.nd rfl (by first | exact Or.inl rfl | exact Or.inr rfl) (pe_op op_add pe_int (pe_k c__law_draw hr (by omega) (by rfl) (pa_cons (pv 0) (pa_cons pe_int pa_nil)))))
      (pss_cons (ps_set (i := 2) sc__law_parts.nd rfl (by first | exact Or.inl rfl | exact Or.inr rfl) (pe_op op_add pe_int (pe_k c__law_some hr (by omega) (by rfl) (pa_cons (pv 0) (pa_cons (pe_lst (pa_cons pe_int (pa_cons pe_int (pa_cons pe_int (pa_cons pe_int (pa_cons pe_int (pa_cons pe_int (pa_cons pe_int pa_nil)))))))) pa_nil)))))
      (pss_cons (ps_set (i := 3) sc__law_parts.nd rfl (by first | exact Or.inl rfl | exact Or.inr rfl) (pe_lst pa_nil))
      (pss_cons (ps_for PassesOwn.never rfl (pi_range1 (by rfl) T.b.range (pa_cons (pe_k c__law_some hr (by omega) (by rfl) (pa_cons (pv 0) (pa_cons (pe_lst (pa_cons pe_int (pa_cons pe_int (pa_cons pe_int (pa_cons pe_int (pa_cons pe_int (pa_cons pe_int (pa_cons pe_int (pa_cons pe_int pa_nil))))))))) pa_nil))) pa_nil)) (pg_name (i := 4) sc__law_parts.nd rfl (by first | exact Or.inl rfl | exact Or.inr rfl)) (pss_one (ps_expr (pe_bm PySem.F.plainAttrs_list PySem.F.slot_list_append PySem.F.type_list_append mt_append (pv 3) (pa_cons (pe_tup (pa_cons (pe_k c__law_draw hr (by omega) (by rfl) (pa_cons (pv 0) (pa_cons (pv 2) pa_nil))) (pa_cons (pe_k c__law_draw hr (by omega) (by rfl) (pa_cons (pv 0) (pa_cons (pv 2) pa_nil))) (pa_cons (pe_k c__law_step hr (by omega) (by rfl) (pa_cons (pv 0) (pa_cons (pv 1) pa_nil))) pa_nil)))) pa_nil)))))
      (pss_one (ps_ret (pe_tup (pa_cons (pv 1) (pa_cons (pv 2) (pa_cons (pe_callTy call_tuple_of (by rfl) T.b.tuple boot_tuple (pa_cons (pe_callB (cr_sortSet rfl hr.units) (by rfl) T.b.sorted boot_sorted (pa_cons (pe_callTy (cr_setR rfl hr.units) (by rfl) T.b.set boot_set (pa_cons (pv 3) pa_nil)) pa_nil)) pa_nil)) pa_nil)))))))))), ?_⟩
    refine ⟨.ref p, rfl, p, c, 4, rfl, hP, by decide, by decide, fun H1 d B1 P1 d0 d1 => ⟨1, d, rfl, rfl, ?_⟩⟩
    refine ⟨.ref p, rfl, small (Nat.le_of_ble_eq_true rfl), fun l nl => ?_⟩
    have nlp := P1.np nl
    refine ⟨p, c, l, _, rfl, P1.same (same_new nl), nlp.1, nlp.2, .inl (.inl upd_same), Nat.le_of_ble_eq_true rfl, Nat.le_of_ble_eq_true rfl, fun H2 v B2 P2 hv => ?_⟩
    obtain ⟨e, rfl, e0, e7⟩ : ∃ e, v = V.int e ∧ 0 ≤ e ∧ e ≤ 7 := by
      simp only [List.mem_cons, List.not_mem_nil, or_false] at hv
      rcases hv with rfl | rfl | rfl | rfl | rfl | rfl | rfl <;> exact ⟨_, rfl, by decide, by decide⟩
    refine ⟨1, e, rfl, rfl, Nat.zero_le _, fun R nR => ?_⟩
    have B2' : But p c H H2 := (B1.trans (LB.Same.but (same_new nl))).trans B2
    have nRp := P2.np nR
    have P3 := P2.same (same_new (o := .lst []) nR)
    refine ⟨.ref p, rfl, small (Nat.le_of_ble_eq_true rfl), fun l2 nl2 => ?_⟩
    have nlp2 := P3.np nl2
    refine ⟨p, c, l2, _, rfl, P3.same (same_new nl2), nlp2.1, nlp2.2, .inl (.inl upd_same), Nat.le_of_ble_eq_true rfl, Nat.le_of_ble_eq_true rfl, fun H4 v B4 P4 hv => ?_⟩
    obtain ⟨m, rfl, m0, m24⟩ : ∃ m, v = V.int m ∧ 0 ≤ m ∧ m ≤ 24 := by
      simp only [List.mem_cons, List.not_mem_nil, or_false] at hv
      rcases hv with rfl | rfl | rfl | rfl | rfl | rfl | rfl | rfl <;> exact ⟨_, rfl, by decide, by decide⟩
    have B4' : But p c H2 H4 := (LB.Same.but ((same_new (o := .lst []) nR).trans (same_new nl2))).trans B4
    have hR4 : Bt K R [] H4 := Bt.but (P3.same (same_new nl2)) B4 nRp (Bt.same (same_new nl2) Bt.zero)
    refine ⟨m, rfl, by omega, by omega, for_range (lo := 0) (n := m.toNat) (fun i σ H' => (∃ x4, σ = [some (.ref p), some (.int (1 + d)), some (.int (1 + e)), some (.ref R), x4]) ∧ But p c H2 H' ∧ Pool H' p c ∧ ∃ M, Bt K R M H' ∧ M.length = i ∧ ∀ k ∈ M, ShR (1 + d) (1 + e) k)
      ⟨⟨_, rfl⟩, B4', P4, [], hR4, rfl, (by intro k hk; cases hk)⟩ ?_ ?_⟩
    · rintro i σ H' hi ⟨⟨x4, rfl⟩, B', P', M, hM, lM, al⟩
      have hL : ∃ xs, H' R = some (.lst xs) := ⟨_, hM.choose_spec.1⟩
      refine ⟨.ref R, rfl, .inl ⟨rfl, _, .inl (.inl hL.choose_spec)⟩, ?_⟩
      refine ⟨.ref p, rfl, .int (1 + e), rfl, p, c, 1 + e, rfl, P', by omega, by omega, fun H5 d5 B5 P5 a0 a1 => ?_⟩
      refine ⟨.ref p, rfl, .int (1 + e), rfl, p, c, 1 + e, rfl, P5, by omega, by omega, fun H6 d6 B6 P6 b0 b1 => ?_⟩
      refine ⟨.ref p, rfl, .int (1 + d), rfl, p, c, 1 + d, rfl, P6, by omega, by omega, fun H7 t ns B7 P7 hT ln ok => ?_⟩
      refine ⟨small (Nat.le_of_ble_eq_true rfl), fun z nz => ?_⟩
      have hM7 := Bt.same (same_new (o := .tup [.int d5, .int d6, .ref t]) nz) (Bt.but P6 B7 nRp (Bt.but P5 B6 nRp (Bt.but P' B5 nRp hM)))
      obtain ⟨acc, g1, g2, g3⟩ := hM7.push (k := (d5, d6, ns)) (a := z) ⟨t, T_new, T_seq (same_new nz) hT⟩ (by omega)
      refine ⟨R, acc, .ref z, rfl, rfl, g1, g2, ?_⟩
      refine ⟨⟨_, rfl⟩, But.mut ((((B'.trans B5).trans B6).trans B7).trans (LB.Same.but (same_new nz))) nR, (P7.same (same_new nz)).upd nRp, _, g3, by rw [List.length_append, lM]; rfl, fun k hk => ?_⟩
      rcases List.mem_append.mp hk with hk | hk
      · exact al k hk
      · rw [List.mem_singleton.mp hk]
        exact ⟨⟨a0, a1, b0, b1, ln, by show ns.length ≤ 4; omega⟩, ok⟩
    · rintro σ H' ⟨⟨x4, rfl⟩, B', P', M, ⟨ks, k1, k2, k3⟩, lM, al⟩
      have lk : ks.length = m.toNat := by rw [← lM, ← k3, List.length_map]
      refine ⟨.int (1 + d), rfl, .int (1 + e), rfl, .ref R, rfl, R, ks, rfl, .inl (.inl k1), k2, by omega, fun a L na sub all => ?_⟩
      have S1 : Same H' (upd H' a (SetRO w a L)) := same_new na
      refine ⟨a, L, rfl, upd_same, fun p hp => rd_same S1 (k2 p (sub p hp)), fun M2 z pm up lt nz => ?_⟩
      have S2 : Same H' _ := S1.trans (same_new (o := .lst (M2.map rf)) nz)
      refine ⟨z, _, rfl, .inl ⟨.inl (.inl upd_same), fun t nt => ?_⟩⟩
      have S3 : Same H' _ := S2.trans (same_new (o := .tup (M2.map rf)) nt)
      refine ⟨small (Nat.le_of_ble_eq_true rfl), fun u nu => ?_⟩
      have S4 : Same H' _ := S3.trans (same_new (o := .tup [.int (1 + d), .int (1 + e), .ref t]) nu)
      have as := setAsc sub all pm up
      rw [k3] at as
      refine q _ u (1 + d) (1 + e) (M2.map (·.2)) ((B2'.trans B').trans (LB.Same.but S4)) (P'.same S4) ⟨t, M2, T_new, T_seq (same_new nu) T_new, fun r hr => rd_same S4 (k2 r (sub r (pm.mem_iff.mp hr))), rfl⟩ ?_
      refine ⟨by omega, by omega, by omega, by omega, ?_, fun k hk => al k ((as.mem k).mp hk), as.up⟩
      have := nodup_le (up_nodup as.up) fun k hk => (as.mem k).mp hk
      omega
/-! ### _law_program, _law_is -/
def spProg (K : PySem.W.Frag) (C : Addr) : Sp := fun vs H Q _ => ∃ (a : Addr) (s t : Int) (L : List RK), vs = [.ref a] ∧ PtAt K H a s t L ∧ GoodP s t L ∧ ∀ H' p, Same H H' → H p = none → PgAt K C H' p s t L → Q (.ref p) H'
theorem ok__law_program {f : Addr} {fd : FuncData} (D : Df K mg "_law_program" ["_law_parts_here"] s__law_program f fd) (T : Tx K mg C) (m_Program : Ma P w K mg base 5 "Program" C (spInit K C)) : Ca P w K mg base 7 "_law_program" (spProg K C) := by
  refine D.ca sc__law_program (fun vs H Q E h => ?_) (fun cdv A outer s H vs Q E hr h => ?_)
  · obtain ⟨a, s, t, L, rfl, _⟩ := h
    rfl
  · obtain ⟨a, si, ta, L, rfl, hp, G, q⟩ := h
    obtain ⟨r, ks, h1, h2, h3, rfl⟩ := hp.ex
    refine ⟨_, (pss_one (ps_ret (pe_mkK m_Program hr (by omega) (by rfl) (pa_cons (pe_ix ix_tup (pv 0) pe_int (fun _ _ => rfl)) (pa_cons (pe_ix ix_tup (pv 0) pe_int (fun _ _ => rfl)) (pa_cons (pe_ix ix_tup (pv 0) pe_int (fun _ _ => rfl)) pa_nil)))))), ?_⟩
    refine ⟨.ref a, rfl, a, _, 0, .int si, rfl, rfl, h1, rfl, .ref a, rfl, a, _, 1, .int ta, rfl, rfl, h1, rfl, .ref a, rfl, a, _, 2, .ref r, rfl, rfl, h1, rfl, ?_⟩
    intro p dx np nd ne
    have e0 : Same H (upd (upd H dx (.own p)) p (.ins C dx [])) := (same_new nd).trans (same_new (by rw [upd_ne ne.symm]; exact np))
    refine ⟨p, dx, r, si, ta, ks, rfl, upd_same, T_seq e0 h2, fun z hz => rd_same e0 (h3 z hz), G, fun H2 e2 g2 => ⟨rfl, ?_⟩⟩
    have e3 : Same H H2 := fun b o e => e2 b o (ne_of_none e np) (e0 b o e)
    exact q H2 p e3 np ⟨dx, _, r, ks, g2, flds_s _ _ _, flds_t _ _ _, flds_r _ _ _, T_seq e3 h2, fun z hz => rd_same e3 (h3 z hz), rfl⟩
theorem it_ints : ∀ ns : List Int, ∀ d ∈ ns.map PyData.int, itD 1 d := fun ns d hd => by
  obtain ⟨i, _, rfl⟩ := List.mem_map.mp hd
  trivial
theorem it_enc {k : RK} (h : k.2.2.length ≤ 1000) : itD 3 (enc k) := by
  refine ⟨by show 3 ≤ 1000; decide, fun d hd => ?_⟩
  simp only [List.mem_cons, List.not_mem_nil, or_false] at hd
  rcases hd with rfl | rfl | rfl
  · trivial
  · trivial
  · exact ⟨by rw [List.length_map]; exact h, it_ints _⟩
def partD (s t : Int) (L : List RK) : PyData := .tuple [.int s, .int t, .tuple (L.map enc)]
theorem it_part {s t : Int} {L : List RK} (few : L.length ≤ 1000) (h : ∀ k ∈ L, k.2.2.length ≤ 1000) : itD 5 (partD s t L) := by
  refine ⟨by show 3 ≤ 1000; decide, fun d hd => ?_⟩
  simp only [List.mem_cons, List.not_mem_nil, or_false] at hd
  rcases hd with rfl | rfl | rfl
  · trivial
  · trivial
  · refine ⟨by rw [List.length_map]; exact few, fun d hd => ?_⟩
    obtain ⟨k, hk, rfl⟩ := List.mem_map.mp hd
    exact it_enc (h k hk)
def spIs (K : PySem.W.Frag) (C : Addr) : Sp := fun vs H Q _ => ∃ (p a : Addr) (s t : Int) (L : List RK), vs = [.ref p, .ref a] ∧ PgAt K C H p s t L ∧ PtAt K H a s t L ∧ Pok s t L ∧ ∀ H', Same H H' → Q (.bl true) H'
theorem ok__law_is {f : Addr} {fd : FuncData} (D : Df K mg "_law_is" ["_law_program_here", "_law_parts_here"] s__law_is f fd) (T : Tx K mg C) (c__law_same : Ca P w K mg base 7 "_law_same" (spSame K 5)) : Ca P w K mg base 8 "_law_is" (spIs K C) := by
  refine D.ca sc__law_is (fun vs H Q E h => ?_) (fun cdv A outer s H vs Q E hr h => ?_)
  · obtain ⟨p, a, s, t, L, rfl, _⟩ := h
    rfl
  · obtain ⟨p, a, si, ta, L, rfl, hp, ha, G, q⟩ := h
    obtain ⟨dx, fs, r, ks, h1, h2, h3, h4, h5, h6, rfl⟩ := hp.ex
    obtain ⟨r', ks', g1, g2, g3, g4⟩ := ha.ex
    refine ⟨_, (pss_cons (ps_if (pt_not (pt_val (pe_callB (C8.call_isC T.ins) (by rfl) T.b.isinstance boot_isinstance (pa_cons (pv 0) (pa_cons (pe_gc (by rfl) T.k_Program) pa_nil))))) (pss_one (ps_ret pe_bl)) pss_nil)
      (pss_one (ps_ret (pe_k c__law_same hr (by omega) (by rfl) (pa_cons (pe_tup (pa_cons (pe_fld (pv 0) rfl) (pa_cons (pe_fld (pv 0) rfl) (pa_cons (pe_fld (pv 0) rfl) pa_nil)))) (pa_cons (pv 1) pa_nil)))))), ?_⟩
    refine ⟨.ref p, rfl, p, dx, fs, rfl, h1, true, rfl, iteF ?_⟩
    refine ⟨.ref p, rfl, p, C, dx, fs, .int si, rfl, h1, T.cl, T.nS, h2, .ref p, rfl, p, C, dx, fs, .int ta, rfl, h1, T.cl, T.nT, h3, .ref p, rfl, p, C, dx, fs, .ref r, rfl, h1, T.cl, T.nR, h4, small (Nat.le_of_ble_eq_true rfl), fun z nz => ?_⟩
    have S1 : Same H _ := same_new (o := .tup [.int si, .int ta, .ref r]) nz
    refine ⟨.ref a, rfl, .ref z, .ref a, partD si ta (ks.map (·.2)), rfl, ?_, ?_, it_part (by have := G.few; omega) (fun k hk => by have := (G.each k hk).few; omega), q _ S1⟩
    · exact .tup T_new (.cons (.int _) (.cons (.int _) (.cons (.tup (T_seq S1 h5) (dp_rds fun y hy => rd_same S1 (h6 y hy))) .nil)))
    · rw [← g4]
      exact .tup (T_seq S1 g1) (.cons (.int _) (.cons (.int _) (.cons (.tup (T_seq S1 g2) (dp_rds fun y hy => rd_same S1 (g3 y hy))) .nil)))
end

end LW
set_option Elab.async false
set_option linter.all false
set_option maxRecDepth 100000
set_option maxHeartbeats 4000000
namespace LW
open PySem PySem.Spec PyProof.Rows L2 RS LB
section
variable {P : Program} {w : World} {K : PySem.W.Frag} {mg : Str → Option Value} {base : Heap} {C : Addr}
/-! ### rows of numbers -/
abbrev Rw := List (Addr × List Int)
def rv (q : Addr × List Int) : V := .ref q.1
def Ml (K : PySem.W.Frag) (D : Addr) (L : List (List Int)) (H : Hp) : Prop := ∃ qs : Rw, H D = some (.lst (qs.map rv)) ∧ (∀ q ∈ qs, SqT K H q.1 (q.2.map V.int)) ∧ qs.map (·.2) = L
theorem Ml.zero {D : Addr} {H : Hp} : Ml K D [] (upd H D (.lst [])) := ⟨[], upd_same, (fun q hq => by cases hq), rfl⟩
theorem Ml.same {D : Addr} {H H' : Hp} {L : List (List Int)} (e : Same H H') (h : Ml K D L H) : Ml K D L H' := by
  obtain ⟨qs, h1, h2, h3⟩ := h
  exact ⟨qs, e _ _ h1, fun q hq => T_seq e (h2 q hq), h3⟩
theorem Ml.push {D r : Addr} {H : Hp} {L : List (List Int)} {v : List Int} (h : Ml K D L H) (hr : SqT K H r (v.map V.int)) (few : L.length < 1000) : ∃ acc, H D = some (.lst acc) ∧ acc.length < sizeLine ∧ Ml K D (L ++ [v]) (upd H D (.lst (acc ++ [.ref r]))) := by
  obtain ⟨qs, h1, h2, h3⟩ := h
  refine ⟨_, h1, smallt (by rw [List.length_map, ← List.length_map (f := fun q : Addr × List Int => q.2), h3]; exact few), qs ++ [(r, v)], ?_, ?_, ?_⟩
  · rw [upd_same, List.map_append]; rfl
  · intro q hq
    rcases List.mem_append.mp hq with z | z
    · exact T_mutL h1 (h2 q z)
    · rw [List.mem_singleton.mp z]; exact T_mutL h1 hr
  · rw [List.map_append, h3]; rfl
theorem rv_at {L : Rw} {i : Nat} {x : V} (h : (L.map rv)[i]? = some x) : ∃ q, L[i]? = some q ∧ x = rv q := by
  rw [List.getElem?_map] at h
  cases e : L[i]? with
  | none => rw [e] at h; cases h
  | some q => rw [e] at h; exact ⟨q, rfl, (Option.some.inj h).symm⟩
def MtT (K : PySem.W.Frag) (H : Hp) (a : Addr) (M : List (List Int)) : Prop := ∃ qs : Rw, SqT K H a (qs.map rv) ∧ (∀ q ∈ qs, SqT K H q.1 (q.2.map V.int)) ∧ qs.map (·.2) = M
def MtL (K : PySem.W.Frag) (H : Hp) (a : Addr) (M : List (List Int)) : Prop := ∃ qs : Rw, SqL K H a (qs.map rv) ∧ (∀ q ∈ qs, SqT K H q.1 (q.2.map V.int)) ∧ qs.map (·.2) = M
theorem MtT.same {H H' : Hp} {a : Addr} {M : List (List Int)} (e : Same H H') (h : MtT K H a M) : MtT K H' a M := by
  obtain ⟨qs, h1, h2, h3⟩ := h
  exact ⟨qs, T_seq e h1, fun q hq => T_seq e (h2 q hq), h3⟩
theorem cut_from1 (q : Addr × List Int) (qs : Rw) : cutV ((q :: qs).map rv) (some 1) none = qs.map rv := by
  unfold cutV
  have e : HT.sIx ((q :: qs).map rv).length 0 (some 1) = 1 := by
    have := HT.sIx_nat ((q :: qs).map rv).length 0 1
    rw [show ((1 : Nat) : Int) = 1 from rfl] at this
    rw [this, List.length_map, List.length_cons]
    omega
  rw [e, HT.sIx_none, List.map_cons, List.drop_one, List.tail_cons]
  exact List.take_of_length_le (by simp)
theorem not_all (q : Addr × List Int) (qs : Rw) (m : Nat) : ¬ (HT.sIx ((q :: qs).map rv).length 0 (some 1) = 0 ∧ HT.sIx ((q :: qs).map rv).length ((q :: qs).map rv).length none = m) := by
  have := HT.sIx_nat ((q :: qs).map rv).length 0 1
  rw [show ((1 : Nat) : Int) = 1 from rfl] at this
  rw [this, List.length_map, List.length_cons]
  omega
theorem cut_to (v : List Int) (i : Nat) : cutV (v.map V.int) none (some (i : Int)) = (v.take i).map V.int := by
  unfold cutV
  rw [HT.sIx_nat, HT.sIx_none, Nat.sub_zero, List.drop_zero, List.map_take]
  by_cases h : i ≤ (v.map V.int).length
  · rw [Nat.min_eq_left h]
  · rw [Nat.min_eq_right (by omega), List.take_of_length_le (Nat.le_refl _), List.take_of_length_le (by omega)]
theorem cut_from (v : List Int) (i : Nat) : cutV (v.map V.int) (some ((i : Int) + 1)) none = (v.drop (i + 1)).map V.int := by
  unfold cutV
  have e : HT.sIx (v.map V.int).length 0 (some ((i : Int) + 1)) = min (i + 1) (v.map V.int).length := by
    have := HT.sIx_nat (v.map V.int).length 0 (i + 1)
    rwa [show ((i + 1 : Nat) : Int) = (i : Int) + 1 by omega] at this
  rw [e, HT.sIx_none, List.map_drop]
  by_cases h : i + 1 ≤ (v.map V.int).length
  · rw [Nat.min_eq_left h]
    exact List.take_of_length_le (by rw [List.length_drop]; omega)
  · rw [Nat.min_eq_right (by omega), Nat.sub_self, List.take_zero, List.drop_of_length_le (by omega)]
/-! ### bounds -/
def Bd (k : Nat) (x : Int) : Prop := x.natAbs ≤ 2 ^ k
theorem Bd.log {k : Nat} {x : Int} (h : Bd k x) : x.natAbs.log2 ≤ k := by
  by_cases z : x.natAbs = 0
  · rw [z]; exact Nat.zero_le _
  · have := (Nat.log2_lt z (k := k + 1)).mpr (Nat.lt_of_le_of_lt h (Nat.pow_lt_pow_right (by decide) (Nat.lt_succ_self k)))
    omega
theorem Bd.mono {j k : Nat} {x : Int} (h : Bd j x) (l : j ≤ k) : Bd k x := Nat.le_trans h (Nat.pow_le_pow_right (by decide) l)
theorem Bd.mul {j k : Nat} {x y : Int} (h : Bd j x) (g : Bd k y) : Bd (j + k) (x * y) := by
  unfold Bd at *
  rw [Int.natAbs_mul, Nat.pow_add]
  exact Nat.mul_le_mul h g
theorem Bd.add {k : Nat} {x y : Int} (h : Bd k x) (g : Bd k y) : Bd (k + 1) (x + y) := by
  unfold Bd at *
  rw [Nat.pow_succ]
  have := Int.natAbs_add_le x y
  omega
theorem Bd.neg {k : Nat} {x : Int} (h : Bd k x) : Bd k (-x) := by
  unfold Bd at *
  rwa [Int.natAbs_neg]
def BdM (k : Nat) (M : List (List Int)) : Prop := ∀ r ∈ M, ∀ x ∈ r, Bd k x
theorem go_bd {b n d : Nat} {rs : List (List Int)} (ih : ∀ i, Bd d (M3.detN n (rs.map (·.eraseIdx i)))) : ∀ (xs : List Int) (i : Nat) (s : Int), (∀ x ∈ xs, Bd b x) → s = 1 ∨ s = -1 → Bd (b + d + xs.length) (M3.detN.go n rs xs i s)
  | [], i, s, _, _ => by
    rw [M3.goNil]
    exact Nat.zero_le _
  | x :: xs, i, s, h, hs => by
    have h1 : Bd (b + d) (s * x * M3.detN n (rs.map (·.eraseIdx i))) := by
      refine Bd.mul ?_ (ih i)
      rcases hs with rfl | rfl
      · rw [Int.one_mul]; exact h x List.mem_cons_self
      · rw [Int.neg_mul, Int.one_mul]; exact (h x List.mem_cons_self).neg
    have h2 := go_bd ih xs (i + 1) (-s) (fun y hy => h y (List.mem_cons_of_mem _ hy)) (by rcases hs with rfl | rfl <;> simp)
    rw [M3.goCons]
    show Bd (b + d + (xs.length + 1)) _
    exact (h1.mono (Nat.le_add_right _ _)).add h2
theorem erase_bd {k i : Nat} {M : List (List Int)} (h : BdM k M) : BdM k (M.map (·.eraseIdx i)) := fun r hr x hx => by
  obtain ⟨q, hq, rfl⟩ := List.mem_map.mp hr
  exact h q hq x (List.mem_of_mem_eraseIdx hx)
theorem erase_sq {n i : Nat} {r : List Int} {M : List (List Int)} (h : M3.Sq (n + 1) (r :: M)) (hi : i < n + 1) : M3.Sq n (M.map (·.eraseIdx i)) := by
  have := h.len
  refine ⟨by rw [List.length_map]; simpa using this, fun q hq => ?_⟩
  obtain ⟨q', hq', rfl⟩ := List.mem_map.mp hq
  have := h.each q' (List.mem_cons_of_mem _ hq')
  rw [List.length_eraseIdx, this]
  simp [hi]
theorem det_bd {b : Nat} : ∀ (n : Nat) (M : List (List Int)), BdM b M → (∀ r ∈ M, r.length ≤ 4) → Bd (n * (b + 4)) (M3.detN n M)
  | 0, M, _, _ => by
    rw [M3.det0]
    exact Nat.one_le_two_pow
  | n + 1, [], _, _ => by
    rw [M3.detNil]
    exact Nat.one_le_two_pow
  | n + 1, r :: rs, h, l => by
    have hr := l r List.mem_cons_self
    rw [M3.detCons]
    refine Bd.mono (go_bd (b := b) (d := n * (b + 4)) (fun i => det_bd n _ (erase_bd fun q hq => h q (List.mem_cons_of_mem _ hq)) fun q hq => ?_) r 0 1 (h r List.mem_cons_self) (.inl rfl)) ?_
    · obtain ⟨q', hq', rfl⟩ := List.mem_map.mp hq
      exact Nat.le_trans (List.length_eraseIdx_le _ _) (l q' (List.mem_cons_of_mem _ hq'))
    · rw [Nat.succ_mul]; omega
/-! ### determinant -/
def spDet (K : PySem.W.Frag) (m : Nat) : Sp := fun vs H Q _ => ∃ (a : Addr) (n : Nat) (M : List (List Int)), vs = [.ref a] ∧ (MtT K H a M ∨ MtL K H a M) ∧ M3.Sq n M ∧ BdM 2000 M ∧ n < m ∧ n ≤ 4 ∧ ∀ H', Same H H' → Q (.int (M3.detN n M)) H'
theorem go_drop {n i : Nat} {rs : List (List Int)} {r : List Int} {y sg : Int} (h : r[i]? = some y) : M3.detN.go n rs (r.drop i) i sg = sg * y * M3.detN n (rs.map (·.eraseIdx i)) + M3.detN.go n rs (r.drop (i + 1)) (i + 1) (-sg) := by
  obtain ⟨l, e⟩ := List.getElem?_eq_some_iff.mp h
  rw [List.drop_eq_getElem_cons l, e, M3.goCons]
theorem ok_determinant {f : Addr} {fd : FuncData} (D : Df K mg "determinant" ["rows"] s_determinant f fd) (T : Tx K mg C) : ∀ m, Ca P w K mg base (m + 1) "determinant" (spDet K m)
  | 0 => D.ca sc_determinant (fun vs H Q E h => by obtain ⟨a, n, M, rfl, _⟩ := h; rfl) (fun cdv A outer s H vs Q E hr h => by
      obtain ⟨a, n, M, _, _, _, _, z, _⟩ := h
      exact absurd z (Nat.not_lt_zero _))
  | m + 1 => by
    have c_determinant := ok_determinant D T m
    refine D.ca sc_determinant (fun vs H Q E h => ?_) (fun cdv A outer s H vs Q E hr h => ?_)
    · obtain ⟨a, n, M, rfl, _⟩ := h
      rfl
    obtain ⟨a, n, M, rfl, hM, sq, bd, nm, n4, q⟩ := h
    rcases hM with hM | hM
    · obtain ⟨qs, h1, h2, rfl⟩ := hM

      refine ⟨_, (pss_cons (ps_if (pt_cmpR op_eq (pe_callB call_len_seq (by rfl) T.b.len boot_len (pa_cons (pv 0) pa_nil)) pe_int (nomark _)) (pss_one (ps_ret pe_int)) pss_nil)
      (pss_cons (ps_set (i := 1) sc_determinant.nd rfl (by first | exact Or.inl rfl | exact Or.inr rfl) pe_int)
      (pss_cons (ps_set (i := 2) sc_determinant.nd rfl (by first | exact Or.inl rfl | exact Or.inr rfl) pe_int)
      (pss_cons (ps_for PassesOwn.never rfl (pi_enumT (by rfl) T.b.enumerate (pa_cons (pe_ix ix_tup (pv 0) pe_int (fun _ _ => rfl)) pa_nil)) (pg_tup (by rfl) (pgs_cons (pg_name (i := 3) sc_determinant.nd rfl (by first | exact Or.inl rfl | exact Or.inr rfl)) (pgs_cons (pg_name (i := 4) sc_determinant.nd rfl (by first | exact Or.inl rfl | exact Or.inr rfl)) pgs_nil))) (pss_cons (ps_setLc (i := 5) (own := [("row", 6)]) (by rfl) sc_determinant.nd rfl rfl (sw_true rfl rfl rfl (by decide +kernel)) (pi_tup (pe_slice sl_tup (pv 0) (po_some pe_int) po_none)) (blkOk_by (N := ["rows", "total", "sign", "k", "first", "rest", "row"]) (sc := defScope s_determinant) (by decide +kernel)) (fun _ _ _ _ _ => pg_name (i := 6) sc_determinant.nd rfl (by first | exact Or.inl rfl | exact Or.inr rfl)) (fun _ _ _ _ _ => pts_nil) (fun _ _ _ _ _ => (pe_op (op_catS' K) (pe_slice (sl_tup' K) (pv 6) po_none (po_some (pv 3))) (pe_slice (sl_tup' K) (pv 6) (po_some (pe_op op_add (pv 3) pe_int)) po_none))))
      (pss_cons (ps_set (i := 1) sc_determinant.nd rfl (by first | exact Or.inl rfl | exact Or.inr rfl) (pe_op op_add (pv 1) (pe_op op_mulW (pe_op op_mul (pv 2) (pv 4)) (pe_k c_determinant hr (by omega) (by rfl) (pa_cons (pv 5) pa_nil)))))
      (pss_one (ps_set (i := 2) sc_determinant.nd rfl (by first | exact Or.inl rfl | exact Or.inr rfl) (pe_un un_neg (pv 2)))))))
      (pss_one (ps_ret (pv 1))))))), ?_⟩
      have lq : qs.length = n := by rw [← sq.len, List.length_map]
      cases n with
      | zero =>
        have : qs = [] := List.eq_nil_of_length_eq_zero lq
        subst this
        have q0 := q H (Same.refl _)
        rw [M3.det0] at q0
        exact ⟨.ref a, rfl, a, _, rfl, .inr h1, rfl, true, rfl, iteT q0⟩
      | succ n =>
        obtain ⟨⟨ra, r⟩, qs, rfl⟩ : ∃ q qs', qs = q :: qs' := by
          cases qs with
          | nil => cases lq
          | cons q qs => exact ⟨_, _, rfl⟩
        have lr : r.length = n + 1 := sq.each r (by simp)
        have hr0 := h2 (ra, r) List.mem_cons_self
        refine ⟨.ref a, rfl, a, _, rfl, .inr h1, rfl, false, congrArg V.bl (decide_eq_false (by rw [List.length_map, List.length_cons]; intro h; injection h with h; omega)), iteF ?_⟩
        refine ⟨.ref a, rfl, a, _, 0, .ref ra, rfl, rfl, h1, atI_nat (j := 0) rfl, ra, _, rfl, hr0, for_enumT (K := K) (a := ra) (xs := r.map V.int) (fun i σ H' => ∃ tot sg x3 x4 x5, σ = [some (.ref a), some (.int tot), some (.int sg), x3, x4, x5, none] ∧ Same H H' ∧ (sg = 1 ∨ sg = -1) ∧ tot + M3.detN.go n (qs.map (·.2)) (r.drop i) i sg = M3.detN (n + 1) (r :: qs.map (·.2)))
          ⟨0, 1, none, none, none, rfl, Same.refl _, .inl rfl, by rw [Int.zero_add, M3.detCons]; rfl⟩ (fun i σ H' ⟨_, _, _, _, _, _, e, _⟩ => T_seq e hr0) ?_ ?_⟩
        · rintro i x T0 σ H' hx ⟨tot, sg, x3, x4, x5, rfl, e, hs, inv⟩ nT
          obtain ⟨y, hy, rfl⟩ := int_at hx
          have il : i < r.length := (List.getElem?_eq_some_iff.mp hy).1
          have e2 : Same H (upd H' T0 (.tup [.int (i : Nat), .int y])) := e.trans (same_new nT)
          refine ⟨T0, [.int (i : Nat), .int y], rfl, T_new, rfl, .int (i : Nat), [.int y], rfl, .int y, [], rfl, rfl, ?_⟩
          refine ⟨.ref a, rfl, 1, rfl, a, _, rfl, T_seq e2 h1, not_all _ _ _, fun p1 n1 => ?_⟩
          rw [cut_from1]
          have e3 := e2.trans (same_new (o := .tup (qs.map rv)) n1)
          refine ⟨p1, rfl, ⟨_, .inl (.inl upd_same)⟩, fun D0 nD => lc_tup (K := K) (a := p1) (xs := qs.map rv) (fun j H2 => Same H H2 ∧ H2 p1 = some (.tup (qs.map rv)) ∧ Ml K D0 (((qs.map (·.2)).take j).map (·.eraseIdx i)) H2) ⟨e3.trans (same_new nD), same_new nD _ _ upd_same, Ml.zero⟩
            (fun j H2 _ z => .inl (.inl z.2.1)) (fun j x H2 hx z => ?_) (fun H2 z => ?_)⟩
          · obtain ⟨k, hk, rfl⟩ := rv_at hx
            obtain ⟨z1, z2, z3⟩ := z
            have km := List.mem_of_getElem? hk
            have lk : k.2.length = n + 1 := sq.each _ (List.mem_cons_of_mem _ (List.mem_map_of_mem km))
            have hk2 := T_seq z1 (h2 k (List.mem_cons_of_mem _ km))
            refine ⟨rfl, rv k, rfl, .int (i : Nat), rfl, (i : Int), rfl, k.1, _, rfl, hk2, ?_, fun p2 n2 => ?_⟩
            · rw [HT.sIx_none, HT.sIx_nat, List.length_map]
              omega
            rw [cut_to]
            have e4 := same_new (o := .tup ((k.2.take i).map V.int)) n2
            refine ⟨rv k, rfl, .int (i : Nat), rfl, (i : Int), 1, rfl, rfl, (i : Int) + 1, rfl, k.1, _, rfl, T_seq e4 hk2, ?_, fun p3 n3 => ?_⟩
            · rw [HT.sIx_none, show ((i : Int) + 1) = ((i + 1 : Nat) : Int) by omega, HT.sIx_nat, List.length_map]
              omega
            rw [cut_from]
            have e5 := e4.trans (same_new (o := .tup ((k.2.drop (i + 1)).map V.int)) n3)
            refine ⟨p2, p3, _, _, rfl, rfl, T_seq (same_new n3) T_new, T_new, small (by rw [List.length_map, List.length_map, List.length_take, List.length_drop]; omega), fun H3 r3 e6 h6 => ?_⟩
            have e7 := e5.trans e6
            rw [← List.map_append, ← List.eraseIdx_eq_take_drop_succ] at h6
            have hk3 : (qs.map (·.2))[j]? = some k.2 := by rw [List.getElem?_map, hk]; rfl
            obtain ⟨acc, b1, b2, b3⟩ := (z3.same e7).push h6 (by rw [List.length_map, List.length_take]; have := sq.len; simp only [List.length_map, List.length_cons] at this ⊢; omega)
            rw [take_map_succ (g := fun q : List Int => q.eraseIdx i) hk3] at b3
            exact ⟨acc, b1, b2, same_mut (z1.trans e7) (e3.none nD), by rw [upd_ne (fun h => by rw [h, upd_same] at nD; cases nD)]; exact e7 _ _ z2, b3⟩
          · obtain ⟨z1, z2, z3⟩ := z
            rw [List.take_of_length_le (by simp)] at z3
            obtain ⟨gs, g1, g2, g3⟩ := z3
            have sq' : M3.Sq n ((qs.map (·.2)).map (·.eraseIdx i)) := erase_sq sq (by omega)
            have bd' : BdM 2000 ((qs.map (·.2)).map (·.eraseIdx i)) := erase_bd fun q hq => bd q (List.mem_cons_of_mem _ hq)
            have dB := det_bd n _ bd' fun q hq => by have := sq'.each q hq; omega
            have yB : Bd 2000 (sg * y) := by
              have := bd r List.mem_cons_self y (List.mem_of_getElem? hy)
              rcases hs with rfl | rfl
              · rw [Int.one_mul]; exact this
              · rw [Int.neg_mul, Int.one_mul]; exact this.neg
            refine ⟨.int tot, rfl, .int sg, rfl, .int y, rfl, sg, y, rfl, rfl, .inl (by rcases hs with rfl | rfl <;> decide), .ref D0, rfl, D0, n, _, rfl, .inr ⟨gs, .inl (.inl g1), g2, g3⟩, sq', bd', by omega, by omega, fun H3 e6 => ?_⟩
            refine ⟨sg * y, _, rfl, rfl, ?_, tot, _, rfl, rfl, ?_⟩
            · show _ + _ < 1000000
              have h1 := yB.log
              have h2 := dB.log
              have : n * (2000 + 4) ≤ 4 * 2004 := Nat.mul_le_mul (by omega) (Nat.le_refl _)
              omega
            refine ⟨.int sg, rfl, sg, rfl, ?_⟩
            refine ⟨_, _, _, _, _, rfl, z1.trans e6, by rcases hs with rfl | rfl <;> simp, ?_⟩
            rw [← inv, go_drop hy]
            omega
        · rintro σ H' ⟨tot, sg, x3, x4, x5, rfl, e, hs, inv⟩
          rw [List.length_map, List.drop_length, M3.goNil, Int.add_zero] at inv
          refine ⟨.int tot, rfl, ?_⟩
          rw [inv]
          exact q _ e

    · obtain ⟨qs, h1, h2, rfl⟩ := hM

      refine ⟨_, (pss_cons (ps_if (pt_cmpR op_eq (pe_callB call_len_seq (by rfl) T.b.len boot_len (pa_cons (pv 0) pa_nil)) pe_int (nomark _)) (pss_one (ps_ret pe_int)) pss_nil)
      (pss_cons (ps_set (i := 1) sc_determinant.nd rfl (by first | exact Or.inl rfl | exact Or.inr rfl) pe_int)
      (pss_cons (ps_set (i := 2) sc_determinant.nd rfl (by first | exact Or.inl rfl | exact Or.inr rfl) pe_int)
      (pss_cons (ps_for PassesOwn.never rfl (pi_enumT (by rfl) T.b.enumerate (pa_cons (pe_ix ix_list (pv 0) pe_int (fun _ _ => rfl)) pa_nil)) (pg_tup (by rfl) (pgs_cons (pg_name (i := 3) sc_determinant.nd rfl (by first | exact Or.inl rfl | exact Or.inr rfl)) (pgs_cons (pg_name (i := 4) sc_determinant.nd rfl (by first | exact Or.inl rfl | exact Or.inr rfl)) pgs_nil))) (pss_cons (ps_setLc (i := 5) (own := [("row", 6)]) (by rfl) sc_determinant.nd rfl rfl (sw_true rfl rfl rfl (by decide +kernel)) (pi_list (pe_slice sl_list (pv 0) (po_some pe_int) po_none)) (blkOk_by (N := ["rows", "total", "sign", "k", "first", "rest", "row"]) (sc := defScope s_determinant) (by decide +kernel)) (fun _ _ _ _ _ => pg_name (i := 6) sc_determinant.nd rfl (by first | exact Or.inl rfl | exact Or.inr rfl)) (fun _ _ _ _ _ => pts_nil) (fun _ _ _ _ _ => (pe_op (op_catS' K) (pe_slice (sl_tup' K) (pv 6) po_none (po_some (pv 3))) (pe_slice (sl_tup' K) (pv 6) (po_some (pe_op op_add (pv 3) pe_int)) po_none))))
      (pss_cons (ps_set (i := 1) sc_determinant.nd rfl (by first | exact Or.inl rfl | exact Or.inr rfl) (pe_op op_add (pv 1) (pe_op op_mulW (pe_op op_mul (pv 2) (pv 4)) (pe_k c_determinant hr (by omega) (by rfl) (pa_cons (pv 5) pa_nil)))))
      (pss_one (ps_set (i := 2) sc_determinant.nd rfl (by first | exact Or.inl rfl | exact Or.inr rfl) (pe_un un_neg (pv 2)))))))
      (pss_one (ps_ret (pv 1))))))), ?_⟩
      have lq : qs.length = n := by rw [← sq.len, List.length_map]
      cases n with
      | zero =>
        have : qs = [] := List.eq_nil_of_length_eq_zero lq
        subst this
        have q0 := q H (Same.refl _)
        rw [M3.det0] at q0
        exact ⟨.ref a, rfl, a, _, rfl, .inl h1, rfl, true, rfl, iteT q0⟩
      | succ n =>
        obtain ⟨⟨ra, r⟩, qs, rfl⟩ : ∃ q qs', qs = q :: qs' := by
          cases qs with
          | nil => cases lq
          | cons q qs => exact ⟨_, _, rfl⟩
        have lr : r.length = n + 1 := sq.each r (by simp)
        have hr0 := h2 (ra, r) List.mem_cons_self
        refine ⟨.ref a, rfl, a, _, rfl, .inl h1, rfl, false, congrArg V.bl (decide_eq_false (by rw [List.length_map, List.length_cons]; intro h; injection h with h; omega)), iteF ?_⟩
        refine ⟨.ref a, rfl, a, _, 0, .ref ra, rfl, rfl, h1, atI_nat (j := 0) rfl, ra, _, rfl, hr0, for_enumT (K := K) (a := ra) (xs := r.map V.int) (fun i σ H' => ∃ tot sg x3 x4 x5, σ = [some (.ref a), some (.int tot), some (.int sg), x3, x4, x5, none] ∧ Same H H' ∧ (sg = 1 ∨ sg = -1) ∧ tot + M3.detN.go n (qs.map (·.2)) (r.drop i) i sg = M3.detN (n + 1) (r :: qs.map (·.2)))
          ⟨0, 1, none, none, none, rfl, Same.refl _, .inl rfl, by rw [Int.zero_add, M3.detCons]; rfl⟩ (fun i σ H' ⟨_, _, _, _, _, _, e, _⟩ => T_seq e hr0) ?_ ?_⟩
        · rintro i x T0 σ H' hx ⟨tot, sg, x3, x4, x5, rfl, e, hs, inv⟩ nT
          obtain ⟨y, hy, rfl⟩ := int_at hx
          have il : i < r.length := (List.getElem?_eq_some_iff.mp hy).1
          have e2 : Same H (upd H' T0 (.tup [.int (i : Nat), .int y])) := e.trans (same_new nT)
          refine ⟨T0, [.int (i : Nat), .int y], rfl, T_new, rfl, .int (i : Nat), [.int y], rfl, .int y, [], rfl, rfl, ?_⟩
          refine ⟨.ref a, rfl, 1, rfl, a, _, rfl, L_seq e2 h1, fun p1 n1 => ?_⟩
          rw [cut_from1]
          have e3 := e2.trans (same_new (o := .lst (qs.map rv)) n1)
          refine ⟨p1, rfl, ⟨_, .inl (.inl upd_same)⟩, fun D0 nD => lc_list (K := K) (a := p1) (xs := qs.map rv) (fun j H2 => Same H H2 ∧ H2 p1 = some (.lst (qs.map rv)) ∧ Ml K D0 (((qs.map (·.2)).take j).map (·.eraseIdx i)) H2) ⟨e3.trans (same_new nD), same_new nD _ _ upd_same, Ml.zero⟩
            (fun j H2 _ z => .inl (.inl z.2.1)) (fun j x H2 hx z => ?_) (fun H2 z => ?_)⟩
          · obtain ⟨k, hk, rfl⟩ := rv_at hx
            obtain ⟨z1, z2, z3⟩ := z
            have km := List.mem_of_getElem? hk
            have lk : k.2.length = n + 1 := sq.each _ (List.mem_cons_of_mem _ (List.mem_map_of_mem km))
            have hk2 := T_seq z1 (h2 k (List.mem_cons_of_mem _ km))
            refine ⟨rfl, rv k, rfl, .int (i : Nat), rfl, (i : Int), rfl, k.1, _, rfl, hk2, ?_, fun p2 n2 => ?_⟩
            · rw [HT.sIx_none, HT.sIx_nat, List.length_map]
              omega
            rw [cut_to]
            have e4 := same_new (o := .tup ((k.2.take i).map V.int)) n2
            refine ⟨rv k, rfl, .int (i : Nat), rfl, (i : Int), 1, rfl, rfl, (i : Int) + 1, rfl, k.1, _, rfl, T_seq e4 hk2, ?_, fun p3 n3 => ?_⟩
            · rw [HT.sIx_none, show ((i : Int) + 1) = ((i + 1 : Nat) : Int) by omega, HT.sIx_nat, List.length_map]
              omega
            rw [cut_from]
            have e5 := e4.trans (same_new (o := .tup ((k.2.drop (i + 1)).map V.int)) n3)
            refine ⟨p2, p3, _, _, rfl, rfl, T_seq (same_new n3) T_new, T_new, small (by rw [List.length_map, List.length_map, List.length_take, List.length_drop]; omega), fun H3 r3 e6 h6 => ?_⟩
            have e7 := e5.trans e6
            rw [← List.map_append, ← List.eraseIdx_eq_take_drop_succ] at h6
            have hk3 : (qs.map (·.2))[j]? = some k.2 := by rw [List.getElem?_map, hk]; rfl
            obtain ⟨acc, b1, b2, b3⟩ := (z3.same e7).push h6 (by rw [List.length_map, List.length_take]; have := sq.len; simp only [List.length_map, List.length_cons] at this ⊢; omega)
            rw [take_map_succ (g := fun q : List Int => q.eraseIdx i) hk3] at b3
            exact ⟨acc, b1, b2, same_mut (z1.trans e7) (e3.none nD), by rw [upd_ne (fun h => by rw [h, upd_same] at nD; cases nD)]; exact e7 _ _ z2, b3⟩
          · obtain ⟨z1, z2, z3⟩ := z
            rw [List.take_of_length_le (by simp)] at z3
            obtain ⟨gs, g1, g2, g3⟩ := z3
            have sq' : M3.Sq n ((qs.map (·.2)).map (·.eraseIdx i)) := erase_sq sq (by omega)
            have bd' : BdM 2000 ((qs.map (·.2)).map (·.eraseIdx i)) := erase_bd fun q hq => bd q (List.mem_cons_of_mem _ hq)
            have dB := det_bd n _ bd' fun q hq => by have := sq'.each q hq; omega
            have yB : Bd 2000 (sg * y) := by
              have := bd r List.mem_cons_self y (List.mem_of_getElem? hy)
              rcases hs with rfl | rfl
              · rw [Int.one_mul]; exact this
              · rw [Int.neg_mul, Int.one_mul]; exact this.neg
            refine ⟨.int tot, rfl, .int sg, rfl, .int y, rfl, sg, y, rfl, rfl, .inl (by rcases hs with rfl | rfl <;> decide), .ref D0, rfl, D0, n, _, rfl, .inr ⟨gs, .inl (.inl g1), g2, g3⟩, sq', bd', by omega, by omega, fun H3 e6 => ?_⟩
            refine ⟨sg * y, _, rfl, rfl, ?_, tot, _, rfl, rfl, ?_⟩
            · show _ + _ < 1000000
              have h1 := yB.log
              have h2 := dB.log
              have : n * (2000 + 4) ≤ 4 * 2004 := Nat.mul_le_mul (by omega) (Nat.le_refl _)
              omega
            refine ⟨.int sg, rfl, sg, rfl, ?_⟩
            refine ⟨_, _, _, _, _, rfl, z1.trans e6, by rcases hs with rfl | rfl <;> simp, ?_⟩
            rw [← inv, go_drop hy]
            omega
        · rintro σ H' ⟨tot, sg, x3, x4, x5, rfl, e, hs, inv⟩
          rw [List.length_map, List.drop_length, M3.goNil, Int.add_zero] at inv
          refine ⟨.int tot, rfl, ?_⟩
          rw [inv]
          exact q _ e

end

end LW
set_option Elab.async false
set_option linter.all false
set_option maxRecDepth 100000
set_option maxHeartbeats 4000000
namespace LW
open PySem PySem.Spec PyProof.Rows L2 RS LB
section
variable {P : Program} {w : World} {K : PySem.W.Frag} {mg : Str → Option Value} {base : Heap} {C : Addr}
theorem at_nat {ns : List Int} {i : Nat} (h : i < ns.length) : atI (ns.map V.int) (0 + (i : Nat)) = some (.int (ns.getD i 0)) := by
  rw [Int.zero_add]
  refine atI_nat ?_
  rw [List.getElem?_map, List.getElem?_eq_getElem h, List.getD_eq_getElem?_getD, List.getElem?_eq_getElem h]
  rfl
/-! ### is_matrix -/
structure Uni (n : Nat) (s : Int) (M : List (List Int)) : Prop where
  sq : M3.Sq n M
  ns : (n : Int) = s
  n1 : 1 ≤ n
  n4 : n ≤ 4
  bd : BdM 2000 M
  det : M3.detN n M = 1 ∨ M3.detN n M = -1
def spMx (K : PySem.W.Frag) : Sp := fun vs H Q _ => ∃ (s : Int) (a : Addr) (n : Nat) (M : List (List Int)), vs = [.int s, .ref a] ∧ MtT K H a M ∧ Uni n s M ∧ ∀ H', Same H H' → Q (.bl true) H'
theorem ok_is_matrix {f : Addr} {fd : FuncData} (D : Df K mg "is_matrix" ["sides", "thing"] s_is_matrix f fd) (T : Tx K mg C) (c_is_row_of_ints : Ca P w K mg base 2 "is_row_of_ints" (spRow K)) (c_determinant : Ca P w K mg base 6 "determinant" (spDet K 5)) :
    Ca P w K mg base 7 "is_matrix" (spMx K) := by
  refine D.ca sc_is_matrix (fun vs H Q E h => ?_) (fun cdv A outer s H vs Q E hr h => ?_)
  · obtain ⟨s, a, n, M, rfl, _⟩ := h
    rfl
  · obtain ⟨si, a, n, M, rfl, ⟨qs, h1, h2, rfl⟩, U, q⟩ := h
    have lq : qs.length = n := by rw [← U.sq.len, List.length_map]
    refine ⟨_, (pss_cons (ps_if (PW.pt (pw_or (pt_not (pt_val (pe_callB call_isi (by rfl) T.b.isinstance boot_isinstance (pa_cons (pv 1) (pa_cons (pe_bltn (v := .ty "tuple") (by rfl) T.b.tuple boot_tuple rfl) pa_nil))))) (pw_or1 (pt_cmpR op_ne (pe_callB call_len_seq (by rfl) T.b.len boot_len (pa_cons (pv 1) pa_nil)) (pv 0) (nomark _))))) (pss_one (ps_ret pe_bl)) pss_nil)
      (pss_one (ps_ret (pe_and (pe_callB (cr_all rfl) (by rfl) T.b.all boot_all (pa_cons (pe_lc (own := [("row", 2)]) (by rfl) sc_is_matrix.nd (pi_tup (pv 1)) (blkOk_by (N := ["sides", "thing", "row"]) (sc := defScope s_is_matrix) (by decide +kernel)) (fun _ _ _ _ _ => pg_name (i := 2) sc_is_matrix.nd rfl (by first | exact Or.inl rfl | exact Or.inr rfl)) (fun _ _ _ _ _ => pts_nil) (fun _ _ _ _ _ => (pe_k c_is_row_of_ints hr (by omega) (by rfl) (pa_cons (pv 2) (pa_cons (pv 0) pa_nil))))) pa_nil)) (pe_one (pe_cmpR op_in_seq (pe_k c_determinant hr (by omega) (by rfl) (pa_cons (pv 1) pa_nil)) (pe_tup (pa_cons pe_int (pa_cons (pe_un un_neg pe_int) pa_nil))) (by rfl))))))), ?_⟩
    refine ⟨.ref a, rfl, .ref a, .ty "tuple", _, _, true, rfl, .ty _, ty_t h1, k_tt, true, rfl, iteF ?_⟩
    refine ⟨.ref a, rfl, a, _, rfl, .inr h1, .int si, rfl, rfl, false, ?_, iteF ?_⟩
    · rw [decide_eq_true (show V.int (((qs.map rv).length : Nat) : Int) = V.int si by rw [List.length_map, lq, U.ns])]
      rfl
    refine ⟨.ref a, rfl, a, rfl, ⟨_, h1⟩, fun D0 nD => lc_tup (K := K) (a := a) (xs := qs.map rv) (fun i H' => Same H H' ∧ H' D0 = some (.lst ((List.replicate i true).map V.bl))) ⟨same_new nD, upd_same⟩
      (fun i H' _ p => T_seq p.1 h1) (fun i x H' hx p => ?_) (fun H' p => ?_)⟩
    · obtain ⟨k, hk, rfl⟩ := rv_at hx
      have km := List.mem_of_getElem? hk
      have lk : k.2.length = n := U.sq.each _ (List.mem_map_of_mem km)
      have il : i < qs.length := (List.getElem?_eq_some_iff.mp hk).1
      refine ⟨rfl, rv k, rfl, .int si, rfl, k.1, k.2, si, rfl, T_seq p.1 (h2 k km), by have := U.n4; omega, fun H2 e2 => ?_⟩
      rw [decide_eq_true (show ((k.2.length : Nat) : Int) = si by rw [lk, U.ns])]
      refine ⟨_, e2 _ _ p.2, ?_, same_mut (p.1.trans e2) nD, ?_⟩
      · rw [List.length_map, List.length_replicate]
        exact smallt (by have := U.n4; omega)
      · rw [upd_same, List.replicate_succ', List.map_append]
        rfl
    · refine ⟨D0, _, rfl, .inl (.inl p.2), ?_⟩
      have e2 : (List.replicate (qs.map rv).length true).all id = true := by simp
      rw [e2]
      refine ⟨true, rfl, iteT ⟨.ref a, rfl, a, n, _, rfl, .inl ⟨qs, T_seq p.1 h1, fun q hq => T_seq p.1 (h2 q hq), rfl⟩, U.sq, U.bd, by have := U.n4; omega, U.n4, fun H2 e2 => ?_⟩⟩
      refine ⟨1, rfl, small (Nat.le_of_ble_eq_true rfl), fun t nt => ⟨t, _, rfl, .inr T_new, rfl, rfl, ?_⟩⟩
      have := q _ ((p.1.trans e2).trans (same_new (o := .tup [.int 1, .int (-1)]) nt))
      rcases U.det with z | z <;> rw [z] <;> exact this
/-! ### times_step -/
def spTs (K : PySem.W.Frag) : Sp := fun vs H Q _ => ∃ (m v : Addr) (n : Nat) (M : List (List Int)) (xs : List Int), vs = [.ref m, .ref v] ∧ MtT K H m M ∧ SqT K H v (xs.map V.int) ∧ M3.Sq n M ∧ n ≤ 4 ∧ xs.length = n ∧ BdM 2000 M ∧ (∀ x ∈ xs, Bd 2000 x) ∧
  ∀ H' t, Same H H' → SqT K H' t ((M3.led M xs).map V.int) → Q (.ref t) H'
theorem Bd.getD {k : Nat} {xs : List Int} (h : ∀ x ∈ xs, Bd k x) (i : Nat) : Bd k (xs.getD i 0) := by
  rw [List.getD_eq_getElem?_getD]
  cases e : xs[i]? with
  | none => exact Nat.zero_le _
  | some y => exact h y (List.mem_of_getElem? e)
theorem mulW {k : Nat} {x y : Int} (h : Bd k x) (g : Bd k y) (l : k ≤ 400000) : CMulW x y := by
  show _ + _ < 1000000
  have := h.log
  have := g.log
  omega
theorem ok_times_step {f : Addr} {fd : FuncData} (D : Df K mg "times_step" ["matrix", "step"] s_times_step f fd) (T : Tx K mg C) : Ca P w K mg base 1 "times_step" (spTs K) := by
  refine D.ca sc_times_step (fun vs H Q E h => ?_) (fun cdv A outer s H vs Q E hr h => ?_)
  · obtain ⟨m, v, n, M, xs, rfl, _⟩ := h
    rfl
  · obtain ⟨m, v, n, M, xs, rfl, ⟨qs, h1, h2, rfl⟩, hv, sq, n4, lx, bd, bx, q⟩ := h
    have lq : qs.length = n := by rw [← sq.len, List.length_map]
    refine ⟨_, (pss_one (ps_ret (pe_callTy call_tuple_of (by rfl) T.b.tuple boot_tuple (pa_cons (pe_lc (own := [("row", 3)]) (by rfl) sc_times_step.nd (pi_tup (pv 0)) (blkOk_by (N := ["matrix", "step", "k", "row"]) (sc := defScope s_times_step) (by decide +kernel)) (fun _ _ _ _ _ => pg_name (i := 3) sc_times_step.nd rfl (by first | exact Or.inl rfl | exact Or.inr rfl)) (fun _ _ _ _ _ => pts_nil) (fun _ _ _ _ _ => (pe_callB (cr_sum' K rfl) (by rfl) T.b.sum boot_sum (pa_cons (pe_lc (own := [("k", 2)]) (by rfl) sc_times_step.nd (pi_range1 (by rfl) T.b.range (pa_cons (pe_callB (call_len_seq' K) (by rfl) T.b.len boot_len (pa_cons (pv 1) pa_nil)) pa_nil)) (blkOk_in (N := ["matrix", "step", "k", "row"]) (by decide +kernel)) (fun _ _ _ _ _ => pg_name (i := 2) sc_times_step.nd rfl (by first | exact Or.inl rfl | exact Or.inr rfl)) (fun _ _ _ _ _ => pts_nil) (fun _ _ _ _ _ => (pe_op op_mulW (pe_ix (ix_tup' K) (pv 3) (pv 2) (fun _ _ => rfl)) (pe_ix (ix_tup' K) (pv 1) (pv 2) (fun _ _ => rfl))))) pa_nil)))) pa_nil)))), ?_⟩
    refine ⟨.ref m, rfl, m, rfl, ⟨_, h1⟩, fun D0 nD => lc_tup (K := K) (a := m) (xs := qs.map rv) (fun i H' => Same H H' ∧ H' D0 = some (.lst ((((qs.map (·.2)).take i).map fun r => M3.dot r xs).map V.int))) ⟨same_new nD, upd_same⟩
      (fun i H' _ p => T_seq p.1 h1) (fun i x H' hx p => ?_) (fun H' p => ?_)⟩
    · obtain ⟨k, hk, rfl⟩ := rv_at hx
      have km := List.mem_of_getElem? hk
      have hk3 : (qs.map (·.2))[i]? = some k.2 := by rw [List.getElem?_map, hk]; rfl
      have lk : k.2.length = n := sq.each _ (List.mem_map_of_mem km)
      have il : i < qs.length := (List.getElem?_eq_some_iff.mp hk).1
      refine ⟨rfl, .ref v, rfl, v, _, rfl, .inr (T_seq p.1 hv), _, rfl, by rw [List.length_map]; omega, by rw [List.length_map]; omega, fun D1 nD1 => lc_range (lo := 0) (n := (((xs.map V.int).length : Nat) : Int).toNat) (fun j H2 => Same H' H2 ∧ H2 D1 = some (.lst (((List.range j).map fun p => k.2.getD p 0 * xs.getD p 0).map V.int))) ⟨same_new nD1, upd_same⟩ (fun j H2 hj z => ?_) (fun H2 z => ?_)⟩
      · have jl : j < xs.length := by rw [Int.toNat_natCast, List.length_map] at hj; exact hj
        refine ⟨rfl, rv k, rfl, .int (0 + (j : Nat)), rfl, k.1, _, _, .int (k.2.getD j 0), rfl, rfl, T_seq (p.1.trans z.1) (h2 k km), at_nat (by omega), ?_⟩
        refine ⟨.ref v, rfl, .int (0 + (j : Nat)), rfl, v, _, _, .int (xs.getD j 0), rfl, rfl, T_seq (p.1.trans z.1) hv, at_nat jl, _, _, rfl, rfl, mulW (Bd.getD (bd k.2 (List.mem_map_of_mem km)) j) (Bd.getD bx j) (by decide), _, z.2, ?_, same_mut z.1 nD1, ?_⟩
        · rw [List.length_map, List.length_map, List.length_range]
          exact smallt (by omega)
        · rw [upd_same, List.range_succ, List.map_append, List.map_append]
          rfl
      · rw [Int.toNat_natCast, List.length_map] at z
        refine ⟨D1, _, rfl, .inl (.inl z.2), ?_⟩
        refine ⟨_, z.1 _ _ p.2, ?_, same_mut (p.1.trans z.1) nD, ?_⟩
        · rw [List.length_map, List.length_map, List.length_take]
          exact smallt (by omega)
        · rw [upd_same, ← take_map_succ (g := fun r : List Int => M3.dot r xs) hk3, List.map_append]
          rfl
    · obtain ⟨e, hD⟩ := p
      rw [List.take_of_length_le (by simp)] at hD
      exact ⟨D0, _, rfl, .inl ⟨.inl (.inl hD), fun t nt => q _ t (e.trans (same_new nt)) T_new⟩⟩
end

end LW
set_option Elab.async false
set_option linter.all false
set_option maxRecDepth 100000
set_option maxHeartbeats 4000000
namespace LW
open PySem PySem.Spec PyProof.Rows L2 RS LB
section
variable {P : Program} {w : World} {K : PySem.W.Frag} {mg : Str → Option Value} {base : Heap} {C : Addr}
/-! ### turned, stretched -/
def tur (M : List (List Int)) (k : RK) : RK := (k.1, k.2.1, M3.led M k.2.2)
def spTur (K : PySem.W.Frag) (C : Addr) : Sp := fun vs H Q _ => ∃ (p m : Addr) (s t : Int) (L : List RK) (n : Nat) (M : List (List Int)), vs = [.ref p, .ref m] ∧ PgAt K C H p s t L ∧ Pok s t L ∧ MtT K H m M ∧ Uni n s M ∧ (∀ k ∈ L, ∀ x ∈ k.2.2, Bd 2000 x) ∧ (L.map (tur M)).Nodup ∧
  ∀ H' p' L', Same H H' → H p' = none → PgAt K C H' p' s t L' → Asc (L.map (tur M)) L' → Q (.ref p') H'
theorem ok_turned {f : Addr} {fd : FuncData} (D : Df K mg "turned" ["program", "matrix"] s_turned f fd) (T : Tx K mg C) (c_is_matrix : Ca P w K mg base 7 "is_matrix" (spMx K)) (c_times_step : Ca P w K mg base 1 "times_step" (spTs K)) (c_program_of : Ca P w K mg base 7 "program_of" (spPo K C)) :
    Ca P w K mg base 8 "turned" (spTur K C) := by
  refine D.ca sc_turned (fun vs H Q E h => ?_) (fun cdv A outer s H vs Q E hr h => ?_)
  · obtain ⟨p, m, s, t, L, n, M, rfl, _⟩ := h
    rfl
  · obtain ⟨p, m, si, ta, L, n, M, rfl, hp, G, hm, U, bx, nd, q⟩ := h
    obtain ⟨dx, fs, r, ks, h1, h2, h3, h4, h5, h6, rfl⟩ := hp.ex
    refine ⟨_, (pss_cons (ps_if (pt_not (pt_val (pe_k c_is_matrix hr (by omega) (by rfl) (pa_cons (pe_fld (pv 0) rfl) (pa_cons (pv 1) pa_nil))))) (pss_one ps_never) pss_nil)
      (pss_cons (ps_setLc (i := 2) (own := [("reader", 3), ("read", 4), ("step", 5)]) (g := gTup K 3 (gCons (gName 3) (gCons (gName 4) (gCons (gName 5) gNil)))) (by rfl) sc_turned.nd rfl rfl (sw_true rfl rfl rfl (by decide +kernel)) (pi_tup (pe_fld (pv 0) rfl)) (blkOk_by (N := ["program", "matrix", "readings", "reader", "read", "step"]) (sc := defScope s_turned) (by decide +kernel)) (fun _ _ _ _ _ => pg_tup' K (by rfl) (pgs_cons (pg_name (i := 3) sc_turned.nd rfl (by first | exact Or.inl rfl | exact Or.inr rfl)) (pgs_cons (pg_name (i := 4) sc_turned.nd rfl (by first | exact Or.inl rfl | exact Or.inr rfl)) (pgs_cons (pg_name (i := 5) sc_turned.nd rfl (by first | exact Or.inl rfl | exact Or.inr rfl)) pgs_nil)))) (fun _ _ _ _ _ => pts_nil) (fun _ _ _ _ _ => (pe_tup (pa_cons (pv 3) (pa_cons (pv 4) (pa_cons (pe_k c_times_step hr (by omega) (by rfl) (pa_cons (pv 1) (pa_cons (pv 5) pa_nil))) pa_nil))))))
      (pss_one (ps_ret (pe_k c_program_of hr (by omega) (by rfl) (pa_cons (pe_fld (pv 0) rfl) (pa_cons (pe_fld (pv 0) rfl) (pa_cons (pv 2) pa_nil)))))))), ?_⟩
    refine ⟨.ref p, rfl, p, C, dx, fs, .int si, rfl, h1, T.cl, T.nS, h2, .ref m, rfl, si, m, n, M, rfl, hm, U, fun H1 e1 => ⟨true, rfl, iteF ?_⟩⟩
    refine ⟨.ref p, rfl, p, C, dx, fs, .ref r, rfl, e1 _ _ h1, T.cl, T.nR, h4, r, rfl, ⟨_, T_seq e1 h5⟩, fun D0 nD => lc_tup (K := K) (a := r) (xs := ks.map rf) (fun i H' => Same H H' ∧ Bt K D0 (((ks.map (·.2)).take i).map (tur M)) H') ⟨e1.trans (same_new nD), Bt.zero⟩
      (fun i H' _ z => T_seq z.1 h5) (fun i x H' hx z => ?_) (fun H' z => ?_)⟩
    · obtain ⟨k, hk, rfl⟩ := rf_at hx
      obtain ⟨e, b⟩ := z
      have km := List.mem_of_getElem? hk
      have hk2 : (ks.map (·.2))[i]? = some k.2 := by rw [List.getElem?_map, hk]; rfl
      have gk := G.each _ (List.mem_of_getElem? hk2)
      obtain ⟨t, g1, g2⟩ := rd_same e (h6 k km)
      refine ⟨k.1, [.int k.2.1, .int k.2.2.1, .ref t], rfl, g1, rfl, .int k.2.1, [.int k.2.2.1, .ref t], rfl, .int k.2.2.1, [.ref t], rfl, .ref t, [], rfl, rfl, rfl, ?_⟩
      have ln := gk.ln
      have un := U.ns
      refine ⟨.int k.2.1, rfl, .int k.2.2.1, rfl, .ref m, rfl, .ref t, rfl, m, t, n, M, k.2.2.2, rfl, hm.same e, g2, U.sq, U.n4, by omega, U.bd, bx k.2 (List.mem_map_of_mem km), fun H2 t2 e2 hT => ⟨small (Nat.le_of_ble_eq_true rfl), fun d nd' => ?_⟩⟩
      obtain ⟨acc, b1, b2, b3⟩ := ((b.same e2).same (same_new (o := .tup [.int k.2.1, .int k.2.2.1, .ref t2]) nd')).push (k := tur M k.2) (a := d) ⟨t2, T_new, T_seq (same_new nd') hT⟩ (by rw [List.length_map, List.length_take]; have := G.few; omega)
      rw [take_map_succ hk2] at b3
      exact ⟨acc, b1, b2, same_mut ((e.trans e2).trans (same_new nd')) (e1.none nD), b3⟩
    · obtain ⟨e, b, c1, c2, c3⟩ := z
      have c4 : b.map (·.2) = (ks.map (·.2)).map (tur M) := by
        rw [c3, List.take_of_length_le (by simp)]
      have fw : b.length ≤ 1000 := by
        have := congrArg List.length c4
        have := G.few
        simp only [List.length_map] at *
        omega
      refine ⟨.ref p, rfl, p, C, dx, fs, .int si, rfl, e _ _ h1, T.cl, T.nS, h2, .ref p, rfl, p, C, dx, fs, .int ta, rfl, e _ _ h1, T.cl, T.nT, h3, .ref D0, rfl, si, ta, D0, b, rfl, .inl (.inl c1), c2, fw, by rw [c4]; exact nd, G.s1, G.s4, fun H' p' M' e' np' pg as => ?_⟩
      exact q H' p' M' (e.trans e') (e.none np') pg (c4 ▸ as)
def stc (c : Int) (k : RK) : RK := (k.1, k.2.1, M3.strc c k.2.2)
def spStc (K : PySem.W.Frag) (C : Addr) : Sp := fun vs H Q _ => ∃ (p : Addr) (c s t : Int) (L : List RK), vs = [.ref p, .int c] ∧ PgAt K C H p s t L ∧ Pok s t L ∧ 1 ≤ c ∧ c ≤ 1000000000000 ∧ (∀ k ∈ L, ∀ x ∈ k.2.2, Bd 2000 x) ∧ 
  ∀ H' p' L', Same H H' → H p' = none → PgAt K C H' p' s t L' → Asc (L.map (stc c)) L' → Q (.ref p') H'
theorem strc_inj {c : Int} (h : 1 ≤ c) {v w : List Int} (e : M3.strc c v = M3.strc c w) : v = w := by
  unfold M3.strc at e
  exact List.map_inj_right (fun x y z => Int.eq_of_mul_eq_mul_right (by omega) z) |>.mp e
theorem stc_inj {c : Int} (h : 1 ≤ c) (j k : RK) (e : stc c j = stc c k) : j = k := by
  obtain ⟨a, b, v⟩ := j
  obtain ⟨a', b', v'⟩ := k
  unfold stc at e
  simp only [Prod.mk.injEq] at e
  obtain ⟨rfl, rfl, e⟩ := e
  rw [strc_inj h e]
theorem ok_stretched {f : Addr} {fd : FuncData} (D : Df K mg "stretched" ["program", "times"] s_stretched f fd) (T : Tx K mg C) (c_is_int_in : Ca P w K mg base 2 "is_int_in" spIsIntIn) (c_program_of : Ca P w K mg base 7 "program_of" (spPo K C)) :
    Ca P w K mg base 8 "stretched" (spStc K C) := by
  refine D.ca sc_stretched (fun vs H Q E h => ?_) (fun cdv A outer s H vs Q E hr h => ?_)
  · obtain ⟨p, c, s, t, L, rfl, _⟩ := h
    rfl
  · obtain ⟨p, c, si, ta, L, rfl, hp, G, c1', c2', bx, q⟩ := h
    obtain ⟨dx, fs, r, ks, h1, h2, h3, h4, h5, h6, rfl⟩ := hp.ex
    refine ⟨_, (pss_cons (ps_if (pt_not (pt_val (pe_k c_is_int_in hr (by omega) (by rfl) (pa_cons (pv 1) (pa_cons pe_int (pa_cons (pe_gc (by rfl) T.c_MOST_TIMES) pa_nil)))))) (pss_one ps_never) pss_nil)
      (pss_cons (ps_setLc (i := 2) (own := [("reader", 4), ("read", 5), ("step", 6)]) (g := gTup K 3 (gCons (gName 4) (gCons (gName 5) (gCons (gName 6) gNil)))) (by rfl) sc_stretched.nd rfl rfl (sw_true rfl rfl rfl (by decide +kernel)) (pi_tup (pe_fld (pv 0) rfl)) (blkOk_by (N := ["program", "times", "readings", "part", "reader", "read", "step"]) (sc := defScope s_stretched) (by decide +kernel)) (fun _ _ _ _ _ => pg_tup' K (by rfl) (pgs_cons (pg_name (i := 4) sc_stretched.nd rfl (by first | exact Or.inl rfl | exact Or.inr rfl)) (pgs_cons (pg_name (i := 5) sc_stretched.nd rfl (by first | exact Or.inl rfl | exact Or.inr rfl)) (pgs_cons (pg_name (i := 6) sc_stretched.nd rfl (by first | exact Or.inl rfl | exact Or.inr rfl)) pgs_nil)))) (fun _ _ _ _ _ => pts_nil) (fun _ _ _ _ _ => (pe_tup (pa_cons (pv 4) (pa_cons (pv 5) (pa_cons (pe_callTy (call_tuple_of' K) (by rfl) T.b.tuple boot_tuple (pa_cons (pe_lc (own := [("part", 3)]) (by rfl) sc_stretched.nd ((pi_tup' K) (pv 6)) (blkOk_in (N := ["program", "times", "readings", "part", "reader", "read", "step"]) (by decide +kernel)) (fun _ _ _ _ _ => pg_name (i := 3) sc_stretched.nd rfl (by first | exact Or.inl rfl | exact Or.inr rfl)) (fun _ _ _ _ _ => pts_nil) (fun _ _ _ _ _ => (pe_op op_mulW (pv 3) (pv 1)))) pa_nil)) pa_nil))))))
      (pss_one (ps_ret (pe_k c_program_of hr (by omega) (by rfl) (pa_cons (pe_fld (pv 0) rfl) (pa_cons (pe_fld (pv 0) rfl) (pa_cons (pv 2) pa_nil)))))))), ?_⟩
    refine ⟨.int c, rfl, c, 1, 1000000000000, rfl, ?_⟩
    rw [decide_eq_true c1', decide_eq_true c2']
    refine ⟨true, rfl, iteF ?_⟩
    have cB : Bd 2000 c := by
      unfold Bd
      refine Nat.le_trans (show c.natAbs ≤ 2 ^ 40 by omega) (Nat.pow_le_pow_right (by decide) (by decide))
    refine ⟨.ref p, rfl, p, C, dx, fs, .ref r, rfl, h1, T.cl, T.nR, h4, r, rfl, ⟨_, h5⟩, fun D0 nD => lc_tup (K := K) (a := r) (xs := ks.map rf) (fun i H' => Same H H' ∧ Bt K D0 (((ks.map (·.2)).take i).map (stc c)) H') ⟨same_new nD, Bt.zero⟩
      (fun i H' _ z => T_seq z.1 h5) (fun i x H' hx z => ?_) (fun H' z => ?_)⟩
    · obtain ⟨k, hk, rfl⟩ := rf_at hx
      obtain ⟨e, b⟩ := z
      have km := List.mem_of_getElem? hk
      have hk2 : (ks.map (·.2))[i]? = some k.2 := by rw [List.getElem?_map, hk]; rfl
      have gk := G.each _ (List.mem_of_getElem? hk2)
      have bk := bx k.2 (List.mem_map_of_mem km)
      obtain ⟨t, g1, g2⟩ := rd_same e (h6 k km)
      refine ⟨k.1, [.int k.2.1, .int k.2.2.1, .ref t], rfl, g1, rfl, .int k.2.1, [.int k.2.2.1, .ref t], rfl, .int k.2.2.1, [.ref t], rfl, .ref t, [], rfl, rfl, rfl, ?_⟩
      refine ⟨.int k.2.1, rfl, .int k.2.2.1, rfl, .ref t, rfl, t, rfl, ⟨_, g2⟩, fun D1 nD1 => lc_tup (K := K) (a := t) (xs := k.2.2.2.map V.int) (fun j H2 => Same H' H2 ∧ H2 D1 = some (.lst (((k.2.2.2.take j).map fun x => x * c).map V.int))) ⟨same_new nD1, upd_same⟩
        (fun j H2 _ z => T_seq z.1 g2) (fun j x H2 hx z => ?_) (fun H2 z => ?_)⟩
      · obtain ⟨y, hy, rfl⟩ := int_at hx
        refine ⟨rfl, .int y, rfl, .int c, rfl, y, c, rfl, rfl, mulW (bk y (List.mem_of_getElem? hy)) cB (by decide), _, z.2, ?_, same_mut z.1 nD1, ?_⟩
        · rw [List.length_map, List.length_map, List.length_take]
          exact smallt (by have := gk.few; omega)
        · rw [upd_same, ← take_map_succ hy, List.map_append]
          rfl
      · obtain ⟨z1, z2⟩ := z
        rw [List.take_of_length_le (by simp)] at z2
        refine ⟨D1, _, rfl, .inl ⟨.inl (.inl z2), fun t2 nt2 => ?_⟩⟩
        refine ⟨small (Nat.le_of_ble_eq_true rfl), fun d nd => ?_⟩
        have e3 := (z1.trans (same_new (o := .tup ((k.2.2.2.map fun x => x * c).map V.int)) nt2)).trans (same_new (o := .tup [.int k.2.1, .int k.2.2.1, .ref t2]) nd)
        obtain ⟨acc, b1, b2, b3⟩ := (b.same e3).push (k := stc c k.2) (a := d) ⟨t2, T_new, T_seq (same_new nd) T_new⟩ (by rw [List.length_map, List.length_take]; have := G.few; omega)
        rw [take_map_succ hk2] at b3
        exact ⟨acc, b1, b2, same_mut (e.trans e3) nD, b3⟩
    · obtain ⟨e, b, c1, c2, c3⟩ := z
      have c4 : b.map (·.2) = (ks.map (·.2)).map (stc c) := by
        rw [c3, List.take_of_length_le (by simp)]
      have fw : b.length ≤ 1000 := by
        have := congrArg List.length c4
        have := G.few
        simp only [List.length_map] at *
        omega
      refine ⟨.ref p, rfl, p, C, dx, fs, .int si, rfl, e _ _ h1, T.cl, T.nS, h2, .ref p, rfl, p, C, dx, fs, .int ta, rfl, e _ _ h1, T.cl, T.nT, h3, .ref D0, rfl, si, ta, D0, b, rfl, .inl (.inl c1), c2, fw, ?_, G.s1, G.s4, fun H' p' M' e' np' pg as => ?_⟩
      · rw [c4]; exact nodup_led G fun j k _ _ => stc_inj c1' j k
      · exact q H' p' M' (e.trans e') (e.none np') pg (c4 ▸ as)
end

end LW
set_option Elab.async false
set_option linter.all false
set_option maxRecDepth 100000
set_option maxHeartbeats 4000000
namespace LW
open PySem PySem.Spec PyProof.Rows L2 RS LB
section
variable {P : Program} {w : World} {K : PySem.W.Frag} {mg : Str → Option Value} {base : Heap} {C : Addr}
/-! ### the law's rows: a list of lists -/
def Ll (D : Addr) (L : List (List Int)) (H : Hp) : Prop := ∃ qs : Rw, H D = some (.lst (qs.map rv)) ∧ (∀ q ∈ qs, q.1 ≠ D ∧ H q.1 = some (.lst (q.2.map V.int))) ∧ qs.map (·.2) = L
theorem Ll.zero {D : Addr} {H : Hp} : Ll D [] (upd H D (.lst [])) := ⟨[], upd_same, (fun q hq => by cases hq), rfl⟩
theorem Ll.same {D : Addr} {H H' : Hp} {L : List (List Int)} (e : Same H H') (h : Ll D L H) : Ll D L H' := by
  obtain ⟨qs, h1, h2, h3⟩ := h
  exact ⟨qs, e _ _ h1, fun q hq => ⟨(h2 q hq).1, e _ _ (h2 q hq).2⟩, h3⟩
theorem Ll.push {D r : Addr} {H : Hp} {L : List (List Int)} {v : List Int} (h : Ll D L H) (ne : r ≠ D) (hr : H r = some (.lst (v.map V.int))) (few : L.length < 1000) : ∃ acc, H D = some (.lst acc) ∧ acc.length < sizeLine ∧ Ll D (L ++ [v]) (upd H D (.lst (acc ++ [.ref r]))) := by
  obtain ⟨qs, h1, h2, h3⟩ := h
  refine ⟨_, h1, smallt (by rw [List.length_map, ← List.length_map (f := fun q : Addr × List Int => q.2), h3]; exact few), qs ++ [(r, v)], ?_, ?_, ?_⟩
  · rw [upd_same, List.map_append]; rfl
  · intro q hq
    rcases List.mem_append.mp hq with z | z
    · exact ⟨(h2 q z).1, by rw [upd_ne (h2 q z).1]; exact (h2 q z).2⟩
    · rw [List.mem_singleton.mp z]; exact ⟨ne, by rw [upd_ne ne]; exact hr⟩
  · rw [List.map_append, h3]; rfl
theorem Ll.set {D r : Addr} {H : Hp} {L : List (List Int)} {v : List Int} {k : Nat} (h : Ll D L H) (ne : r ≠ D) (hr : H r = some (.lst (v.map V.int))) (hk : k < L.length) : ∃ xs, H D = some (.lst xs) ∧ ixN xs.length (k : Int) = some k ∧ Ll D (L.set k v) (upd H D (.lst (xs.set k (.ref r)))) := by
  obtain ⟨qs, h1, h2, h3⟩ := h
  have lq : qs.length = L.length := by rw [← h3, List.length_map]
  refine ⟨_, h1, ?_, qs.set k (r, v), ?_, ?_, ?_⟩
  · have := ixN_in (n := (qs.map rv).length) (d := (k : Int)) (by omega) (by rw [List.length_map]; omega)
    rwa [Int.toNat_natCast] at this
  · rw [upd_same, List.map_set]; rfl
  · intro q hq
    rcases List.mem_or_eq_of_mem_set hq with z | rfl
    · exact ⟨(h2 q z).1, by rw [upd_ne (h2 q z).1]; exact (h2 q z).2⟩
    · exact ⟨ne, by rw [upd_ne ne]; exact hr⟩
  · rw [List.map_set, h3]
theorem Ll.at {D : Addr} {H : Hp} {L : List (List Int)} {k : Nat} (h : Ll D L H) (hk : k < L.length) : ∃ r xs, H D = some (.lst xs) ∧ atI xs (k : Int) = some (.ref r) ∧ r ≠ D ∧ H r = some (.lst ((L.getD k []).map V.int)) := by
  obtain ⟨qs, h1, h2, rfl⟩ := h
  have lk : k < qs.length := by rw [List.length_map] at hk; exact hk
  refine ⟨qs[k].1, _, h1, atI_nat (by rw [List.getElem?_map, List.getElem?_eq_getElem lk]; rfl), (h2 _ (List.getElem_mem lk)).1, ?_⟩
  rw [List.getD_eq_getElem?_getD, List.getElem?_map, List.getElem?_eq_getElem lk]
  exact (h2 _ (List.getElem_mem lk)).2
/-! ### doings -/
def dv (q : Addr × M3.Doing) : V := .ref q.1
def dT (d : M3.Doing) : List V := [.int (d.1 : Nat), .int (d.2.1 : Nat), .int d.2.2]
def Ds (K : PySem.W.Frag) (D : Addr) (L : List M3.Doing) (H : Hp) : Prop := ∃ qs : List (Addr × M3.Doing), H D = some (.lst (qs.map dv)) ∧ (∀ q ∈ qs, SqT K H q.1 (dT q.2)) ∧ qs.map (·.2) = L
theorem Ds.zero {D : Addr} {H : Hp} : Ds K D [] (upd H D (.lst [])) := ⟨[], upd_same, (fun q hq => by cases hq), rfl⟩
theorem Ds.same {D : Addr} {H H' : Hp} {L : List M3.Doing} (e : Same H H') (h : Ds K D L H) : Ds K D L H' := by
  obtain ⟨qs, h1, h2, h3⟩ := h
  exact ⟨qs, e _ _ h1, fun q hq => T_seq e (h2 q hq), h3⟩
theorem Ds.but {p c D : Addr} {H H' : Hp} {L : List M3.Doing} (P : Pool H p c) (B : But p c H H') (nd : D ≠ p ∧ D ≠ c) (h : Ds K D L H) : Ds K D L H' := by
  obtain ⟨qs, h1, h2, h3⟩ := h
  exact ⟨qs, B _ _ nd.1 nd.2 h1, fun q hq => P.t B (h2 q hq), h3⟩
theorem Ds.push {D r : Addr} {H : Hp} {L : List M3.Doing} {v : M3.Doing} (h : Ds K D L H) (hr : SqT K H r (dT v)) (few : L.length < 1000) : ∃ acc, H D = some (.lst acc) ∧ acc.length < sizeLine ∧ Ds K D (L ++ [v]) (upd H D (.lst (acc ++ [.ref r]))) := by
  obtain ⟨qs, h1, h2, h3⟩ := h
  refine ⟨_, h1, smallt (by rw [List.length_map, ← List.length_map (f := fun q : Addr × M3.Doing => q.2), h3]; exact few), qs ++ [(r, v)], ?_, ?_, ?_⟩
  · rw [upd_same, List.map_append]; rfl
  · intro q hq
    rcases List.mem_append.mp hq with z | z
    · exact T_mutL h1 (h2 q z)
    · rw [List.mem_singleton.mp z]; exact T_mutL h1 hr
  · rw [List.map_append, h3]; rfl
theorem dv_at {L : List (Addr × M3.Doing)} {i : Nat} {x : V} (h : (L.map dv)[i]? = some x) : ∃ q, L[i]? = some q ∧ x = dv q := by
  rw [List.getElem?_map] at h
  cases e : L[i]? with
  | none => rw [e] at h; cases h
  | some q => rw [e] at h; exact ⟨q, rfl, (Option.some.inj h).symm⟩
def Sml (d : M3.Doing) : Prop := -1000000 ≤ d.2.2 ∧ d.2.2 ≤ 1000000
def spDo (K : PySem.W.Frag) : Sp := fun vs H Q _ => ∃ (p c : Addr) (s : Int) (n : Nat), vs = [.ref p, .int s] ∧ Pool H p c ∧ (n : Int) = s ∧ 1 ≤ n ∧ n ≤ 4 ∧
  ∀ H' D ds, But p c H H' → Pool H' p c → H D = none → Ds K D ds H' → M3.Oks n ds → (∀ d ∈ ds, Sml d) → ds.length ≤ 4 → Q (.ref D) H'
theorem ok__law_doings {f : Addr} {fd : FuncData} (D : Df K mg "_law_doings" ["_law_pool_here", "_law_sides"] s__law_doings f fd) (T : Tx K mg C) (c__law_draw : Ca P w K mg base 1 "_law_draw" spDraw) (c__law_some : Ca P w K mg base 2 "_law_some" (spSome K)) :
    Ca P w K mg base 3 "_law_doings" (spDo K) := by
  refine D.ca sc__law_doings (fun vs H Q E h => ?_) (fun cdv A outer s H vs Q E hr h => ?_)
  · obtain ⟨p, c, s, n, rfl, _⟩ := h
    rfl
  · obtain ⟨p, c, si, n, rfl, hP, ns, n1, n4, q⟩ := h
    refine ⟨_, (pss_cons (ps_set (i := 2) sc__law_doings.nd rfl (by first | exact Or.inl rfl | exact Or.inr rfl) (pe_lst pa_nil))
      (pss_cons (ps_for PassesOwn.never rfl (pi_range1 (by rfl) T.b.range (pa_cons (pe_k c__law_draw hr (by omega) (by rfl) (pa_cons (pv 0) (pa_cons pe_int pa_nil))) pa_nil)) (pg_name (i := 3) sc__law_doings.nd rfl (by first | exact Or.inl rfl | exact Or.inr rfl)) (pss_cons (ps_set (i := 4) sc__law_doings.nd rfl (by first | exact Or.inl rfl | exact Or.inr rfl) (pe_k c__law_draw hr (by omega) (by rfl) (pa_cons (pv 0) (pa_cons (pv 1) pa_nil))))
      (pss_cons (ps_set (i := 5) sc__law_doings.nd rfl (by first | exact Or.inl rfl | exact Or.inr rfl) (pe_k c__law_draw hr (by omega) (by rfl) (pa_cons (pv 0) (pa_cons (pv 1) pa_nil))))
      (pss_one (ps_if (pt_cmpR op_eq (pv 4) (pv 5) (nomark _)) (pss_one (ps_expr (pe_bm PySem.F.plainAttrs_list PySem.F.slot_list_append PySem.F.type_list_append mt_append (pv 2) (pa_cons (pe_tup (pa_cons (pv 4) (pa_cons (pv 4) (pa_cons pe_int pa_nil)))) pa_nil)))) (pss_one (ps_expr (pe_bm PySem.F.plainAttrs_list PySem.F.slot_list_append PySem.F.type_list_append mt_append (pv 2) (pa_cons (pe_tup (pa_cons (pv 4) (pa_cons (pv 5) (pa_cons (pe_k c__law_some hr (by omega) (by rfl) (pa_cons (pv 0) (pa_cons (pe_lst (pa_cons pe_int (pa_cons pe_int (pa_cons (pe_un un_neg pe_int) (pa_cons pe_int (pa_cons (pe_un un_neg pe_int) (pa_cons (pe_op op_pow pe_int pe_int) pa_nil))))))) pa_nil))) pa_nil)))) pa_nil)))))))))
      (pss_one (ps_ret (pv 2))))), ?_⟩
    refine ⟨Nat.zero_le _, fun F nF => ?_⟩
    have nFp := hP.np nF
    have P1 := hP.same (same_new (o := .lst []) nF)
    refine ⟨.ref p, rfl, p, c, 5, rfl, P1, by decide, by decide, fun H1 e B1 P2 e0 e1 => ?_⟩
    have hD0 : Ds K F [] H1 := Ds.but P1 B1 nFp Ds.zero
    have B1' : But p c H H1 := (LB.Same.but (same_new (o := .lst []) nF)).trans B1
    refine ⟨e, rfl, by omega, by omega, for_range (lo := 0) (n := e.toNat) (fun i σ H' => (∃ x3 x4 x5, σ = [some (.ref p), some (.int si), some (.ref F), x3, x4, x5]) ∧ But p c H H' ∧ Pool H' p c ∧ ∃ ds, Ds K F ds H' ∧ M3.Oks n ds ∧ (∀ d ∈ ds, Sml d) ∧ ds.length = i)
      ⟨⟨_, _, _, rfl⟩, B1', P2, [], hD0, (fun d hd => by cases hd), (fun d hd => by cases hd), rfl⟩ ?_ ?_⟩
    · rintro i σ H' hi ⟨⟨x3, x4, x5, rfl⟩, B, P', ds, hds, ok, sm, ld⟩
      refine ⟨.ref p, rfl, .int si, rfl, p, c, si, rfl, P', by omega, by omega, fun H2 k B2 P2 k0 k1 => ?_⟩
      refine ⟨.ref p, rfl, .int si, rfl, p, c, si, rfl, P2, by omega, by omega, fun H3 j B3 P3 j0 j1 => ?_⟩
      have hds3 := Ds.but P2 B3 nFp (Ds.but P' B2 nFp hds)
      have B' := (B.trans B2).trans B3
      refine ⟨.int k, rfl, .int j, rfl, rfl, decide (V.int k = V.int j), rfl, ?_⟩
      have kk : ((k.toNat : Nat) : Int) = k := Int.toNat_of_nonneg k0
      have jj : ((j.toNat : Nat) : Int) = j := Int.toNat_of_nonneg j0
      by_cases z : V.int k = V.int j
      · rw [decide_eq_true z]
        have hF : ∃ xs, H3 F = some (.lst xs) := ⟨_, hds3.choose_spec.1⟩
        refine iteT ⟨.ref F, rfl, .inl ⟨rfl, _, .inl (.inl hF.choose_spec)⟩, .int k, rfl, .int k, rfl, small (Nat.le_of_ble_eq_true rfl), fun t nt => ?_⟩
        obtain ⟨acc, g1, g2, g3⟩ := (hds3.same (same_new (o := .tup [.int k, .int k, .int 0]) nt)).push (v := (k.toNat, k.toNat, 0)) (r := t) (by
          have : dT (k.toNat, k.toNat, 0) = [.int k, .int k, .int 0] := by unfold dT; rw [kk]
          rw [this]
          exact T_new) (by omega)
        refine ⟨F, acc, .ref t, rfl, rfl, g1, g2, ⟨_, _, _, rfl⟩, But.mut (B'.trans (LB.Same.but (same_new nt))) nF, (P3.same (same_new nt)).upd nFp, _, g3, fun d hd => ?_, fun d hd => ?_, by rw [List.length_append, ld]; rfl⟩
        · rcases List.mem_append.mp hd with hd | hd
          · exact ok d hd
          · rw [List.mem_singleton.mp hd]; exact ⟨by show k.toNat < n; omega, by show k.toNat < n; omega⟩
        · rcases List.mem_append.mp hd with hd | hd
          · exact sm d hd
          · rw [List.mem_singleton.mp hd]; exact ⟨show (-1000000 : Int) ≤ 0 by decide, show (0 : Int) ≤ 1000000 by decide⟩
      · rw [decide_eq_false z]
        have hF : ∃ xs, H3 F = some (.lst xs) := ⟨_, hds3.choose_spec.1⟩
        refine iteF ⟨.ref F, rfl, .inl ⟨rfl, _, .inl (.inl hF.choose_spec)⟩, .int k, rfl, .int j, rfl, .ref p, rfl, 1, rfl, 3, rfl, 10, 6, rfl, rfl, ⟨by decide, by decide, by decide⟩, small (Nat.le_of_ble_eq_true rfl), fun l nl => ?_⟩
        have nlp := P3.np nl
        refine ⟨p, c, l, _, rfl, P3.same (same_new nl), nlp.1, nlp.2, .inl (.inl upd_same), Nat.le_of_ble_eq_true rfl, Nat.le_of_ble_eq_true rfl, fun H4 v B4 P4 hv => ?_⟩
        obtain ⟨m, rfl, hm⟩ : ∃ m, v = V.int m ∧ (-1000000 ≤ m ∧ m ≤ 1000000) := by
          simp only [List.mem_cons, List.not_mem_nil, or_false] at hv
          rcases hv with rfl | rfl | rfl | rfl | rfl | rfl <;> exact ⟨_, rfl, by decide⟩
        refine ⟨small (Nat.le_of_ble_eq_true rfl), fun t nt => ?_⟩
        have hds4 := Ds.but (P3.same (same_new nl)) B4 nFp (hds3.same (same_new nl))
        obtain ⟨acc, g1, g2, g3⟩ := (hds4.same (same_new (o := .tup [.int k, .int j, .int m]) nt)).push (v := (k.toNat, j.toNat, m)) (r := t) (by
          have : dT (k.toNat, j.toNat, m) = [.int k, .int j, .int m] := by unfold dT; rw [kk, jj]
          rw [this]
          exact T_new) (by omega)
        refine ⟨F, acc, .ref t, rfl, rfl, g1, g2, ⟨_, _, _, rfl⟩, But.mut (((B'.trans (LB.Same.but (same_new nl))).trans B4).trans (LB.Same.but (same_new nt))) nF, (P4.same (same_new nt)).upd nFp, _, g3, fun d hd => ?_, fun d hd => ?_, by rw [List.length_append, ld]; rfl⟩
        · rcases List.mem_append.mp hd with hd | hd
          · exact ok d hd
          · rw [List.mem_singleton.mp hd]; exact ⟨by show k.toNat < n; omega, by show j.toNat < n; omega⟩
        · rcases List.mem_append.mp hd with hd | hd
          · exact sm d hd
          · rw [List.mem_singleton.mp hd]; exact hm
    · rintro σ H' ⟨⟨x3, x4, x5, rfl⟩, B, P', ds, hds, ok, sm, ld⟩
      exact ⟨.ref F, rfl, q _ F ds B P' nF hds ok sm (by omega)⟩
end

end LW
set_option Elab.async false
set_option linter.all false
set_option maxRecDepth 100000
set_option maxHeartbeats 4000000
namespace LW
open PySem PySem.Spec PyProof.Rows L2 RS LB
section
variable {P : Program} {w : World} {K : PySem.W.Frag} {mg : Str → Option Value} {base : Heap} {C : Addr}
/-! ### the plain matrix -/
def spPlain : Sp := fun vs H Q _ => ∃ (n : Nat), vs = [.int (n : Nat)] ∧ n ≤ 4 ∧ ∀ H' a, Same H H' → H a = none → Ll a (M3.plainM n) H' → Q (.ref a) H'
theorem ok__law_plain_matrix {f : Addr} {fd : FuncData} (D : Df K mg "_law_plain_matrix" ["_law_sides"] s__law_plain_matrix f fd) (T : Tx K mg C) : Ca P w K mg base 1 "_law_plain_matrix" spPlain := by
  refine D.ca sc__law_plain_matrix (fun vs H Q E h => ?_) (fun cdv A outer s H vs Q E hr h => ?_)
  · obtain ⟨n, rfl, _⟩ := h
    rfl
  · obtain ⟨n, rfl, n4, q⟩ := h
    refine ⟨_, (pss_one (ps_ret (pe_lc (own := [("_law_k", 2)]) (by rfl) sc__law_plain_matrix.nd (pi_range1 (by rfl) T.b.range (pa_cons (pv 0) pa_nil)) (blkOk_by (N := ["_law_sides", "_law_j", "_law_k"]) (sc := defScope s__law_plain_matrix) (by decide +kernel)) (fun _ _ _ _ _ => pg_name (i := 2) sc__law_plain_matrix.nd rfl (by first | exact Or.inl rfl | exact Or.inr rfl)) (fun _ _ _ _ _ => pts_nil) (fun _ _ _ _ _ => (pe_lc (own := [("_law_j", 1)]) (by rfl) sc__law_plain_matrix.nd (pi_range1 (by rfl) T.b.range (pa_cons (pv 0) pa_nil)) (blkOk_in (N := ["_law_sides", "_law_j", "_law_k"]) (by decide +kernel)) (fun _ _ _ _ _ => pg_name (i := 1) sc__law_plain_matrix.nd rfl (by first | exact Or.inl rfl | exact Or.inr rfl)) (fun _ _ _ _ _ => pts_nil) (fun _ _ _ _ _ => (pe_callTy call_int1 (by rfl) T.b.int boot_int (pa_cons (pe_cmpR op_eq (pv 2) (pv 1) (nomark _)) pa_nil)))))))), ?_⟩
    refine ⟨.int (n : Nat), rfl, (n : Nat), rfl, by omega, by omega, fun D0 nD => lc_range (lo := 0) (n := ((n : Nat) : Int).toNat) (fun k H' => Same H H' ∧ Ll D0 ((List.range k).map fun k => (List.range n).map fun j => if k = j then 1 else 0) H') ⟨same_new nD, Ll.zero⟩ (fun k H' hk z => ?_) (fun H' z => ?_)⟩
    · obtain ⟨e, L⟩ := z
      refine ⟨rfl, .int (n : Nat), rfl, (n : Nat), rfl, by omega, by omega, fun D1 nD1 => lc_range (lo := 0) (n := ((n : Nat) : Int).toNat) (fun j H2 => Same H' H2 ∧ H2 D1 = some (.lst (((List.range j).map fun j => if k = j then (1 : Int) else 0).map V.int))) ⟨same_new nD1, upd_same⟩ (fun j H2 hj y => ?_) (fun H2 y => ?_)⟩
      · obtain ⟨y1, y2⟩ := y
        refine ⟨rfl, .int (0 + (k : Nat)), rfl, .int (0 + (j : Nat)), rfl, rfl, .inr ⟨_, rfl, ?_⟩⟩
        refine ⟨_, y2, ?_, same_mut y1 nD1, ?_⟩
        · rw [List.length_map, List.length_map, List.length_range]
          exact smallt (by omega)
        · rw [upd_same, List.range_succ, List.map_append, List.map_append]
          have : (V.int (if decide (V.int (0 + (k : Nat)) = V.int (0 + (j : Nat))) = true then 1 else 0)) = V.int (if k = j then (1 : Int) else 0) := by
            by_cases h : k = j
            · subst h
              rw [if_pos (decide_eq_true rfl), if_pos rfl]
            · rw [if_neg h, if_neg]
              intro h'
              have := V.int.inj (of_decide_eq_true h')
              omega
          rw [this]
          rfl
      · obtain ⟨y1, y2⟩ := y
        rw [Int.toNat_natCast] at y2
        have n1 : D1 ≠ D0 := (ne_of_none L.choose_spec.1 nD1).symm
        obtain ⟨acc, g1, g2, g3⟩ := (L.same y1).push (r := D1) n1 y2 (by rw [List.length_map, List.length_range]; omega)
        refine ⟨acc, g1, g2, same_mut (e.trans y1) nD, ?_⟩
        rw [List.range_succ, List.map_append]
        exact g3
    · obtain ⟨e, L⟩ := z
      rw [Int.toNat_natCast] at L
      exact q _ D0 e nD L
/-! ### one doing with rows -/
def spDone (K : PySem.W.Frag) : Sp := fun vs H Q _ => ∃ (a d : Addr) (n : Nat) (M : List (List Int)) (dg : M3.Doing), vs = [.ref a, .ref d] ∧ Ll a M H ∧ SqT K H d (dT dg) ∧ M3.Sq n M ∧ n ≤ 4 ∧ M3.Okd n dg ∧ Sml dg ∧
  ∀ H' b, Same H H' → H b = none → Ll b (M3.doneL M dg) H' → Q (.ref b) H'
theorem row_len {n k : Nat} {M : List (List Int)} (h : M3.Sq n M) (hk : k < n) : (M.getD k []).length = n := by
  rw [List.getD_eq_getElem?_getD, List.getElem?_eq_getElem (by rw [h.len]; exact hk)]
  exact h.each _ (List.getElem_mem _)
theorem ok__law_done {f : Addr} {fd : FuncData} (D : Df K mg "_law_done" ["_law_rows", "_law_doing"] s__law_done f fd) (T : Tx K mg C) : Ca P w K mg base 1 "_law_done" (spDone K) := by
  refine D.ca sc__law_done (fun vs H Q E h => ?_) (fun cdv A outer s H vs Q E hr h => ?_)
  · obtain ⟨a, d, n, M, dg, rfl, _⟩ := h
    rfl
  · obtain ⟨a, d, n, M, ⟨k, j, m⟩, rfl, hM, hd, sq, n4, ⟨ok, oj⟩, ⟨m0, m1⟩, q⟩ := h
    simp only at ok oj m0 m1
    refine ⟨_, (pss_cons (ps_asg (pv 1) (pg_tup (by rfl) (pgs_cons (pg_name (i := 2) sc__law_done.nd rfl (by first | exact Or.inl rfl | exact Or.inr rfl)) (pgs_cons (pg_name (i := 3) sc__law_done.nd rfl (by first | exact Or.inl rfl | exact Or.inr rfl)) (pgs_cons (pg_name (i := 4) sc__law_done.nd rfl (by first | exact Or.inl rfl | exact Or.inr rfl)) pgs_nil)))))
      (pss_cons (ps_setLc (i := 5) (own := [("_law_row", 6)]) (by rfl) sc__law_done.nd rfl rfl (sw_true rfl rfl rfl (by decide +kernel)) (pi_list (pv 0)) (blkOk_by (N := ["_law_rows", "_law_doing", "_law_k", "_law_j", "_law_many", "_law_made", "_law_row", "_law_item", "_law_place"]) (sc := defScope s__law_done) (by decide +kernel)) (fun _ _ _ _ _ => pg_name (i := 6) sc__law_done.nd rfl (by first | exact Or.inl rfl | exact Or.inr rfl)) (fun _ _ _ _ _ => pts_nil) (fun _ _ _ _ _ => (pe_callTy (call_list_of' K) (by rfl) T.b.list boot_list (pa_cons (pv 6) pa_nil))))
      (pss_cons (ps_if (pt_cmpR op_eq (pv 2) (pv 3) (nomark _)) (pss_one (ps_asg (pe_lc (own := [("_law_item", 7)]) (by rfl) sc__law_done.nd (pi_list (pe_ix ix_list (pv 0) (pv 2) (fun _ _ => rfl))) (blkOk_by (N := ["_law_rows", "_law_doing", "_law_k", "_law_j", "_law_many", "_law_made", "_law_row", "_law_item", "_law_place"]) (sc := defScope s__law_done) (by decide +kernel)) (fun _ _ _ _ _ => pg_name (i := 7) sc__law_done.nd rfl (by first | exact Or.inl rfl | exact Or.inr rfl)) (fun _ _ _ _ _ => pts_nil) (fun _ _ _ _ _ => (pe_op op_sub pe_int (pv 7)))) (pg_sub (pv 5) (pv 2) set_list))) (pss_one (ps_if (pt_cmpR op_eq (pv 4) pe_int (nomark _)) (pss_cons (ps_asg (pe_callTy call_list_of (by rfl) T.b.list boot_list (pa_cons (pe_ix ix_list (pv 0) (pv 3) (fun _ _ => rfl)) pa_nil)) (pg_sub (pv 5) (pv 2) set_list))
      (pss_one (ps_asg (pe_callTy call_list_of (by rfl) T.b.list boot_list (pa_cons (pe_ix ix_list (pv 0) (pv 2) (fun _ _ => rfl)) pa_nil)) (pg_sub (pv 5) (pv 3) set_list)))) (pss_one (ps_asg (pe_lc (own := [("_law_place", 8)]) (by rfl) sc__law_done.nd (pi_range1 (by rfl) T.b.range (pa_cons (pe_callB call_len_seq (by rfl) T.b.len boot_len (pa_cons (pv 0) pa_nil)) pa_nil)) (blkOk_by (N := ["_law_rows", "_law_doing", "_law_k", "_law_j", "_law_many", "_law_made", "_law_row", "_law_item", "_law_place"]) (sc := defScope s__law_done) (by decide +kernel)) (fun _ _ _ _ _ => pg_name (i := 8) sc__law_done.nd rfl (by first | exact Or.inl rfl | exact Or.inr rfl)) (fun _ _ _ _ _ => pts_nil) (fun _ _ _ _ _ => (pe_op op_add (pe_ix (ix_list' K) (pe_ix (ix_list' K) (pv 0) (pv 2) (fun _ _ => rfl)) (pv 8) (fun _ _ => rfl)) (pe_op op_mul (pv 4) (pe_ix (ix_list' K) (pe_ix (ix_list' K) (pv 0) (pv 3) (fun _ _ => rfl)) (pv 8) (fun _ _ => rfl)))))) (pg_sub (pv 5) (pv 2) set_list))))))
      (pss_one (ps_ret (pv 5)))))), ?_⟩
    refine ⟨.ref d, rfl, d, _, rfl, hd, rfl, .int (k : Nat), [.int (j : Nat), .int m], rfl, .int (j : Nat), [.int m], rfl, .int m, [], rfl, rfl, ?_⟩
    have hMx := hM
    obtain ⟨qs, h1, h2, h3⟩ := hM
    have lq : qs.length = n := by rw [← sq.len, ← h3, List.length_map]
    refine ⟨.ref a, rfl, a, rfl, ⟨_, .inl (.inl h1)⟩, fun F nF => lc_list (K := K) (a := a) (xs := qs.map rv) (fun i H' => Same H H' ∧ Ll F (M.take i) H') ⟨same_new nF, Ll.zero⟩
      (fun i H' _ z => .inl (.inl (z.1 _ _ h1))) (fun i x H' hx z => ?_) (fun H' z => ?_)⟩
    · obtain ⟨y, hy, rfl⟩ := rv_at hx
      have hy2 : M[i]? = some y.2 := by rw [← h3, List.getElem?_map, hy]; rfl
      refine ⟨rfl, rv y, rfl, y.1, _, rfl, .inl (.inl (.inl (z.1 _ _ (h2 y (List.mem_of_getElem? hy)).2))), fun r nr => ?_⟩
      have nrF : r ≠ F := (ne_of_none z.2.choose_spec.1 nr).symm
      obtain ⟨acc, g1, g2, g3⟩ := (z.2.same (same_new (o := .lst (y.2.map V.int)) nr)).push (r := r) nrF upd_same (by rw [List.length_take]; have := sq.len; omega)
      refine ⟨acc, g1, g2, same_mut (z.1.trans (same_new nr)) nF, ?_⟩
      rw [List.take_add_one, hy2]
      exact g3
    · obtain ⟨e, hF⟩ := z
      rw [List.length_map, lq, List.take_of_length_le (by rw [sq.len]; exact Nat.le_refl _)] at hF
      have hM' := hMx.same e
      refine ⟨.int (k : Nat), rfl, .int (j : Nat), rfl, rfl, decide (V.int (k : Nat) = V.int (j : Nat)), rfl, ?_⟩
      by_cases z : k = j
      · rw [decide_eq_true (show V.int (k : Nat) = V.int (j : Nat) by rw [z])]
        obtain ⟨r, xs, f1, f2, f3, f4⟩ := hM'.at (k := k) (by rw [sq.len]; exact ok)
        refine iteT ⟨.ref a, rfl, .int (k : Nat), rfl, a, _, _, .ref r, rfl, rfl, .inl (.inl f1), f2, r, rfl, ⟨_, .inl (.inl f4)⟩, fun G nG => lc_list (K := K) (a := r) (xs := (M.getD k []).map V.int) (fun i H2 => Same H' H2 ∧ H2 G = some (.lst ((((M.getD k []).take i).map fun x => 0 - x).map V.int))) ⟨same_new nG, upd_same⟩
          (fun i H2 _ z => .inl (.inl (z.1 _ _ f4))) (fun i x H2 hx z => ?_) (fun H2 z2 => ?_)⟩
        · obtain ⟨y, hy, rfl⟩ := int_at hx
          refine ⟨rfl, .int y, rfl, 0, y, rfl, rfl, _, z.2, ?_, same_mut z.1 nG, ?_⟩
          · rw [List.length_map, List.length_map, List.length_take, row_len sq ok]
            exact smallt (by omega)
          · rw [upd_same, ← take_map_succ hy, List.map_append]
            rfl
        · obtain ⟨z1, z3⟩ := z2
          rw [List.take_of_length_le (by simp)] at z3
          have nGF : G ≠ F := (ne_of_none hF.choose_spec.1 nG).symm
          obtain ⟨xs, x1, x2, x3⟩ := (hF.same z1).set (k := k) nGF z3 (by rw [sq.len]; exact ok)
          refine ⟨.ref F, rfl, .int (k : Nat), rfl, F, xs, _, k, rfl, rfl, x1, x2, .ref F, rfl, ?_⟩
          refine q _ F (same_mut (e.trans z1) nF) nF ?_
          have : M3.doneL M (k, j, m) = M.set k ((M.getD k []).map fun x => 0 - x) := if_pos z
          rw [this]
          exact x3
      · rw [decide_eq_false (show ¬ V.int (k : Nat) = V.int (j : Nat) from fun h => z (by have := V.int.inj h; omega))]
        refine iteF ⟨.int m, rfl, rfl, decide (V.int m = V.int 0), rfl, ?_⟩
        by_cases zm : m = 0
        · rw [decide_eq_true (show V.int m = V.int 0 by rw [zm])]
          obtain ⟨r, xs, f1, f2, f3, f4⟩ := hM'.at (k := j) (by rw [sq.len]; exact oj)
          refine iteT ⟨.ref a, rfl, .int (j : Nat), rfl, a, _, _, .ref r, rfl, rfl, .inl (.inl f1), f2, r, _, rfl, .inl (.inl (.inl f4)), fun G nG => ?_⟩
          have nGF : G ≠ F := (ne_of_none hF.choose_spec.1 nG).symm
          have S1 := same_new (o := .lst ((M.getD j []).map V.int)) nG
          obtain ⟨xs1, x1, x2, x3⟩ := (hF.same S1).set (k := k) nGF upd_same (by rw [sq.len]; exact ok)
          refine ⟨.ref F, rfl, .int (k : Nat), rfl, F, xs1, _, k, rfl, rfl, x1, x2, ?_⟩
          have S2 : Same H (upd (upd H' G (.lst ((M.getD j []).map V.int))) F (.lst (xs1.set k (.ref G)))) := same_mut (e.trans S1) nF
          obtain ⟨r2, ys, f1, f2, f3, f4⟩ := (hMx.same S2).at (k := k) (by rw [sq.len]; exact ok)
          refine ⟨.ref a, rfl, .int (k : Nat), rfl, a, _, _, .ref r2, rfl, rfl, .inl (.inl f1), f2, r2, _, rfl, .inl (.inl (.inl f4)), fun G2 nG2 => ?_⟩
          have nGF2 : G2 ≠ F := (ne_of_none x3.choose_spec.1 nG2).symm
          obtain ⟨xs2, y1, y2, y3⟩ := (x3.same (same_new (o := .lst ((M.getD k []).map V.int)) nG2)).set (k := j) nGF2 upd_same (by rw [List.length_set, sq.len]; exact oj)
          refine ⟨.ref F, rfl, .int (j : Nat), rfl, F, xs2, _, j, rfl, rfl, y1, y2, .ref F, rfl, ?_⟩
          refine q _ F (same_mut (S2.trans (same_new nG2)) nF) nF ?_
          have : M3.doneL M (k, j, m) = (M.set k (M.getD j [])).set j (M.getD k []) := (if_neg z).trans (if_pos zm)
          rw [this]
          exact y3
        · rw [decide_eq_false (show ¬ V.int m = V.int 0 from fun h => zm (V.int.inj h))]
          obtain ⟨rk, xs, f1, f2, f3, f4⟩ := hM'.at (k := k) (by rw [sq.len]; exact ok)
          obtain ⟨rj, xs', f1', f2', f3', f4'⟩ := hM'.at (k := j) (by rw [sq.len]; exact oj)
          have lM : ((((qs.map rv).length : Nat) : Int)).toNat = M.length := by rw [Int.toNat_natCast, List.length_map, lq, sq.len]
          refine iteF ⟨.ref a, rfl, a, _, rfl, .inl (.inl (.inl (e _ _ h1))), _, rfl, by rw [List.length_map]; omega, by rw [List.length_map]; omega, fun G nG => lc_range (lo := 0) (n := (((qs.map rv).length : Nat) : Int).toNat) (fun i H2 => Same H' H2 ∧ H2 G = some (.lst (((List.range i).map fun p => (M.getD k []).getD p 0 + m * (M.getD j []).getD p 0).map V.int))) ⟨same_new nG, upd_same⟩
            (fun i H2 hi z => ?_) (fun H2 z2 => ?_)⟩
          · rw [lM, sq.len] at hi
            refine ⟨rfl, .ref a, rfl, .int (k : Nat), rfl, a, _, _, .ref rk, rfl, rfl, .inl (.inl (z.1 _ _ f1)), f2, .int (0 + (i : Nat)), rfl, rk, _, _, .int ((M.getD k []).getD i 0), rfl, rfl, .inl (.inl (z.1 _ _ f4)), at_nat (by rw [row_len sq ok]; exact hi), ?_⟩
            refine ⟨.int m, rfl, .ref a, rfl, .int (j : Nat), rfl, a, _, _, .ref rj, rfl, rfl, .inl (.inl (z.1 _ _ f1')), f2', .int (0 + (i : Nat)), rfl, rj, _, _, .int ((M.getD j []).getD i 0), rfl, rfl, .inl (.inl (z.1 _ _ f4')), at_nat (by rw [row_len sq oj]; exact hi), m, _, rfl, rfl, .inl ⟨by omega, by omega⟩, _, _, rfl, rfl, _, z.2, ?_, same_mut z.1 nG, ?_⟩
            · rw [List.length_map, List.length_map, List.length_range]
              exact smallt (by omega)
            · rw [upd_same, List.range_succ, List.map_append, List.map_append]
              rfl
          · obtain ⟨z1, z3⟩ := z2
            rw [lM] at z3
            have nGF : G ≠ F := (ne_of_none hF.choose_spec.1 nG).symm
            obtain ⟨xs, x1, x2, x3⟩ := (hF.same z1).set (k := k) nGF z3 (by rw [sq.len]; exact ok)
            refine ⟨.ref F, rfl, .int (k : Nat), rfl, F, xs, _, k, rfl, rfl, x1, x2, .ref F, rfl, ?_⟩
            refine q _ F (same_mut (e.trans z1) nF) nF ?_
            have : M3.doneL M (k, j, m) = M.set k ((List.range M.length).map fun p => (M.getD k []).getD p 0 + m * (M.getD j []).getD p 0) := (if_neg z).trans (if_neg zm)
            rw [this]
            exact x3
end

end LW
set_option Elab.async false
set_option linter.all false
set_option maxRecDepth 100000
set_option maxHeartbeats 4000000
namespace LW
open PySem PySem.Spec PyProof.Rows L2 RS LB
section
variable {P : Program} {w : World} {K : PySem.W.Frag} {mg : Str → Option Value} {base : Heap} {C : Addr}
/-! ### the law's matrix -/
def spMat (K : PySem.W.Frag) : Sp := fun vs H Q _ => ∃ (n : Nat) (s : Int) (D : Addr) (ds : List M3.Doing), vs = [.int s, .ref D] ∧ (n : Int) = s ∧ Ds K D ds H ∧ n ≤ 4 ∧ M3.Oks n ds ∧ (∀ d ∈ ds, Sml d) ∧
  ∀ H' m, Same H H' → MtT K H' m (M3.rowsOf n ds) → Q (.ref m) H'
theorem ok__law_matrix {f : Addr} {fd : FuncData} (D : Df K mg "_law_matrix" ["_law_sides", "_law_doings_here"] s__law_matrix f fd) (T : Tx K mg C) (c__law_plain_matrix : Ca P w K mg base 1 "_law_plain_matrix" spPlain) (c__law_done : Ca P w K mg base 1 "_law_done" (spDone K)) :
    Ca P w K mg base 2 "_law_matrix" (spMat K) := by
  refine D.ca sc__law_matrix (fun vs H Q E h => ?_) (fun cdv A outer s H vs Q E hr h => ?_)
  · obtain ⟨n, s, D, ds, rfl, _⟩ := h
    rfl
  · obtain ⟨n, si, F, ds, rfl, rfl, ⟨qs, h1, h2, rfl⟩, n4, ok, sm, q⟩ := h
    refine ⟨_, (pss_cons (ps_set (i := 2) sc__law_matrix.nd rfl (by first | exact Or.inl rfl | exact Or.inr rfl) (pe_k c__law_plain_matrix hr (by omega) (by rfl) (pa_cons (pv 0) pa_nil)))
      (pss_cons (ps_for PassesOwn.never rfl (pi_list (pv 1)) (pg_name (i := 3) sc__law_matrix.nd rfl (by first | exact Or.inl rfl | exact Or.inr rfl)) (pss_one (ps_set (i := 2) sc__law_matrix.nd rfl (by first | exact Or.inl rfl | exact Or.inr rfl) (pe_k c__law_done hr (by omega) (by rfl) (pa_cons (pv 2) (pa_cons (pv 3) pa_nil))))))
      (pss_one (ps_ret (pe_callTy call_tuple_of (by rfl) T.b.tuple boot_tuple (pa_cons (pe_lc (own := [("_law_row", 4)]) (by rfl) sc__law_matrix.nd (pi_list (pv 2)) (blkOk_by (N := ["_law_sides", "_law_doings_here", "_law_rows", "_law_doing", "_law_row"]) (sc := defScope s__law_matrix) (by decide +kernel)) (fun _ _ _ _ _ => pg_name (i := 4) sc__law_matrix.nd rfl (by first | exact Or.inl rfl | exact Or.inr rfl)) (fun _ _ _ _ _ => pts_nil) (fun _ _ _ _ _ => (pe_callTy (call_tuple_of' K) (by rfl) T.b.tuple boot_tuple (pa_cons (pv 4) pa_nil)))) pa_nil)))))), ?_⟩
    refine ⟨.int (n : Nat), rfl, n, rfl, n4, fun H1 a0 e1 na0 hL => ?_⟩
    refine ⟨.ref F, rfl, F, rfl, ⟨_, .inl (.inl (e1 _ _ h1))⟩, for_list (K := K) (a := F) (xs := qs.map dv) (fun i σ H' => (∃ a x3, σ = [some (.int (n : Nat)), some (.ref F), some (.ref a), x3, none] ∧ Ll a (((qs.map (·.2)).take i).foldl M3.doneL (M3.plainM n)) H') ∧ Same H H') ⟨⟨_, _, rfl, hL⟩, e1⟩
      (fun i σ H' _ z => .inl (.inl (z.2 _ _ h1))) ?_ ?_⟩
    · rintro i x σ H' hx ⟨⟨a, x3, rfl, hL⟩, e⟩
      obtain ⟨k, hk, rfl⟩ := dv_at hx
      have km := List.mem_of_getElem? hk
      have hk2 : (qs.map (·.2))[i]? = some k.2 := by rw [List.getElem?_map, hk]; rfl
      have kd := List.mem_of_getElem? hk2
      have sq : M3.Sq n (((qs.map (·.2)).take i).foldl M3.doneL (M3.plainM n)) := M3.fold_sq (M3.plain_sq n) fun d hd => ok d (List.mem_of_mem_take hd)
      refine ⟨.ref a, rfl, dv k, rfl, a, k.1, n, _, k.2, rfl, hL, T_seq e (h2 k km), sq, n4, ok _ kd, sm _ kd, fun H2 b e2 nb hb => ⟨⟨b, _, rfl, ?_⟩, e.trans e2⟩⟩
      rw [List.take_add_one, hk2, Option.toList, List.foldl_append]
      exact hb
    · rintro σ H' ⟨⟨a, x3, rfl, hL⟩, e⟩
      rw [List.take_of_length_le (by simp)] at hL
      have sq : M3.Sq n (M3.rowsOf n (qs.map (·.2))) := M3.rows_sq ok
      obtain ⟨ps, p1, p2, p3⟩ := hL
      have lp : ps.length = n := by
        have := congrArg List.length p3
        have e := sq.len
        unfold M3.rowsOf at e
        rw [List.length_map] at this
        omega
      refine ⟨.ref a, rfl, a, rfl, ⟨_, .inl (.inl p1)⟩, fun D0 nD => lc_list (K := K) (a := a) (xs := ps.map rv) (fun i H2 => Same H' H2 ∧ Ml K D0 ((ps.map (·.2)).take i) H2) ⟨same_new nD, Ml.zero⟩
        (fun i H2 _ z => .inl (.inl (z.1 _ _ p1))) (fun i x H2 hx z => ?_) (fun H2 z => ?_)⟩
      · obtain ⟨y, hy, rfl⟩ := rv_at hx
        have hy2 : (ps.map (·.2))[i]? = some y.2 := by rw [List.getElem?_map, hy]; rfl
        refine ⟨rfl, rv y, rfl, y.1, _, rfl, .inl ⟨.inl (.inl (z.1 _ _ (p2 y (List.mem_of_getElem? hy)).2)), fun r nr => ?_⟩⟩
        obtain ⟨acc, g1, g2, g3⟩ := (z.2.same (same_new (o := .tup (y.2.map V.int)) nr)).push (r := r) (v := y.2) T_new (by rw [List.length_take, List.length_map]; omega)
        refine ⟨acc, g1, g2, same_mut (z.1.trans (same_new nr)) nD, ?_⟩
        rw [List.take_add_one, hy2]
        exact g3
      · obtain ⟨z1, z2⟩ := z
        rw [List.take_of_length_le (by simp)] at z2
        obtain ⟨gs, g1, g2, g3⟩ := z2
        refine ⟨D0, _, rfl, .inl ⟨.inl (.inl g1), fun t nt => ?_⟩⟩
        exact q _ t ((e.trans z1).trans (same_new nt)) ⟨gs, T_new, fun y hy => T_seq (same_new nt) (g2 y hy), g3.trans p3⟩
theorem done_bd {b n : Nat} {M : List (List Int)} (h : BdM b M) (sq : M3.Sq n M) {d : M3.Doing} (o : M3.Okd n d) (s : Sml d) : BdM (b + 21) (M3.doneL M d) := by
  obtain ⟨k, j, m⟩ := d
  obtain ⟨m0, m1⟩ := s
  simp only at m0 m1
  have mB : Bd 20 m := by
    unfold Bd
    show m.natAbs ≤ 1048576
    omega
  have row : ∀ i, ∀ x ∈ M.getD i [], Bd b x := fun i x hx => by
    rw [List.getD_eq_getElem?_getD] at hx
    cases e : M[i]? with
    | none => rw [e] at hx; cases hx
    | some r => rw [e] at hx; exact h r (List.mem_of_getElem? e) x hx
  have old : ∀ r ∈ M, ∀ x ∈ r, Bd (b + 21) x := fun r hr x hx => (h r hr x hx).mono (by omega)
  intro r hr x hx
  unfold M3.doneL at hr
  split at hr
  · rcases List.mem_or_eq_of_mem_set hr with z | rfl
    · exact old r z x hx
    · obtain ⟨y, hy, rfl⟩ := List.mem_map.mp hx
      rw [Int.zero_sub]
      exact ((row _ y hy).neg).mono (by omega)
  · split at hr
    · rcases List.mem_or_eq_of_mem_set hr with z | rfl
      · rcases List.mem_or_eq_of_mem_set z with z | rfl
        · exact old r z x hx
        · exact (row _ x hx).mono (by omega)
      · exact (row _ x hx).mono (by omega)
    · rcases List.mem_or_eq_of_mem_set hr with z | rfl
      · exact old r z x hx
      · obtain ⟨p, hp, rfl⟩ := List.mem_map.mp hx
        have a1 : Bd (20 + b) ((M.getD k []).getD p 0) := (Bd.getD (row k) p).mono (by omega)
        have a2 : Bd (20 + b) (m * (M.getD j []).getD p 0) := mB.mul (Bd.getD (row j) p)
        exact (a1.add a2).mono (by omega)
theorem fold_bd {n : Nat} : ∀ {ds : List M3.Doing} {M : List (List Int)} {b : Nat}, BdM b M → M3.Sq n M → M3.Oks n ds → (∀ d ∈ ds, Sml d) → BdM (b + 21 * ds.length) (ds.foldl M3.doneL M)
  | [], M, b, h, _, _, _ => fun r hr x hx => (h r hr x hx).mono (by omega)
  | d :: ds, M, b, h, sq, o, s => by
    have o1 := o d List.mem_cons_self
    have := fold_bd (ds := ds) (done_bd h sq o1 (s d List.mem_cons_self)) (M3.done_sq sq o1) (fun e he => o e (List.mem_cons_of_mem _ he)) fun e he => s e (List.mem_cons_of_mem _ he)
    intro r hr x hx
    refine (this r hr x hx).mono ?_
    rw [List.length_cons]
    omega
theorem rows_uni {n : Nat} {s : Int} {ds : List M3.Doing} (ns : (n : Int) = s) (n1 : 1 ≤ n) (n4 : n ≤ 4) (o : M3.Oks n ds) (sm : ∀ d ∈ ds, Sml d) (few : ds.length ≤ 90) : Uni n s (M3.rowsOf n ds) := by
  refine ⟨M3.rows_sq o, ns, n1, n4, ?_, M3.rows_det n1 n4 o⟩
  have p : BdM 1 (M3.plainM n) := fun r hr x hx => by
    obtain ⟨k, _, rfl⟩ := List.mem_map.mp hr
    obtain ⟨j, _, rfl⟩ := List.mem_map.mp hx
    unfold Bd
    split <;> decide
  intro r hr x hx
  exact (fold_bd p (M3.plain_sq n) o sm r hr x hx).mono (by omega)
theorem act_bd {b : Nat} {v : List Int} (h : ∀ x ∈ v, Bd b x) {d : M3.Doing} (s : Sml d) : ∀ x ∈ M3.act d v, Bd (b + 21) x := by
  obtain ⟨k, j, m⟩ := d
  obtain ⟨m0, m1⟩ := s
  simp only at m0 m1
  have mB : Bd 20 m := by
    unfold Bd
    show m.natAbs ≤ 1048576
    omega
  intro x hx
  unfold M3.act at hx
  split at hx
  · rcases List.mem_or_eq_of_mem_set hx with z | rfl
    · exact (h x z).mono (by omega)
    · rw [Int.zero_sub]; exact (Bd.getD h _).neg.mono (by omega)
  · split at hx
    · rcases List.mem_or_eq_of_mem_set hx with z | rfl
      · rcases List.mem_or_eq_of_mem_set z with z | rfl
        · exact (h x z).mono (by omega)
        · exact (Bd.getD h _).mono (by omega)
      · exact (Bd.getD h _).mono (by omega)
    · rcases List.mem_or_eq_of_mem_set hx with z | rfl
      · exact (h x z).mono (by omega)
      · have a1 : Bd (20 + b) (v.getD k 0) := (Bd.getD h k).mono (by omega)
        have a2 : Bd (20 + b) (m * v.getD j 0) := mB.mul (Bd.getD h j)
        exact (a1.add a2).mono (by omega)
theorem runs_bd : ∀ (ds : List M3.Doing) {b : Nat} {v : List Int}, (∀ x ∈ v, Bd b x) → (∀ d ∈ ds, Sml d) → ∀ x ∈ M3.runs ds v, Bd (b + 21 * ds.length) x
  | [], b, v, h, _ => fun x hx => (h x hx).mono (by omega)
  | d :: ds, b, v, h, s => fun x hx => by
    refine (runs_bd ds (act_bd h (s d List.mem_cons_self)) (fun e he => s e (List.mem_cons_of_mem _ he)) x hx).mono ?_
    rw [List.length_cons]
    omega
/-! ### _law_led, _law_turned -/
theorem ok__law_led {f : Addr} {fd : FuncData} (D : Df K mg "_law_led" ["_law_matrix_here", "_law_step_here"] s__law_led f fd) (T : Tx K mg C) : Ca P w K mg base 1 "_law_led" (spTs K) := by
  refine D.ca sc__law_led (fun vs H Q E h => ?_) (fun cdv A outer s H vs Q E hr h => ?_)
  · obtain ⟨m, v, n, M, xs, rfl, _⟩ := h
    rfl
  · obtain ⟨m, v, n, M, xs, rfl, ⟨qs, h1, h2, rfl⟩, hv, sq, n4, lx, bd, bx, q⟩ := h
    have lq : qs.length = n := by rw [← sq.len, List.length_map]
    refine ⟨_, (pss_one (ps_ret (pe_callTy call_tuple_of (by rfl) T.b.tuple boot_tuple (pa_cons (pe_lc (own := [("_law_row", 3)]) (by rfl) sc__law_led.nd (pi_tup (pv 0)) (blkOk_by (N := ["_law_matrix_here", "_law_step_here", "_law_place", "_law_row"]) (sc := defScope s__law_led) (by decide +kernel)) (fun _ _ _ _ _ => pg_name (i := 3) sc__law_led.nd rfl (by first | exact Or.inl rfl | exact Or.inr rfl)) (fun _ _ _ _ _ => pts_nil) (fun _ _ _ _ _ => (pe_callB (cr_sum' K rfl) (by rfl) T.b.sum boot_sum (pa_cons (pe_lc (own := [("_law_place", 2)]) (by rfl) sc__law_led.nd (pi_range1 (by rfl) T.b.range (pa_cons (pe_callB (call_len_seq' K) (by rfl) T.b.len boot_len (pa_cons (pv 1) pa_nil)) pa_nil)) (blkOk_in (N := ["_law_matrix_here", "_law_step_here", "_law_place", "_law_row"]) (by decide +kernel)) (fun _ _ _ _ _ => pg_name (i := 2) sc__law_led.nd rfl (by first | exact Or.inl rfl | exact Or.inr rfl)) (fun _ _ _ _ _ => pts_nil) (fun _ _ _ _ _ => (pe_op op_mulW (pe_ix (ix_tup' K) (pv 3) (pv 2) (fun _ _ => rfl)) (pe_ix (ix_tup' K) (pv 1) (pv 2) (fun _ _ => rfl))))) pa_nil)))) pa_nil)))), ?_⟩
    refine ⟨.ref m, rfl, m, rfl, ⟨_, h1⟩, fun D0 nD => lc_tup (K := K) (a := m) (xs := qs.map rv) (fun i H' => Same H H' ∧ H' D0 = some (.lst ((((qs.map (·.2)).take i).map fun r => M3.dot r xs).map V.int))) ⟨same_new nD, upd_same⟩
      (fun i H' _ p => T_seq p.1 h1) (fun i x H' hx p => ?_) (fun H' p => ?_)⟩
    · obtain ⟨k, hk, rfl⟩ := rv_at hx
      have km := List.mem_of_getElem? hk
      have hk3 : (qs.map (·.2))[i]? = some k.2 := by rw [List.getElem?_map, hk]; rfl
      have lk : k.2.length = n := sq.each _ (List.mem_map_of_mem km)
      have il : i < qs.length := (List.getElem?_eq_some_iff.mp hk).1
      refine ⟨rfl, .ref v, rfl, v, _, rfl, .inr (T_seq p.1 hv), _, rfl, by rw [List.length_map]; omega, by rw [List.length_map]; omega, fun D1 nD1 => lc_range (lo := 0) (n := (((xs.map V.int).length : Nat) : Int).toNat) (fun j H2 => Same H' H2 ∧ H2 D1 = some (.lst (((List.range j).map fun p => k.2.getD p 0 * xs.getD p 0).map V.int))) ⟨same_new nD1, upd_same⟩ (fun j H2 hj z => ?_) (fun H2 z => ?_)⟩
      · have jl : j < xs.length := by rw [Int.toNat_natCast, List.length_map] at hj; exact hj
        refine ⟨rfl, rv k, rfl, .int (0 + (j : Nat)), rfl, k.1, _, _, .int (k.2.getD j 0), rfl, rfl, T_seq (p.1.trans z.1) (h2 k km), at_nat (by omega), ?_⟩
        refine ⟨.ref v, rfl, .int (0 + (j : Nat)), rfl, v, _, _, .int (xs.getD j 0), rfl, rfl, T_seq (p.1.trans z.1) hv, at_nat jl, _, _, rfl, rfl, mulW (Bd.getD (bd k.2 (List.mem_map_of_mem km)) j) (Bd.getD bx j) (by decide), _, z.2, ?_, same_mut z.1 nD1, ?_⟩
        · rw [List.length_map, List.length_map, List.length_range]
          exact smallt (by omega)
        · rw [upd_same, List.range_succ, List.map_append, List.map_append]
          rfl
      · rw [Int.toNat_natCast, List.length_map] at z
        refine ⟨D1, _, rfl, .inl (.inl z.2), ?_⟩
        refine ⟨_, z.1 _ _ p.2, ?_, same_mut (p.1.trans z.1) nD, ?_⟩
        · rw [List.length_map, List.length_map, List.length_take]
          exact smallt (by omega)
        · rw [upd_same, ← take_map_succ (g := fun r : List Int => M3.dot r xs) hk3, List.map_append]
          rfl
    · obtain ⟨e, hD⟩ := p
      rw [List.take_of_length_le (by simp)] at hD
      exact ⟨D0, _, rfl, .inl ⟨.inl (.inl hD), fun t nt => q _ t (e.trans (same_new nt)) T_new⟩⟩
def spLT (K : PySem.W.Frag) : Sp := fun vs H Q _ => ∃ (a m : Addr) (s t : Int) (L : List RK) (n : Nat) (M : List (List Int)), vs = [.ref a, .ref m] ∧ PtAt K H a s t L ∧ Pok s t L ∧ L.length < 64 ∧ MtT K H m M ∧ Uni n s M ∧ (∀ k ∈ L, ∀ x ∈ k.2.2, Bd 2000 x) ∧
  ∀ H' a' L', Same H H' → PtAt K H' a' s t L' → AscM (L.map (tur M)) L' → Q (.ref a') H'
theorem ok__law_turned {f : Addr} {fd : FuncData} (D : Df K mg "_law_turned" ["_law_parts_here", "_law_matrix_here"] s__law_turned f fd) (T : Tx K mg C) (c__law_led : Ca P w K mg base 1 "_law_led" (spTs K)) (c__law_sorted_parts : Ca P w K mg base 1 "_law_sorted_parts" (spSp K)) :
    Ca P w K mg base 2 "_law_turned" (spLT K) := by
  refine D.ca sc__law_turned (fun vs H Q E h => ?_) (fun cdv A outer s H vs Q E hr h => ?_)
  · obtain ⟨a, m, s, t, L, n, M, rfl, _⟩ := h
    rfl
  · obtain ⟨a, m, si, ta, L, n, M, rfl, hp, G, l64, hm, U, bx, q⟩ := h
    obtain ⟨r, ks, h1, h2, h3, rfl⟩ := hp.ex
    have lk : ks.length < 64 := by rw [List.length_map] at l64; exact l64
    have un := U.ns
    refine ⟨_, (pss_cons (ps_setLc (i := 2) (own := [("_law_reading", 3)]) (by rfl) sc__law_turned.nd rfl rfl (sw_true rfl rfl rfl (by decide +kernel)) (pi_tup (pe_ix ix_tup (pv 0) pe_int (fun _ _ => rfl))) (blkOk_by (N := ["_law_parts_here", "_law_matrix_here", "_law_found", "_law_reading"]) (sc := defScope s__law_turned) (by decide +kernel)) (fun _ _ _ _ _ => pg_name (i := 3) sc__law_turned.nd rfl (by first | exact Or.inl rfl | exact Or.inr rfl)) (fun _ _ _ _ _ => pts_nil) (fun _ _ _ _ _ => (pe_tup (pa_cons (pe_ix (ix_tup' K) (pv 3) pe_int (fun _ _ => rfl)) (pa_cons (pe_ix (ix_tup' K) (pv 3) pe_int (fun _ _ => rfl)) (pa_cons (pe_k c__law_led hr (by omega) (by rfl) (pa_cons (pv 1) (pa_cons (pe_ix (ix_tup' K) (pv 3) pe_int (fun _ _ => rfl)) pa_nil))) pa_nil))))))
      (pss_one (ps_ret (pe_k c__law_sorted_parts hr (by omega) (by rfl) (pa_cons (pe_ix ix_tup (pv 0) pe_int (fun _ _ => rfl)) (pa_cons (pe_ix ix_tup (pv 0) pe_int (fun _ _ => rfl)) (pa_cons (pv 2) pa_nil))))))), ?_⟩
    refine ⟨.ref a, rfl, a, _, 2, .ref r, rfl, rfl, h1, rfl, r, rfl, ⟨_, h2⟩, fun D0 nD => lc_tup (K := K) (a := r) (xs := ks.map rf) (fun i H' => Same H H' ∧ Bt K D0 (((ks.map (·.2)).take i).map (tur M)) H') ⟨same_new nD, Bt.zero⟩
      (fun i H' _ z => T_seq z.1 h2) (fun i x H' hx z => ?_) (fun H' z => ?_)⟩
    · obtain ⟨k, hk, rfl⟩ := rf_at hx
      obtain ⟨e, b⟩ := z
      have km := List.mem_of_getElem? hk
      have hk2 : (ks.map (·.2))[i]? = some k.2 := by rw [List.getElem?_map, hk]; rfl
      have gk := G.each _ (List.mem_of_getElem? hk2)
      have ln := gk.ln
      obtain ⟨t, g1, g2⟩ := rd_same e (h3 k km)
      refine ⟨rfl, rf k, rfl, k.1, _, 0, .int k.2.1, rfl, rfl, g1, rfl, rf k, rfl, k.1, _, 1, .int k.2.2.1, rfl, rfl, g1, rfl, ?_⟩
      refine ⟨.ref m, rfl, rf k, rfl, k.1, _, 2, .ref t, rfl, rfl, g1, rfl, m, t, n, M, k.2.2.2, rfl, hm.same e, g2, U.sq, U.n4, by omega, U.bd, bx k.2 (List.mem_map_of_mem km), fun H2 t2 e2 hT => ⟨small (Nat.le_of_ble_eq_true rfl), fun d nd => ?_⟩⟩
      obtain ⟨acc, b1, b2, b3⟩ := ((b.same e2).same (same_new (o := .tup [.int k.2.1, .int k.2.2.1, .ref t2]) nd)).push (k := tur M k.2) (a := d) ⟨t2, T_new, T_seq (same_new nd) hT⟩ (by rw [List.length_map, List.length_take]; have := G.few; omega)
      rw [take_map_succ hk2] at b3
      exact ⟨acc, b1, b2, same_mut ((e.trans e2).trans (same_new nd)) nD, b3⟩
    · obtain ⟨e, b, c1, c2, c3⟩ := z
      have c4 : b.map (·.2) = (ks.map (·.2)).map (tur M) := by
        rw [c3, List.take_of_length_le (by simp)]
      have fw : b.length = ks.length := by
        have := congrArg List.length c4
        simp only [List.length_map] at this
        exact this
      refine ⟨.ref a, rfl, a, _, 0, .int si, rfl, rfl, T_seq e h1, rfl, .ref a, rfl, a, _, 1, .int ta, rfl, rfl, T_seq e h1, rfl, .ref D0, rfl, si, ta, D0, b, rfl, .inl (.inl c1), c2, by omega, fun H2 a' L' e2 pt as => ?_⟩
      exact q H2 a' L' (e.trans e2) pt (c4 ▸ as)
end

end LW
set_option Elab.async false
set_option linter.all false
set_option maxRecDepth 100000
set_option maxHeartbeats 4000000
namespace LW
open PySem PySem.Spec PyProof.Rows L2 RS LB
section
variable {P : Program} {w : World} {K : PySem.W.Frag} {mg : Str → Option Value} {base : Heap} {C : Addr}
def run (ds : List M3.Doing) (k : RK) : RK := (k.1, k.2.1, M3.runs ds k.2.2)
theorem InR.run {s t : Int} {k : RK} (ds : List M3.Doing) (h : InR s t k) : InR s t (run ds k) :=
  ⟨h.a0, h.a1, h.b0, h.b1, by show ((M3.runs ds k.2.2).length : Int) = s; rw [M3.runs_len]; exact h.ln, by show (M3.runs ds k.2.2).length ≤ 4; rw [M3.runs_len]; exact h.few⟩
theorem InR.stc {s t : Int} {k : RK} (c : Int) (h : InR s t k) : InR s t (stc c k) :=
  ⟨h.a0, h.a1, h.b0, h.b1, by show ((M3.strc c k.2.2).length : Int) = s; unfold M3.strc; rw [List.length_map]; exact h.ln, by show (M3.strc c k.2.2).length ≤ 4; unfold M3.strc; rw [List.length_map]; exact h.few⟩
theorem tur_run {s t : Int} {n : Nat} {L : List RK} {ds : List M3.Doing} (G : Pok s t L) (ns : (n : Int) = s) (n1 : 1 ≤ n) (n4 : n ≤ 4) (o : M3.Oks n ds) : L.map (tur (M3.rowsOf n ds)) = L.map (run ds) :=
  List.map_congr_left fun k hk => by
    unfold tur run
    rw [M3.rows_led n1 n4 (by have := (G.each k hk).ln; omega) o]
theorem run_inj {s t : Int} {n : Nat} {ds : List M3.Doing} (ns : (n : Int) = s) (n4 : n ≤ 4) (o : M3.Oks n ds) (j k : RK) (hj : InR s t j) (hk : InR s t k) (e : run ds j = run ds k) : j = k := by
  obtain ⟨a, b, v⟩ := j
  obtain ⟨a', b', v'⟩ := k
  unfold run at e
  simp only [Prod.mk.injEq] at e
  obtain ⟨rfl, rfl, e⟩ := e
  have h1 := M3.con_runs n4 ds (v := v) (by have : (v.length : Int) = s := hj.ln; omega) o
  have h2 := M3.con_runs n4 ds (v := v') (by have : (v'.length : Int) = s := hk.ln; omega) o
  rw [← h1, e, h2]
theorem Pok.run {s t : Int} {L M : List RK} (G : Pok s t L) {ds : List M3.Doing} (a : Asc (L.map (run ds)) M) : Pok s t M := G.led G.s1 G.s4 G.t1 G.tm (fun _ h => h.run ds) a
theorem Pok.stc {s t c : Int} {L M : List RK} (G : Pok s t L) (a : Asc (L.map (stc c)) M) : Pok s t M := G.led G.s1 G.s4 G.t1 G.tm (fun _ h => h.stc c) a
theorem nodup_run {s t : Int} {n : Nat} {L : List RK} {ds : List M3.Doing} (G : Pok s t L) (ns : (n : Int) = s) (n4 : n ≤ 4) (o : M3.Oks n ds) : (L.map (run ds)).Nodup := nodup_led G fun j k hj hk e => run_inj ns n4 o j k hj hk e
def StB (b : Nat) (L : List RK) : Prop := ∀ k ∈ L, ∀ x ∈ k.2.2, Bd b x
theorem StB.mono {a b : Nat} {L : List RK} (h : StB a L) (l : a ≤ b) : StB b L := fun k hk x hx => (h k hk x hx).mono l
theorem StB.run {b : Nat} {L M : List RK} {ds : List M3.Doing} (h : StB b L) (sm : ∀ d ∈ ds, Sml d) (a : Asc (L.map (run ds)) M) : StB (b + 21 * ds.length) M := fun k hk x hx => by
  obtain ⟨j, hj, rfl⟩ := List.mem_map.mp (a.pm.mem_iff.mp hk)
  exact runs_bd ds (h j hj) sm x hx
theorem StB.stc {b : Nat} {c : Int} {L M : List RK} (h : StB b L) (c1 : 1 ≤ c) (c2 : c ≤ 1000000000000) (a : Asc (L.map (stc c)) M) : StB (b + 40) M := fun k hk x hx => by
  obtain ⟨j, hj, rfl⟩ := List.mem_map.mp (a.pm.mem_iff.mp hk)
  obtain ⟨y, hy, rfl⟩ := List.mem_map.mp hx
  refine (h j hj y hy).mul ?_
  unfold Bd
  show c.natAbs ≤ 1099511627776
  omega
theorem good_StB {s t : Int} {L : List RK} (G : GoodP s t L) : StB 40 L := fun k hk x hx => by
  have := (G.each k hk).sh x hx
  unfold Bd
  show x.natAbs ≤ 1099511627776
  omega
theorem mem2 {L M A : List RK} {f g : RK → RK} (x : Asc (L.map f) M) (y : Asc (M.map g) A) (k : RK) : k ∈ A ↔ k ∈ L.map fun i => g (f i) := by
  rw [y.pm.mem_iff]
  constructor
  · intro h
    obtain ⟨j, hj, rfl⟩ := List.mem_map.mp h
    obtain ⟨i, hi, rfl⟩ := List.mem_map.mp (x.pm.mem_iff.mp hj)
    exact List.mem_map.mpr ⟨i, hi, rfl⟩
  · intro h
    obtain ⟨i, hi, rfl⟩ := List.mem_map.mp h
    exact List.mem_map.mpr ⟨f i, x.pm.mem_iff.mpr (List.mem_map.mpr ⟨i, hi, rfl⟩), rfl⟩
theorem eq22 {L M A M' A' : List RK} {f g f' g' : RK → RK} (x : Asc (L.map f) M) (y : Asc (M.map g) A) (x' : Asc (L.map f') M') (y' : Asc (M'.map g') A') (h : ∀ i ∈ L, g (f i) = g' (f' i)) : A = A' :=
  asc_one y.up y'.up fun k => by rw [mem2 x y, mem2 x' y', List.map_congr_left h]
theorem eq21 {L M A B : List RK} {f g e : RK → RK} (x : Asc (L.map f) M) (y : Asc (M.map g) A) (z : Asc (L.map e) B) (h : ∀ i ∈ L, g (f i) = e i) : A = B :=
  asc_one y.up z.up fun k => by rw [mem2 x y, z.pm.mem_iff, List.map_congr_left h]
theorem eq20 {L M A : List RK} {f g : RK → RK} (up : L.Pairwise rlt) (x : Asc (L.map f) M) (y : Asc (M.map g) A) (h : ∀ i ∈ L, g (f i) = i) : A = L :=
  asc_one y.up up fun k => by rw [mem2 x y, List.map_congr_left h, List.map_id' ]
theorem eq10 {L A : List RK} {f : RK → RK} (up : L.Pairwise rlt) (x : Asc (L.map f) A) (h : ∀ i ∈ L, f i = i) : A = L :=
  asc_one x.up up fun k => by rw [x.pm.mem_iff, List.map_congr_left h, List.map_id']
theorem neP_alike {H : Hp} {a b : Addr} {s t : Int} {L L' : List RK} {Q : VK} (ha : PgAt K C H a s t L) (hb : PgAt K C H b s t L') (e : L = L') (q : ∀ H', Same H H' → Q (.bl false) H') : rEqP C (spPEq K C) true (.ref a) (.ref b) H Q := by
  subst e
  obtain ⟨dx, fs, r, ks, h1, _⟩ := ha.ex
  obtain ⟨dx', fs', r', ks', h1', _⟩ := hb.ex
  exact ⟨a, b, dx, dx', fs, fs', true, rfl, rfl, h1, h1', ⟨s, t, L, s, t, L, ha, hb, (decide_eq_true ⟨rfl, rfl, rfl⟩).symm⟩, q⟩
theorem Ds.app {A B F : Addr} {H : Hp} {ds es : List M3.Doing} (x : Ds K A ds H) (y : Ds K B es H) (n : H F = none) : ∃ xs ys, H A = some (.lst xs) ∧ H B = some (.lst ys) ∧ xs.length = ds.length ∧ ys.length = es.length ∧ Ds K F (ds ++ es) (upd H F (.lst (xs ++ ys))) := by
  obtain ⟨qs, h1, h2, rfl⟩ := x
  obtain ⟨gs, g1, g2, rfl⟩ := y
  refine ⟨_, _, h1, g1, by simp, by simp, qs ++ gs, by rw [upd_same, List.map_append], fun q hq => ?_, by rw [List.map_append]⟩
  rcases List.mem_append.mp hq with z | z
  · exact T_seq (same_new n) (h2 q z)
  · exact T_seq (same_new n) (g2 q z)
theorem PtAt.sq {H : Hp} {a : Addr} {s t : Int} {L : List RK} (h : PtAt K H a s t L) : SqT K H a [.int s, .int t, .ref h.ex.choose] := h.ex.choose_spec.choose_spec.1
structure Fx (K : PySem.W.Frag) (C : Addr) (H : Hp) (pa pr po m : Addr) (s t : Int) (L Lo : List RK) (M : List (List Int)) : Prop where
  pt : PtAt K H pa s t L
  pg : PgAt K C H pr s t L
  po : PgAt K C H po s t Lo
  mt : MtT K H m M
theorem Fx.same {H H' : Hp} {pa pr po m : Addr} {s t : Int} {L Lo : List RK} {M : List (List Int)} (e : Same H H') (h : Fx K C H pa pr po m s t L Lo M) : Fx K C H' pa pr po m s t L Lo M :=
  ⟨h.pt.same e, h.pg.same e, h.po.same e, h.mt.same e⟩
theorem MtT.but {H H' : Hp} {p c a : Addr} {M : List (List Int)} (P : Pool H p c) (B : But p c H H') (h : MtT K H a M) : MtT K H' a M := by
  obtain ⟨qs, h1, h2, h3⟩ := h
  exact ⟨qs, P.t B h1, fun q hq => P.t B (h2 q hq), h3⟩
theorem Fx.but {H H' : Hp} {p c pa pr po m : Addr} {s t : Int} {L Lo : List RK} {M : List (List Int)} (P : Pool H p c) (B : But p c H H') (h : Fx K C H pa pr po m s t L Lo M) : Fx K C H' pa pr po m s t L Lo M :=
  ⟨h.pt.but P B, h.pg.but P B, h.po.but P B, h.mt.but P B⟩
def spLaw (K : PySem.W.Frag) : Sp := fun vs H Q _ => ∃ (a : Addr) (ns : List Int), vs = [.ref a] ∧ SqL K H a (ns.map V.int) ∧ ns.length ≤ 63 ∧ ∀ H', Q (.bl true) H'
theorem ok_law {f : Addr} {fd : FuncData} (D : Df K mg "law" ["_law_script"] s_law f fd) (T : Tx K mg C) (eqP : Eq1 P w K mg base 1 C (spPEq K C)) (c__law_pool : Ca P w K mg base 1 "_law_pool" (spPool K)) (c__law_parts : Ca P w K mg base 4 "_law_parts" (spParts K))
    (c__law_program : Ca P w K mg base 7 "_law_program" (spProg K C)) (c__law_some : Ca P w K mg base 2 "_law_some" (spSome K)) (c__law_is : Ca P w K mg base 8 "_law_is" (spIs K C)) (c__law_doings : Ca P w K mg base 3 "_law_doings" (spDo K)) (c__law_matrix : Ca P w K mg base 2 "_law_matrix" (spMat K))
    (c_turned : Ca P w K mg base 8 "turned" (spTur K C)) (c__law_turned : Ca P w K mg base 2 "_law_turned" (spLT K)) (c_stretched : Ca P w K mg base 8 "stretched" (spStc K C)) (c__law_sorted_parts : Ca P w K mg base 1 "_law_sorted_parts" (spSp K)) : FnOk P w K mg base CX0 12 f fd ["_law_script"] (spLaw K) := by
  refine D.fn.ok sc_law (fun vs H Q E h => ?_) (fun cdv A outer s H vs Q E hr h => ?_)
  · obtain ⟨a, ns, rfl, _⟩ := h
    rfl
  · obtain ⟨a, nns, rfl, ha, few, q⟩ := h
    refine ⟨_, (pss_cons (ps_set (i := 1) sc_law.nd rfl (by first | exact Or.inl rfl | exact Or.inr rfl) (pe_k c__law_pool hr (by omega) (by rfl) (pa_cons (pv 0) pa_nil)))
      (pss_cons (ps_for PassesOwn.never rfl (pi_range1 (by rfl) T.b.range (pa_cons pe_int pa_nil)) (pg_name (i := 2) sc_law.nd rfl (by first | exact Or.inl rfl | exact Or.inr rfl)) (pss_cons (ps_set (i := 3) sc_law.nd rfl (by first | exact Or.inl rfl | exact Or.inr rfl) (pe_k c__law_parts hr (by omega) (by rfl) (pa_cons (pv 1) pa_nil)))
      (pss_cons (ps_set (i := 4) sc_law.nd rfl (by first | exact Or.inl rfl | exact Or.inr rfl) (pe_k c__law_program hr (by omega) (by rfl) (pa_cons (pv 3) pa_nil)))
      (pss_cons (ps_par (i := 5) (j := 6) (by rfl) sc_law.nd rfl rfl (by decide) rfl rfl (pa_cons (pe_k c__law_doings hr (by omega) (by rfl) (pa_cons (pv 1) (pa_cons (pe_ix ix_tup (pv 3) pe_int (fun _ _ => rfl)) pa_nil))) (pa_cons (pe_k c__law_doings hr (by omega) (by rfl) (pa_cons (pv 1) (pa_cons (pe_ix ix_tup (pv 3) pe_int (fun _ _ => rfl)) pa_nil))) pa_nil)) (by rfl))
      (pss_cons (ps_setLc (i := 7) (own := [("_law_doing", 8)]) (by rfl) sc_law.nd rfl rfl (sw_true rfl rfl rfl (by decide +kernel)) (pi_list (pe_revL (pv 5))) (blkOk_by (N := ["_law_script", "_law_pool_here", "_law_turn", "_law_parts_here", "_law_program_here", "_law_doings_here", "_law_more", "_law_contrary", "_law_doing", "_law_matrix_here", "_law_other", "_law_both", "_law_times", "_law_long", "_law_reader", "_law_read", "_law_step_here", "_law_item"]) (sc := defScope s_law) (by decide +kernel)) (fun _ _ _ _ _ => pg_name (i := 8) sc_law.nd rfl (by first | exact Or.inl rfl | exact Or.inr rfl)) (fun _ _ _ _ _ => pts_nil) (fun _ _ _ _ _ => (pe_tup (pa_cons (pe_ix (ix_tup' K) (pv 8) pe_int (fun _ _ => rfl)) (pa_cons (pe_ix (ix_tup' K) (pv 8) pe_int (fun _ _ => rfl)) (pa_cons (pe_op op_sub pe_int (pe_ix (ix_tup' K) (pv 8) pe_int (fun _ _ => rfl))) pa_nil))))))
      (pss_cons (ps_set (i := 9) sc_law.nd rfl (by first | exact Or.inl rfl | exact Or.inr rfl) (pe_k c__law_matrix hr (by omega) (by rfl) (pa_cons (pe_ix ix_tup (pv 3) pe_int (fun _ _ => rfl)) (pa_cons (pv 5) pa_nil))))
      (pss_cons (ps_set (i := 10) sc_law.nd rfl (by first | exact Or.inl rfl | exact Or.inr rfl) (pe_k c_turned hr (by omega) (by rfl) (pa_cons (pv 4) (pa_cons (pv 9) pa_nil))))
      (pss_cons (ps_if (pt_not (pt_val (pe_k c__law_is hr (by omega) (by rfl) (pa_cons (pv 10) (pa_cons (pe_k c__law_turned hr (by omega) (by rfl) (pa_cons (pv 3) (pa_cons (pv 9) pa_nil))) pa_nil))))) (pss_one (ps_ret pe_bl)) pss_nil)
      (pss_cons (ps_if (pt_cmpR (op_neK eqP hr (by omega)) (pe_k c_turned hr (by omega) (by rfl) (pa_cons (pv 10) (pa_cons (pe_k c__law_matrix hr (by omega) (by rfl) (pa_cons (pe_ix ix_tup (pv 3) pe_int (fun _ _ => rfl)) (pa_cons (pv 7) pa_nil))) pa_nil))) (pv 4) (nomark _)) (pss_one (ps_ret pe_bl)) pss_nil)
      (pss_cons (ps_set (i := 11) sc_law.nd rfl (by first | exact Or.inl rfl | exact Or.inr rfl) (pe_k c__law_matrix hr (by omega) (by rfl) (pa_cons (pe_ix ix_tup (pv 3) pe_int (fun _ _ => rfl)) (pa_cons (pe_op op_cat (pv 5) (pv 6)) pa_nil))))
      (pss_cons (ps_if (pt_cmpR (op_neK eqP hr (by omega)) (pe_k c_turned hr (by omega) (by rfl) (pa_cons (pv 10) (pa_cons (pe_k c__law_matrix hr (by omega) (by rfl) (pa_cons (pe_ix ix_tup (pv 3) pe_int (fun _ _ => rfl)) (pa_cons (pv 6) pa_nil))) pa_nil))) (pe_k c_turned hr (by omega) (by rfl) (pa_cons (pv 4) (pa_cons (pv 11) pa_nil))) (nomark _)) (pss_one (ps_ret pe_bl)) pss_nil)
      (pss_cons (ps_set (i := 12) sc_law.nd rfl (by first | exact Or.inl rfl | exact Or.inr rfl) (pe_k c__law_some hr (by omega) (by rfl) (pa_cons (pv 1) (pa_cons (pe_lst (pa_cons pe_int (pa_cons pe_int (pa_cons pe_int (pa_cons pe_int (pa_cons (pe_op op_pow pe_int pe_int) pa_nil)))))) pa_nil))))
      (pss_cons (ps_set (i := 13) sc_law.nd rfl (by first | exact Or.inl rfl | exact Or.inr rfl) (pe_lst pa_nil))
      (pss_cons (ps_for PassesOwn.never rfl (pi_tup (pe_ix ix_tup (pv 3) pe_int (fun _ _ => rfl))) (pg_tup (by rfl) (pgs_cons (pg_name (i := 14) sc_law.nd rfl (by first | exact Or.inl rfl | exact Or.inr rfl)) (pgs_cons (pg_name (i := 15) sc_law.nd rfl (by first | exact Or.inl rfl | exact Or.inr rfl)) (pgs_cons (pg_name (i := 16) sc_law.nd rfl (by first | exact Or.inl rfl | exact Or.inr rfl)) pgs_nil)))) (pss_one (ps_expr (pe_bm PySem.F.plainAttrs_list PySem.F.slot_list_append PySem.F.type_list_append mt_append (pv 13) (pa_cons (pe_tup (pa_cons (pv 14) (pa_cons (pv 15) (pa_cons (pe_callTy call_tuple_of (by rfl) T.b.tuple boot_tuple (pa_cons (pe_lc (own := [("_law_item", 17)]) (by rfl) sc_law.nd (pi_tup (pv 16)) (blkOk_by (N := ["_law_script", "_law_pool_here", "_law_turn", "_law_parts_here", "_law_program_here", "_law_doings_here", "_law_more", "_law_contrary", "_law_doing", "_law_matrix_here", "_law_other", "_law_both", "_law_times", "_law_long", "_law_reader", "_law_read", "_law_step_here", "_law_item"]) (sc := defScope s_law) (by decide +kernel)) (fun _ _ _ _ _ => pg_name (i := 17) sc_law.nd rfl (by first | exact Or.inl rfl | exact Or.inr rfl)) (fun _ _ _ _ _ => pts_nil) (fun _ _ _ _ _ => (pe_op op_mul (pv 12) (pv 17)))) pa_nil)) pa_nil)))) pa_nil)))))
      (pss_cons (ps_if (pt_not (pt_val (pe_k c__law_is hr (by omega) (by rfl) (pa_cons (pe_k c_stretched hr (by omega) (by rfl) (pa_cons (pv 4) (pa_cons (pv 12) pa_nil))) (pa_cons (pe_k c__law_sorted_parts hr (by omega) (by rfl) (pa_cons (pe_ix ix_tup (pv 3) pe_int (fun _ _ => rfl)) (pa_cons (pe_ix ix_tup (pv 3) pe_int (fun _ _ => rfl)) (pa_cons (pv 13) pa_nil)))) pa_nil))))) (pss_one (ps_ret pe_bl)) pss_nil)
      (pss_cons (ps_if (pt_cmpR (op_neK eqP hr (by omega)) (pe_k c_stretched hr (by omega) (by rfl) (pa_cons (pv 10) (pa_cons (pv 12) pa_nil))) (pe_k c_turned hr (by omega) (by rfl) (pa_cons (pe_k c_stretched hr (by omega) (by rfl) (pa_cons (pv 4) (pa_cons (pv 12) pa_nil))) (pa_cons (pv 9) pa_nil))) (nomark _)) (pss_one (ps_ret pe_bl)) pss_nil)
      (pss_cons (ps_if (PW.pt (pw_or (pt_cmpR (op_neK eqP hr (by omega)) (pe_k c_turned hr (by omega) (by rfl) (pa_cons (pv 4) (pa_cons (pe_k c__law_matrix hr (by omega) (by rfl) (pa_cons (pe_ix ix_tup (pv 3) pe_int (fun _ _ => rfl)) (pa_cons (pe_lst pa_nil) pa_nil))) pa_nil))) (pv 4) (nomark _)) (pw_or1 (pt_cmpR (op_neK eqP hr (by omega)) (pe_k c_stretched hr (by omega) (by rfl) (pa_cons (pv 4) (pa_cons pe_int pa_nil))) (pv 4) (nomark _))))) (pss_one (ps_ret pe_bl)) pss_nil)
      (pss_one (ps_if (pt_not (pt_val (pe_k c__law_is hr (by omega) (by rfl) (pa_cons (pv 4) (pa_cons (pv 3) pa_nil))))) (pss_one (ps_ret pe_bl)) pss_nil)))))))))))))))))))
      (pss_one (ps_ret pe_bl)))), ?_⟩
    refine ⟨.ref a, rfl, a, nns, rfl, ha, few, fun H0 p c e0 np nc P0 => ?_⟩
    refine ⟨4, rfl, by decide, by decide, for_range (lo := 0) (n := (4 : Int).toNat) (fun i σ H' => (∃ x2 x3 x4 x5 x6 x7 x8 x9 x10 x11 x12 x13 x14 x15 x16 x17, σ = [some (.ref a), some (.ref p), x2, x3, x4, x5, x6, x7, x8, x9, x10, x11, x12, x13, x14, x15, x16, x17]) ∧ Pool H' p c) ⟨⟨_, _, _, _, _, _, _, _, _, _, _, _, _, _, _, _, rfl⟩, P0⟩ ?_ ?_⟩
    · rintro i σ H1 hi ⟨⟨x2, x3, x4, x5, x6, x7, x8, x9, x10, x11, x12, x13, x14, x15, x16, x17, rfl⟩, P1⟩
      refine ⟨.ref p, rfl, p, c, rfl, P1, fun H2 pa si ta L B2 P2 pt G => ?_⟩
      have Gk := G.ok
      refine ⟨.ref pa, rfl, pa, si, ta, L, rfl, pt, G, fun H3 pr e3 n3 pg => ?_⟩
      obtain ⟨r, ks, pt1, pt2, pt3, pt4⟩ := (pt.same e3).ex
      have P3 := P2.same e3
      obtain ⟨n, ns⟩ : ∃ n : Nat, (n : Int) = si := ⟨si.toNat, Int.toNat_of_nonneg (by have := G.s1; omega)⟩
      have n1 : 1 ≤ n := by have := G.s1; omega
      have n4 : n ≤ 4 := by have := G.s4; omega
      refine ⟨.ref p, rfl, .ref pa, rfl, pa, _, 0, .int si, rfl, rfl, pt1, rfl, p, c, si, n, rfl, P3, ns, n1, n4, fun H4 D1 ds B4 P4 nD1 hd1 ok1 sm1 l1 => ?_⟩
      refine ⟨.ref p, rfl, .ref pa, rfl, pa, _, 0, .int si, rfl, rfl, P3.t B4 pt1, rfl, p, c, si, n, rfl, P4, ns, n1, n4, fun H5 D2 es B5 P5 nD2 hd2 ok2 sm2 l2 => ?_⟩
      have nd1 := P3.np nD1
      have nd2 := P4.np nD2
      have hd1 := Ds.but P4 B5 nd1 hd1
      have B45 := B4.trans B5
      have pt5 := (pt.same e3).but P3 B45
      have pg5 := pg.but P3 B45
      refine ⟨.ref D1, .ref D2, rfl, ?_⟩
      -- contrary
      obtain ⟨qs, h1, h2, hds⟩ := id hd1
      refine ⟨.ref D1, rfl, D1, _, rfl, .inl (.inl h1), fun R nR => ?_⟩
      rw [← List.map_reverse]
      refine ⟨R, rfl, ⟨_, .inl (.inl upd_same)⟩, fun D3 nD3 => lc_list (K := K) (a := R) (xs := qs.reverse.map dv) (fun i H' => Same H5 H' ∧ H' R = some (.lst (qs.reverse.map dv)) ∧ Ds K D3 ((((qs.map (·.2)).reverse).take i).map M3.inv) H') ⟨(same_new nR).trans (same_new nD3), same_new nD3 _ _ upd_same, Ds.zero⟩
        (fun i H' _ z => .inl (.inl z.2.1)) (fun i x H' hx z => ?_) (fun H6 z => ?_)⟩
      · obtain ⟨z1, z2, z3⟩ := z
        obtain ⟨y, hy, rfl⟩ := dv_at hx
        have hy2 : ((qs.map (·.2)).reverse)[i]? = some y.2 := by rw [← List.map_reverse, List.getElem?_map, hy]; rfl
        have hT := T_seq z1 (h2 y (List.mem_reverse.mp (List.mem_of_getElem? hy)))
        have few4 : (qs.map (·.2)).length ≤ 4 := by rw [hds]; exact l1
        refine ⟨rfl, dv y, rfl, y.1, _, 0, .int (y.2.1 : Nat), rfl, rfl, hT, rfl, dv y, rfl, y.1, _, 1, .int (y.2.2.1 : Nat), rfl, rfl, hT, rfl, dv y, rfl, y.1, _, 2, .int y.2.2.2, rfl, rfl, hT, rfl, 0, y.2.2.2, rfl, rfl, small (Nat.le_of_ble_eq_true rfl), fun t nt => ?_⟩
        obtain ⟨acc, g1, g2, g3⟩ := (z3.same (same_new (o := .tup [.int (y.2.1 : Nat), .int (y.2.2.1 : Nat), .int (0 - y.2.2.2)]) nt)).push (r := t) (v := M3.inv y.2) T_new (by rw [List.length_map, List.length_take, List.length_reverse]; omega)
        rw [take_map_succ hy2] at g3
        exact ⟨acc, g1, g2, same_mut (z1.trans (same_new nt)) ((same_new nR).none nD3), by rw [upd_ne (fun h => by rw [h, upd_same] at nD3; cases nD3)]; exact same_new nt _ _ z2, g3⟩
      obtain ⟨z1, _, hd3⟩ := z
      rw [List.take_of_length_le (by simp), hds] at hd3
      replace hd3 : Ds K D3 (M3.con ds) H6 := hd3
      have hd1 := hd1.same z1
      have hd2 := hd2.same z1
      have pt6 := pt5.same z1
      have pg6 := pg5.same z1
      have P6 := P5.same z1
      have ok3 := M3.con_ok ok1
      have sm3 : ∀ d ∈ M3.con ds, Sml d := fun d hd => by
        obtain ⟨e, he, rfl⟩ := List.mem_map.mp hd
        have := sm1 e (List.mem_reverse.mp he)
        exact ⟨by show -1000000 ≤ 0 - e.2.2; have := this.2; omega, by show 0 - e.2.2 ≤ 1000000; have := this.1; omega⟩
      have l3 : (M3.con ds).length ≤ 4 := by unfold M3.con; rw [List.length_map, List.length_reverse]; exact l1
      clear hds h1 h2
      have U1 := rows_uni ns n1 n4 ok1 sm1 (by omega)
      have sB := good_StB G
      have l64 : L.length < 64 := by have := G.few; omega
      -- the matrix and the program turned by it
      refine ⟨.ref pa, rfl, pa, _, 0, .int si, rfl, rfl, pt6.sq, rfl, .ref D1, rfl, n, si, D1, ds, rfl, ns, hd1, n4, ok1, sm1, fun H7 m e7 hm => ?_⟩
      refine ⟨.ref pr, rfl, .ref m, rfl, pr, m, si, ta, L, n, M3.rowsOf n ds, rfl, pg6.same e7, Gk, hm, U1, sB.mono (by decide), by rw [tur_run Gk ns n1 n4 ok1]; exact nodup_run Gk ns n4 ok1, fun H8 po Lo e8 n8 pgo aso0 => ?_⟩
      have aso := aso0
      rw [tur_run Gk ns n1 n4 ok1] at aso
      have X : Fx K C H8 pa pr po m si ta L Lo (M3.rowsOf n ds) := ⟨(pt6.same e7).same e8, (pg6.same e7).same e8, pgo, hm.same e8⟩
      have hd1 := (hd1.same e7).same e8
      have hd2 := (hd2.same e7).same e8
      have hd3 := (hd3.same e7).same e8
      have P8 := (P6.same e7).same e8
      have Go := Gk.run aso
      have sBo : StB 2000 Lo := (sB.run sm1 aso).mono (by omega)
      have sB2 : StB 2000 L := sB.mono (by decide)
      refine ⟨.ref po, rfl, .ref pa, rfl, .ref m, rfl, pa, m, si, ta, L, n, _, rfl, X.pt, Gk, l64, X.mt, U1, sB2, fun H9 ab Mb e9 ptb asb => ?_⟩
      have em := aso0.eqM asb
      subst em
      refine ⟨po, ab, si, ta, Lo, rfl, X.po.same e9, ptb, Go, fun H10 e10 => ⟨true, rfl, iteF ?_⟩⟩
      have X := X.same (e9.trans e10)
      have hd1 := hd1.same (e9.trans e10)
      have hd2 := hd2.same (e9.trans e10)
      have hd3 := hd3.same (e9.trans e10)
      have P10 := P8.same (e9.trans e10)
      -- by the contrary doings it is itself again
      refine ⟨.ref po, rfl, .ref pa, rfl, pa, _, 0, .int si, rfl, rfl, X.pt.sq, rfl, .ref D3, rfl, n, si, D3, M3.con ds, rfl, ns, hd3, n4, ok3, sm3, fun H11 mc e11 hmc => ?_⟩
      refine ⟨po, mc, si, ta, Lo, n, _, rfl, X.po.same e11, Go, hmc, rows_uni ns n1 n4 ok3 sm3 (by omega), sBo, by rw [tur_run Go ns n1 n4 ok3]; exact nodup_run Go ns n4 ok3, fun H12 r12 L12 e12 n12 pg12 as12 => ?_⟩
      rw [tur_run Go ns n1 n4 ok3] at as12
      refine ⟨.ref pr, rfl, neP_alike pg12 (X.pg.same (e11.trans e12)) (eq20 Gk.up aso as12 fun i hi => ?_) fun H13 e13 => ⟨false, rfl, iteF ?_⟩⟩
      · unfold run
        have := M3.con_runs n4 ds (v := i.2.2) (by have := (Gk.each i hi).ln; omega) ok1
        simp only [this]
      have X := X.same ((e11.trans e12).trans e13)
      have hd1 := hd1.same ((e11.trans e12).trans e13)
      have hd2 := hd2.same ((e11.trans e12).trans e13)
      have P13 := P10.same ((e11.trans e12).trans e13)
      -- both
      have okb : M3.Oks n (ds ++ es) := fun d hd => (List.mem_append.mp hd).elim (ok1 d) (ok2 d)
      have smb : ∀ d ∈ ds ++ es, Sml d := fun d hd => (List.mem_append.mp hd).elim (sm1 d) (sm2 d)
      have lb : (ds ++ es).length ≤ 8 := by rw [List.length_append]; omega
      have cat : ∃ xs ys, H13 D1 = some (.lst xs) ∧ H13 D2 = some (.lst ys) ∧ xs.length + ys.length ≤ sizeLine ∧ ∀ F, H13 F = none → Ds K F (ds ++ es) (upd H13 F (.lst (xs ++ ys))) := by
        obtain ⟨xs, q1, q2, q3⟩ := id hd1
        obtain ⟨ys, r1, r2, r3⟩ := id hd2
        refine ⟨_, _, q1, r1, small ?_, fun F nF => ?_⟩
        · have := congrArg List.length q3
          have := congrArg List.length r3
          simp only [List.length_map] at *
          omega
        · obtain ⟨xs', ys', a1, a2, _, _, a5⟩ := Ds.app hd1 hd2 nF
          rw [q1] at a1
          rw [r1] at a2
          cases a1
          cases a2
          exact a5
      obtain ⟨cx, cy, ch1, ch2, ch3, ch4⟩ := cat
      refine ⟨.ref pa, rfl, pa, _, 0, .int si, rfl, rfl, X.pt.sq, rfl, .ref D1, rfl, .ref D2, rfl, D1, D2, cx, cy, rfl, rfl, ch1, ch2, ch3, fun F nF => ⟨n, si, F, ds ++ es, rfl, ns, ch4 F nF, n4, okb, smb, fun H14 mb e14 hmb => ?_⟩⟩
      have eF := (same_new (o := .lst (cx ++ cy)) nF).trans e14
      have X := X.same eF
      have hd2 := hd2.same eF
      have P14 := P13.same eF
      refine ⟨.ref po, rfl, .ref pa, rfl, pa, _, 0, .int si, rfl, rfl, X.pt.sq, rfl, .ref D2, rfl, n, si, D2, es, rfl, ns, hd2, n4, ok2, sm2, fun H15 me e15 hme => ?_⟩
      refine ⟨po, me, si, ta, Lo, n, _, rfl, X.po.same e15, Go, hme, rows_uni ns n1 n4 ok2 sm2 (by omega), sBo, by rw [tur_run Go ns n1 n4 ok2]; exact nodup_run Go ns n4 ok2, fun H16 r16 L16 e16 n16 pg16 as16 => ?_⟩
      rw [tur_run Go ns n1 n4 ok2] at as16
      refine ⟨.ref pr, rfl, .ref mb, rfl, pr, mb, si, ta, L, n, _, rfl, X.pg.same (e15.trans e16), Gk, hmb.same (e15.trans e16), rows_uni ns n1 n4 okb smb (by omega), sB2, by rw [tur_run Gk ns n1 n4 okb]; exact nodup_run Gk ns n4 okb, fun H17 r17 L17 e17 n17 pg17 as17 => ?_⟩
      rw [tur_run Gk ns n1 n4 okb] at as17
      refine neP_alike (pg16.same e17) pg17 (eq21 aso as16 as17 fun i hi => ?_) fun H18 e18 => ⟨false, rfl, iteF ?_⟩
      · unfold run
        simp only [M3.runs_app]
      have X := X.same ((e15.trans e16).trans (e17.trans e18))
      have P18 := P14.same ((e15.trans e16).trans (e17.trans e18))
      -- times
      refine ⟨.ref p, rfl, 10, 12, rfl, rfl, ⟨by decide, by decide, by decide⟩, small (Nat.le_of_ble_eq_true rfl), fun l nl => ?_⟩
      have nlp := P18.np nl
      refine ⟨p, c, l, _, rfl, P18.same (same_new nl), nlp.1, nlp.2, .inl (.inl upd_same), Nat.le_of_ble_eq_true rfl, Nat.le_of_ble_eq_true rfl, fun H19 v B19 P19 hv => ?_⟩
      obtain ⟨tc, rfl, tc1, tc2⟩ : ∃ tc, v = V.int tc ∧ 1 ≤ tc ∧ tc ≤ 1000000000000 := by
        simp only [List.mem_cons, List.not_mem_nil, or_false] at hv
        rcases hv with rfl | rfl | rfl | rfl | rfl <;> exact ⟨_, rfl, by decide, by decide⟩
      have X := (X.same (same_new (o := .lst _) nl)).but (P18.same (same_new nl)) B19
      refine ⟨Nat.zero_le _, fun LG nLG => ?_⟩
      obtain ⟨r', ks', q1, q2, q3, q4⟩ := X.pt.ex
      have S0 : Same H19 (upd H19 LG (.lst [])) := same_new nLG
      refine ⟨.ref pa, rfl, pa, _, 2, .ref r', rfl, rfl, T_seq S0 q1, rfl, r', rfl, ⟨_, T_seq S0 q2⟩, for_tup (K := K) (a := r') (xs := ks'.map rf) (fun j σ H' => (∃ y14 y15 y16, σ = [some (.ref a), some (.ref p), some (.int (0 + (i : Nat))), some (.ref pa), some (.ref pr), some (.ref D1), some (.ref D2), some (.ref D3), x8, some (.ref m), some (.ref po), some (.ref mb), some (.int tc), some (.ref LG), y14, y15, y16, x17]) ∧ Same H19 H' ∧ Bt K LG (((ks'.map (·.2)).take j).map (stc tc)) H') ⟨⟨_, _, _, rfl⟩, S0, Bt.zero⟩
        (fun j σ H' _ z => T_seq z.2.1 q2) ?_ ?_⟩
      · rintro j x σ H' hx ⟨⟨y14, y15, y16, rfl⟩, e, b⟩
        obtain ⟨k, hk, rfl⟩ := rf_at hx
        have hk2 : (ks'.map (·.2))[j]? = some k.2 := by rw [List.getElem?_map, hk]; rfl
        have gk := Gk.each k.2 (q4 ▸ List.mem_of_getElem? hk2)
        obtain ⟨t, g1, g2⟩ := rd_same e (q3 k (List.mem_of_getElem? hk))
        have hF : ∃ xs, H' LG = some (.lst xs) := ⟨_, b.choose_spec.1⟩
        refine ⟨k.1, [.int k.2.1, .int k.2.2.1, .ref t], rfl, g1, rfl, .int k.2.1, [.int k.2.2.1, .ref t], rfl, .int k.2.2.1, [.ref t], rfl, .ref t, [], rfl, rfl, ?_⟩
        refine ⟨.ref LG, rfl, .inl ⟨rfl, _, .inl (.inl hF.choose_spec)⟩, ?_⟩
        refine ⟨.int k.2.1, rfl, .int k.2.2.1, rfl, .ref t, rfl, t, rfl, ⟨_, g2⟩, fun Dx nDx => lc_tup (K := K) (a := t) (xs := k.2.2.2.map V.int) (fun u H2 => Same H' H2 ∧ H2 Dx = some (.lst (((k.2.2.2.take u).map fun x => tc * x).map V.int))) ⟨same_new nDx, upd_same⟩
          (fun u H2 _ z => T_seq z.1 g2) (fun u x H2 hx z => ?_) (fun H2 z => ?_)⟩
        · obtain ⟨y, hy, rfl⟩ := int_at hx
          refine ⟨rfl, .int tc, rfl, .int y, rfl, tc, y, rfl, rfl, .inl ⟨by omega, by omega⟩, _, z.2, ?_, same_mut z.1 nDx, ?_⟩
          · rw [List.length_map, List.length_map, List.length_take]
            exact smallt (by have := gk.few; omega)
          · rw [upd_same, ← take_map_succ hy, List.map_append]
            rfl
        · obtain ⟨z1, z2⟩ := z
          rw [List.take_of_length_le (by simp), show (k.2.2.2.map fun x => tc * x) = M3.strc tc k.2.2.2 from List.map_congr_left fun x _ => Int.mul_comm tc x] at z2
          refine ⟨Dx, _, rfl, .inl ⟨.inl (.inl z2), fun t2 nt2 => ?_⟩⟩
          refine ⟨small (Nat.le_of_ble_eq_true rfl), fun d nd => ?_⟩
          have e3 := (z1.trans (same_new (o := .tup ((M3.strc tc k.2.2.2).map V.int)) nt2)).trans (same_new (o := .tup [.int k.2.1, .int k.2.2.1, .ref t2]) nd)
          obtain ⟨acc, b1, b2, b3⟩ := (b.same e3).push (k := stc tc k.2) (a := d) ⟨t2, T_new, T_seq (same_new nd) T_new⟩ (by rw [List.length_map, List.length_take]; have := G.few; rw [q4]; omega)
          rw [take_map_succ hk2] at b3
          exact ⟨LG, acc, .ref d, rfl, rfl, b1, b2, ⟨_, _, _, rfl⟩, same_mut (e.trans e3) nLG, b3⟩
      rintro σ H20 ⟨⟨y14, y15, y16, rfl⟩, e20, b, c1, c2, c3⟩
      have c4 : b.map (·.2) = L.map (stc tc) := by
        rw [c3, List.take_of_length_le (by simp), q4]
      have fw : b.length = L.length := by
        have := congrArg List.length c4
        simp only [List.length_map] at this
        exact this
      have X := X.same e20
      have P20 := P19.same e20
      -- stretched
      refine ⟨.ref pr, rfl, .int tc, rfl, pr, tc, si, ta, L, rfl, X.pg, Gk, tc1, tc2, sB2, fun H21 ps Ls e21 n21 pgs ass => ?_⟩
      refine ⟨.ref pa, rfl, pa, _, 0, .int si, rfl, rfl, (X.pt.same e21).sq, rfl, .ref pa, rfl, pa, _, 1, .int ta, rfl, rfl, (X.pt.same e21).sq, rfl, .ref LG, rfl, si, ta, LG, b, rfl, .inl (.inl (e21 _ _ c1)), fun y hy => rd_same e21 (c2 y hy), by omega, fun H22 al Ml e22 ptl asl => ?_⟩
      rw [c4] at asl
      have em := ass.eqM asl
      subst em
      refine ⟨ps, al, si, ta, Ls, rfl, pgs.same e22, ptl, Gk.stc ass, fun H23 e23 => ⟨true, rfl, iteF ?_⟩⟩
      have X := X.same ((e21.trans e22).trans e23)
      have P23 := P20.same ((e21.trans e22).trans e23)
      refine ⟨.ref po, rfl, .int tc, rfl, po, tc, si, ta, Lo, rfl, X.po, Go, tc1, tc2, sBo, fun H24 r24 L24 e24 n24 pg24 as24 => ?_⟩
      refine ⟨.ref pr, rfl, .int tc, rfl, pr, tc, si, ta, L, rfl, X.pg.same e24, Gk, tc1, tc2, sB2, fun H25 r25 L25 e25 n25 pg25 as25 => ?_⟩
      have G25 := Gk.stc as25
      refine ⟨.ref m, rfl, r25, m, si, ta, L25, n, _, rfl, pg25, G25, X.mt.same (e24.trans e25), U1, (sB.stc tc1 tc2 as25).mono (by decide), by rw [tur_run G25 ns n1 n4 ok1]; exact nodup_run G25 ns n4 ok1, fun H26 r26 L26 e26 n26 pg26 as26 => ?_⟩
      rw [tur_run G25 ns n1 n4 ok1] at as26
      refine neP_alike (pg24.same (e25.trans e26)) pg26 (eq22 aso as24 as25 as26 fun i hi => ?_) fun H27 e27 => ⟨false, rfl, iteF ?_⟩
      · unfold run stc
        have := M3.runs_strc tc n4 ds (v := i.2.2) (by have := (Gk.each i hi).ln; omega) ok1
        simp only [this]
      have X := X.same ((e24.trans e25).trans (e26.trans e27))
      have P27 := P23.same ((e24.trans e25).trans (e26.trans e27))
      -- by the plain matrix, and once
      refine ⟨.ref pr, rfl, .ref pa, rfl, pa, _, 0, .int si, rfl, rfl, X.pt.sq, rfl, Nat.zero_le _, fun F0 nF0 => ?_⟩
      have ok0 : M3.Oks n [] := fun d hd => by cases hd
      have sm0 : ∀ d ∈ ([] : List M3.Doing), Sml d := fun d hd => by cases hd
      refine ⟨n, si, F0, [], rfl, ns, Ds.zero, n4, ok0, sm0, fun H28 m0 e28 hm0 => ?_⟩
      have e29 := (same_new (o := .lst []) nF0).trans e28
      refine ⟨pr, m0, si, ta, L, n, _, rfl, X.pg.same e29, Gk, hm0, rows_uni ns n1 n4 ok0 sm0 (by decide), sB2, by rw [tur_run Gk ns n1 n4 ok0]; exact nodup_run Gk ns n4 ok0, fun H30 r30 L30 e30 n30 pg30 as30 => ?_⟩
      rw [tur_run Gk ns n1 n4 ok0] at as30
      refine ⟨.ref pr, rfl, neP_alike pg30 (X.pg.same (e29.trans e30)) (eq10 Gk.up as30 fun i _ => rfl) fun H31 e31 => ⟨false, rfl, iteF ?_⟩⟩
      have X := X.same ((e29.trans e30).trans e31)
      have P31 := P27.same ((e29.trans e30).trans e31)
      refine ⟨.ref pr, rfl, pr, 1, si, ta, L, rfl, X.pg, Gk, by decide, by decide, sB2, fun H32 r32 L32 e32 n32 pg32 as32 => ?_⟩
      refine ⟨.ref pr, rfl, neP_alike pg32 (X.pg.same e32) (eq10 Gk.up as32 fun i _ => by unfold stc; rw [M3.strc_one]) fun H33 e33 => ⟨false, rfl, iteF ?_⟩⟩
      have X := X.same (e32.trans e33)
      have P33 := P31.same (e32.trans e33)
      -- what was handed in stays
      refine ⟨.ref pr, rfl, .ref pa, rfl, pr, pa, si, ta, L, rfl, X.pg, X.pt, Gk, fun H34 e34 => ⟨true, rfl, iteF ?_⟩⟩
      exact ⟨⟨_, _, _, _, _, _, _, _, _, _, _, _, _, _, _, _, rfl⟩, P33.same e34⟩
    · rintro σ H' ⟨_, _⟩
      exact q _
end

end LW
set_option Elab.async false
set_option linter.all false
set_option maxRecDepth 100000
set_option maxHeartbeats 4000000
namespace LW
open PySem PySem.Spec PyProof.Rows L2 RS LB
theorem all_of {l : PySem.W.OpenLaw} {w : World} {K : PySem.W.Frag} {h : Heap} {mg : Str → Option Value} {fa C : Addr} (X : K.In h) (G : h.Ns mainGlobals mg) (hfa : mg "law" = some (.ref fa)) {t0 t1 t2 t3 t4 : Tok}
    (aC : PySem.W.nsIn K mainGlobals "Program" = some (some (.ref C)))
    (tf_is_int : TopF K "is_int" s_is_int)
    (tf_is_int_in : TopF K "is_int_in" s_is_int_in)
    (tf_is_row_of_ints : TopF K "is_row_of_ints" s_is_row_of_ints)
    (tf_is_reading : TopF K "is_reading" s_is_reading)
    (tf_program_of : TopF K "program_of" s_program_of)
    (tf_determinant : TopF K "determinant" s_determinant)
    (tf_is_matrix : TopF K "is_matrix" s_is_matrix)
    (tf_times_step : TopF K "times_step" s_times_step)
    (tf_turned : TopF K "turned" s_turned)
    (tf_stretched : TopF K "stretched" s_stretched)
    (tf__law_pool : TopF K "_law_pool" s__law_pool)
    (tf__law_draw : TopF K "_law_draw" s__law_draw)
    (tf__law_some : TopF K "_law_some" s__law_some)
    (tf__law_integer : TopF K "_law_integer" s__law_integer)
    (tf__law_same : TopF K "_law_same" s__law_same)
    (tf__law_step : TopF K "_law_step" s__law_step)
    (tf__law_parts : TopF K "_law_parts" s__law_parts)
    (tf__law_program : TopF K "_law_program" s__law_program)
    (tf__law_is : TopF K "_law_is" s__law_is)
    (tf__law_sorted_parts : TopF K "_law_sorted_parts" s__law_sorted_parts)
    (tf__law_plain_matrix : TopF K "_law_plain_matrix" s__law_plain_matrix)
    (tf__law_doings : TopF K "_law_doings" s__law_doings)
    (tf__law_done : TopF K "_law_done" s__law_done)
    (tf__law_matrix : TopF K "_law_matrix" s__law_matrix)
    (tf__law_led : TopF K "_law_led" s__law_led)
    (tf__law_turned : TopF K "_law_turned" s__law_turned)
    (tf_law : TopF K "law" s_law)
    (tm_Program___init__ : TopM K C "__init__" "Program.__init__" s_Program___init__)
    (tm_Program___eq__ : TopM K C "__eq__" "Program.__eq__" s_Program___eq__)
    (ct : ClsTop K C) (ne : PySem.W.findIn K (.ref C) "__ne__" = some (some (.builtin "object.__ne__"))) (ob : PySem.W.subIn K (.ref C) (.type "object") = some true)
    (nS : PySem.W.findIn K (.ref C) "sides" = some none) (nT : PySem.W.findIn K (.ref C) "tables" = some none) (nR : PySem.W.findIn K (.ref C) "readings" = some none)
    (u0 : PySem.W.nsIn K mainGlobals "MOST_SIDES" = some (some (.int 4 t0)))
    (u1 : PySem.W.nsIn K mainGlobals "MOST_TABLES" = some (some (.int 8 t1)))
    (u2 : PySem.W.nsIn K mainGlobals "MOST_READINGS" = some (some (.int 24 t2)))
    (u3 : PySem.W.nsIn K mainGlobals "LONGEST_STEP" = some (some (.int 1000000000000 t3)))
    (u4 : PySem.W.nsIn K mainGlobals "MOST_TIMES" = some (some (.int 1000000000000 t4)))
    (b_len : PySem.W.nsIn K mainGlobals "len" = some none)
    (b_int : PySem.W.nsIn K mainGlobals "int" = some none)
    (b_bool : PySem.W.nsIn K mainGlobals "bool" = some none)
    (b_str : PySem.W.nsIn K mainGlobals "str" = some none)
    (b_isinstance : PySem.W.nsIn K mainGlobals "isinstance" = some none)
    (b_tuple : PySem.W.nsIn K mainGlobals "tuple" = some none)
    (b_list : PySem.W.nsIn K mainGlobals "list" = some none)
    (b_dict : PySem.W.nsIn K mainGlobals "dict" = some none)
    (b_set : PySem.W.nsIn K mainGlobals "set" = some none)
    (b_sorted : PySem.W.nsIn K mainGlobals "sorted" = some none)
    (b_range : PySem.W.nsIn K mainGlobals "range" = some none)
    (b_abs : PySem.W.nsIn K mainGlobals "abs" = some none)
    (b_sum : PySem.W.nsIn K mainGlobals "sum" = some none)
    (b_all : PySem.W.nsIn K mainGlobals "all" = some none)
    (b_any : PySem.W.nsIn K mainGlobals "any" = some none)
    (b_enumerate : PySem.W.nsIn K mainGlobals "enumerate" = some none)
    (b_min : PySem.W.nsIn K mainGlobals "min" = some none)
    (b_max : PySem.W.nsIn K mainGlobals "max" = some none)
    (b_zip : PySem.W.nsIn K mainGlobals "zip" = some none)
    : ∃ fd : FuncData, (∀ (s : Shared) (v : Value), BindsTo s fd ⟨[v], []⟩ [("_law_script", v)]) ∧ ∀ base : Heap, K.In base → base.Ns mainGlobals mg → FnOk l.prog w K mg base CX0 12 fa fd ["_law_script"] (spLaw K) := by
  have T : Tx K mg C := ⟨⟨PySem.W.mg_none_of X G b_len, PySem.W.mg_none_of X G b_int, PySem.W.mg_none_of X G b_bool, PySem.W.mg_none_of X G b_str, PySem.W.mg_none_of X G b_isinstance, PySem.W.mg_none_of X G b_tuple, PySem.W.mg_none_of X G b_list, PySem.W.mg_none_of X G b_dict, PySem.W.mg_none_of X G b_set, PySem.W.mg_none_of X G b_sorted, PySem.W.mg_none_of X G b_range, PySem.W.mg_none_of X G b_abs, PySem.W.mg_none_of X G b_sum, PySem.W.mg_none_of X G b_all, PySem.W.mg_none_of X G b_any, PySem.W.mg_none_of X G b_enumerate, PySem.W.mg_none_of X G b_min, PySem.W.mg_none_of X G b_max, PySem.W.mg_none_of X G b_zip⟩, ⟨_, PySem.W.mg_of X G u0, ⟨_, rfl⟩⟩, ⟨_, PySem.W.mg_of X G u1, ⟨_, rfl⟩⟩, ⟨_, PySem.W.mg_of X G u2, ⟨_, rfl⟩⟩, ⟨_, PySem.W.mg_of X G u3, ⟨_, rfl⟩⟩, ⟨_, PySem.W.mg_of X G u4, ⟨_, rfl⟩⟩, ⟨_, PySem.W.mg_of X G aC, rfl⟩, ct.cls, nS, nT, nR, ct.ins⟩
  obtain ⟨f_is_int, fd_is_int, D_is_int⟩ := tf_is_int.df (ps := ["thing"]) X G (fun _ _ _ _ _ _ us hl => match us, hl with | [_], _ => rfl)
  obtain ⟨f_is_int_in, fd_is_int_in, D_is_int_in⟩ := tf_is_int_in.df (ps := ["thing", "least", "most"]) X G (fun _ _ _ _ _ _ us hl => match us, hl with | [_, _, _], _ => rfl)
  obtain ⟨f_is_row_of_ints, fd_is_row_of_ints, D_is_row_of_ints⟩ := tf_is_row_of_ints.df (ps := ["thing", "many"]) X G (fun _ _ _ _ _ _ us hl => match us, hl with | [_, _], _ => rfl)
  obtain ⟨f_is_reading, fd_is_reading, D_is_reading⟩ := tf_is_reading.df (ps := ["sides", "tables", "thing"]) X G (fun _ _ _ _ _ _ us hl => match us, hl with | [_, _, _], _ => rfl)
  obtain ⟨f_program_of, fd_program_of, D_program_of⟩ := tf_program_of.df (ps := ["sides", "tables", "readings"]) X G (fun _ _ _ _ _ _ us hl => match us, hl with | [_, _, _], _ => rfl)
  obtain ⟨f_determinant, fd_determinant, D_determinant⟩ := tf_determinant.df (ps := ["rows"]) X G (fun _ _ _ _ _ _ us hl => match us, hl with | [_], _ => rfl)
  obtain ⟨f_is_matrix, fd_is_matrix, D_is_matrix⟩ := tf_is_matrix.df (ps := ["sides", "thing"]) X G (fun _ _ _ _ _ _ us hl => match us, hl with | [_, _], _ => rfl)
  obtain ⟨f_times_step, fd_times_step, D_times_step⟩ := tf_times_step.df (ps := ["matrix", "step"]) X G (fun _ _ _ _ _ _ us hl => match us, hl with | [_, _], _ => rfl)
  obtain ⟨f_turned, fd_turned, D_turned⟩ := tf_turned.df (ps := ["program", "matrix"]) X G (fun _ _ _ _ _ _ us hl => match us, hl with | [_, _], _ => rfl)
  obtain ⟨f_stretched, fd_stretched, D_stretched⟩ := tf_stretched.df (ps := ["program", "times"]) X G (fun _ _ _ _ _ _ us hl => match us, hl with | [_, _], _ => rfl)
  obtain ⟨f__law_pool, fd__law_pool, D__law_pool⟩ := tf__law_pool.df (ps := ["_law_script"]) X G (fun _ _ _ _ _ _ us hl => match us, hl with | [_], _ => rfl)
  obtain ⟨f__law_draw, fd__law_draw, D__law_draw⟩ := tf__law_draw.df (ps := ["_law_pool_here", "_law_many"]) X G (fun _ _ _ _ _ _ us hl => match us, hl with | [_, _], _ => rfl)
  obtain ⟨f__law_some, fd__law_some, D__law_some⟩ := tf__law_some.df (ps := ["_law_pool_here", "_law_things"]) X G (fun _ _ _ _ _ _ us hl => match us, hl with | [_, _], _ => rfl)
  obtain ⟨f__law_integer, fd__law_integer, D__law_integer⟩ := tf__law_integer.df (ps := ["_law_thing"]) X G (fun _ _ _ _ _ _ us hl => match us, hl with | [_], _ => rfl)
  obtain ⟨f__law_same, fd__law_same, D__law_same⟩ := tf__law_same.df (ps := ["_law_actual", "_law_expected"]) X G (fun _ _ _ _ _ _ us hl => match us, hl with | [_, _], _ => rfl)
  obtain ⟨f__law_step, fd__law_step, D__law_step⟩ := tf__law_step.df (ps := ["_law_pool_here", "_law_sides"]) X G (fun _ _ _ _ _ _ us hl => match us, hl with | [_, _], _ => rfl)
  obtain ⟨f__law_parts, fd__law_parts, D__law_parts⟩ := tf__law_parts.df (ps := ["_law_pool_here"]) X G (fun _ _ _ _ _ _ us hl => match us, hl with | [_], _ => rfl)
  obtain ⟨f__law_program, fd__law_program, D__law_program⟩ := tf__law_program.df (ps := ["_law_parts_here"]) X G (fun _ _ _ _ _ _ us hl => match us, hl with | [_], _ => rfl)
  obtain ⟨f__law_is, fd__law_is, D__law_is⟩ := tf__law_is.df (ps := ["_law_program_here", "_law_parts_here"]) X G (fun _ _ _ _ _ _ us hl => match us, hl with | [_, _], _ => rfl)
  obtain ⟨f__law_sorted_parts, fd__law_sorted_parts, D__law_sorted_parts⟩ := tf__law_sorted_parts.df (ps := ["_law_sides", "_law_tables", "_law_readings"]) X G (fun _ _ _ _ _ _ us hl => match us, hl with | [_, _, _], _ => rfl)
  obtain ⟨f__law_plain_matrix, fd__law_plain_matrix, D__law_plain_matrix⟩ := tf__law_plain_matrix.df (ps := ["_law_sides"]) X G (fun _ _ _ _ _ _ us hl => match us, hl with | [_], _ => rfl)
  obtain ⟨f__law_doings, fd__law_doings, D__law_doings⟩ := tf__law_doings.df (ps := ["_law_pool_here", "_law_sides"]) X G (fun _ _ _ _ _ _ us hl => match us, hl with | [_, _], _ => rfl)
  obtain ⟨f__law_done, fd__law_done, D__law_done⟩ := tf__law_done.df (ps := ["_law_rows", "_law_doing"]) X G (fun _ _ _ _ _ _ us hl => match us, hl with | [_, _], _ => rfl)
  obtain ⟨f__law_matrix, fd__law_matrix, D__law_matrix⟩ := tf__law_matrix.df (ps := ["_law_sides", "_law_doings_here"]) X G (fun _ _ _ _ _ _ us hl => match us, hl with | [_, _], _ => rfl)
  obtain ⟨f__law_led, fd__law_led, D__law_led⟩ := tf__law_led.df (ps := ["_law_matrix_here", "_law_step_here"]) X G (fun _ _ _ _ _ _ us hl => match us, hl with | [_, _], _ => rfl)
  obtain ⟨f__law_turned, fd__law_turned, D__law_turned⟩ := tf__law_turned.df (ps := ["_law_parts_here", "_law_matrix_here"]) X G (fun _ _ _ _ _ _ us hl => match us, hl with | [_, _], _ => rfl)
  obtain ⟨fd_law, D_law, bt⟩ := tf_law.law (y := "_law_script") X G hfa (fun _ _ _ _ _ _ us hl => match us, hl with | [_], _ => rfl)
  obtain ⟨f_Program___init__, fd_Program___init__, a_Program___init__, i_Program___init__, F_Program___init__, B_Program___init__⟩ := tm_Program___init__.fn (ps := ["self", "sides", "tables", "readings"]) (fun _ _ _ _ _ _ us hl => match us, hl with | [_, _, _, _], _ => rfl)
  obtain ⟨f_Program___eq__, fd_Program___eq__, a_Program___eq__, i_Program___eq__, F_Program___eq__, B_Program___eq__⟩ := tm_Program___eq__.fn (ps := ["self", "other"]) (fun _ _ _ _ _ _ us hl => match us, hl with | [_, _], _ => rfl)
  refine ⟨fd_law, bt, fun base _ _ => ?_⟩
  have c_is_int := ok_is_int (P := l.prog) (w := w) (base := base) D_is_int T
  have c_is_int_in := ok_is_int_in (P := l.prog) (w := w) (base := base) D_is_int_in c_is_int
  have c_is_row_of_ints := ok_is_row_of_ints (P := l.prog) (w := w) (base := base) D_is_row_of_ints T c_is_int
  have c_is_reading := ok_is_reading (P := l.prog) (w := w) (base := base) D_is_reading T c_is_int_in c_is_row_of_ints
  have m_Program : Ma l.prog w K mg base 5 "Program" C (spInit K C) := ⟨_, _, _, ⟨ct.makes, a_Program___init__, i_Program___init__, ct.kc⟩, ok_init F_Program___init__ T c_is_int_in c_is_reading, PySem.W.mg_of X G aC, B_Program___init__⟩
  have eqP : Eq1 l.prog w K mg base 1 C (spPEq K C) := ⟨_, _, _, ok_eq F_Program___eq__ T, B_Program___eq__, a_Program___eq__, i_Program___eq__, ne, ob⟩
  have c_program_of := ok_program_of (P := l.prog) (w := w) (base := base) D_program_of T m_Program
  have c_determinant := ok_determinant (P := l.prog) (w := w) (base := base) D_determinant T 5
  have c_is_matrix := ok_is_matrix (P := l.prog) (w := w) (base := base) D_is_matrix T c_is_row_of_ints c_determinant
  have c_times_step := ok_times_step (P := l.prog) (w := w) (base := base) D_times_step T
  have c_turned := ok_turned (P := l.prog) (w := w) (base := base) D_turned T c_is_matrix c_times_step c_program_of
  have c_stretched := ok_stretched (P := l.prog) (w := w) (base := base) D_stretched T c_is_int_in c_program_of
  have c__law_pool := ok__law_pool (P := l.prog) (w := w) (base := base) D__law_pool T
  have c__law_draw := ok__law_draw (P := l.prog) (w := w) (base := base) D__law_draw T
  have c__law_some := ok__law_some (P := l.prog) (w := w) (base := base) D__law_some T c__law_draw
  have c__law_integer := ok__law_integer (P := l.prog) (w := w) (base := base) D__law_integer T
  have c__law_same := ok__law_same (P := l.prog) (w := w) (base := base) D__law_same T c__law_integer 5
  have c__law_step := ok__law_step (P := l.prog) (w := w) (base := base) D__law_step T c__law_draw c__law_some
  have c__law_parts := ok__law_parts (P := l.prog) (w := w) (base := base) D__law_parts T c__law_draw c__law_some c__law_step
  have c__law_program := ok__law_program (P := l.prog) (w := w) (base := base) D__law_program T m_Program
  have c__law_is := ok__law_is (P := l.prog) (w := w) (base := base) D__law_is T c__law_same
  have c__law_sorted_parts := ok__law_sorted_parts (P := l.prog) (w := w) (base := base) D__law_sorted_parts T
  have c__law_plain_matrix := ok__law_plain_matrix (P := l.prog) (w := w) (base := base) D__law_plain_matrix T
  have c__law_doings := ok__law_doings (P := l.prog) (w := w) (base := base) D__law_doings T c__law_draw c__law_some
  have c__law_done := ok__law_done (P := l.prog) (w := w) (base := base) D__law_done T
  have c__law_matrix := ok__law_matrix (P := l.prog) (w := w) (base := base) D__law_matrix T c__law_plain_matrix c__law_done
  have c__law_led := ok__law_led (P := l.prog) (w := w) (base := base) D__law_led T
  have c__law_turned := ok__law_turned (P := l.prog) (w := w) (base := base) D__law_turned T c__law_led c__law_sorted_parts
  exact ok_law D_law T eqP c__law_pool c__law_parts c__law_program c__law_some c__law_is c__law_doings c__law_matrix c_turned c__law_turned c_stretched c__law_sorted_parts
end LW
open PySem PySem.W PyProof.Rows L2
set_option maxRecDepth 100000 in
set_option maxHeartbeats 0 in
theorem PySem.Challenge.cw_turnsneeded_k03_whole_steps_turned_and_s_holds : PySem.Challenge.rw_turnsneeded_k03_whole_steps_turned_and_s.Holds := by
  w_on; o_law; k_head; (case hw => w_witness2)
  k_fill
  refine L2.walk_of (l := PySem.Challenge.rw_turnsneeded_k03_whole_steps_turned_and_s) (n := 63) (k := 12) (x := "_law_script") (CX := fun _ => L2.CX0) (sp := fun w => LW.spLaw _) rfl (by decide) rfl ⟨rfl, by decide, by decide⟩ (fun w h Y => PySem.W.kIn_of Y) ?F (fun _ _ a ns hl _ hS => ⟨a, ns, rfl, hS, hl, fun _ => rfl⟩) (fun _ _ _ _ _ z => z)
  case F =>
    intro w mg fa h KX G hmg
    refine' LW.all_of KX G hmg ?aC ?tf_is_int ?tf_is_int_in ?tf_is_row_of_ints ?tf_is_reading ?tf_program_of ?tf_determinant ?tf_is_matrix ?tf_times_step ?tf_turned ?tf_stretched ?tf__law_pool ?tf__law_draw ?tf__law_some ?tf__law_integer ?tf__law_same ?tf__law_step ?tf__law_parts ?tf__law_program ?tf__law_is ?tf__law_sorted_parts ?tf__law_plain_matrix ?tf__law_doings ?tf__law_done ?tf__law_matrix ?tf__law_led ?tf__law_turned ?tf_law ?tm_Program___init__ ?tm_Program___eq__ ?ct ?ne ?ob ?nS ?nT ?nR ?u0 ?u1 ?u2 ?u3 ?u4 ?b_len ?b_int ?b_bool ?b_str ?b_isinstance ?b_tuple ?b_list ?b_dict ?b_set ?b_sorted ?b_range ?b_abs ?b_sum ?b_all ?b_any ?b_enumerate ?b_min ?b_max ?b_zip
    (case aC => k_is)
    (case tf_is_int => (refine' LB.TopF.of ?za ?zl ?zc ?zk; (case za => k_is); (case zl => k_is); (case zc => k_is); (case zk => k_is)))
    (case tf_is_int_in => (refine' LB.TopF.of ?za ?zl ?zc ?zk; (case za => k_is); (case zl => k_is); (case zc => k_is); (case zk => k_is)))
    (case tf_is_row_of_ints => (refine' LB.TopF.of ?za ?zl ?zc ?zk; (case za => k_is); (case zl => k_is); (case zc => k_is); (case zk => k_is)))
    (case tf_is_reading => (refine' LB.TopF.of ?za ?zl ?zc ?zk; (case za => k_is); (case zl => k_is); (case zc => k_is); (case zk => k_is)))
    (case tf_program_of => (refine' LB.TopF.of ?za ?zl ?zc ?zk; (case za => k_is); (case zl => k_is); (case zc => k_is); (case zk => k_is)))
    (case tf_determinant => (refine' LB.TopF.of ?za ?zl ?zc ?zk; (case za => k_is); (case zl => k_is); (case zc => k_is); (case zk => k_is)))
    (case tf_is_matrix => (refine' LB.TopF.of ?za ?zl ?zc ?zk; (case za => k_is); (case zl => k_is); (case zc => k_is); (case zk => k_is)))
    (case tf_times_step => (refine' LB.TopF.of ?za ?zl ?zc ?zk; (case za => k_is); (case zl => k_is); (case zc => k_is); (case zk => k_is)))
    (case tf_turned => (refine' LB.TopF.of ?za ?zl ?zc ?zk; (case za => k_is); (case zl => k_is); (case zc => k_is); (case zk => k_is)))
    (case tf_stretched => (refine' LB.TopF.of ?za ?zl ?zc ?zk; (case za => k_is); (case zl => k_is); (case zc => k_is); (case zk => k_is)))
    (case tf__law_pool => (refine' LB.TopF.of ?za ?zl ?zc ?zk; (case za => k_is); (case zl => k_is); (case zc => k_is); (case zk => k_is)))
    (case tf__law_draw => (refine' LB.TopF.of ?za ?zl ?zc ?zk; (case za => k_is); (case zl => k_is); (case zc => k_is); (case zk => k_is)))
    (case tf__law_some => (refine' LB.TopF.of ?za ?zl ?zc ?zk; (case za => k_is); (case zl => k_is); (case zc => k_is); (case zk => k_is)))
    (case tf__law_integer => (refine' LB.TopF.of ?za ?zl ?zc ?zk; (case za => k_is); (case zl => k_is); (case zc => k_is); (case zk => k_is)))
    (case tf__law_same => (refine' LB.TopF.of ?za ?zl ?zc ?zk; (case za => k_is); (case zl => k_is); (case zc => k_is); (case zk => k_is)))
    (case tf__law_step => (refine' LB.TopF.of ?za ?zl ?zc ?zk; (case za => k_is); (case zl => k_is); (case zc => k_is); (case zk => k_is)))
    (case tf__law_parts => (refine' LB.TopF.of ?za ?zl ?zc ?zk; (case za => k_is); (case zl => k_is); (case zc => k_is); (case zk => k_is)))
    (case tf__law_program => (refine' LB.TopF.of ?za ?zl ?zc ?zk; (case za => k_is); (case zl => k_is); (case zc => k_is); (case zk => k_is)))
    (case tf__law_is => (refine' LB.TopF.of ?za ?zl ?zc ?zk; (case za => k_is); (case zl => k_is); (case zc => k_is); (case zk => k_is)))
    (case tf__law_sorted_parts => (refine' LB.TopF.of ?za ?zl ?zc ?zk; (case za => k_is); (case zl => k_is); (case zc => k_is); (case zk => k_is)))
    (case tf__law_plain_matrix => (refine' LB.TopF.of ?za ?zl ?zc ?zk; (case za => k_is); (case zl => k_is); (case zc => k_is); (case zk => k_is)))
    (case tf__law_doings => (refine' LB.TopF.of ?za ?zl ?zc ?zk; (case za => k_is); (case zl => k_is); (case zc => k_is); (case zk => k_is)))
    (case tf__law_done => (refine' LB.TopF.of ?za ?zl ?zc ?zk; (case za => k_is); (case zl => k_is); (case zc => k_is); (case zk => k_is)))
    (case tf__law_matrix => (refine' LB.TopF.of ?za ?zl ?zc ?zk; (case za => k_is); (case zl => k_is); (case zc => k_is); (case zk => k_is)))
    (case tf__law_led => (refine' LB.TopF.of ?za ?zl ?zc ?zk; (case za => k_is); (case zl => k_is); (case zc => k_is); (case zk => k_is)))
    (case tf__law_turned => (refine' LB.TopF.of ?za ?zl ?zc ?zk; (case za => k_is); (case zl => k_is); (case zc => k_is); (case zk => k_is)))
    (case tf_law => (refine' LB.TopF.of ?za ?zl ?zc ?zk; (case za => k_is); (case zl => k_is); (case zc => k_is); (case zk => k_is)))
    (case tm_Program___init__ => (refine' LB.TopM.of ?za ?zi ?zl ?zc ?zk; (case za => k_is); (case zi => k_is); (case zl => k_is); (case zc => k_is); (case zk => k_is)))
    (case tm_Program___eq__ => (refine' LB.TopM.of ?za ?zi ?zl ?zc ?zk; (case za => k_is); (case zi => k_is); (case zl => k_is); (case zc => k_is); (case zk => k_is)))
    (case ct => (refine' ⟨?y1, ?y2, ?y3, ?y4, ?y5, ?y6, ?y7, ?y8, ?y9, ?y10⟩; (case y1 => k_is); (case y2 => k_is); (case y3 => k_is); (case y4 => k_is); (case y5 => k_is); (case y6 => k_is); (case y7 => k_is); (case y8 => k_is); (case y9 => k_is); (case y10 => k_is)))
    (case ne => k_is)
    (case ob => k_is)
    (case nS => k_is)
    (case nT => k_is)
    (case nR => k_is)
    (case u0 => k_is)
    (case u1 => k_is)
    (case u2 => k_is)
    (case u3 => k_is)
    (case u4 => k_is)
    (case b_len => k_is)
    (case b_int => k_is)
    (case b_bool => k_is)
    (case b_str => k_is)
    (case b_isinstance => k_is)
    (case b_tuple => k_is)
    (case b_list => k_is)
    (case b_dict => k_is)
    (case b_set => k_is)
    (case b_sorted => k_is)
    (case b_range => k_is)
    (case b_abs => k_is)
    (case b_sum => k_is)
    (case b_all => k_is)
    (case b_any => k_is)
    (case b_enumerate => k_is)
    (case b_min => k_is)
    (case b_max => k_is)
    (case b_zip => k_is)
