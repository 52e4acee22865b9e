import PyProof.Rows.All
import Wide.All
import OpenK.AllK
import Wide.FinOn
import HandS.ForMost
import HandS.TupSets
import HandS.SetFor
import HandS.SetTxt0
import HandS.Set
import HandS.More
import HandS.Lambda
import HandS.Wide
import HandS.TupAny
import KE.SortData
import PyProof.ReprRoads
import HandS.Zip
import KE.DataFind
import HandS.Gcd
import HandS.TupMul
import KE.KTupSum
import HandS.Ends
import HandS.IsInst
import HandS.Text
import PyProof.TupleOfSeq
import HandS.Style
import HandS.ListEq
import HandS.ListItems
import HandS.DictComp
import HandS.Finally
import HandS.OwnEq
import HandS.Strs
import HandS.SetKeys
import HandS.Property
import KE.GoesMore
import HandS.IterVal
import HandS.OwnIter
import HandS.Deep
import HandS.WordsDict
import OpenK.KMeth
import OpenK.KWalk
import PyProof.InstEq
import KE.KFromBytes
import KE.KOwnIter
import HandS.Walk
import KE.KDictZip
import KE.GoesZip
import HandS.Exc
import HandS.ExcOwn
import HandS.ExcInit
import HandS.ExcField
import HandS.WordsExc
import KE.KExcIs
import PyProof.WalksMore
import HandS.EndTab
import HandS.Small
import HandS.Sort
import KE.KMinKey
import HandS.Conv
import KE.KDictCopyH
import KE.SortKeyHeap
import KE.KSortKey
import KE.KNestM
import KE.KLam
import PySem.Challenge.RW_asmuchas_k12_sums_listed
set_option Elab.async false
set_option linter.all false
set_option maxRecDepth 100000
set_option maxHeartbeats 4000000
set_option exponentiation.threshold 60000
/-! set(xs) of things that are all unlike, told apart by their parts (tuples of texts): how many there are. -/
namespace Hs
open PySem PySem.Spec PyProof.Rows L2
section
variable {K : Type} [DecidableEq K] {P : Program} {w : World}
/-- what such things must bring besides -/
structure Fit (kd : HeapKind P w K) : Prop where
  stay : ∀ {h h' : Heap} {k : K} {b : Addr}, (∀ c o vs n, h.get? c = some o → o.data = .seq vs n → h'.get? c = some o) → kd.is h k b → kd.is h' k b
  cls : ∀ {A : Around} {E : Value → Shared → Prop} {s : Shared} {k : K} {b : Addr} {Q : Bool → Shared → Prop}, kd.is s.heap k b → Q false s → wpAny (model P w) A (ofAClassStatement 8 (.ref b)) Q E s
  byv : ∀ {A : Around} {E : Value → Shared → Prop} {s : Shared} {k : K} {b : Addr} {Q : Bool → Shared → Prop}, kd.is s.heap k b → (∀ y, Q y s) → wpAny (model P w) A (hashByValue 8 (.ref b)) Q E s
variable {kd : HeapKind P w K}
abbrev ent (kd : HeapKind P w K) (p : Addr × K) : Int × Value := (kd.hash p.2, .ref p.1)
/-- the set at a holds the things L, and no others -/
structure Box (kd : HeapKind P w K) (h : Heap) (a : Addr) (L : List (Addr × K)) (es : Array (Int × Value)) (ep : Nat) (t : SetTable) : Prop where
  obj : ∃ o, h.get? a = some o ∧ o.ExactSet ∧ o.data = .set es ep t
  all : es.toList = L.map (ent kd)
  tab : TabOk t (L.map fun p => kd.hash p.2)
  its : ∀ p ∈ L, kd.is h p.2 p.1
  ld : w.params.followText "set-order" = true ∨ t.led = true
  air : L.length * 5 < t.mask * 3
  le : L.length < 64
variable {A : Around} {E : Value → Shared → Prop} {s : Shared} {a : Addr} {L : List (Addr × K)} {es : Array (Int × Value)} {ep : Nat} {t : SetTable}
theorem ents_len (h : es.toList = L.map (ent kd)) : es.size = L.length := by
  rw [← Array.length_toList, h, List.length_map]
theorem fits_of (T : TabOk t (L.map fun p => kd.hash p.2)) (n : es.size = L.length) (m : L.length ≤ t.mask) : t.fits es.size = true := by
  have z := T.sz
  rw [List.length_map] at z
  unfold SetTable.fits SetTable.fill
  rw [T.dm, Bool.and_eq_true, beq_iff_eq, decide_eq_true_eq]
  exact ⟨z.trans n.symm, by show t.place.size + 0 ≤ t.mask; omega⟩
theorem Box.fit (B : Box kd s.heap a L es ep t) : t.fits es.size = true := fits_of B.tab (ents_len B.all) (by have := B.air; omega)
theorem Box.get (B : Box kd s.heap a L es ep t) {i : Nat} {p : Addr × K} (h : L[i]? = some p) : es[i]? = some (ent kd p) := by
  rw [← Array.getElem?_toList, B.all, List.getElem?_map, h]
  rfl
/-- no search shows anything -/
theorem unseen (F : Fit kd) {k : K} {b : Addr} (hk : kd.is s.heap k b) {ys : List Value} (hy : ∀ y ∈ ys, ∃ p : Addr × K, y = .ref p.1 ∧ kd.is s.heap p.2 p.1) {Q : Bool → Shared → Prop} (q : Q false s) :
    wpAny (model P w) A (searchCouldBeSeen (.ref b) ys) Q E s := by
  unfold searchCouldBeSeen
  apply wpAny_bind
  refine wpAny_forIn_list _ (fun left r s1 => s1 = s ∧ r.1 = none ∧ ∀ y ∈ left, ∃ p : Addr × K, y = .ref p.1 ∧ kd.is s.heap p.2 p.1) _ ?_ ?_ _ _ ⟨rfl, rfl, hy⟩
  · rintro y left r s1 ⟨rfl, hr, hs⟩
    obtain ⟨⟨c, k2⟩, rfl, hc⟩ := hs y List.mem_cons_self
    have next := fun u (hu : u ∈ left) => hs u (List.mem_cons_of_mem _ hu)
    dsimp only
    by_cases z : (b == c || (carriedByValue (.ref b) && carriedByValue (.ref c))) = true
    · exact wp_if_pos z (wpAny_pure ⟨rfl, rfl, next⟩)
    · refine wp_if_neg z (wpAny_bind (kd.quiet hk ?_))
      simp only [Bool.not_true, Bool.false_eq_true, if_false]
      apply wpAny_bind
      refine kd.quiet hc ?_
      simp only [Bool.not_true, Bool.false_eq_true, if_false]
      apply wpAny_bind
      refine F.cls hk ?_
      simp only [Bool.false_eq_true, if_false]
      apply wpAny_bind
      refine F.cls hc ?_
      simp only [Bool.false_eq_true, if_false]
      exact wpAny_pure ⟨rfl, rfl, next⟩
  · rintro ⟨r1, r2⟩ s1 ⟨rfl, hr, _⟩
    cases hr
    exact wpAny_pure q
abbrev beg (m : Nat) (h : Int) : SetTable.Probe := runAt m (SetTable.bits h % (m + 1)) (SetTable.bits h)
theorem no_dummy (m : Nat) : ∀ (n : Nat) (p : SetTable.Probe), p.dummy = none → (nth m p n).dummy = none
  | 0, _, h => h
  | n + 1, p, h => no_dummy m n (adv m p) (by
    unfold adv
    split
    · exact h
    · exact h)
/-- the search for what is not there ends at the first empty slot -/
theorem look (F : Fit kd) (B : Box kd s.heap a L es ep t) {x : Addr} {k : K} (hx : kd.is s.heap k x) (ro : kd.room A) (no : k ∉ L.map (·.2)) {J : Nat} (bd : J < 10 * SetTable.turns t.mask)
    (free : way t.mask (kd.hash k) J ∉ t.place.toList) (full : ∀ c, c < J → way t.mask (kd.hash k) c ∈ t.place.toList) {Q : SetFound → Shared → Prop} (q : Q (.free (way t.mask (kd.hash k) J) false) s) :
    ∀ (f c : Nat) (st : Option SetTable.Probe), st.getD (t.probeStart (kd.hash k)) = nth t.mask (beg t.mask (kd.hash k)) c → c ≤ J → J - c < f →
      wpAny (model P w) A (setSearchFrom a (.ref x) (kd.hash k) true f st) Q E s
  | 0, c, _, _, _, lt => absurd lt (Nat.not_lt_zero _)
  | f + 1, c, st, at_c, le, lt => by
    obtain ⟨o, ho, ex, hd⟩ := B.obj
    have gave : ¬ t.gaveWay = true := by
      unfold SetTable.gaveWay
      rw [mask_odd B.tab.mok]
      decide
    have jat : ∀ r, (nth t.mask (nth t.mask (beg t.mask (kd.hash k)) c) r).j = way t.mask (kd.hash k) (c + r) := fun r => by rw [← nth_add]
    have last : c + (J - c) = J := by omega
    have sp := go_spec t B.tab.ris B.tab.dm (fun i => (es[i]?.map (·.1)).getD 0) (kd.hash k) (10 * SetTable.turns t.mask) (J - c) _ (no_dummy t.mask c _ rfl) (Nat.lt_of_le_of_lt (Nat.sub_le _ _) bd)
      (fun r hr => by rw [jat]; exact full _ (by omega)) (by rw [jat, last]; exact free)
    rw [setSearchFrom_succ]
    apply wpAny_bind
    refine wpAny_setState_of ho hd B.fit ?_
    dsimp only
    refine wp_if_neg gave ?_
    try refine wpAny_bind (wpAny_pure ?_)
    rw [at_c]
    rcases sp with ⟨r, i, hr, hi, hh, _, found⟩ | ⟨_, found⟩
    · -- one with this hash: it is another
      rw [show t.probe (fun i => (es[i]?.map (·.1)).getD 0) (kd.hash k) (nth t.mask (beg t.mask (kd.hash k)) c) = _ from found]
      dsimp only
      rw [jat] at hi ⊢
      have hiL : i < L.length := by
        have z1 := (List.getElem?_eq_some_iff.mp hi).1
        have z2 := B.tab.sz
        rw [List.length_map] at z2
        rw [Array.length_toList] at z1
        omega
      obtain ⟨p, hp⟩ : ∃ p, L[i]? = some p := ⟨_, List.getElem?_eq_getElem hiL⟩
      have mp := List.mem_of_getElem? hp
      have isp := B.its p mp
      have ne : p.2 ≠ k := fun e => no (e ▸ List.mem_map_of_mem mp)
      have go : wpAny (model P w) A (searchRest a (.ref x) (kd.hash k) true f es t (way t.mask (kd.hash k) (c + r)) i (nth t.mask (nth t.mask (beg t.mask (kd.hash k)) c) (r + 1))) Q E s := by
        unfold searchRest
        rw [B.get hp]
        dsimp only
        refine wpAny_bind (wpAny_holding (kd.eqBool ro isp hx ?_))
        apply wpAny_bind
        refine wpAny_setState_of ho hd B.fit ?_
        rw [decide_eq_false ne]
        dsimp only
        refine wp_if_neg (by simp) ?_
        try refine wpAny_bind (wpAny_pure ?_)
        rw [sameMem]
        dsimp only
        have live : t.slot (way t.mask (kd.hash k) (c + r)) = .live i := slot_live B.tab.ris hi
        simp only [if_true, live, B.get hp]
        refine wpAny_bind (wpAny_isSame_ref_self (wpAny_bind (wpAny_pure ?_)))
        simp only [if_true]
        refine wp_if_neg (by simp) ?_
        refine look F B hx ro no bd free full q f (c + (r + 1)) _ ?_ (by omega) (by omega)
        exact (nth_add _ _ _ _).symm
      by_cases l : t.led = true
      · refine wp_if_neg (by simp [l]) ?_
        try refine wpAny_bind (wpAny_pure ?_)
        exact go
      · refine wp_if_pos (by simp [l]) ?_
        apply wpAny_bind
        refine unseen F hx (fun y hy => ?_) ?_
        · obtain ⟨e, he, rfl⟩ := List.mem_map.mp hy
          have m1 : e ∈ es.toList := by
            have z : e ∈ es ∧ e.1 = kd.hash k := by simpa using he
            simpa using z.1
          rw [B.all] at m1
          obtain ⟨p2, hp2, rfl⟩ := List.mem_map.mp m1
          exact ⟨p2, rfl, B.its p2 hp2⟩
        · refine wp_if_neg (by decide) ?_
          try refine wpAny_bind (wpAny_pure ?_)
          exact go
    · -- the empty slot
      rw [show t.probe (fun i => (es[i]?.map (·.1)).getD 0) (kd.hash k) (nth t.mask (beg t.mask (kd.hash k)) c) = _ from found]
      dsimp only
      rw [jat, last]
      exact wpAny_pure q
end
end Hs
namespace Hs
open PySem PySem.Spec PyProof.Rows L2
section
variable {K : Type} [DecidableEq K] {P : Program} {w : World} {kd : HeapKind P w K}
variable {A : Around} {E : Value → Shared → Prop} {s : Shared} {a : Addr} {L : List (Addr × K)} {es : Array (Int × Value)} {ep : Nat} {t : SetTable}
/-- the set's change leaves the things as they were -/
theorem is_still (F : Fit kd) {h h' : Heap} {o : Obj} {k : K} {b : Addr} (x : kd.is h k b) (ho : h.get? a = some o) (hd : o.data = .set es ep t) (sb : Heap.SameBut a h h') : kd.is h' k b :=
  F.stay (fun c oc vs n hc hv => (sb.2 c (fun e => by
    rw [e, ho] at hc
    cases hc
    rw [hd] at hv
    cases hv)).trans hc) x
theorem pick (l : List (Addr × K)) : ∀ (js : List Nat), (∀ j ∈ js, j < l.length) → ∃ L2 : List (Addr × K), L2 = js.filterMap (fun j => l[j]?) ∧ L2.length = js.length ∧ ∀ i : Nat, L2[i]? = (js[i]?).bind fun (j : Nat) => l[j]?
  | [], _ => ⟨[], rfl, rfl, fun i => rfl⟩
  | j :: js, h => by
    obtain ⟨L2, e, n, z⟩ := pick l js fun i hi => h i (List.mem_cons_of_mem _ hi)
    have hj := List.getElem?_eq_getElem (h j List.mem_cons_self)
    refine ⟨l[j]'(h j List.mem_cons_self) :: L2, by rw [List.filterMap_cons_some hj, ← e], by rw [List.length_cons, List.length_cons, n], fun i => ?_⟩
    cases i with
    | zero => exact hj.symm
    | succ i => simpa using z i
theorem range_pick (l : List (Addr × K)) : ∀ n, n ≤ l.length → (List.range n).filterMap (fun j => l[j]?) = l.take n
  | 0, _ => rfl
  | n + 1, h => by
    rw [List.range_succ, List.filterMap_append, range_pick l n (by omega), List.take_add_one, List.getElem?_eq_getElem (show n < l.length from h), List.filterMap_cons_some (List.getElem?_eq_getElem (show n < l.length from h))]
    rfl
/-- the rows in another order -/
theorem turned (hr : es.toList = L.map (ent kd)) {od : Array Nat} (pm : od.toList.Perm (List.range L.length)) :
    ∃ L2 : List (Addr × K), L2.Perm L ∧ (od.filterMap (es[·]?)).toList = L2.map (ent kd) ∧ (L2.map fun p => kd.hash p.2) = od.toList.map fun i => (es.map (·.1)).getD i 0 := by
  have below : ∀ j ∈ od.toList, j < L.length := fun j hj => List.mem_range.mp (pm.mem_iff.mp hj)
  obtain ⟨L2, e, n, z⟩ := pick L od.toList below
  have ge : ∀ j, es[j]? = L[j]?.map (ent kd) := fun j => by rw [← Array.getElem?_toList, hr, List.getElem?_map]
  refine ⟨L2, ?_, ?_, ?_⟩
  · have z2 := pm.filterMap (fun j => L[j]?)
    rw [← e, range_pick L _ (Nat.le_refl _), List.take_length] at z2
    exact z2
  · have e3 : ∀ js : List Nat, js.filterMap (fun j => es[j]?) = (js.filterMap fun j => L[j]?).map (ent kd) := fun js => by
      rw [List.map_filterMap]
      exact congrArg (fun g => List.filterMap g js) (funext ge)
    rw [e, ← e3]
    first | exact Array.toList_filterMap .. | simp
  · refine List.ext_getElem? fun i => ?_
    rw [List.getElem?_map, List.getElem?_map, z]
    cases y : od.toList[i]? with
    | none => rfl
    | some j =>
      have hj := below j (List.mem_of_getElem? y)
      have q : (es.map (·.1))[j]? = some (kd.hash (L[j]).2) := by rw [Array.getElem?_map, ge, List.getElem?_eq_getElem hj]; rfl
      have q2 : (es.map (·.1)).getD j 0 = kd.hash (L[j]).2 := by rw [Array.getD_eq_getD_getElem?, q]; rfl
      show Option.map _ (L[j]?) = some ((es.map (·.1)).getD j 0)
      rw [q2, List.getElem?_eq_getElem hj]
      rfl
/-- all laid anew in a larger table -/
theorem wider (F : Fit kd) {o : Obj} (ho : s.heap.get? a = some o) (ex : o.ExactSet) (hd : o.data = .set es ep t) (hr : es.toList = L.map (ent kd)) (T : TabOk t (L.map fun p => kd.hash p.2)) (its : ∀ p ∈ L, kd.is s.heap p.2 p.1)
    (ld : w.params.followText "set-order" = true ∨ t.led = true) (le : L.length < 64) (fl : L.length ≤ t.mask) {n M : Nat} (hM : SetTable.sizeAbove n = M + 1) (mk : MaskOk M) (ai : L.length * 5 < M * 3) {Q : Unit → Shared → Prop}
    (q : ∀ h' L' es' ep' t', Heap.SameBut a s.heap h' → Box kd h' a L' es' ep' t' → L'.Perm L → Q () { s with heap := h' }) : wpAny (model P w) A (setRelay a n) Q E s := by
  have sz := ents_len hr
  have hM2 : SetTable.sizeAbove n - 1 = M := by rw [hM]; rfl
  have M127 : M ≤ 127 := by rcases mk with e | e | e <;> omega
  obtain ⟨t', od, lay, pm, T', em, el, _, _⟩ := relaid_ok t (hs := es.map (·.1)) hM2 mk (by rw [Array.size_map]; omega)
  rw [Array.size_map, sz] at pm
  obtain ⟨L2, p2, r2, h2⟩ := turned hr pm
  rw [← h2] at T'
  have sz2 := ents_len r2
  rw [p2.length_eq] at sz2
  rw [setRelay_eq]
  apply wpAny_bind
  refine wpAny_setState_of ho hd (fits_of T sz fl) ?_
  dsimp only
  refine wp_if_neg (by rw [sizeLine_eq, hM]; omega) ?_
  try refine wpAny_bind (wpAny_pure ?_)
  rw [lay]
  dsimp only
  apply wpAny_bind
  refine wp_if_neg (by rw [sz2, sz]; simp) ?_
  try refine wpAny_bind (wpAny_pure ?_)
  apply wpAny_pure
  have sb : Heap.SameBut a s.heap (s.heap.update a (Obj.putSet (od.filterMap (es[·]?)) t')) := Heap.SameBut.update ..
  refine wpAny_storeSet_of ho hd (q _ L2 _ (ep + 1) t' sb ⟨⟨_, store_at ho hd, ⟨ex.1, ex.2.1, ex.2.2⟩, rfl⟩, r2, T', fun p hp => is_still F (its p (p2.mem_iff.mp hp)) ho hd sb, by rw [el]; exact ld, ?_, ?_⟩ p2) (by rw [sz2, sizeLine_eq]; omega)
  · rw [p2.length_eq, em]
    exact ai
  · rw [p2.length_eq]
    exact le
theorem full_at {m n : Nat} (mk : MaskOk m) (le : n + 1 < 64) (ai : n * 5 < m * 3) (fu : (n + 1) * 5 ≥ m * 3) : ∃ M, SetTable.sizeAbove (SetTable.grown (n + 1)) = M + 1 ∧ MaskOk M ∧ (n + 1) * 5 < M * 3 ∧ n + 1 ≤ m := by
  rcases mk with e | e | e
  · have e2 : n = 4 := by omega
    subst e2
    exact ⟨31, size_20, .inr (.inl rfl), by decide, by omega⟩
  · have e2 : n = 18 := by omega
    subst e2
    exact ⟨127, size_76, .inr (.inr rfl), by decide, by omega⟩
  · omega
/-- one more -/
theorem add (F : Fit kd) (B : Box kd s.heap a L es ep t) {x : Addr} {k : K} (hx : kd.is s.heap k x) (ro : kd.room A) (no : k ∉ L.map (·.2)) (le : L.length + 1 < 64) {Q : Bool → Shared → Prop}
    (q : ∀ h' L' es' ep' t', Heap.SameBut a s.heap h' → Box kd h' a L' es' ep' t' → L'.Perm ((x, k) :: L) → Q true { s with heap := h' }) : wpAny (model P w) A (setAddHashed a (.ref x) (kd.hash k)) Q E s := by
  obtain ⟨o, ho, ex, hd⟩ := B.obj
  have sz := ents_len B.all
  have ai := B.air
  obtain ⟨J, bd, free, full⟩ := B.tab.first (by rw [List.length_map]; omega) (kd.hash k)
  have small : J < 100000 := by
    have z : 10 * SetTable.turns t.mask ≤ 1420 := by
      unfold SetTable.turns
      rcases B.tab.mok with e | e | e <;> omega
    omega
  unfold setAddHashed
  apply wpAny_holding
  rw [show (100000 : Nat) = 99999 + 1 from rfl, setAddHashedIn_succ]
  apply wpAny_bind
  refine wpAny_setState_of ho hd B.fit ?_
  dsimp only
  refine wp_if_neg (by simp [byScan, Value.scannable]) ?_
  try refine wpAny_bind (wpAny_pure ?_)
  apply wpAny_bind
  unfold setSearch
  refine look F B hx ro no bd free full ?_ 100000 0 none rfl (Nat.zero_le _) (by omega)
  dsimp only
  apply wpAny_bind
  refine wpAny_setState_of ho hd B.fit ?_
  dsimp only
  obtain ⟨u1, u2, u3, u4, u5, _, _, _, u9⟩ := B.tab.put free full
  generalize t.put (way t.mask (kd.hash k) J) = tp at u1 u3 u4 u5 u9 ⊢
  obtain ⟨t1, i⟩ := tp
  dsimp only at u1 u3 u4 u5 u9 ⊢
  rw [← u1] at u2 u3
  suffices tail : ∀ t2 : SetTable, t2.mask = t1.mask → t2.led = t1.led → t2.place = t1.place → t2.dummies = t1.dummies → wpAny (model P w) A (do
      storeSet a (SetTable.insertAt es i (kd.hash k, Value.ref x)) t2
      if !false && t2.tooFull then setRelay a (SetTable.grown (es.size + 1))
      return true) Q E s by
    by_cases u6 : t1.plain = true
    · first
        | (apply wpAny_bind; refine wp_if_pos u6 ?_; refine F.byv hx fun y => ?_)
        | refine wp_if_pos u6 (wpAny_bind (F.byv hx fun y => ?_))
      cases y
      · exact tail _ rfl rfl rfl rfl
      · exact tail _ rfl rfl rfl rfl
    · first
        | (apply wpAny_bind; refine wp_if_neg u6 ?_; apply wpAny_pure)
        | refine wp_if_neg u6 (wpAny_bind (wpAny_pure ?_))
      exact tail _ rfl rfl rfl rfl
  intro t2 v4 v5 vp vd
  obtain ⟨L1, eL⟩ : ∃ L1, L1 = L.take i ++ (x, k) :: L.drop i := ⟨_, rfl⟩
  have pm : L1.Perm ((x, k) :: L) := by rw [eL]; exact put_perm L i (x, k)
  have r1 : (SetTable.insertAt es i (kd.hash k, Value.ref x)).toList = L1.map (ent kd) := by
    rw [SetTable.toList_insertAt, B.all, eL, List.map_append, List.map_cons, List.map_take, List.map_drop]
  have T0 : TabOk t1 (L1.map fun p => kd.hash p.2) := by
    rw [eL, List.map_append, List.map_cons, List.map_take, List.map_drop]
    exact u3
  have T1 : TabOk t2 (L1.map fun p => kd.hash p.2) := by
    obtain ⟨c1, c2, c3, c4, c5, c6⟩ := T0
    rw [← vp] at c1 c3 c5 c6
    rw [← v4] at c4 c5 c6
    rw [← vd] at c2
    exact ⟨c1, c2, c3, c4, c5, c6⟩
  have u9' : t2.fill = (L.map fun p => kd.hash p.2).length + 1 := by
    rw [← u9]
    unfold SetTable.fill
    rw [vp, vd]
  have u4' := v4.trans u4
  have u5' := v5.trans u5
  clear u9 u4 u5 T0 u3
  have n1 : L1.length = L.length + 1 := pm.length_eq
  have sz1 := ents_len r1
  generalize SetTable.insertAt es i (kd.hash k, Value.ref x) = es1 at r1 sz1 ⊢
  apply wpAny_bind
  refine wpAny_storeSet_of ho hd ?_ (by rw [sz1, n1, sizeLine_eq]; omega)
  have sb : Heap.SameBut a s.heap (s.heap.update a (Obj.putSet es1 t2)) := Heap.SameBut.update ..
  have ho1 := store_at (es' := es1) (t' := t2) ho hd
  generalize s.heap.update a (Obj.putSet es1 t2) = h1 at sb ho1 ⊢
  have its1 : ∀ p ∈ L1, kd.is h1 p.2 p.1 := fun p hp => by
    rcases List.mem_cons.mp (pm.mem_iff.mp hp) with e | m
    · subst e
      exact is_still F hx ho hd sb
    · exact is_still F (B.its p m) ho hd sb
  have ld1 : w.params.followText "set-order" = true ∨ t2.led = true := by rw [u5']; exact B.ld
  have fill : t2.fill = L.length + 1 := by rw [u9', List.length_map]
  by_cases fu : t2.tooFull = true
  · have fu2 : (L.length + 1) * 5 ≥ t.mask * 3 := by
      have z := fu
      unfold SetTable.tooFull at z
      rw [decide_eq_true_eq, fill, u4'] at z
      exact z
    obtain ⟨M, m1, m2, m3, m4⟩ := full_at B.tab.mok le ai fu2
    first
      | (apply wpAny_bind; refine wp_if_pos (by simp [fu]) ?_)
      | (refine wp_if_pos (by simp [fu]) ?_; apply wpAny_bind)
    rw [sz]
    refine wider F (s := { s with heap := h1 }) ho1 ⟨ex.1, ex.2.1, ex.2.2⟩ rfl r1 T1 its1 ld1 (by rw [n1]; exact le) (by rw [n1, u4']; exact m4) m1 m2 (by rw [n1]; exact m3) fun h2 L2 es2 ep2 t2 sb2 B2 p2 => ?_
    exact wpAny_pure (q h2 L2 es2 ep2 t2 (sb.trans sb2) B2 (p2.trans pm))
  · first
      | refine wp_if_neg (by simp [fu]) ?_
      | (apply wpAny_bind; refine wp_if_neg (by simp [fu]) ?_; apply wpAny_pure)
    refine wpAny_pure (q h1 L1 es1 (ep + 1) t2 sb ⟨⟨_, ho1, ⟨ex.1, ex.2.1, ex.2.2⟩, rfl⟩, r1, T1, its1, ld1, ?_, by rw [n1]; exact le⟩ pm)
    have z := fu
    unfold SetTable.tooFull at z
    rw [decide_eq_true_eq, fill] at z
    rw [n1]
    omega
end
end Hs
/-! Sets of texts whose order can be walked: set(texts), sorted of it, its length. -/
namespace Tx
open PySem PySem.Spec PyProof.Rows L2

/-- the set at a holds the texts l, and its order can be walked -/
structure TxR (P : Program) (w : World) (h : Heap) (a : Addr) (l : List Str) : Prop where
  ex : ∃ D : Froz.SD, h.get? a = some (Froz.sObj "set" D) ∧ Froz.TxOk P w D l ∧ Ris D.2.2.place.toList ∧ (w.params.followText "set-order" = true ∨ D.2.2.led = true)
  nd : l.Nodup

section
variable {P : Program} {w : World} {A : Around} {E : Value → Shared → Prop} {s : Shared} {a : Addr} {l : List Str}
theorem TxR.at {h h' : Heap} (R : TxR P w h a l) (k : ∀ o, h.get? a = some o → h'.get? a = some o) : TxR P w h' a l := by
  obtain ⟨D, q, rest⟩ := R.ex
  exact ⟨⟨D, k _ q, rest⟩, R.nd⟩
theorem tail_ris {ep : Nat} {es : Array (Int × Value)} {t : SetTable} {b : Bool} (r : Ris t.place.toList) : Ris (Froz.tailTx ep es t b).2.2.place.toList ∧ (Froz.tailTx ep es t b).2.2.led = t.led := by
  unfold Froz.tailTx
  split
  · exact ⟨relayAll_ris t es _, relayAll_led t es _⟩
  · exact ⟨r, rfl⟩
theorem add_ris {x : Int} {v : Value} {D : Froz.SD} (r : Ris D.2.2.place.toList) : Ris (Froz.addTx x v D).2.2.place.toList ∧ (Froz.addTx x v D).2.2.led = D.2.2.led := by
  obtain ⟨es, ep, t⟩ := D
  have r1 := layNew_ris t es x v r
  have l1 := layNew_led t es x v
  unfold Froz.addTx
  have z := tail_ris (ep := ep) (es := (layNew t es x v).1) (t := if (layNew t es x v).2.1.plain = true then { (layNew t es x v).2.1 with plain := false } else (layNew t es x v).2.1) (b := (layNew t es x v).2.2.1) (by
    split
    · exact r1
    · exact r1)
  refine ⟨z.1, z.2.trans ?_⟩
  split
  · exact l1
  · exact l1
/-- a text that is in it already -/
theorem old_x {k : Str} {u : Tok} {Q : Bool → Shared → Prop} {D : Froz.SD} (at_a : s.heap.get? a = some (Froz.sObj "set" D)) (F : Froz.TxOk P w D l) (hk : k ∈ l) (room : l.length < scanBound) (q : Q false s) :
    wpAny (model P w) A (setAddHashed a (.str k u) (hashStr w k)) Q E s := by
  obtain ⟨es, ep, t⟩ := D
  have isd : (Froz.sObj "set" (es, ep, t)).data = .set es ep t := rfl
  have fit : t.fits es.size = true := F.fit
  have el : ElemsOf (strKind P w) es.toList := F.el
  have sz : es.size = l.length := F.sz
  have key : (strKind P w).is k (.str k u) = true := Froz.is_str k u
  obtain ⟨e0, m0, i0⟩ := (F.mem k).mp hk
  unfold setAddHashed
  unfold setAddHashedIn
  apply wpAny_holding
  apply wpAny_bind
  apply wpAny_setState_of at_a isd fit
  dsimp only
  rw [byScan_of (knd := strKind P w) rfl (by omega) el]
  simp only [if_true]
  unfold setAddByScan
  apply wpAny_bind
  apply wpAny_bind
  apply wpAny_rule
  apply wpAny_bind
  refine wpAny_setScan_of (knd := strKind P w) (k := k) key at_a isd fit el ?_
  cases e : List.findIdx? (fun e => (strKind P w).is k e.2) es.toList with
  | none =>
    have no := List.findIdx?_eq_none_iff.mp e e0 m0
    rw [i0] at no
    cases no
  | some j => exact wpAny_pure (wpAny_pure q)
def ins (l : List Str) (k : Str) : List Str := if k ∈ l then l else k :: l
theorem add_any {k : Str} {u : Tok} {Q : Bool → Shared → Prop} (R : TxR P w s.heap a l) (room : l.length + 1 < scanBound)
    (q : ∀ b h', Heap.SameBut a s.heap h' → TxR P w h' a (ins l k) → Q b { s with heap := h' }) : wpAny (model P w) A (setAddHashed a (.str k u) (hashStr w k)) Q E s := by
  obtain ⟨D, at_a, F, r, led⟩ := R.ex
  unfold ins at q
  by_cases hk : k ∈ l
  · rw [if_pos hk] at q
    exact old_x at_a F hk (by omega) (q false s.heap (Heap.SameBut.refl a s.heap) R)
  · rw [if_neg hk] at q
    have z := add_ris (x := hashStr w k) (v := .str k u) r
    refine Froz.add_x at_a F hk room (q true _ (Heap.SameBut.update s.heap a _) ⟨⟨_, Froz.get_upd _ at_a rfl, Froz.add_ok u F, z.1, ?_⟩, List.nodup_cons.mpr ⟨hk, R.nd⟩⟩)
    rw [z.2]
    exact led
def ded (ks : List Str) : List Str := ks.foldl ins []
theorem ins_len {k : Str} {l : List Str} : (ins l k).length ≤ l.length + 1 := by
  unfold ins
  split
  · omega
  · exact Nat.le_refl _
theorem ded_len : ∀ {ks : List Str} {l : List Str}, (ks.foldl ins l).length ≤ l.length + ks.length
  | [], l => Nat.le_refl _
  | k :: ks, l => by
    rw [List.foldl_cons, List.length_cons]
    have a := ded_len (ks := ks) (l := ins l k)
    have b := ins_len (k := k) (l := l)
    omega
theorem ded_take {ks : List Str} {i : Nat} {k : Str} (h : ks[i]? = some k) : ded (ks.take (i + 1)) = ins (ded (ks.take i)) k := by
  unfold ded
  rw [List.take_add_one, h, List.foldl_append]
  rfl
/-! ### set(texts) -/
theorem fill {I : Addr} {fp wr : List Addr} {G : Array GenState → Array GenState → Prop} {n : Nat} {Pv : Nat → Value → Prop} {St : Nat → Shared → Prop} {R : Result → Shared → Prop} (W : WalksS P w A.in1 I fp wr G n Pv St) {b : Addr} (out : b ∉ fp)
    (ks : List Str) (hn : n = ks.length) (room : ks.length + 1 < scanBound) (item : ∀ i v, Pv i v → ∃ k t, ks[i]? = some k ∧ v = .str k t) :
    ∀ (m i : Nat) (s : Shared), n - i = m → i ≤ n → St i s → TxR P w s.heap b (ded (ks.take i)) → (∀ s2, Moved (b :: wr) G s s2 → TxR P w s2.heap b (ded ks) → R (.ok (.ret .none)) s2) →
      codeAny (model P w) A (.builtin "set.update.loop" ⟨[.ref b, .ref I], []⟩) R s := by
  have bw : b ∉ wr := fun z => out (W.sub _ z)
  have more : ∀ c ∈ wr, c ∈ b :: wr := fun c z => List.mem_cons_of_mem _ z
  intro m
  induction m with
  | zero =>
    intro i s hm hi st T fin
    obtain rfl : i = n := by omega
    apply codeAny_builtin F.entry_set_update_loop
    rw [Around.under_plainId F.plain_set_update_loop _]
    show wpAny _ A.in1 (pyNext (.ref I) >>= _) _ _ s
    apply wpAny_bind
    refine W.done s _ _ st fun s2 mv => ?_
    show wpAny _ A.in1 (ret Value.none) _ _ s2
    rw [List.take_of_length_le (by omega)] at T
    exact wpAny_pure (fin s2 (mv.mono more) (T.at fun o e => mv.heap b o bw e))
  | succ m ih =>
    intro i s hm hi st T fin
    have lt : i < n := by omega
    apply codeAny_builtin F.entry_set_update_loop
    rw [Around.under_plainId F.plain_set_update_loop _]
    show wpAny _ A.in1 (pyNext (.ref I) >>= _) _ _ s
    apply wpAny_bind
    refine W.item i s _ _ lt st fun v s2 pv st2 mv => ?_
    obtain ⟨k, t, hk, rfl⟩ := item i v pv
    have T2 : TxR P w s2.heap b (ded (ks.take i)) := T.at fun o e => mv.heap b o bw e
    have few : (ded (ks.take i)).length ≤ ks.length := by
      have z := ded_len (ks := ks.take i) (l := [])
      rw [List.length_take, List.length_nil] at z
      show (List.foldl ins [] (ks.take i)).length ≤ _
      omega
    show wpAny _ A.in1 (holding [Value.str k t] (setAdd b (.str k t)) >>= _) _ _ s2
    apply wpAny_bind
    apply wpAny_holding
    unfold setAdd
    apply wpAny_holding
    apply wpAny_bind
    refine (strKind P w).pyHash (k := k) (Froz.is_str k t) ?_
    refine add_any (s := { s2 with toks := s2.toks + 1 }) T2 (by omega) fun _ h2 sb T3 => ?_
    rw [← ded_take hk] at T3
    refine wpAny_pure ⟨plainId_quiet F.plain_set_update_loop _, ih (i + 1) _ (by omega) lt (W.frame _ s2 _ _ st2 (Nat.le_succ _) fun c hc o e => ?_) T3 fun s3 mv3 T4 => ?_⟩
    · rw [sb.2 c (fun z : c = b => out (by rw [← z]; exact hc))]
      exact e
    · refine fin s3 (Moved.trans W.gtrans ((mv.mono more).then_heap (Nat.le_succ _) fun c o hc e => ?_) mv3) T4
      rw [sb.2 c (fun z : c = b => hc (by rw [z]; exact List.mem_cons_self))]
      exact e
end
end Tx
namespace Tx
open PySem PySem.Spec PyProof.Rows L2
section
variable {P : Program} {w : World} {A : Around} {E : Value → Shared → Prop} {s : Shared}
end
end Tx
namespace Hs
open PySem PySem.Spec PyProof.Rows L2
section
variable {K : Type} [DecidableEq K] {P : Program} {w : World} {kd : HeapKind P w K}
variable {A : Around} {E : Value → Shared → Prop} {s : Shared} {L : List (Addr × K)}
/-- so far: the first i of ks -/
def Upto (kd : HeapKind P w K) (h : Heap) (b : Addr) (ks : List (Addr × K)) (i : Nat) : Prop := ∃ L es ep t, Box kd h b L es ep t ∧ L.Perm (ks.take i)
theorem Upto.go (Fi : Fit kd) {h h0 h' : Heap} {b : Addr} {ks : List (Addr × K)} {i : Nat} (U : Upto kd h b ks i) (at0 : ∀ p ∈ ks, kd.is h0 p.2 p.1) (hb : ∀ o, h.get? b = some o → h'.get? b = some o) (k0 : ∀ c o, h0.get? c = some o → h'.get? c = some o) : Upto kd h' b ks i := by
  obtain ⟨L, es, ep, t, B, pm⟩ := U
  obtain ⟨o, ho, r⟩ := B.obj
  exact ⟨L, es, ep, t, ⟨⟨o, hb o ho, r⟩, B.all, B.tab, fun p hp => Fi.stay (fun c o _ _ z _ => k0 c o z) (at0 p (List.mem_of_mem_take (pm.mem_iff.mp hp))), B.ld, B.air, B.le⟩, pm⟩
theorem fill (Fi : Fit kd) {I : Addr} {fp wr : List Addr} {G : Array GenState → Array GenState → Prop} {n : Nat} {Pv : Nat → Value → Prop} {St : Nat → Shared → Prop} {R : Result → Shared → Prop} (W : WalksS P w A.in1 I fp wr G n Pv St) {b : Addr} (out : b ∉ fp)
    (ks : List (Addr × K)) (hn : n = ks.length) (room : ks.length < 64) (nd : (ks.map (·.2)).Nodup) (item : ∀ i v, Pv i v → ∃ p, ks[i]? = some p ∧ v = .ref p.1) {h0 : Heap} (at0 : ∀ p ∈ ks, kd.is h0 p.2 p.1) (b0 : h0.get? b = none) (wr0 : ∀ c ∈ wr, h0.get? c = none) (ro : kd.room A.in1) :
    ∀ (m i : Nat) (s : Shared), n - i = m → i ≤ n → St i s → (∀ c o, h0.get? c = some o → s.heap.get? c = some o) → Upto kd s.heap b ks i → (∀ s2, Moved (b :: wr) G s s2 → (∀ c o, h0.get? c = some o → s2.heap.get? c = some o) → Upto kd s2.heap b ks n → R (.ok (.ret .none)) s2) →
      codeAny (model P w) A (.builtin "set.update.loop" ⟨[.ref b, .ref I], []⟩) R s := by
  have bw : b ∉ wr := fun z => out (W.sub _ z)
  have more : ∀ c ∈ wr, c ∈ b :: wr := fun c z => List.mem_cons_of_mem _ z
  have kept : ∀ {s s2 : Shared}, Moved wr G s s2 → (∀ c o, h0.get? c = some o → s.heap.get? c = some o) → ∀ c o, h0.get? c = some o → s2.heap.get? c = some o := fun mv k0 c o z => mv.heap c o (fun y => by rw [wr0 c y] at z; cases z) (k0 c o z)
  intro m
  induction m with
  | zero =>
    intro i s hm hi st k0 U fin
    obtain rfl : i = n := by omega
    apply codeAny_builtin F.entry_set_update_loop
    rw [Around.under_plainId F.plain_set_update_loop _]
    show wpAny _ A.in1 (pyNext (.ref I) >>= _) _ _ s
    apply wpAny_bind
    refine W.done s _ _ st fun s2 mv => ?_
    show wpAny _ A.in1 (ret Value.none) _ _ s2
    exact wpAny_pure (fin s2 (mv.mono more) (kept mv k0) (U.go Fi at0 (fun o e => mv.heap b o bw e) (kept mv k0)))
  | succ m ih =>
    intro i s hm hi st k0 U fin
    have lt : i < n := by omega
    apply codeAny_builtin F.entry_set_update_loop
    rw [Around.under_plainId F.plain_set_update_loop _]
    show wpAny _ A.in1 (pyNext (.ref I) >>= _) _ _ s
    apply wpAny_bind
    refine W.item i s _ _ lt st fun v s2 pv st2 mv => ?_
    obtain ⟨⟨x, k⟩, hk, rfl⟩ := item i v pv
    have k2 := kept mv k0
    obtain ⟨L, es, ep, t, B, pm⟩ := U.go Fi at0 (fun o e => mv.heap b o bw e) k2
    have len : L.length = i := by rw [pm.length_eq, List.length_take]; omega
    have hx : kd.is s2.heap k x := Fi.stay (fun c o _ _ z _ => k2 c o z) (at0 _ (List.mem_of_getElem? hk))
    have tk : ks.take (i + 1) = ks.take i ++ [(x, k)] := by rw [List.take_add_one, hk]; rfl
    have no : k ∉ L.map (·.2) := fun z => by
      have z2 := (pm.map (·.2)).mem_iff.mp z
      have nd2 : ((ks.take (i + 1)).map (·.2)).Nodup := nd.sublist ((List.take_sublist _ _).map _)
      rw [tk, List.map_append] at nd2
      exact (List.nodup_append.mp nd2).2.2 k z2 k (by simp) rfl
    show wpAny _ A.in1 (holding [Value.ref x] (setAdd b (.ref x)) >>= _) _ _ s2
    apply wpAny_bind
    apply wpAny_holding
    unfold setAdd
    apply wpAny_holding
    apply wpAny_bind
    refine kd.pyHash ro hx ?_
    refine add Fi (s := { s2 with toks := s2.toks + kd.draws k }) B hx ro no (by omega) fun h2 L' es' ep' t' sb B2 pm2 => ?_
    have k3 : ∀ c o, h0.get? c = some o → h2.get? c = some o := fun c o z => (sb.2 c (fun y => by rw [y, b0] at z; cases z)).trans (k2 c o z)
    have U2 : Upto kd h2 b ks (i + 1) := ⟨L', es', ep', t', B2, by
      rw [tk]
      exact pm2.trans ((List.Perm.cons _ pm).trans (List.perm_append_comm (l₁ := [(x, k)])))⟩
    refine wpAny_pure ⟨plainId_quiet F.plain_set_update_loop _, ih (i + 1) _ (by omega) lt (W.frame _ s2 _ _ st2 (Nat.le_add_right _ _) fun c hc o e => ?_) k3 U2 fun s3 mv3 k4 U3 => ?_⟩
    · rw [sb.2 c (fun z : c = b => out (by rw [← z]; exact hc))]
      exact e
    · refine fin s3 (Moved.trans W.gtrans ((mv.mono more).then_heap (Nat.le_add_right _ _) fun c o hc e => ?_) mv3) k4 U3
      rw [sb.2 c (fun z : c = b => hc (by rw [z]; exact List.mem_cons_self))]
      exact e
theorem Upto.zero {h : Heap} {b : Addr} {ks : List (Addr × K)} (U : Upto kd h b [] 0) : Upto kd h b ks 0 := U
end
end Hs
namespace Tx
open PySem PySem.Spec PyProof.Rows L2
section
variable {P : Program} {w : World} {A : Around} {E : Value → Shared → Prop} {s : Shared} {a : Addr} {l : List Str}
end
end Tx
namespace Tx
open PySem PySem.Spec PyProof.Rows L2
section
variable {P : Program} {w : World} {A : Around} {E : Value → Shared → Prop} {s : Shared}
/-- the object of a set that was just made -/
abbrev new0 (w : World) : Obj := { cls := .type "set", dict := none, data := .set #[] 0 (.fresh 0 0 (!w.params.followText "set-order")) }
end
end Tx
/-! A layer of pure data over the hand layer: readings speak of data and slots, not of heaps. -/
namespace Pd
open PySem PySem.Spec PyProof.Rows L2

/-- what may change under others' hands: the bag of draws; the tables of code objects, with the name that their codes bear -/
structure Gd where
  bag : Option Addr
  tab : List (Addr × Str)
def Gd.no : Gd := ⟨none, []⟩
def Bd (g : Gd) (a : Addr) : Prop := g.bag = some a ∨ ∃ q, (a, q) ∈ g.tab
/-- data -/
inductive Da where
  | non | bl (b : Bool) | int (i : Int) | str (x : Str)
  | lst (xs : List Da) | tup (xs : List Da) | tpw (xs : List Da) | dct (kvs : List (Key × Da))
  /-- the bag of draws -/
  | bag
  | raw (v : V)
  /-- a thing that never changes: what is true of it -/
  | fix (φ : Hp → V → Prop)

/-- all that is tracked stays -/
def Sm (H H' : Hp) : Prop := ∀ b o, H b = some o → H' b = some o
/-- all but lists and dicts is seen there, too -/
def Sees (H H' : Hp) : Prop := ∀ a o, H a = some o → (∀ xs, o ≠ .lst xs) → (∀ kvs, o ≠ .dK kvs) → H' a = some o
theorem Sees.sm {H H' : Hp} (e : Sm H H') : Sees H H' := fun a o h _ _ => e a o h
theorem Sees.trans {H H1 H2 : Hp} (a : Sees H H1) (b : Sees H1 H2) : Sees H H2 := fun c o h n1 n2 => b c o (a c o h n1 n2) n1 n2

/-- a tuple that has no dict of its own -/
def TupS (K : PySem.W.Frag) (H : Hp) (a : Addr) (xs : List V) : Prop :=
  (∃ o : Obj, H a = some (.frz o (.tup xs)) ∧ o.dict = none) ∨
    ∃ (o : Obj) (its : Array Value) (n : Nat), K.lookup a = some o ∧ o.cls = .type "tuple" ∧ o.dict = none ∧ o.data = .seq its n ∧ its.size ≤ sizeLine ∧ Vals xs its.toList
theorem TupS.sq {K : PySem.W.Frag} {H : Hp} {a : Addr} {xs : List V} (h : TupS K H a xs) : SqT K H a xs := by
  rcases h with ⟨o, h, _⟩ | ⟨o, its, n, h1, h2, _, h3, h4, h5⟩
  · exact .inl (.inr ⟨o, h⟩)
  · exact .inr ⟨o, its, n, h1, h2, h3, h4, h5⟩

mutual
/-- v is the datum d in the heap Hh, g the bag's address -/
inductive Dv (K : PySem.W.Frag) (g : Gd) (Hh : Hp) : V → Da → Prop
  | non : Dv K g Hh .non .non
  | bl (b : Bool) : Dv K g Hh (.bl b) (.bl b)
  | int (i : Int) : Dv K g Hh (.int i) (.int i)
  | str (x : Str) : Dv K g Hh (.str x) (.str x)
  | lst {a : Addr} {xs : List V} {ds : List Da} : Hh a = some (.lst xs) → DvAll K g Hh xs ds → Dv K g Hh (.ref a) (.lst ds)
  | tup {a : Addr} {xs : List V} {ds : List Da} : TupS K Hh a xs → DvAll K g Hh xs ds → Dv K g Hh (.ref a) (.tup ds)
  | tpw {a : Addr} {xs : List V} {ds : List Da} : SqT K Hh a xs → DvAll K g Hh xs ds → Dv K g Hh (.ref a) (.tpw ds)
  | dct {a : Addr} {kvs : List (Key × V)} {ds : List (Key × Da)} : Hh a = some (.dK kvs) → KvAll K g Hh kvs ds → Dv K g Hh (.ref a) (.dct ds)
  | bag {a : Addr} : g.bag = some a → Dv K g Hh (.ref a) .bag
  | raw {v : V} : Dv K g Hh v (.raw v)
  | fix {v : V} {φ : Hp → V → Prop} : (∀ H', Sees Hh H' → φ H' v) → Dv K g Hh v (.fix φ)
inductive DvAll (K : PySem.W.Frag) (g : Gd) (Hh : Hp) : List V → List Da → Prop
  | nil : DvAll K g Hh [] []
  | cons {v : V} {vs : List V} {d : Da} {ds : List Da} : Dv K g Hh v d → DvAll K g Hh vs ds → DvAll K g Hh (v :: vs) (d :: ds)
inductive KvAll (K : PySem.W.Frag) (g : Gd) (Hh : Hp) : List (Key × V) → List (Key × Da) → Prop
  | nil : KvAll K g Hh [] []
  | cons {k : Key} {v : V} {vs : List (Key × V)} {d : Da} {ds : List (Key × Da)} : Dv K g Hh v d → KvAll K g Hh vs ds → KvAll K g Hh ((k, v) :: vs) ((k, d) :: ds)
end

section
variable {K : PySem.W.Frag} {g : Gd} {H H' : Hp}
theorem sqt_mono {a : Addr} {xs : List V} (e : Sm H H') (h : SqT K H a xs) : SqT K H' a xs := by
  rcases h with (h | ⟨o, h⟩) | h
  · exact .inl (.inl (e _ _ h))
  · exact .inl (.inr ⟨o, e _ _ h⟩)
  · exact .inr h
theorem tups_mono {a : Addr} {xs : List V} (e : Sm H H') (h : TupS K H a xs) : TupS K H' a xs := by
  rcases h with ⟨o, h, n⟩ | h
  · exact .inl ⟨o, e _ _ h, n⟩
  · exact .inr h
mutual
theorem Dv.mono (e : Sm H H') : ∀ (d : Da) (v : V), Dv K g H v d → Dv K g H' v d
  | .non, _, h => by cases h; exact .non
  | .bl _, _, h => by cases h; exact .bl _
  | .int _, _, h => by cases h; exact .int _
  | .str _, _, h => by cases h; exact .str _
  | .lst ds, _, h => by
    cases h with
    | lst h1 h2 => exact .lst (e _ _ h1) (DvAll.mono e ds _ h2)
  | .tup ds, _, h => by
    cases h with
    | tup h1 h2 => exact .tup (tups_mono e h1) (DvAll.mono e ds _ h2)
  | .tpw ds, _, h => by
    cases h with
    | tpw h1 h2 => exact .tpw (sqt_mono e h1) (DvAll.mono e ds _ h2)
  | .dct ds, _, h => by
    cases h with
    | dct h1 h2 => exact .dct (e _ _ h1) (KvAll.mono e ds _ h2)
  | .bag, _, h => by
    cases h with
    | bag q => exact .bag q
  | .raw _, _, h => by cases h; exact .raw
  | .fix _, _, h => by
    cases h with
    | fix q => exact .fix fun H2 s => q H2 (Sees.trans (Sees.sm e) s)
theorem DvAll.mono (e : Sm H H') : ∀ (ds : List Da) (vs : List V), DvAll K g H vs ds → DvAll K g H' vs ds
  | [], _, h => by cases h; exact .nil
  | d :: ds, _, h => by
    cases h with
    | cons h1 h2 => exact .cons (Dv.mono e d _ h1) (DvAll.mono e ds _ h2)
theorem KvAll.mono (e : Sm H H') : ∀ (ds : List (Key × Da)) (vs : List (Key × V)), KvAll K g H vs ds → KvAll K g H' vs ds
  | [], _, h => by cases h; exact .nil
  | (k, d) :: ds, _, h => by
    cases h with
    | cons h1 h2 => exact .cons (Dv.mono e d _ h1) (KvAll.mono e ds _ h2)
end
theorem DvAll.len {xs : List V} : ∀ {ds : List Da}, DvAll K g H xs ds → xs.length = ds.length := by
  induction xs with
  | nil => intro ds h; cases h; rfl
  | cons x xs ih =>
    intro ds h
    cases h with
    | cons _ t => rw [List.length_cons, List.length_cons, ih t]
theorem DvAll.app {xs ys : List V} : ∀ {ds es : List Da}, DvAll K g H xs ds → DvAll K g H ys es → DvAll K g H (xs ++ ys) (ds ++ es) := by
  induction xs with
  | nil => intro ds es h q; cases h; exact q
  | cons x xs ih =>
    intro ds es h q
    cases h with
    | cons p t => exact .cons p (ih t q)
theorem DvAll.at {xs : List V} : ∀ {ds : List Da} {i : Nat} {d : Da}, DvAll K g H xs ds → ds[i]? = some d → ∃ v, xs[i]? = some v ∧ Dv K g H v d := by
  induction xs with
  | nil => intro ds i d h e; cases h; cases e
  | cons x xs ih =>
    intro ds i d h e
    cases h with
    | cons p t =>
      cases i with
      | zero => cases e; exact ⟨x, rfl, p⟩
      | succ i => exact ih (i := i) t (by simpa using e)
theorem DvAll.ta {xs : List V} : ∀ {ds : List Da} {i : Nat} {v : V}, DvAll K g H xs ds → xs[i]? = some v → ∃ d, ds[i]? = some d ∧ Dv K g H v d := by
  induction xs with
  | nil => intro ds i d h e; cases e
  | cons x xs ih =>
    intro ds i d h e
    cases h with
    | cons p t =>
      cases i with
      | zero => cases e; exact ⟨_, rfl, p⟩
      | succ i => exact ih (i := i) t (by simpa using e)
theorem DvAll.tk {xs : List V} : ∀ {ds : List Da} (n : Nat), DvAll K g H xs ds → DvAll K g H (xs.take n) (ds.take n) := by
  induction xs with
  | nil => intro ds n h; cases h; rw [List.take_nil, List.take_nil]; exact .nil
  | cons x xs ih =>
    intro ds n h
    cases h with
    | cons p t =>
      cases n with
      | zero => exact .nil
      | succ n => exact .cons p (ih n t)
theorem DvAll.dr {xs : List V} : ∀ {ds : List Da} (n : Nat), DvAll K g H xs ds → DvAll K g H (xs.drop n) (ds.drop n) := by
  induction xs with
  | nil => intro ds n h; cases h; rw [List.drop_nil, List.drop_nil]; exact .nil
  | cons x xs ih =>
    intro ds n h
    cases h with
    | cons p t =>
      cases n with
      | zero => exact .cons p t
      | succ n => exact ih n t
theorem DvAll.strs : ∀ {is : List Str} {xs : List V}, DvAll K g H xs (is.map .str) → xs = is.map V.str
  | [], _, h => by cases h; rfl
  | i :: is, _, h => by
    cases h with
    | cons p t =>
      cases p
      rw [DvAll.strs t, List.map_cons]
theorem DvAll.mk_strs : ∀ (is : List Str), DvAll K g H (is.map V.str) (is.map .str)
  | [] => .nil
  | i :: is => .cons (.str i) (DvAll.mk_strs is)
end

/-! ### the world of a def -/
/-- what is hidden from data -/
def hid (W : Addr → Bool) (H : Hp) : Hp := fun a => if W a = true then none else H a
theorem hid_no {W : Addr → Bool} {H : Hp} {a : Addr} (h : W a = false) : hid W H a = H a := by
  unfold hid; rw [h]; exact if_neg Bool.false_ne_true
theorem hid_some {W : Addr → Bool} {H : Hp} {a : Addr} {o : HO} (h : hid W H a = some o) : W a = false ∧ H a = some o := by
  unfold hid at h
  split at h
  · cases h
  · rename_i z
    exact ⟨by simpa using z, h⟩
theorem hid_le {W W' : Addr → Bool} {H : Hp} (h : ∀ a, W a = true → W' a = true) : Sm (hid W' H) (hid W H) := fun a o e => by
  obtain ⟨e1, e2⟩ := hid_some e
  rw [hid_no]
  · exact e2
  · cases q : W a with
    | false => rfl
    | true => rw [h a q] at e1; cases e1
theorem hid_sub {W : Addr → Bool} {H : Hp} : Sm (hid W H) H := fun a o e => (hid_some e).2

/-- all but the bag is kept -/
structure Ext (g : Gd) (H H' : Hp) : Prop where
  out : ∀ b o, ¬ Bd g b → H b = some o → H' b = some o
  last : ∀ a xs, g.bag = some a → H a = some (.lst xs) → ∃ ys, H' a = some (.lst ys) ∧ ys[3]? = xs[3]?
instance {g : Gd} {H H' : Hp} : CoeFun (Ext g H H') (fun _ => ∀ b o, ¬ Bd g b → H b = some o → H' b = some o) := ⟨Ext.out⟩
theorem Ext.refl {g : Gd} {H : Hp} : Ext g H H := ⟨fun _ _ _ h => h, fun _ xs _ h => ⟨xs, h, rfl⟩⟩
theorem Ext.trans {g : Gd} {H H1 H2 : Hp} (a : Ext g H H1) (b : Ext g H1 H2) : Ext g H H2 := ⟨fun c o n h => b c o n (a c o n h), fun c xs hg h => by
  obtain ⟨ys, h1, h2⟩ := a.last c xs hg h
  obtain ⟨zs, h3, h4⟩ := b.last c ys hg h1
  exact ⟨zs, h3, h4.trans h2⟩⟩
theorem Ext.of {g : Gd} {H H' : Hp} (e : Sm H H') : Ext g H H' := ⟨fun b o _ h => e b o h, fun a xs _ h => ⟨xs, e _ _ h, rfl⟩⟩
theorem Ext.hid {g : Gd} {H H' : Hp} {W : Addr → Bool} (gW : ∀ a, Bd g a → W a = true) (e : Ext g H H') : Sm (hid W H) (hid W H') := fun a o q => by
  obtain ⟨e1, e2⟩ := hid_some q
  rw [hid_no e1]
  exact e a o (fun z => by rw [gW a z] at e1; cases e1) e2

/-- the bag: four places; the tables -/
structure BagI (K : PySem.W.Frag) (g : Gd) (W : Addr → Bool) (H : Hp) : Prop where
  bag : ∀ a, g.bag = some a → ∃ (x y : Int) (z : Nat) (c : Addr) (cs : List Int), H a = some (.lst [.int x, .int y, .int z, .ref c]) ∧ Pd.hid W H c = some (.lst (cs.map V.int))
  tabs : LamX.Tabs g.tab H

/-- the bag, and what is hidden -/
structure OkW (K : PySem.W.Frag) (g : Gd) (W : Addr → Bool) (H : Hp) : Prop where
  bag : BagI K g W H
  gW : ∀ a, Bd g a → W a = true
  al : ∀ a, W a = true → ∃ o, H a = some o
theorem BagI.same {K : PySem.W.Frag} {g : Gd} {W : Addr → Bool} {H H' : Hp} (b : BagI K g W H) (e : Sm H H') : BagI K g W H' := ⟨fun a ha => by
  obtain ⟨x, y, z, c, cs, h1, h2⟩ := b.bag a ha
  obtain ⟨q1, q2⟩ := hid_some h2
  exact ⟨x, y, z, c, cs, e _ _ h1, by rw [hid_no q1]; exact e _ _ q2⟩, b.tabs.ext e⟩
/-- what is hidden is fewer -/
def Mut (H : Hp) (a : Addr) : Prop := (∃ xs, H a = some (.lst xs)) ∨ ∃ kvs, H a = some (.dK kvs)
theorem Mut.nx {H : Hp} {a : Addr} (h : Pd.Mut H a) (φ : Heap → Prop) : H a ≠ some (.ext φ) := fun z => by
  rcases h with ⟨xs, q⟩ | ⟨xs, q⟩ <;> rw [z] at q <;> cases q
theorem BagI.less {K : PySem.W.Frag} {g : Gd} {W W' : Addr → Bool} {H : Hp} (b : BagI K g W' H) (e : ∀ a, W a = true → W' a = true) : BagI K g W H := ⟨fun a ha => by
  obtain ⟨x, y, z, c, cs, h1, h2⟩ := b.bag a ha
  exact ⟨x, y, z, c, cs, h1, hid_le e _ _ h2⟩, b.tabs⟩
theorem tabs_at {T : List (Addr × Str)} {H H' : Hp} (t : LamX.Tabs T H) (e : ∀ p ∈ T, ∀ ps, H p.1 = some (.tbl ps) → H' p.1 = some (.tbl ps)) (e2 : ∀ c q, H c = some (LamX.CodeO c q) → H' c = some (LamX.CodeO c q)) : LamX.Tabs T H' := fun p hp => by
  obtain ⟨ps, h1, h2, h3⟩ := t p hp
  refine ⟨ps, e p hp _ h1, h2, fun pos cv hc => ?_⟩
  obtain ⟨c, q1, q2⟩ := h3 pos cv hc
  exact ⟨c, q1, e2 _ _ q2⟩
theorem tabs_upd {T : List (Addr × Str)} {H : Hp} {D : Addr} {o : HO} (t : LamX.Tabs T H) (n : ∀ q, (D, q) ∉ T) (nx : ∀ φ, H D ≠ some (.ext φ)) : LamX.Tabs T (upd H D o) := fun p hp => by
  obtain ⟨ps, h1, h2, h3⟩ := t p hp
  have e1 : p.1 ≠ D := fun z => n p.2 (by rw [← z]; exact hp)
  refine ⟨ps, by rw [upd_ne e1]; exact h1, h2, fun pos cv hc => ?_⟩
  obtain ⟨c, q1, q2⟩ := h3 pos cv hc
  have e2 : c ≠ D := fun z => nx _ (by rw [← z]; exact q2)
  exact ⟨c, q1, by rw [upd_ne e2]; exact q2⟩
theorem BagI.upd {K : PySem.W.Frag} {g : Gd} {W : Addr → Bool} {H : Hp} {D : Addr} {o : HO} (b : BagI K g W H) (n : ¬ Bd g D) (WD : W D = true) (nx : ∀ φ, H D ≠ some (.ext φ)) : BagI K g W (upd H D o) := ⟨fun a ha => by
  obtain ⟨x, y, z, c, cs, h1, h2⟩ := b.bag a ha
  obtain ⟨q1, q2⟩ := hid_some h2
  have e1 : a ≠ D := fun z => n (.inl (z ▸ ha))
  have e2 : c ≠ D := fun z => by rw [z, WD] at q1; cases q1
  exact ⟨x, y, z, c, cs, by rw [upd_ne e1]; exact h1, by rw [hid_no q1, upd_ne e2]; exact q2⟩, tabs_upd b.tabs (fun q h => n (.inr ⟨q, h⟩)) nx⟩
/-- what is neither list nor table nor code changes -/
theorem BagI.put {K : PySem.W.Frag} {g : Gd} {W : Addr → Bool} {H : Hp} {D : Addr} {o : HO} (b : BagI K g W H) (nl : ∀ xs, H D ≠ some (.lst xs)) (nt : ∀ q, (D, q) ∉ g.tab) (nx : ∀ φ, H D ≠ some (.ext φ)) : BagI K g W (L2.upd H D o) := ⟨fun a ha => by
  obtain ⟨x, y, z, c, cs, h1, h2⟩ := b.bag a ha
  obtain ⟨q1, q2⟩ := hid_some h2
  have e1 : a ≠ D := fun z => nl _ (z ▸ h1)
  have e2 : c ≠ D := fun z => nl _ (z ▸ q2)
  exact ⟨x, y, z, c, cs, by rw [upd_ne e1]; exact h1, by rw [hid_no q1, upd_ne e2]; exact q2⟩, tabs_upd b.tabs nt nx⟩
theorem BagI.al {K : PySem.W.Frag} {g : Gd} {W : Addr → Bool} {H : Hp} {a : Addr} (b : BagI K g W H) (h : Bd g a) : ∃ o, H a = some o := by
  rcases h with h | ⟨q, h⟩
  · obtain ⟨x, y, z, c, cs, h1, _⟩ := b.bag a h
    exact ⟨_, h1⟩
  · obtain ⟨ps, h1, _⟩ := b.tabs _ h
    exact ⟨_, h1⟩
theorem OkW.less {K : PySem.W.Frag} {g : Gd} {W W' : Addr → Bool} {H : Hp} (k : OkW K g W' H) (e : ∀ a, W a = true → W' a = true) (g0 : ∀ a, Bd g a → W a = true) : OkW K g W H := ⟨k.bag.less e, g0, fun a h => k.al a (e a h)⟩
/-- whatever else was hidden meanwhile -/
theorem OkW.back {K : PySem.W.Frag} {g : Gd} {W W' : Addr → Bool} {H H1 : Hp} (k0 : OkW K g W H) (e : Ext g H H1) (k : BagI K g W' H1) : OkW K g W H1 := by
  refine ⟨⟨fun a ha => ?_, k.tabs⟩, k0.gW, fun a ha => ?_⟩
  · obtain ⟨x, y, z, c, cs, h1, h2⟩ := k.bag a ha
    obtain ⟨x0, y0, z0, c0, cs0, g1, g2⟩ := k0.bag.bag a ha
    obtain ⟨ys, q1, q2⟩ := e.last a _ ha g1
    rw [h1] at q1
    cases q1
    have ec : c = c0 := by
      have := V.ref.inj (Option.some.inj q2)
      exact this
    subst ec
    obtain ⟨f1, f2⟩ := hid_some g2
    exact ⟨x, y, z, c, cs, h1, by rw [hid_no f1]; exact (hid_some h2).2⟩
  · by_cases z : Bd g a
    · exact k.al z
    · obtain ⟨o, q⟩ := k0.al a ha
      exact ⟨o, e a o z q⟩
theorem OkW.same {K : PySem.W.Frag} {g : Gd} {W : Addr → Bool} {H H' : Hp} (k : OkW K g W H) (e : Sm H H') : OkW K g W H' :=
  ⟨k.bag.same e, k.gW, fun a h => let ⟨o, q⟩ := k.al a h; ⟨o, e a o q⟩⟩
theorem sm_upd {H : Hp} {p : Addr} {o : HO} (h : H p = none) : Sm H (upd H p o) := fun b x e => by
  rw [upd_ne (ne_of_none e h)]
  exact e
theorem OkW.new {K : PySem.W.Frag} {g : Gd} {W : Addr → Bool} {H : Hp} {p : Addr} {o : HO} (k : OkW K g W H) (h : H p = none) :
    Ext g H (upd H p o) ∧ OkW K g W (upd H p o) ∧ Sm (Pd.hid W H) (Pd.hid W (upd H p o)) ∧ Pd.hid W (upd H p o) p = some o := by
  have s := sm_upd (o := o) h
  refine ⟨Ext.of s, k.same s, Ext.hid k.gW (Ext.of s), ?_⟩
  rw [hid_no, upd_same]
  cases q : W p with
  | false => rfl
  | true =>
    obtain ⟨u, z⟩ := k.al p q
    rw [h] at z; cases z

structure Wd where
  H0 : Hp
  g : Gd
  W0 : Addr → Bool

/-- a slot: nothing known, a datum, a list of one's own, a list of lists and dicts, all one's own -/
inductive Sl where
  | no | dat (d : Da) | own (ds : List Da) | reg (ds : List Da)
abbrev En := List Sl
/-- which slot's own each place is -/
abbrev Ow := Nat → Addr → Prop
def OnlyOwn (own : Ow) (i : Nat) (a : Addr) : Prop := own i a ∧ ∀ b, own i b → b = a
def nom : Option HO → Option HO
  | some (.lst _) => none
  | some (.dK _) => none
  | x => x
open Classical in
/-- what a slot's own whole is seen in: of lists and dicts one's own alone -/
noncomputable def vis (W : Addr → Bool) (own : Ow) (H : Hp) (i : Nat) : Hp := fun a => if own i a then H a else nom (hid W H a)
theorem vis_own {W : Addr → Bool} {own : Ow} {H : Hp} {i : Nat} {a : Addr} (h : own i a) : vis W own H i a = H a := if_pos h
theorem vis_not {W : Addr → Bool} {own : Ow} {H : Hp} {i : Nat} {a : Addr} (h : ¬ own i a) : vis W own H i a = nom (hid W H a) := if_neg h
theorem nom_some {x : Option HO} {o : HO} (h : nom x = some o) : x = some o ∧ nom (some o) = some o := by
  cases x with
  | none => cases h
  | some u =>
    cases u with
    | lst xs => cases h
    | dK xs => cases h
    | _ => cases h; exact ⟨rfl, rfl⟩
/-- a heap without what stands at D -/
def cutAt (D : Addr) (H : Hp) : Hp := fun b => if b = D then none else H b
theorem cutAt_same {D : Addr} {H : Hp} : cutAt D H D = none := if_pos rfl
theorem cutAt_ne {D b : Addr} {H : Hp} (h : b ≠ D) : cutAt D H b = H b := if_neg h
theorem tabs_cut {T : List (Addr × Str)} {H : Hp} {D : Addr} (t : LamX.Tabs T H) (n : ∀ q, (D, q) ∉ T) (nx : ∀ φ, H D ≠ some (.ext φ)) : LamX.Tabs T (cutAt D H) := fun p hp => by
  obtain ⟨ps, h1, h2, h3⟩ := t p hp
  have e1 : p.1 ≠ D := fun z => n p.2 (by rw [← z]; exact hp)
  refine ⟨ps, by rw [cutAt_ne e1]; exact h1, h2, fun pos cv hc => ?_⟩
  obtain ⟨c, q1, q2⟩ := h3 pos cv hc
  have e2 : c ≠ D := fun z => nx _ (by rw [← z]; exact q2)
  exact ⟨c, q1, by rw [cutAt_ne e2]; exact q2⟩
theorem BagI.cut {K : PySem.W.Frag} {g : Gd} {W : Addr → Bool} {H : Hp} {D : Addr} (b : BagI K g W H) (n : ¬ Bd g D) (WD : W D = true) (nx : ∀ φ, H D ≠ some (.ext φ)) : BagI K g W (cutAt D H) := ⟨fun a ha => by
  obtain ⟨x, y, z, c, cs, h1, h2⟩ := b.bag a ha
  obtain ⟨q1, q2⟩ := hid_some h2
  have e1 : a ≠ D := fun z => n (.inl (z ▸ ha))
  have e2 : c ≠ D := fun z => by rw [z, WD] at q1; cases q1
  exact ⟨x, y, z, c, cs, by rw [cutAt_ne e1]; exact h1, by rw [hid_no q1, cutAt_ne e2]; exact q2⟩, tabs_cut b.tabs (fun q h => n (.inr ⟨q, h⟩)) nx⟩
theorem cutAt_sm {D : Addr} {H H' : Hp} (e : Sm H H') : Sm (cutAt D H) (cutAt D H') := fun b o z => by
  by_cases q : b = D
  · rw [q, cutAt_same] at z; cases z
  · rw [cutAt_ne q] at z
    rw [cutAt_ne q]
    exact e b o z
theorem cutAt_le {D : Addr} {H : Hp} : Sm (cutAt D H) H := fun b o z => by
  by_cases q : b = D
  · rw [q, cutAt_same] at z; cases z
  · rw [cutAt_ne q] at z
    exact z
theorem vis_up {W W' : Addr → Bool} {own own' : Ow} {H H' : Hp} {i j : Nat} (h1 : ∀ a o, own i a → H a = some o → own' j a ∧ H' a = some o) (h2 : Sm (hid W H) (hid W' H')) : Sm (vis W own H i) (vis W' own' H' j) := fun a o e => by
  by_cases q : own i a
  · rw [vis_own q] at e
    obtain ⟨z1, z2⟩ := h1 a o q e
    rw [vis_own z1]
    exact z2
  · rw [vis_not q] at e
    obtain ⟨z1, z2⟩ := nom_some e
    have z3 := h2 a o z1
    by_cases q' : own' j a
    · rw [vis_own q']
      exact (hid_some z3).2
    · rw [vis_not q', z3]
      exact z2

def SlD (K : PySem.W.Frag) (g : Gd) (W : Addr → Bool) (own : Ow) (H : Hp) (i : Nat) (v : V) : Sl → Prop
  | .no => True
  | .dat d => Dv K g (hid W H) v d
  | .own ds => ∃ a xs, OnlyOwn own i a ∧ v = .ref a ∧ H a = some (.lst xs) ∧ DvAll K g (hid W H) xs ds
  | .reg ds => ∃ a xs, own i a ∧ v = .ref a ∧ H a = some (.lst xs) ∧ DvAll K g (cutAt a (vis W own H i)) xs ds

structure Stt (K : PySem.W.Frag) (w : Wd) (W : Addr → Bool) (own : Ow) (r : En) (σ : L2.St) (H : Hp) : Prop where
  ok : OkW K w.g W H
  base : Ext w.g w.H0 H
  w0 : ∀ a, w.W0 a = true → W a = true
  g0 : ∀ a, Bd w.g a → w.W0 a = true
  /-- what is hidden since is new -/
  wN : ∀ a, W a = true → w.W0 a = true ∨ w.H0 a = none
  oW : ∀ i a, own i a → W a = true ∧ w.H0 a = none ∧ ¬ Bd w.g a
  inj : ∀ i j a, own i a → own j a → i = j ∧ Mut H a
  len : r.length = σ.length
  sl : ∀ i d, r[i]? = some d → d ≠ .no → ∃ v, σ[i]? = some (some v) ∧ SlD K w.g W own H i v d

section
variable {K : PySem.W.Frag} {w : Wd} {W : Addr → Bool} {own : Ow} {r : En} {σ : L2.St} {H H' : Hp}
theorem Mut.up {a : Addr} (h : Mut H a) (e : ∀ o, H a = some o → H' a = some o) : Mut H' a := h.imp (fun ⟨xs, z⟩ => ⟨xs, e _ z⟩) fun ⟨xs, z⟩ => ⟨xs, e _ z⟩
theorem SlD.ext {g : Gd} {i : Nat} {v : V} {d : Sl} (gW : ∀ a, Bd g a → W a = true) (og : ∀ i a, own i a → ¬ Bd g a) (e : Ext g H H') (h : SlD K g W own H i v d) : SlD K g W own H' i v d := by
  cases d with
  | no => trivial
  | dat d => exact Dv.mono (e.hid gW) _ _ h
  | own ds =>
    obtain ⟨a, xs, h1, h2, h3, h4⟩ := h
    exact ⟨a, xs, h1, h2, e _ _ (og i a h1.1) h3, DvAll.mono (e.hid gW) _ _ h4⟩
  | reg ds =>
    obtain ⟨a, xs, h1, h2, h3, h4⟩ := h
    exact ⟨a, xs, h1, h2, e _ _ (og i a h1) h3, DvAll.mono (cutAt_sm (vis_up (fun a o q z => ⟨q, e a o (og i a q) z⟩) (e.hid gW))) _ _ h4⟩
theorem Stt.ext (S : Stt K w W own r σ H) (e : Ext w.g H H') (b : OkW K w.g W H') : Stt K w W own r σ H' :=
  ⟨b, S.base.trans e, S.w0, S.g0, S.wN, S.oW, fun i j a h1 h2 => ⟨(S.inj i j a h1 h2).1, (S.inj i j a h1 h2).2.up fun o z => e a o (S.oW i a h1).2.2 z⟩, S.len, fun i d h n => by
    obtain ⟨v, h1, h2⟩ := S.sl i d h n
    exact ⟨v, h1, h2.ext S.ok.gW (fun i a q => (S.oW i a q).2.2) e⟩⟩
theorem Stt.dat (S : Stt K w W own r σ H) {i : Nat} {d : Da} (h : r[i]? = some (.dat d)) : ∃ v, σ[i]? = some (some v) ∧ Dv K w.g (hid W H) v d := by
  obtain ⟨v, h1, h2⟩ := S.sl i _ h (fun z => by cases z)
  exact ⟨v, h1, h2⟩
theorem OnlyOwn.off {i j : Nat} {a : Addr} (h : OnlyOwn own j a) (n : j ≠ i) : OnlyOwn (fun j a => j ≠ i ∧ own j a) j a := ⟨⟨n, h.1⟩, fun b hb => h.2 b hb.2⟩
/-- a slot is set to a datum (what that slot owned is let go) -/
theorem Stt.setS (S : Stt K w W own r σ H) {i : Nat} {v : V} {d : Da} (hd : Dv K w.g (hid W H) v d) : Stt K w W (fun j a => j ≠ i ∧ own j a) (r.set i (.dat d)) (σ.set i (some v)) H := by
  refine ⟨S.ok, S.base, S.w0, S.g0, S.wN, fun j a h => S.oW j a h.2, fun j k a h1 h2 => S.inj j k a h1.2 h2.2, by rw [List.length_set, List.length_set]; exact S.len, fun j u h n => ?_⟩
  by_cases hj : j = i
  · subst hj
    have hl : j < r.length := by
      have := (List.getElem?_eq_some_iff.mp h).1
      rwa [List.length_set] at this
    rw [List.getElem?_set_self hl] at h
    cases h
    exact ⟨v, by rw [List.getElem?_set_self (by rw [← S.len]; exact hl)], hd⟩
  · rw [List.getElem?_set_ne (Ne.symm hj)] at h
    obtain ⟨u', h1, h2⟩ := S.sl j u h n
    refine ⟨u', by rw [List.getElem?_set_ne (Ne.symm hj)]; exact h1, ?_⟩
    cases u with
    | no => trivial
    | dat d => exact h2
    | own ds =>
      obtain ⟨a, xs, q1, q2⟩ := h2
      exact ⟨a, xs, q1.off hj, q2⟩
    | reg ds =>
      obtain ⟨a, xs, q1, q2, q3, q4⟩ := h2
      exact ⟨a, xs, ⟨hj, q1⟩, q2, q3, DvAll.mono (cutAt_sm (vis_up (fun a o q z => ⟨⟨hj, q⟩, z⟩) fun _ _ z => z)) _ _ q4⟩
theorem Stt.set (S : Stt K w W own r σ H) {i : Nat} {v : V} {d : Da} (hd : Dv K w.g (hid W H) v d) : ∃ own', Stt K w W own' (r.set i (.dat d)) (σ.set i (some v)) H := ⟨_, S.setS hd⟩
/-- slots forgotten -/
def wipeD (r : En) : List Nat → En
  | [] => r
  | v :: vs => (wipeD r vs).set v .no
theorem Stt.forget (S : Stt K w W own r σ H) (i : Nat) (x : Option V) : Stt K w W own (r.set i .no) (σ.set i x) H := by
  refine ⟨S.ok, S.base, S.w0, S.g0, S.wN, S.oW, S.inj, by rw [List.length_set, List.length_set]; exact S.len, fun j u h n => ?_⟩
  by_cases hj : j = i
  · subst hj
    have hl : j < r.length := by
      have := (List.getElem?_eq_some_iff.mp h).1
      rwa [List.length_set] at this
    rw [List.getElem?_set_self hl] at h
    cases h
    exact absurd rfl n
  · rw [List.getElem?_set_ne (Ne.symm hj)] at h
    obtain ⟨u', h1, h2⟩ := S.sl j u h n
    exact ⟨u', by rw [List.getElem?_set_ne (Ne.symm hj)]; exact h1, h2⟩
theorem Stt.wipe (S : Stt K w W own r σ H) : ∀ vs : List Nat, Stt K w W own (wipeD r vs) (L2.wipe σ vs) H
  | [] => S
  | v :: vs => by
    show Stt K w W own ((wipeD r vs).set v .no) ((L2.wipe σ vs).set v none) H
    exact (S.wipe vs).forget v none
end
end Pd
/-! Contracts that know that no repr is under way; the judgements of pure data. -/
namespace Pd
open PySem PySem.Spec PyProof.Rows L2

/-! ### contracts with the guards told -/
structure FnG (P : Program) (wd : World) (K : PySem.W.Frag) (mg : Str → Option Value) (base : Heap) (CX : CXT) (k : Nat) (f : Addr) (fd : FuncData) (ps : List Str) (sp : Sp) : Prop where
  many : ∀ vs H Q E, sp vs H Q E → vs.length = ps.length
  goes : ∀ (A : Around) (outer : List Env) (s0 : Shared) (H : Hp) (args : Args) (us : List Value) (vs : List V) (Q : VK) (E : XK),
    Room k A → A.guards = some [] → Env0 P wd K mg base A outer s0 H → BindsTo s0 fd args (ps.zip us) → Vals vs us → sp vs H Q E →
      codeAny (model P wd) A (.call (.ref f) args) (CR CX outer P wd H s0 Q E) s0
theorem FnG.up {P : Program} {wd : World} {K : PySem.W.Frag} {mg : Str → Option Value} {base : Heap} {CX : CXT} {j k : Nat} {f : Addr} {fd : FuncData} {ps : List Str} {sp : Sp}
    (F : FnG P wd K mg base CX j f fd ps sp) (h : j ≤ k) : FnG P wd K mg base CX k f fd ps sp :=
  ⟨F.many, fun A outer s0 H args us vs Q E room => F.goes A outer s0 H args us vs Q E (room.mono h)⟩

/-- a def's body, the guards told -/
theorem fnG_of {CX : CXT} {P : Program} {wd : World} {K : PySem.W.Frag} {mg : Str → Option Value} {base : Heap} {k : Nat} {f : Addr} {nm qual : Str} {params : Arguments} {body : List Stmt} {sc : Scope}
    {dV kV doc pm cdv ct oc : Value} {an od : Option Addr} {osl : Array (Option Value)} {N ps : List Str} {sp : Sp}
    (at_f : K.lookup f = some ⟨oc, od, .func (PySem.W.fnOf nm qual params body sc dV kV doc pm an cdv ct), osl⟩)
    (at_c : PySem.W.codeIn K cdv qual = true) (S : FnScope N ps sc)
    (many : ∀ vs H Q E, sp vs H Q E → vs.length = ps.length)
    (inside : ∀ (A : Around) (outer : List Env) (s0 : Shared) (H : Hp) (vs : List V) (Q : VK) (E : XK), Room k (A.deeper (envOfC qual sc s0.heap.objs.size f cdv)) → A.guards = some [] → sp vs H Q E →
      ∃ t, PSs (cxOf CX P wd K mg base N qual sc f cdv A outer s0 H E) body t ∧ t { nx := fun _ H' => Q .non H', rt := Q } (start N vs) H) :
    FnG P wd K mg base CX (k + 1) f (PySem.W.fnOf nm qual params body sc dV kV doc pm an cdv ct) ps sp := by
  constructor
  · exact many
  · intro A outer s0 H args us vs Q E room hG z0 bd rel pre
    have keep0 : ∀ b o, base.get? b = some o → s0.heap.get? b = some o := fun b o e => (z0.bs b o e).1
    have inK : K.In s0.heap := z0.mod.kin.keeps keep0
    have nolim : s0.heap.NoLimit := z0.mod.nolimit.keeps keep0
    have kinds : ∀ y ∈ ps.zip us, sc.names.lookup y.1 = some .local ∨ (sc.names.lookup y.1 = some .cell ∧ ((cellsFrom (s0.heap.objs.size + 1) sc.names []).lookup y.1).isSome = true) := by
      rintro ⟨n, v⟩ hy
      cases S.par n (List.of_mem_zip hy).1 with
      | inl q => exact Or.inl q
      | inr q => exact Or.inr ⟨q, PySem.W.cellsFrom_some _ _ _ (Or.inl q)⟩
    apply codeAny_call_function room.depth (inK _ _ at_f) rfl S.co S.gen rfl (PySem.W.codeRec_of inK at_c) (bd _ _ _ _ ?_)
    apply wpAny_newFunctionEnv_cells S.kind kinds
    intro env ee s1 ic
    subst ee
    refine ⟨nolim.keeps ic.toInCall.keep, codeAny_func ?_⟩
    obtain ⟨t, runs, goal⟩ := inside A outer s0 H vs Q E (room.deeper _) hG pre
    have J := inv_start (CX := CX) (P := P) (w := wd) (K := K) (mg := mg) (base := base) (N := N) (ps := ps) (qual := qual) (scope := sc) (f := f) (cd := cdv) (E := E) S room.hd z0 (many _ _ _ _ pre) rel ic
    have last : ∀ {σ' : L2.St} {H' : Hp} {v : V} {u : Value} {s' : Shared}, Inv (cxOf CX P wd K mg base N qual sc f cdv A outer s0 H E) [] σ' H' s' → RelV v u → Q v H' → CE outer P wd H s0 Q u s' := by
      intro σ' H' v u s' I rv q
      exact ⟨v, H', I.os, I.bare, I.base, I.hok, rv, q⟩
    refine wpAny_mono (runs.run [] s1 (start N vs) H _ J goal) ?_ (fun e s' hs => hs)
    intro fl s' hs
    cases fl with
    | next =>
      obtain ⟨σ', H', I, q⟩ := hs
      exact last (v := V.non) (u := Value.none) I rfl q
    | ret u =>
      obtain ⟨v, σ', H', I, rv, q⟩ := hs
      exact last I rv q
    | brk =>
      obtain ⟨_, _, _, q⟩ := hs
      exact q.elim
    | cont =>
      obtain ⟨_, _, _, q⟩ := hs
      exact q.elim

section
variable {X : Cx} {CX : CXT} {k : Nat} {f : Addr} {fd : FuncData} {ps : List Str} {sp : Sp} {dvs : List V} {ds : List Value} {E : XK} {x : Str} {p pos : Pos} {e : Expr} {es : List Expr} {t : TA}
theorem run_G {pins : List (Addr × Obj)} {σ : L2.St} {H : Hp} {s : Shared} {Q : VK} {us : List Value} {vs : List V} (F : FnG X.prog X.w X.K X.mg X.base CX k f fd ps sp) (room : Room k X.A) (hG : X.A.guards = some [])
    (bd : Binds X.K fd ps ds) (dv : Vals dvs ds) (px : Passes CX X E) (I : Inv X pins σ H s) (rel : Vals vs us) (pre : sp (vs ++ dvs) H Q E) : wpAny (model X.prog X.w) X.A (call (.ref f) us) (EP X pins σ Q) X.xe s := by
  have rel2 : Vals (vs ++ dvs) (us ++ ds) := rel.append dv
  have len2 : (us ++ ds).length = ps.length := rel2.length.symm.trans (F.many _ _ _ _ pre)
  have all := F.goes X.A X.stack s H ⟨us, []⟩ (us ++ ds) (vs ++ dvs) Q E room hG I.env0 (bd s us I.kIn len2) rel2 pre
  refine wpAny_call (codeAny_mono all ?_)
  intro r s' out
  match r, out with
  | .error e, out => exact px pins σ H s e s' I out
  | .ok (.ret u), out => exact I.after out
  | .ok .next, out => exact out.elim
  | .ok .brk, out => exact out.elim
  | .ok .cont, out => exact out.elim
/-- f(..) -/
theorem pe_callG (F : FnG X.prog X.w X.K X.mg X.base CX k f fd ps sp) (room : Room k X.A) (hG : X.A.guards = some []) (gl : Gl X x) (at_x : X.mg x = some (.ref f)) (kp : PySem.W.keepIn X.K (.ref f) = true)
    (bd : Binds X.K fd ps ds) (dv : Vals dvs ds) (px : Passes CX X E) (args : PA X (e :: es) t) (nd : (x == ("__debug__" : Str)) = false := by decide)
    (st : starEach (e :: es) X.env = (false, eval e X.env) :: starEach es X.env := by rfl) (bk : (backTo pos (starEach es X.env)).any (·.1) = false := by rfl) :
    PE X (.Call (.Name x p) (e :: es) [] pos) (tCall sp dvs E t) := by
  constructor
  intro pins s σ H Q I pre
  apply wpAny_Call_Name_kw
  apply ld_glob I gl at_x _ nd
  refine PySem.W.callWith_K (h₀ := X.base) I.ok.mod.kin kp (thn (args.run pos pins s σ H _ I pre) ?_) st bk
  rintro us s1 ⟨vs, H1, I1, rel, q⟩
  exact ⟨I1.kIn, run_G F room hG bd dv px I1 rel q⟩
end

/-! ### a def of the text by its body -/
theorem FunG.okC {P : Program} {wd : World} {K : PySem.W.Frag} {mg : Str → Option Value} {base : Heap} {x qual : Str} {st : Stmt} {f : Addr} {fd : FuncData} {N ps : List Str} {k : Nat} {sp : Sp}
    (F : Fun K x qual st f fd) (S : FnScope N ps (defScope st)) (many : ∀ vs H Q E, sp vs H Q E → vs.length = ps.length)
    (inside : ∀ (cdv : Value) (A : Around) (outer : List Env) (s0 : Shared) (H : Hp) (vs : List V) (Q : VK) (E : XK), fd.code = cdv → Room k (A.deeper (envOfC qual (defScope st) s0.heap.objs.size f cdv)) → A.guards = some [] → sp vs H Q E →
      ∃ t, PSs (cxOf CX0 P wd K mg base N qual (defScope st) f cdv A outer s0 H E).nox (defBody st) t ∧ t { nx := fun _ H' => Q .non H', rt := Q } (start N vs) H) :
    FnG P wd K mg base CX0 (k + 1) f fd ps sp := by
  obtain ⟨oc, od, kV, doc, pm, an, cdv, ct, osl, rfl, at_f, at_c⟩ := F.ex
  apply fnG_of at_f at_c S many
  intro A outer s0 H vs Q E room hG pre
  obtain ⟨t, h, q⟩ := inside cdv A outer s0 H vs Q E rfl room hG pre
  exact ⟨t, h.nox, q⟩
theorem FunG.ok {P : Program} {wd : World} {K : PySem.W.Frag} {mg : Str → Option Value} {base : Heap} {x qual : Str} {st : Stmt} {f : Addr} {fd : FuncData} {N ps : List Str} {k : Nat} {sp : Sp}
    (F : Fun K x qual st f fd) (S : FnScope N ps (defScope st)) (many : ∀ vs H Q E, sp vs H Q E → vs.length = ps.length)
    (inside : ∀ (cdv : Value) (A : Around) (outer : List Env) (s0 : Shared) (H : Hp) (vs : List V) (Q : VK) (E : XK), Room k (A.deeper (envOfC qual (defScope st) s0.heap.objs.size f cdv)) → A.guards = some [] → sp vs H Q E →
      ∃ t, PSs (cxOf CX0 P wd K mg base N qual (defScope st) f cdv A outer s0 H E).nox (defBody st) t ∧ t { nx := fun _ H' => Q .non H', rt := Q } (start N vs) H) :
    FnG P wd K mg base CX0 (k + 1) f fd ps sp := FunG.okC F S many fun cdv A outer s0 H vs Q E _ room hG pre => inside cdv A outer s0 H vs Q E room hG pre
end Pd
/-! Tuples without a dict of their own; the judgements of pure data; operators. -/
namespace Pd
open PySem PySem.Spec PyProof.Rows L2

/-! ### tuples, their objects told -/
def tupO (its : List Value) : Obj := { cls := .type "tuple", data := .seq its.toArray }
section
variable {X : Cx} {pos : Pos} {e : Expr} {es : List Expr} {t : TA}
theorem lay_tup {pins : List (Addr × Obj)} {σ : L2.St} {H : Hp} {s : Shared} {xs : List V} {its : List Value} (I : Inv X pins σ H s) (r : Vals xs its) (z : xs.length ≤ sizeLine) :
    H s.heap.objs.size = none ∧ Inv X pins σ (upd H s.heap.objs.size (.frz (tupO its) (.tup xs))) { s with heap := s.heap.push (tupO its) } := by
  refine ⟨I.hok.fresh (Nat.le_refl _), I.laid (t' := s.toks) (fun b u q => Heap.get?_push_of_some _ q) (Nat.le_refl _) ?_⟩
  have q : (s.heap.push (tupO its)).get? s.heap.objs.size = some (tupO its) := Heap.get?_push_size _ rfl
  exact ⟨q, z, its, r, _, q, rfl, _, rfl⟩
/-- what is wanted of a new tuple -/
def NewT (xs : List V) (H : Hp) (Q : VK) : Prop := ∀ p o, H p = none → o.dict = none → Q (.ref p) (upd H p (.frz o (.tup xs)))
theorem new_tup {pins : List (Addr × Obj)} {σ : L2.St} {H : Hp} {s : Shared} {xs : List V} {its : List Value} {Q : VK} (I : Inv X pins σ H s) (r : Vals xs its) (z : xs.length ≤ sizeLine) (q : NewT xs H Q) :
    EP X pins σ Q (.ref s.heap.objs.size) { s with heap := s.heap.push (tupO its) } := by
  obtain ⟨h1, h2⟩ := lay_tup I r z
  exact ⟨V.ref s.heap.objs.size, _, h2, rfl, q _ _ h1 rfl⟩
def tTupS (t : TA) : TE := fun σ H Q => t σ H fun xs H1 => xs.length ≤ sizeLine ∧ NewT xs H1 Q
theorem pe_tupS {c} (h : PA X es t) : PE X (.Tuple es c pos) (tTupS t) := by
  constructor
  intro pins s σ H Q I hq
  apply wpAny_Tuple_spliced
  refine thn (h.run pos pins s σ H _ I hq) ?_
  rintro us s1 ⟨xs, H1, I1, r, z, q⟩
  exact ⟨by rw [← r.length]; exact z, new_tup I1 r z q⟩
def rTupS (K : PySem.W.Frag) : List V → Hp → VK → Prop := fun xs H Q => ∃ p ys, xs = [.ref p] ∧ ((SqL K H p ys ∧ NewT ys H Q) ∨ (SqT K H p ys ∧ Q (.ref p) H))
theorem cr_tupS : CallR X (.type "tuple") (rTupS X.K) := by
  intro pins s σ H xs us Q I r h
  obtain ⟨p, ys, rfl, h⟩ := h
  obtain ⟨u, rfl, rx⟩ := vals1 r
  cases rx
  cases h with
  | inl h =>
    obtain ⟨its, r', pl, hz⟩ := I.list h.1
    refine call_tuple_list pl.isList (fun h' kp => ?_) ?_
    · have I1 : Inv X pins σ H { s with heap := h' } := I.kept (t' := s.toks) kp
      exact new_tup I1 r' hz h.2
    · have := r'.length
      rw [List.size_toArray]
      omega
  | inr h =>
    obtain ⟨its, r', pl, hz⟩ := I.tuple h.1
    exact call_tuple_same pl ⟨.ref p, H, I, rfl, h.2⟩
def rCatS (K : PySem.W.Frag) : R2 := fun x y H Q => ∃ a b xs ys, x = .ref a ∧ y = .ref b ∧ SqT K H a xs ∧ SqT K H b ys ∧ xs.length + ys.length ≤ sizeLine ∧
  (xs = [] → Q (.ref b) H) ∧ (ys = [] → Q (.ref a) H) ∧ NewT (xs ++ ys) H Q
theorem op_catS (cat0 : ∀ {prog : Program} {wd : World} {A : Around} {E : Value → Shared → Prop} {s : Shared} {t b : Addr} {ws : List Value} {Q : Value → Shared → Prop}, IsTup s.heap t ([] : List Value).toArray → IsTup s.heap b ws.toArray → Q (.ref b) s → wpAny (model prog wd) A (binaryOp .Add (.ref t) (.ref b)) Q E s) :
    OpR X (binaryOp .Add) (rCatS X.K) := by
  intro pins s σ H x y v u Q I rx ry h
  obtain ⟨a, b, xs, ys, rfl, rfl, ha, hb, hz, q0, q1, q2⟩ := h
  cases rx
  cases ry
  obtain ⟨its, r1, p1, _⟩ := I.tuple ha
  obtain ⟨its2, r2, p2, _⟩ := I.tuple hb
  by_cases hx : xs = []
  · subst hx
    cases r1
    exact cat0 p1 p2 ⟨.ref b, H, I, rfl, q0 rfl⟩
  · refine HT.cat_tup p1 p2 (fun z => hx (r1.nil_iff.mp z)) (fun z => ⟨.ref a, H, I, rfl, q1 (r2.nil_iff.mp z)⟩) (fun _ => ?_) ?_
    · exact new_tup I (r1.append r2) (by rw [List.length_append]; exact hz) q2
    · rw [← r1.length, ← r2.length]
      exact hz
end

/-! ### the judgements -/
abbrev TDE := En → (Da → Prop) → Prop
abbrev TDT := En → (Bool → Prop) → Prop
abbrev TDA := En → (List Da → Prop) → Prop
structure EnD where
  nx : En → Prop
  rt : Da → Prop
  bk : En → Prop := fun _ => False
  ct : En → Prop := fun _ => False
abbrev TDS := EnD → En → Prop
/-- what follows a datum -/
def Aft (K : PySem.W.Frag) (g : Gd) (W : Addr → Bool) (H : Hp) (Q : VK) (d : Da) : Prop :=
  ∀ v H', Ext g H H' → OkW K g W H' → Dv K g (hid W H') v d → Q v H'
def AftA (K : PySem.W.Frag) (g : Gd) (W : Addr → Bool) (H : Hp) (Q : List V → Hp → Prop) (ds : List Da) : Prop :=
  ∀ vs H', Ext g H H' → OkW K g W H' → DvAll K g (hid W H') vs ds → Q vs H'
def AftT (K : PySem.W.Frag) (g : Gd) (W : Addr → Bool) (H : Hp) (Q : Bool → Hp → Prop) (b : Bool) : Prop :=
  ∀ H', Ext g H H' → OkW K g W H' → Q b H'
def liE (K : PySem.W.Frag) (w : Wd) (t : TDE) : TE := fun σ H Q => ∃ W own r, Stt K w W own r σ H ∧ t r (Aft K w.g W H Q)
def liT (K : PySem.W.Frag) (w : Wd) (t : TDT) : TT := fun σ H Q => ∃ W own r, Stt K w W own r σ H ∧ t r (AftT K w.g W H Q)
def liA (K : PySem.W.Frag) (w : Wd) (t : TDA) : TA := fun σ H Q => ∃ W own r, Stt K w W own r σ H ∧ t r (AftA K w.g W H Q)
structure PEd (X : Cx) (w : Wd) (e : Expr) (t : TDE) : Prop where
  pe : PE X e (liE X.K w t)
  mo : ∀ r Q Q', (∀ d, Q d → Q' d) → t r Q → t r Q'
structure PTd (X : Cx) (w : Wd) (e : Expr) (t : TDT) : Prop where
  pt : PT X e (liT X.K w t)
  mo : ∀ r Q Q', (∀ b, Q b → Q' b) → t r Q → t r Q'
/-- .. and, or: whatever the whole is -/
structure PWd (X : Cx) (w : Wd) (e : Expr) (t : TDT) : Prop where
  pw : PW X e (liT X.K w t)
  mo : ∀ r Q Q', (∀ b, Q b → Q' b) → t r Q → t r Q'
structure PAd (X : Cx) (w : Wd) (es : List Expr) (t : TDA) : Prop where
  pa : PA X es (liA X.K w t)
  mo : ∀ r Q Q', (∀ d, Q d → Q' d) → t r Q → t r Q'

section
variable {X : Cx} {e a b : Expr} {es : List Expr} {pos : Pos} {w : Wd}
theorem weE {t t' : TE} (h : PE X e t) (le : ∀ σ H Q, t' σ H Q → t σ H Q) : PE X e t' := ⟨fun pins s σ H Q I q => h.run pins s σ H Q I (le _ _ _ q)⟩
theorem weT {t t' : TT} (h : PT X e t) (le : ∀ σ H Q, t' σ H Q → t σ H Q) : PT X e t' := ⟨fun pins s σ H Q I q => h.run pins s σ H Q I (le _ _ _ q)⟩
theorem weW {t t' : TT} (h : PW X e t) (le : ∀ σ H Q, t' σ H Q → t σ H Q) : PW X e t' := ⟨fun wh pins s σ H Q I q => h.run wh pins s σ H Q I (le _ _ _ q)⟩
theorem weA {t t' : TA} (h : PA X es t) (le : ∀ σ H Q, t' σ H Q → t σ H Q) : PA X es t' := ⟨fun p pins s σ H Q I q => h.run p pins s σ H Q I (le _ _ _ q)⟩
theorem PWd.pt {t : TDT} (h : PWd X w e t) : PTd X w e t := ⟨PW.pt h.pw, h.mo⟩

/-! one part, then something -/
theorem go1 {ta : TDE} (ha : PEd X w a ta) {W : Addr → Bool} {own : Ow} {r : En} {σ : L2.St} {H : Hp} (S : Stt X.K w W own r σ H) {P : Da → Prop} {R : V → Hp → Prop} (h : ta r P)
    (k : ∀ x v H1, Ext w.g H H1 → OkW X.K w.g W H1 → Dv X.K w.g (hid W H1) v x → P x → R v H1) : liE X.K w ta σ H R :=
  ⟨W, own, r, S, ha.mo _ _ _ (fun x px v H1 e1 k1 d1 => k x v H1 e1 k1 d1 px) h⟩
theorem go2 {ta tb : TDE} (ha : PEd X w a ta) (hb : PEd X w b tb) {W : Addr → Bool} {own : Ow} {r : En} {σ : L2.St} {H : Hp} (S : Stt X.K w W own r σ H) {P : Da → Da → Prop} {R : V → V → Hp → Prop} (h : ta r fun x => tb r fun y => P x y)
    (k : ∀ x y v u H1, Ext w.g H H1 → OkW X.K w.g W H1 → Dv X.K w.g (hid W H1) v x → Dv X.K w.g (hid W H1) u y → P x y → R v u H1) :
    liE X.K w ta σ H fun v H1 => liE X.K w tb σ H1 fun u H2 => R v u H2 :=
  go1 ha S h fun x v H1 e1 k1 d1 px => go1 hb (S.ext e1 k1) px fun y u H2 e2 k2 d2 py => k x y v u H2 (e1.trans e2) k2 (Dv.mono (e2.hid k1.gW) _ _ d1) d2 py
theorem goA {t : TDA} (ha : PAd X w es t) {W : Addr → Bool} {own : Ow} {r : En} {σ : L2.St} {H : Hp} (S : Stt X.K w W own r σ H) {P : List Da → Prop} {R : List V → Hp → Prop} (h : t r P)
    (k : ∀ xs vs H1, Ext w.g H H1 → OkW X.K w.g W H1 → DvAll X.K w.g (hid W H1) vs xs → P xs → R vs H1) : liA X.K w t σ H R :=
  ⟨W, own, r, S, ha.mo _ _ _ (fun x px v H1 e1 k1 d1 => k x v H1 e1 k1 d1 px) h⟩
theorem Aft.then {K : PySem.W.Frag} {g : Gd} {W : Addr → Bool} {H H1 : Hp} {Q : VK} {d : Da} (h : Aft K g W H Q d) (e : Ext g H H1) : Aft K g W H1 Q d := fun v H' e' k dv => h v H' (e.trans e') k dv

/-! ### names and constants -/
def dVar (i : Nat) : TDE := fun r Q => ∃ d, r[i]? = some (.dat d) ∧ Q d
def dC (d : Da) : TDE := fun _ Q => Q d
theorem ped_var (i : Nat) {x : Str} {p : Pos} (hN : X.N[i]? = some x := by rfl) (hv : Vis X.env.scope x := by first | exact Or.inl rfl | exact Or.inr (Or.inl rfl) | exact Or.inr (Or.inr rfl)) (hd : (x == ("__debug__" : Str)) = false := by decide)
    (hcd : (x == ("__classdict__" : Str)) = false := by decide) : PEd X w (.Name x p) (dVar i) := by
  refine ⟨weE (pe_var hN hv hd hcd) ?_, fun r Q Q' q ⟨d, h1, h2⟩ => ⟨d, h1, q d h2⟩⟩
  rintro σ H Q ⟨W, own, r, S, d, h1, h2⟩
  obtain ⟨v, e1, dv⟩ := S.dat h1
  exact ⟨v, e1, h2 v H Ext.refl S.ok dv⟩
theorem ped_c {t : TE} {d : Da} {v : V} (h : PE X e t) (ht : ∀ σ H Q, Q v H → t σ H Q) (hd : ∀ K g H, Dv K g H v d) : PEd X w e (dC d) := by
  refine ⟨weE h ?_, fun r Q Q' q h => q d h⟩
  rintro σ H Q ⟨W, own, r, S, h1⟩
  exact ht σ H Q (h1 v H Ext.refl S.ok (hd _ _ _))
theorem ped_int {i j p} : PEd X w (.Constant (.int i) j p) (dC (.int i)) := ped_c pe_int (fun _ _ _ q => q) fun _ _ _ => .int i
theorem ped_bl {i j p} : PEd X w (.Constant (.bool i) j p) (dC (.bl i)) := ped_c pe_bl (fun _ _ _ q => q) fun _ _ _ => .bl i
theorem ped_non {j p} : PEd X w (.Constant .none j p) (dC .non) := ped_c pe_non (fun _ _ _ q => q) fun _ _ _ => .non
theorem ped_str {i j p} : PEd X w (.Constant (.str i) j p) (dC (.str i)) := ped_c pe_str (fun _ _ _ q => q) fun _ _ _ => .str i

/-! ### two operands -/
abbrev DD := Da → Da → (Da → Prop) → Prop
def Mo2 (D : DD) : Prop := ∀ x y Q Q', (∀ d, Q d → Q' d) → D x y Q → D x y Q'
def Br2 (K : PySem.W.Frag) (R : R2) (D : DD) : Prop := ∀ (g : Gd) (W : Addr → Bool) (H : Hp) (v u : V) (x y : Da) (Q : VK), OkW K g W H → Dv K g (hid W H) v x → Dv K g (hid W H) u y → D x y (Aft K g W H Q) → R v u H Q
def dOp (D : DD) (ta tb : TDE) : TDE := fun r Q => ta r fun x => tb r fun y => D x y Q
theorem dOp_mo {D : DD} (m : Mo2 D) {ta tb : TDE} (ha : PEd X w a ta) (hb : PEd X w b tb) : ∀ r Q Q', (∀ d, Q d → Q' d) → dOp D ta tb r Q → dOp D ta tb r Q' :=
  fun r Q Q' q h => ha.mo _ _ _ (fun x hx => hb.mo _ _ _ (fun y hy => m x y _ _ q hy) hx) h
theorem mo_aft {D : DD} (m : Mo2 D) {K : PySem.W.Frag} {g : Gd} {W : Addr → Bool} {H H1 : Hp} {Q : VK} {x y : Da} (e : Ext g H H1) (h : D x y (Aft K g W H Q)) : D x y (Aft K g W H1 Q) := m _ _ _ _ (fun d q => q.then e) h
theorem ped_bin {op : Operator} {R : R2} {D : DD} {ta tb : TDE} (ho : OpR X (binaryOp op) R) (m : Mo2 D) (br : Br2 X.K R D) (ha : PEd X w a ta) (hb : PEd X w b tb) : PEd X w (.BinOp a op b pos) (dOp D ta tb) := by
  refine ⟨weE (pe_op ho ha.pe hb.pe) ?_, dOp_mo m ha hb⟩
  rintro σ H Q ⟨W, own, r, S, h⟩
  exact go2 ha hb S h fun x y v u H1 e1 k1 d1 d2 p => br _ _ _ _ _ _ _ _ k1 d1 d2 (mo_aft m e1 p)
theorem ped_cmp {op : CmpOp} {R : R2} {D : DD} {ta tb : TDE} (ho : OpR X (compareOp op) R) (hm : behindInMarks op b = false) (m : Mo2 D) (br : Br2 X.K R D) (ha : PEd X w a ta) (hb : PEd X w b tb) : PEd X w (.Compare a [op] [b] pos) (dOp D ta tb) := by
  refine ⟨weE (pe_cmpR ho ha.pe hb.pe hm) ?_, dOp_mo m ha hb⟩
  rintro σ H Q ⟨W, own, r, S, h⟩
  exact go2 ha hb S h fun x y v u H1 e1 k1 d1 d2 p => br _ _ _ _ _ _ _ _ k1 d1 d2 (mo_aft m e1 p)
theorem ped_ix {R : R2} {D : DD} {ta tb : TDE} (ho : IxR X R) (hs : PlainIx b) (m : Mo2 D) (br : Br2 X.K R D) (ha : PEd X w a ta) (hb : PEd X w b tb) : PEd X w (.Subscript a b pos) (dOp D ta tb) := by
  refine ⟨weE (pe_ix ho ha.pe hb.pe hs) ?_, dOp_mo m ha hb⟩
  rintro σ H Q ⟨W, own, r, S, h⟩
  exact go2 ha hb S h fun x y v u H1 e1 k1 d1 d2 p => br _ _ _ _ _ _ _ _ k1 d1 d2 (mo_aft m e1 p)
/-- one operand -/
abbrev D1 := Da → (Da → Prop) → Prop
def Mo1 (D : D1) : Prop := ∀ x Q Q', (∀ d, Q d → Q' d) → D x Q → D x Q'
def Br1 (K : PySem.W.Frag) (R : V → Hp → VK → Prop) (D : D1) : Prop := ∀ (g : Gd) (W : Addr → Bool) (H : Hp) (v : V) (x : Da) (Q : VK), OkW K g W H → Dv K g (hid W H) v x → D x (Aft K g W H Q) → R v H Q
def dUn (D : D1) (ta : TDE) : TDE := fun r Q => ta r fun x => D x Q
theorem ped_un {op : UnaryOp} {R : V → Hp → VK → Prop} {D : D1} {ta : TDE} (ho : UnR X (unaryOp op) R) (m : Mo1 D) (br : Br1 X.K R D) (ha : PEd X w a ta) : PEd X w (.UnaryOp op a pos) (dUn D ta) := by
  refine ⟨weE (pe_un ho ha.pe) ?_, fun r Q Q' q h => ha.mo _ _ _ (fun x hx => m x _ _ q hx) h⟩
  rintro σ H Q ⟨W, own, r, S, h⟩
  exact go1 ha S h fun x v H1 e1 k1 d1 p => br _ _ _ _ _ _ k1 d1 (m _ _ _ (fun d q => q.then e1) p)
end
end Pd
/-! Operators on data. -/
namespace Pd
open PySem PySem.Spec PyProof.Rows L2

/-! ### data as the library's -/
mutual
def toP : Da → PyData
  | .non => .none
  | .bl b => .bool b
  | .int i => .int i
  | .str x => .str x
  | .lst xs => .list (toPs xs)
  | .tup xs => .tuple (toPs xs)
  | .tpw xs => .tuple (toPs xs)
  | .dct _ => .dict []
  | .bag => .dict []
  | .raw _ => .dict []
  | .fix _ => .dict []
def toPs : List Da → List PyData
  | [] => []
  | x :: xs => toP x :: toPs xs
end
theorem toPs_map : ∀ xs : List Da, toPs xs = xs.map toP
  | [] => by simp [toPs]
  | x :: xs => by simp [toPs, toPs_map xs]
mutual
def canP : Da → Bool
  | .non => true
  | .bl _ => true
  | .int _ => true
  | .str _ => true
  | .lst xs => canPs xs
  | .tup xs => canPs xs
  | .tpw xs => canPs xs
  | .dct _ => false
  | .bag => false
  | .raw _ => false
  | .fix _ => false
def canPs : List Da → Bool
  | [] => true
  | x :: xs => canP x && canPs xs
end
theorem canPs_all : ∀ xs : List Da, canPs xs = xs.all canP
  | [] => by simp [canPs]
  | x :: xs => by simp [canPs, canPs_all xs]
mutual
theorem Dv.dp {K : PySem.W.Frag} {g : Gd} {H : Hp} : ∀ (d : Da) (v : V), Dv K g H v d → canP d = true → Dp K H v (toP d)
  | .non, _, h, _ => by cases h; exact .non
  | .bl _, _, h, _ => by cases h; exact .bl _
  | .int _, _, h, _ => by cases h; exact .int _
  | .str _, _, h, _ => by cases h; exact .str _
  | .lst ds, _, h, c => by
    cases h with
    | lst h1 h2 =>
      rw [toP]
      exact .lst (SqL.of h1) (DvAll.dp ds _ h2 (by rw [canP] at c; exact c))
  | .tup ds, _, h, c => by
    cases h with
    | tup h1 h2 =>
      rw [toP]
      exact .tup h1.sq (DvAll.dp ds _ h2 (by rw [canP] at c; exact c))
  | .tpw ds, _, h, c => by
    cases h with
    | tpw h1 h2 =>
      rw [toP]
      exact .tup h1 (DvAll.dp ds _ h2 (by rw [canP] at c; exact c))
  | .dct _, _, _, c => by rw [canP] at c; cases c
  | .bag, _, _, c => by rw [canP] at c; cases c
  | .raw _, _, _, c => by rw [canP] at c; cases c
  | .fix _, _, _, c => by rw [canP] at c; cases c
theorem DvAll.dp {K : PySem.W.Frag} {g : Gd} {H : Hp} : ∀ (ds : List Da) (vs : List V), DvAll K g H vs ds → canPs ds = true → DpAll K H vs (toPs ds)
  | [], _, h, _ => by cases h; rw [toPs]; exact .nil
  | d :: ds, _, h, c => by
    cases h with
    | cons h1 h2 =>
      rw [canPs, Bool.and_eq_true] at c
      rw [toPs]
      exact .cons (Dv.dp d _ h1 c.1) (DvAll.dp ds _ h2 c.2)
end
/-- comparable by == -/
def shp (d : Da) : Bool := canP d && SeqAt.shaped (toP d)
/-- == -/
def eqd (x y : Da) : Bool := PyData.eqv (toP x) (toP y)

section
variable {K : PySem.W.Frag} {g : Gd} {W : Addr → Bool} {H : Hp} {Q : VK}
theorem Aft.now {d : Da} {v : V} (h : Aft K g W H Q d) (k : OkW K g W H) (dv : Dv K g (hid W H) v d) : Q v H := h v H Ext.refl k dv
theorem Aft.newL {p : Addr} {xs : List V} {ds : List Da} (h : Aft K g W H Q (.lst ds)) (k : OkW K g W H) (np : H p = none) (dv : DvAll K g (hid W H) xs ds) : Q (.ref p) (upd H p (.lst xs)) := by
  obtain ⟨e, k', s, q⟩ := k.new (o := .lst xs) np
  exact h _ _ e k' (.lst q (DvAll.mono s _ _ dv))
theorem Aft.newT {xs : List V} {ds : List Da} (h : Aft K g W H Q (.tup ds)) (k : OkW K g W H) (dv : DvAll K g (hid W H) xs ds) : NewT xs H Q := by
  intro p o np no
  obtain ⟨e, k', s, q⟩ := k.new (o := .frz o (.tup xs)) np
  exact h _ _ e k' (.tup (.inl ⟨o, q, no⟩) (DvAll.mono s _ _ dv))
theorem sq_hid {a : Addr} {xs : List V} (h : SqT K (hid W H) a xs) : SqT K H a xs := sqt_mono hid_sub h
end

/-! ### + -/
def addD : DD := fun x y Q => match x, y with
  | .int i, .int j => Q (.int (i + j))
  | .str a, .str b => a.length + b.length ≤ sizeLine ∧ Q (.str (a ++ b))
  | .lst xs, .lst ys => xs.length + ys.length ≤ sizeLine ∧ Q (.lst (xs ++ ys))
  | .tup xs, .tup ys => xs.length + ys.length ≤ sizeLine ∧ Q (.tup (xs ++ ys))
  | _, _ => False
theorem addD_mo : Mo2 addD := by
  intro x y Q Q' q h
  unfold addD at h ⊢
  split at h
  · exact q _ h
  · exact ⟨h.1, q _ h.2⟩
  · exact ⟨h.1, q _ h.2⟩
  · exact ⟨h.1, q _ h.2⟩
  · exact h.elim
def rAddU (K : PySem.W.Frag) : R2 := fun x y H Q => ((rI0 (fun i j => .int (i + j)) x y H Q ∨ (∃ i j, x = .str i ∧ y = .str j ∧ i.length + j.length ≤ sizeLine ∧ Q (.str (i ++ j)) H)) ∨ rCat x y H Q) ∨ rCatS K x y H Q
section
variable {X : Cx}
theorem op_addU : OpR X (binaryOp .Add) (rAddU X.K) := ((op_add.or op_add_str).or op_cat).or (op_catS fun h1 h2 h3 => cat_tup0 h1 h2 h3)
theorem addD_br : Br2 X.K (rAddU X.K) addD := by
  intro g W H v u x y Q k dx dy h
  unfold addD at h
  split at h
  · cases dx; cases dy
    exact .inl (.inl (.inl ⟨_, _, rfl, rfl, h.now k (.int _)⟩))
  · cases dx; cases dy
    exact .inl (.inl (.inr ⟨_, _, rfl, rfl, h.1, h.2.now k (.str _)⟩))
  · cases dx with
    | lst a1 a2 =>
      cases dy with
      | lst b1 b2 =>
        exact .inl (.inr ⟨_, _, _, _, rfl, rfl, (hid_some a1).2, (hid_some b1).2, by rw [a2.len, b2.len]; exact h.1, fun p np => h.2.newL k np (a2.app b2)⟩)
  · cases dx with
    | tup a1 a2 =>
      cases dy with
      | tup b1 b2 =>
        refine .inr ⟨_, _, _, _, rfl, rfl, sq_hid a1.sq, sq_hid b1.sq, by rw [a2.len, b2.len]; exact h.1, fun z => ?_, fun z => ?_, h.2.newT k (a2.app b2)⟩
        · subst z
          cases a2
          exact h.2.now k (.tup b1 b2)
        · subst z
          cases b2
          exact h.2.now k (by rw [List.append_nil]; exact .tup a1 a2)
  · exact h.elim
end

/-! ### ints -/
def intD (C : Int → Int → Prop) (f : Int → Int → Int) : DD := fun x y Q => match x, y with
  | .int i, .int j => C i j ∧ Q (.int (f i j))
  | _, _ => False
theorem intD_mo {C : Int → Int → Prop} {f : Int → Int → Int} : Mo2 (intD C f) := by
  intro x y Q Q' q h
  unfold intD at h ⊢
  split at h
  · exact ⟨h.1, q _ h.2⟩
  · exact h.elim
theorem intD_br {K : PySem.W.Frag} {C : Int → Int → Prop} {f : Int → Int → Int} : Br2 K (rI C fun i j => .int (f i j)) (intD C f) := by
  intro g W H v u x y Q k dx dy h
  unfold intD at h
  split at h
  · cases dx; cases dy
    exact ⟨_, _, rfl, rfl, h.1, h.2.now k (.int _)⟩
  · exact h.elim
def CMulA (i j : Int) : Prop := CMul i j ∨ CMulW i j
def subD : DD := intD (fun _ _ => True) fun i j => i - j
def mulD : DD := intD CMulA fun i j => i * j
def modD : DD := intD (fun _ j => 0 < j) fun i j => i % j
section
variable {X : Cx}
theorem rI_or {C C' : Int → Int → Prop} {f : Int → Int → V} {h : Value → Value → Sem Value} (a : OpR X h (rI C f)) (b : OpR X h (rI C' f)) : OpR X h (rI (fun i j => C i j ∨ C' i j) f) := by
  intro pins s σ H x y v u Q I rx ry q
  obtain ⟨i, j, e1, e2, c, q⟩ := q
  rcases c with c | c
  · exact a pins s σ H x y v u Q I rx ry ⟨i, j, e1, e2, c, q⟩
  · exact b pins s σ H x y v u Q I rx ry ⟨i, j, e1, e2, c, q⟩
theorem op_subT : OpR X (binaryOp .Sub) (rI (fun _ _ => True) fun i j => .int (i - j)) := by
  intro pins s σ H x y v u Q I rx ry q
  obtain ⟨i, j, e1, e2, _, q⟩ := q
  exact op_sub pins s σ H x y v u Q I rx ry ⟨i, j, e1, e2, q⟩
end
section
variable {X : Cx} {w : Wd} {a b : Expr} {pos : Pos} {ta tb : TDE}
theorem ped_add (ha : PEd X w a ta) (hb : PEd X w b tb) : PEd X w (.BinOp a .Add b pos) (dOp addD ta tb) := ped_bin op_addU addD_mo addD_br ha hb
theorem ped_sub (ha : PEd X w a ta) (hb : PEd X w b tb) : PEd X w (.BinOp a .Sub b pos) (dOp subD ta tb) := ped_bin op_subT intD_mo intD_br ha hb
theorem ped_mul (ha : PEd X w a ta) (hb : PEd X w b tb) : PEd X w (.BinOp a .Mult b pos) (dOp mulD ta tb) := ped_bin (rI_or op_mul op_mulW) intD_mo intD_br ha hb
theorem ped_mod (ha : PEd X w a ta) (hb : PEd X w b tb) : PEd X w (.BinOp a .Mod b pos) (dOp modD ta tb) := ped_bin op_mod intD_mo intD_br ha hb
/-- -n -/
def negD : D1 := fun x Q => match x with
  | .int i => Q (.int (-i))
  | _ => False
theorem negD_mo : Mo1 negD := by
  intro x Q Q' q h
  unfold negD at h ⊢
  split at h
  · exact q _ h
  · exact h.elim
theorem ped_neg (ha : PEd X w a ta) : PEd X w (.UnaryOp .USub a pos) (dUn negD ta) := by
  refine ped_un un_neg negD_mo ?_ ha
  intro g W H v x Q k dx h
  unfold negD at h
  split at h
  · cases dx
    exact ⟨_, rfl, h.now k (.int _)⟩
  · exact h.elim
end

/-! ### comparisons -/
def eqD (neg : Bool) : DD := fun x y Q => shp x = true ∧ shp y = true ∧ Q (.bl (if neg then !eqd x y else eqd x y))
theorem eqD_mo {n : Bool} : Mo2 (eqD n) := fun _ _ _ _ q h => ⟨h.1, h.2.1, q _ h.2.2⟩
def ordD (fi : Int → Int → Bool) (fs : Str → Str → Bool) : DD := fun x y Q => match x, y with
  | .int i, .int j => Q (.bl (fi i j))
  | .str i, .str j => Q (.bl (fs i j))
  | _, _ => False
theorem ordD_mo {fi : Int → Int → Bool} {fs : Str → Str → Bool} : Mo2 (ordD fi fs) := by
  intro x y Q Q' q h
  unfold ordD at h ⊢
  split at h
  · exact q _ h
  · exact q _ h
  · exact h.elim
def ltS (a b : Str) : Bool := decide (a.cps.toList < b.cps.toList)
def leD : DD := ordD (fun i j => decide (i ≤ j)) fun a b => !ltS b a
section
variable {X : Cx} {w : Wd} {a b : Expr} {pos : Pos} {ta tb : TDE}
theorem ordD_br {fi : Int → Int → Bool} {fs : Str → Str → Bool} : Br2 X.K (fun x y H Q => rI0 (fun i j => .bl (fi i j)) x y H Q ∨ ∃ i j, x = .str i ∧ y = .str j ∧ Q (.bl (fs i j)) H) (ordD fi fs) := by
  intro g W H v u x y Q k dx dy h
  unfold ordD at h
  split at h
  · cases dx; cases dy
    exact .inl ⟨_, _, rfl, rfl, h.now k (.bl _)⟩
  · cases dx; cases dy
    exact .inr ⟨_, _, rfl, rfl, h.now k (.bl _)⟩
  · exact h.elim
theorem shp_dp {K : PySem.W.Frag} {g : Gd} {W : Addr → Bool} {H : Hp} {v : V} {d : Da} (h : Dv K g (hid W H) v d) (s : shp d = true) : Dp K H v (toP d) ∧ SeqAt.shaped (toP d) = true := by
  unfold shp at s
  rw [Bool.and_eq_true] at s
  exact ⟨Dv.dp d _ (Dv.mono hid_sub _ _ h) s.1, s.2⟩
theorem eqD_br : Br2 X.K (rEqD X.K) (eqD false) := by
  intro g W H v u x y Q k dx dy h
  obtain ⟨h1, h2, h3⟩ := h
  obtain ⟨a1, a2⟩ := shp_dp dx h1
  obtain ⟨b1, b2⟩ := shp_dp dy h2
  exact ⟨_, _, a1, b1, a2, b2, h3.now k (.bl _)⟩
theorem neD_br : Br2 X.K (rNeD X.K) (eqD true) := by
  intro g W H v u x y Q k dx dy h
  obtain ⟨h1, h2, h3⟩ := h
  obtain ⟨a1, a2⟩ := shp_dp dx h1
  obtain ⟨b1, b2⟩ := shp_dp dy h2
  exact ⟨_, _, a1, b1, a2, b2, h3.now k (.bl _)⟩
theorem ped_eq {k : Nat} (hr : Room k X.A) (ha : PEd X w a ta) (hb : PEd X w b tb) : PEd X w (.Compare a [.Eq] [b] pos) (dOp (eqD false) ta tb) := ped_cmp (op_eqD hr.units) (nobehind _ (by decide) (by decide)) eqD_mo eqD_br ha hb
theorem ped_ne {k : Nat} (hr : Room k X.A) (ha : PEd X w a ta) (hb : PEd X w b tb) : PEd X w (.Compare a [.NotEq] [b] pos) (dOp (eqD true) ta tb) := ped_cmp (op_neD hr.units) (nobehind _ (by decide) (by decide)) eqD_mo neD_br ha hb
end

/-! ### items -/
def ixD : DD := fun x y Q => match x, y with
  | .lst xs, .int i => ∃ d, atI xs i = some d ∧ Q d
  | .tup xs, .int i => ∃ d, atI xs i = some d ∧ Q d
  | .tpw xs, .int i => ∃ d, atI xs i = some d ∧ Q d
  | .str z, .int i => z.length ≤ sizeLine ∧ ∃ c, atI z.cps.toList i = some c ∧ Q (.str ⟨#[c]⟩)
  | _, _ => False
theorem ixD_mo : Mo2 ixD := by
  intro x y Q Q' q h
  unfold ixD at h ⊢
  split at h
  · obtain ⟨d, h1, h2⟩ := h; exact ⟨d, h1, q _ h2⟩
  · obtain ⟨d, h1, h2⟩ := h; exact ⟨d, h1, q _ h2⟩
  · obtain ⟨d, h1, h2⟩ := h; exact ⟨d, h1, q _ h2⟩
  · obtain ⟨h0, d, h1, h2⟩ := h; exact ⟨h0, d, h1, q _ h2⟩
  · exact h.elim
theorem DvAll.atI {K : PySem.W.Frag} {g : Gd} {H : Hp} {xs : List V} {ds : List Da} {i : Int} {d : Da} (h : DvAll K g H xs ds) (e : L2.atI ds i = some d) : ∃ v, L2.atI xs i = some v ∧ Dv K g H v d := by
  unfold L2.atI at e ⊢
  rw [h.len]
  cases q : ixN ds.length i with
  | none => rw [q] at e; cases e
  | some j =>
    rw [q] at e
    exact h.at (show ds[j]? = some d from e)
section
variable {X : Cx} {w : Wd} {a b : Expr} {pos : Pos} {ta tb : TDE}
theorem ixD_br : Br2 X.K (rIx X.K) ixD := by
  intro g W H v u x y Q k dx dy h
  unfold ixD at h
  split at h
  · cases dy
    cases dx with
    | lst a1 a2 =>
      obtain ⟨d, h1, h2⟩ := h
      obtain ⟨z, z1, z2⟩ := a2.atI h1
      exact .inl ⟨_, _, _, z, rfl, rfl, SqL.of (hid_some a1).2, z1, h2.now k z2⟩
  · cases dy
    cases dx with
    | tup a1 a2 =>
      obtain ⟨d, h1, h2⟩ := h
      obtain ⟨z, z1, z2⟩ := a2.atI h1
      exact .inr (.inl ⟨_, _, _, z, rfl, rfl, sq_hid a1.sq, z1, h2.now k z2⟩)
  · cases dy
    cases dx with
    | tpw a1 a2 =>
      obtain ⟨d, h1, h2⟩ := h
      obtain ⟨z, z1, z2⟩ := a2.atI h1
      exact .inr (.inl ⟨_, _, _, z, rfl, rfl, sq_hid a1, z1, h2.now k z2⟩)
  · cases dy
    cases dx
    obtain ⟨h0, c, h1, h2⟩ := h
    exact .inr (.inr ⟨_, _, c, rfl, rfl, h0, h1, h2.now k (.str _)⟩)
  · exact h.elim
theorem ped_at (hs : PlainIx b) (ha : PEd X w a ta) (hb : PEd X w b tb) : PEd X w (.Subscript a b pos) (dOp ixD ta tb) := ped_ix ix_seq hs ixD_mo ixD_br ha hb
end
end Pd
/-! Tests, calls, statements, loops, comprehensions on data. -/
namespace Pd
open PySem PySem.Spec PyProof.Rows L2

/-! ### tests -/
section
variable {X : Cx} {w : Wd} {e a b : Expr} {es : List Expr} {pos : Pos} {ta tb : TDE}
def dB (t : TDE) : TDT := fun r Q => t r fun d => ∃ c, d = .bl c ∧ Q c
theorem dB_mo {t : TDE} (m : ∀ r Q Q', (∀ d, Q d → Q' d) → t r Q → t r Q') : ∀ r Q Q', (∀ b, Q b → Q' b) → dB t r Q → dB t r Q' :=
  fun r Q Q' q h => m _ _ _ (fun d ⟨c, e, z⟩ => ⟨c, e, q c z⟩) h
theorem dB_in {t : TDE} (h : PEd X w e t) {σ : L2.St} {H : Hp} {Q : Bool → Hp → Prop} (q : liT X.K w (dB t) σ H Q) : liE X.K w t σ H fun x H1 => ∃ c, x = .bl c ∧ Q c H1 := by
  obtain ⟨W, own, r, S, q⟩ := q
  refine go1 h S q fun x v H1 e1 k1 d1 p => ?_
  obtain ⟨c, rfl, p⟩ := p
  cases d1
  exact ⟨c, rfl, p H1 e1 k1⟩
/-- a test by a value that is a truth -/
theorem ptd_val {t : TDE} (h : PEd X w e t) (he : ∀ whole, isTrue e X.env whole = (do let v ← whole; standAt e.pos; holding [v] (truthy v)) := by intro _; rfl) : PTd X w e (dB t) :=
  ⟨weT (pt_val h.pe he) fun σ H Q q => dB_in h q, dB_mo h.mo⟩
theorem ptd_cmp {op : CmpOp} {R : R2} {D : DD} (ho : OpR X (compareOp op) R) (hm : behindInMarks op b = false) (m : Mo2 D) (br : Br2 X.K R D) (ha : PEd X w a ta) (hb : PEd X w b tb) : PTd X w (.Compare a [op] [b] pos) (dB (dOp D ta tb)) := by
  refine ⟨weT (pt_cmpR ho ha.pe hb.pe hm) ?_, dB_mo (dOp_mo m ha hb)⟩
  intro σ H Q q
  obtain ⟨W, own, r, S, q⟩ := q
  refine go2 ha hb S q fun x y v u H1 e1 k1 d1 d2 p => br _ _ _ _ _ _ _ _ k1 d1 d2 (m _ _ _ _ ?_ p)
  rintro d ⟨c, rfl, p⟩ v' H' e' k' d'
  cases d'
  exact ⟨c, rfl, p H' (e1.trans e') k'⟩
theorem ptd_eq {k : Nat} (hr : Room k X.A) (ha : PEd X w a ta) (hb : PEd X w b tb) : PTd X w (.Compare a [.Eq] [b] pos) (dB (dOp (eqD false) ta tb)) := ptd_cmp (op_eqD hr.units) (nobehind _ (by decide) (by decide)) eqD_mo eqD_br ha hb
theorem ptd_ne {k : Nat} (hr : Room k X.A) (ha : PEd X w a ta) (hb : PEd X w b tb) : PTd X w (.Compare a [.NotEq] [b] pos) (dB (dOp (eqD true) ta tb)) := ptd_cmp (op_neD hr.units) (nobehind _ (by decide) (by decide)) eqD_mo neD_br ha hb
theorem ptd_le (ha : PEd X w a ta) (hb : PEd X w b tb) : PTd X w (.Compare a [.LtE] [b] pos) (dB (dOp leD ta tb)) := ptd_cmp (op_le.or op_le_str) (nobehind _ (by decide) (by decide)) ordD_mo ordD_br ha hb
def dOr (t u : TDT) : TDT := fun r Q => t r fun c => if c = true then Q true else u r Q
def dNot (t : TDT) : TDT := fun r Q => t r fun c => Q (!c)
variable {tA tB' : TDT} {rest : List Expr}
theorem pwd_or1 (ha : PTd X w a tA) : PWd X w (.BoolOp .Or [a] pos) tA := ⟨pw_or1 ha.pt, ha.mo⟩
theorem AftT.then {K : PySem.W.Frag} {g : Gd} {W : Addr → Bool} {H H1 : Hp} {Q : Bool → Hp → Prop} {d : Bool} (h : AftT K g W H Q d) (e : Ext g H H1) : AftT K g W H1 Q d := fun H' e' k => h H' (e.trans e') k
theorem ite_mo {c : Prop} [Decidable c] {A B A' B' : Prop} (h1 : A → A') (h2 : B → B') (h : if c then A else B) : if c then A' else B' := by
  by_cases q : c
  · rw [if_pos q] at h ⊢; exact h1 h
  · rw [if_neg q] at h ⊢; exact h2 h
theorem pwd_or (ha : PTd X w a tA) (hb : PWd X w (.BoolOp .Or (b :: rest) pos) tB') : PWd X w (.BoolOp .Or (a :: b :: rest) pos) (dOr tA tB') := by
  refine ⟨weW (pw_or ha.pt hb.pw) ?_, fun r Q Q' q h => ha.mo _ _ _ (fun c z => ite_mo (q _) (hb.mo _ _ _ q) z) h⟩
  rintro σ H Q ⟨W, own, r, S, h⟩
  refine ⟨W, own, r, S, ha.mo _ _ _ (fun c z H1 e1 k1 => ite_mo (fun z => z H1 e1 k1) (fun z => ?_) z) h⟩
  exact ⟨W, own, r, S.ext e1 k1, hb.mo _ _ _ (fun d q => q.then e1) z⟩
theorem ptd_not (ha : PTd X w a tA) : PTd X w (.UnaryOp .Not a pos) (dNot tA) := by
  refine ⟨weT (pt_not ha.pt) ?_, fun r Q Q' q h => ha.mo _ _ _ (fun c z => q _ z) h⟩
  rintro σ H Q ⟨W, own, r, S, h⟩
  exact ⟨W, own, r, S, ha.mo _ _ _ (fun c z H1 e1 k1 => z H1 e1 k1) h⟩
/-- .. as values -/
def dAndV (ta tb : TDE) : TDE := fun r Q => ta r fun d => ∃ c, d = .bl c ∧ if c = true then tb r Q else Q (.bl false)
theorem ped_one {op} {t : TDE} (h : PEd X w a t) : PEd X w (.BoolOp op [a] pos) t := ⟨pe_one h.pe, h.mo⟩
theorem ped_and (ha : PEd X w a ta) (hb : PEd X w (.BoolOp .And (b :: rest) pos) tb) : PEd X w (.BoolOp .And (a :: b :: rest) pos) (dAndV ta tb) := by
  refine ⟨weE (pe_and ha.pe hb.pe) ?_, fun r Q Q' q h => ha.mo _ _ _ (fun d ⟨c, e, z⟩ => ⟨c, e, ite_mo (hb.mo _ _ _ q) (q _) z⟩) h⟩
  rintro σ H Q ⟨W, own, r, S, h⟩
  refine go1 ha S h fun x v H1 e1 k1 d1 p => ?_
  obtain ⟨c, rfl, p⟩ := p
  cases d1
  exact ⟨c, rfl, ite_mo (fun z => ⟨W, own, r, S.ext e1 k1, hb.mo _ _ _ (fun d q => q.then e1) z⟩) (fun z => (z.then e1).now k1 (.bl _)) p⟩
/-! ### lists of expressions, displays -/
def dNil : TDA := fun _ Q => Q []
def dCons (t : TDE) (u : TDA) : TDA := fun r Q => t r fun d => u r fun ds => Q (d :: ds)
theorem pad_nil : PAd X w [] dNil := by
  refine ⟨weA pa_nil ?_, fun r Q Q' q h => q _ h⟩
  rintro σ H Q ⟨W, own, r, S, h⟩
  exact h [] H Ext.refl S.ok .nil
theorem pad_cons {t : TDE} {u : TDA} (h1 : PEd X w e t) (h2 : PAd X w es u) (he : starEach (e :: es) X.env = (false, eval e X.env) :: starEach es X.env := by rfl) : PAd X w (e :: es) (dCons t u) := by
  refine ⟨weA (pa_cons h1.pe h2.pa he) ?_, fun r Q Q' q h => h1.mo _ _ _ (fun d z => h2.mo _ _ _ (fun ds => q _) z) h⟩
  rintro σ H Q ⟨W, own, r, S, h⟩
  refine go1 h1 S h fun x v H1 e1 k1 d1 p => goA h2 (S.ext e1 k1) p fun xs vs H2 e2 k2 d2 q => ?_
  exact q (v :: vs) H2 (e1.trans e2) k2 (.cons (Dv.mono (e2.hid k1.gW) _ _ d1) d2)
def dTup (t : TDA) : TDE := fun r Q => t r fun ds => ds.length ≤ sizeLine ∧ Q (.tup ds)
def dLst (t : TDA) : TDE := fun r Q => t r fun ds => ds.length ≤ sizeLine ∧ Q (.lst ds)
theorem ped_tup {c} {t : TDA} (h : PAd X w es t) : PEd X w (.Tuple es c pos) (dTup t) := by
  refine ⟨weE (pe_tupS h.pa) ?_, fun r Q Q' q z => h.mo _ _ _ (fun d z => ⟨z.1, q _ z.2⟩) z⟩
  rintro σ H Q ⟨W, own, r, S, z⟩
  refine goA h S z fun xs vs H1 e1 k1 d1 p => ⟨by rw [d1.len]; exact p.1, (p.2.then e1).newT k1 d1⟩
theorem ped_lst {t : TDA} (h : PAd X w es t) : PEd X w (.List es pos) (dLst t) := by
  refine ⟨weE (pe_lst h.pa) ?_, fun r Q Q' q z => h.mo _ _ _ (fun d z => ⟨z.1, q _ z.2⟩) z⟩
  rintro σ H Q ⟨W, own, r, S, z⟩
  refine goA h S z fun xs vs H1 e1 k1 d1 p => ⟨by rw [d1.len]; exact p.1, fun q np => (p.2.then e1).newL k1 np d1⟩

/-! ### calls of defs -/
abbrev DSp := List Da → (Da → Prop) → Prop
def MoP (p : DSp) : Prop := ∀ ds Q Q', (∀ d, Q d → Q' d) → p ds Q → p ds Q'
def liP (K : PySem.W.Frag) (p : DSp) : Sp := fun vs H Q _ => ∃ g W ds, OkW K g W H ∧ DvAll K g (hid W H) vs ds ∧ p ds (Aft K g W H Q)
def dCall (p : DSp) (t : TDA) : TDE := fun r Q => t r fun ds => p ds Q
theorem ped_call {x : Str} {p pos : Pos} {k : Nat} {f : Addr} {fd : FuncData} {ps : List Str} {sp : DSp} {t : TDA} {e : Expr} {es : List Expr} (F : FnG X.prog X.w X.K X.mg X.base CX0 k f fd ps (liP X.K sp)) (m : MoP sp) (room : Room k X.A) (hG : X.A.guards = some [])
    (at_x : X.mg x = some (.ref f)) (kp : PySem.W.keepIn X.K (.ref f) = true) (bd : Binds X.K fd ps []) (args : PAd X w (e :: es) t) (gl : Gl X x := by rfl) (nd : (x == ("__debug__" : Str)) = false := by decide)
    (st : starEach (e :: es) X.env = (false, eval e X.env) :: starEach es X.env := by rfl) (bk : (backTo pos (starEach es X.env)).any (·.1) = false := by rfl) :
    PEd X w (.Call (.Name x p) (e :: es) [] pos) (dCall sp t) := by
  refine ⟨weE (pe_callG (E := E0) F room hG gl at_x kp bd .nil pass0 args.pa nd st bk) ?_, fun r Q Q' q h => args.mo _ _ _ (fun ds z => m _ _ _ q z) h⟩
  rintro σ H Q ⟨W, own, r, S, h⟩
  refine goA args S h fun xs vs H1 e1 k1 d1 p => ?_
  rw [List.append_nil]
  exact ⟨w.g, W, xs, k1, d1, m _ _ _ (fun d q => q.then e1) p⟩

/-! ### calls of built-ins -/
abbrev DB := List Da → (Da → Prop) → Prop
def BrB (K : PySem.W.Frag) (R : List V → Hp → VK → Prop) (D : DB) : Prop := ∀ (g : Gd) (W : Addr → Bool) (H : Hp) (vs : List V) (ds : List Da) (Q : VK), OkW K g W H → DvAll K g (hid W H) vs ds → D ds (Aft K g W H Q) → R vs H Q
theorem ped_callB {x : Str} {p pos : Pos} {id : String} {R : List V → Hp → VK → Prop} {D : DB} {t : TDA} {e : Expr} {es : List Expr} (hc : CallR X (.builtin id) R) (m : MoP D) (br : BrB X.K R D) (hm : X.mg x = none) (hv : bootBuiltins x = some (.builtin id)) (args : PAd X w (e :: es) t)
    (hg : Gl X x := by rfl) (hn : x ≠ "__name__" := by decide) (hdb : (x == ("__debug__" : Str)) = false := by decide) (he : starEach (e :: es) X.env = (false, eval e X.env) :: starEach es X.env := by rfl) (hpl : (backTo pos (starEach es X.env)).any (·.1) = false := by rfl) :
    PEd X w (.Call (.Name x p) (e :: es) [] pos) (dCall D t) := by
  refine ⟨weE (pe_callB hc hg hm hv args.pa hn hdb he hpl) ?_, fun r Q Q' q h => args.mo _ _ _ (fun ds z => m _ _ _ q z) h⟩
  rintro σ H Q ⟨W, own, r, S, h⟩
  exact goA args S h fun xs vs H1 e1 k1 d1 p => br _ _ _ _ _ _ k1 d1 (m _ _ _ (fun d q => q.then e1) p)
theorem ped_callTy {x : Str} {p pos : Pos} {T : String} {R : List V → Hp → VK → Prop} {D : DB} {t : TDA} {e : Expr} {es : List Expr} (hc : CallR X (.type T) R) (m : MoP D) (br : BrB X.K R D) (hm : X.mg x = none) (hv : bootBuiltins x = some (.type T)) (args : PAd X w (e :: es) t)
    (hg : Gl X x := by rfl) (hn : x ≠ "__name__" := by decide) (hdb : (x == ("__debug__" : Str)) = false := by decide) (he : starEach (e :: es) X.env = (false, eval e X.env) :: starEach es X.env := by rfl) (hpl : (backTo pos (starEach es X.env)).any (·.1) = false := by rfl) :
    PEd X w (.Call (.Name x p) (e :: es) [] pos) (dCall D t) := by
  refine ⟨weE (pe_callTy hc hg hm hv args.pa hn hdb he hpl) ?_, fun r Q Q' q h => args.mo _ _ _ (fun ds z => m _ _ _ q z) h⟩
  rintro σ H Q ⟨W, own, r, S, h⟩
  exact goA args S h fun xs vs H1 e1 k1 d1 p => br _ _ _ _ _ _ k1 d1 (m _ _ _ (fun d q => q.then e1) p)
end
end Pd
/-! Statements, loops, comprehensions on data. -/
namespace Pd
open PySem PySem.Spec PyProof.Rows L2

/-! ### statements -/
/-- from one state to a later one -/
def Grow (g : Gd) (W : Addr → Bool) (H : Hp) (W' : Addr → Bool) (H' : Hp) : Prop :=
  (∀ b o, ¬ Bd g b → W b = false → H b = some o → H' b = some o) ∧ (∀ a, H a ≠ none → H' a ≠ none) ∧ ∀ a, W' a = true → W a = true ∨ H a = none
theorem Grow.refl {g : Gd} {W : Addr → Bool} {H : Hp} : Grow g W H W H := ⟨fun _ _ _ _ h => h, fun _ h => h, fun _ h => .inl h⟩
theorem Grow.trans {g : Gd} {W W1 W2 : Addr → Bool} {H H1 H2 : Hp} (a : Grow g W H W1 H1) (b : Grow g W1 H1 W2 H2) : Grow g W H W2 H2 := by
  refine ⟨fun c o n wf h => b.1 c o n ?_ (a.1 c o n wf h), fun c h => b.2.1 c (a.2.1 c h), fun c h => ?_⟩
  · cases q : W1 c with
    | false => rfl
    | true =>
      rcases a.2.2 c q with z | z
      · rw [wf] at z; cases z
      · rw [h] at z; cases z
  · rcases b.2.2 c h with z | z
    · exact a.2.2 c z
    · refine .inr (Classical.byContradiction fun n => a.2.1 c n z)
theorem Grow.of {K : PySem.W.Frag} {g : Gd} {W : Addr → Bool} {H H' : Hp} (k : OkW K g W H') (e : Ext g H H') : Grow g W H W H' :=
  ⟨fun b o n _ h => e b o n h, (fun a h => by
    by_cases z : Bd g a
    · obtain ⟨o, q⟩ := k.al a (k.gW a z)
      rw [q]; intro n; cases n
    · cases q : H a with
      | none => exact absurd q h
      | some o => rw [e a o z q]; intro n; cases n), fun a h => .inl h⟩
theorem Grow.data {g : Gd} {W W' : Addr → Bool} {H H' : Hp} (gr : Grow g W H W' H') (gW : ∀ a, Bd g a → W a = true) : Sm (hid W H) (hid W' H') := fun a o q => by
  obtain ⟨q1, q2⟩ := hid_some q
  rw [hid_no]
  · exact gr.1 a o (fun z => by rw [gW a z] at q1; cases q1) q1 q2
  · cases z : W' a with
    | false => rfl
    | true =>
      rcases gr.2.2 a z with y | y
      · rw [q1] at y; cases y
      · rw [q2] at y; cases y

def endD (K : PySem.W.Frag) (w : Wd) (W : Addr → Bool) (H : Hp) (E : Ends) : EnD where
  nx := fun r' => ∀ W' own' σ' H', Grow w.g W H W' H' → Stt K w W' own' r' σ' H' → E.nx σ' H'
  rt := fun d => ∀ v H', Ext w.g w.H0 H' → OkW K w.g w.W0 H' → Dv K w.g (hid w.W0 H') v d → E.rt v H'
  bk := fun r' => ∀ W' own' σ' H', Grow w.g W H W' H' → Stt K w W' own' r' σ' H' → E.bk σ' H'
  ct := fun r' => ∀ W' own' σ' H', Grow w.g W H W' H' → Stt K w W' own' r' σ' H' → E.ct σ' H'
def liS (K : PySem.W.Frag) (w : Wd) (t : TDS) : TS := fun E σ H => ∃ W own r, Stt K w W own r σ H ∧ t (endD K w W H E) r
/-- every end that the one wants the other gives -/
structure Le (E E' : EnD) : Prop where
  nx : ∀ r, E.nx r → E'.nx r
  rt : ∀ d, E.rt d → E'.rt d
  bk : ∀ r, E.bk r → E'.bk r
  ct : ∀ r, E.ct r → E'.ct r
theorem Le.refl {E : EnD} : Le E E := ⟨fun _ h => h, fun _ h => h, fun _ h => h, fun _ h => h⟩
def MoS (t : TDS) : Prop := ∀ E E' r, Le E E' → t E r → t E' r
structure PSd (X : Cx) (w : Wd) (st : Stmt) (t : TDS) : Prop where
  ps : PS X st (liS X.K w t)
  mo : MoS t
structure PSsd (X : Cx) (w : Wd) (st : List Stmt) (t : TDS) : Prop where
  ps : PSs X st (liS X.K w t)
  mo : MoS t
theorem endD_grow {K : PySem.W.Frag} {w : Wd} {W W1 : Addr → Bool} {H H1 : Hp} {E : Ends} (g : Grow w.g W H W1 H1) : Le (endD K w W H E) (endD K w W1 H1 E) :=
  ⟨fun _ h W' o' σ' H' g' S => h W' o' σ' H' (g.trans g') S, fun _ h => h, fun _ h W' o' σ' H' g' S => h W' o' σ' H' (g.trans g') S, fun _ h W' o' σ' H' g' S => h W' o' σ' H' (g.trans g') S⟩

section
variable {X : Cx} {w : Wd} {e a b : Expr} {st : Stmt} {sts rest : List Stmt} {pos : Pos} {t u : TDS} {te : TDE} {tt : TDT}
theorem weS {t t' : TS} (h : PS X st t) (le : ∀ D σ H, t' D σ H → t D σ H) : PS X st t' := ⟨fun pins s σ H D I q => h.run pins s σ H D I (le _ _ _ q)⟩
theorem weSs {t t' : TS} (h : PSs X sts t) (le : ∀ D σ H, t' D σ H → t D σ H) : PSs X sts t' := ⟨fun pins s σ H D I q => h.run pins s σ H D I (le _ _ _ q)⟩
def dSeq (t u : TDS) : TDS := fun E r => t { E with nx := u E } r
theorem psd_cons (h1 : PSd X w st t) (h2 : PSsd X w rest u) : PSsd X w (st :: rest) (dSeq t u) := by
  refine ⟨weSs (pss_cons h1.ps h2.ps) ?_, fun E E' r l h => h1.mo { E with nx := u E } { E' with nx := u E' } r ⟨fun r' => h2.mo E E' r' l, l.rt, l.bk, l.ct⟩ h⟩
  rintro D σ H ⟨W, own, r, S, h⟩
  refine ⟨W, own, r, S, h1.mo { endD X.K w W H D with nx := u (endD X.K w W H D) } (endD X.K w W H { D with nx := liS X.K w u D }) r ⟨fun r' z W' o' σ' H' g' S' => ?_, fun _ z => z, fun _ z => z, fun _ z => z⟩ h⟩
  exact ⟨W', o', r', S', h2.mo _ _ _ (endD_grow g') z⟩
theorem psd_one (h1 : PSd X w st t) : PSsd X w [st] t := ⟨pss_one h1.ps, h1.mo⟩
def dNext : TDS := fun E r => E.nx r
theorem psd_nil : PSsd X w [] dNext := by
  refine ⟨weSs pss_nil ?_, fun E E' r l h => l.nx r h⟩
  rintro D σ H ⟨W, own, r, S, h⟩
  exact h W own σ H .refl S
def dRet (t : TDE) : TDS := fun E r => t r E.rt
theorem ret_ok {K : PySem.W.Frag} {W : Addr → Bool} {own : Ow} {r : En} {σ : L2.St} {H : Hp} {E : Ends} {d : Da} {v : V} (S : Stt K w W own r σ H) (h : (endD K w W H E).rt d) (H1 : Hp) (e1 : Ext w.g H H1) (k1 : OkW K w.g W H1) (d1 : Dv K w.g (hid W H1) v d) : E.rt v H1 := by
  have z := h v H1 (S.base.trans e1)
  refine z (k1.less S.w0 S.g0) (Dv.mono (hid_le S.w0) _ _ d1)
theorem psd_ret (he : PEd X w e te) : PSd X w (.Return (some e) pos) (dRet te) := by
  refine ⟨weS (ps_ret he.pe) ?_, fun E E' r l h => he.mo _ _ _ l.rt h⟩
  rintro D σ H ⟨W, own, r, S, h⟩
  exact go1 he S h fun x v H1 e1 k1 d1 p => ret_ok S p H1 e1 k1 d1
def dIf (c : TDT) (t u : TDS) : TDS := fun E r => c r fun b => if b = true then t E r else u E r
theorem psd_if {c : Expr} {p q : List Stmt} (hc : PTd X w c tt) (ha : PSsd X w p t) (hb : PSsd X w q u) : PSd X w (.If c p q pos) (dIf tt t u) := by
  refine ⟨weS (ps_if hc.pt ha.ps hb.ps) ?_, fun E E' r l h => hc.mo _ _ _ (fun b => ite_mo (ha.mo E E' r l) (hb.mo E E' r l)) h⟩
  rintro D σ H ⟨W, own, r, S, h⟩
  refine ⟨W, own, r, S, hc.mo _ _ _ (fun b z H1 e1 k1 => ?_) h⟩
  have l : Le (endD X.K w W H D) (endD X.K w W H1 D) := endD_grow (.of k1 e1)
  exact ite_mo (fun z => ⟨W, own, r, S.ext e1 k1, ha.mo _ _ _ l z⟩) (fun z => ⟨W, own, r, S.ext e1 k1, hb.mo _ _ _ l z⟩) z

/-! ### targets -/
abbrev TDG := Da → En → (En → Prop) → Prop
theorem wipe_set {σ : L2.St} {i : Nat} {x : Option V} : ∀ {vs : List Nat}, i ∈ vs → L2.wipe (σ.set i x) vs = L2.wipe σ vs := by
  intro vs
  induction vs with
  | nil => intro h; cases h
  | cons v vs ih =>
    intro h
    show (L2.wipe (σ.set i x) vs).set v none = (L2.wipe σ vs).set v none
    by_cases q : i ∈ vs
    · rw [ih q]
    · have e : i = v := by rcases List.mem_cons.mp h with z | z; exact z; exact absurd z q
      subst e
      have aux : ∀ (us : List Nat) (σ : L2.St), i ∉ us → L2.wipe (σ.set i x) us = (L2.wipe σ us).set i x := by
        intro us
        induction us with
        | nil => intro σ _; rfl
        | cons z zs ih2 =>
          intro σ hz
          show (L2.wipe (σ.set i x) zs).set z none = ((L2.wipe σ zs).set z none).set i x
          rw [ih2 σ (fun y => hz (List.mem_cons_of_mem _ y)), List.set_comm]
          exact fun y => hz (by rw [y]; exact List.mem_cons_self)
      rw [aux vs σ q, List.set_set]
theorem wipe_idem (σ : L2.St) (vs : List Nat) : L2.wipe (L2.wipe σ vs) vs = L2.wipe σ vs := by
  have aux : ∀ (us vs : List Nat) (σ : L2.St), (∀ i ∈ us, i ∈ vs) → L2.wipe (L2.wipe σ us) vs = L2.wipe σ vs := by
    intro us
    induction us with
    | nil => intro vs σ _; rfl
    | cons u us ih =>
      intro vs σ h
      show L2.wipe ((L2.wipe σ us).set u none) vs = _
      rw [wipe_set (h u List.mem_cons_self)]
      exact ih vs σ fun i hi => h i (List.mem_cons_of_mem _ hi)
  exact aux vs vs σ fun _ h => h
/-- what a target does with a datum; vs: the slots it may set -/
structure GDt (K : PySem.W.Frag) (g : TG) (gd : TDG) (vs : List Nat) : Prop where
  run : ∀ (w : Wd) (W : Addr → Bool) (own : Ow) (r : En) (σ : L2.St) (H : Hp) (v : V) (d : Da) (Q : En → Prop), Stt K w W own r σ H → Dv K w.g (hid W H) v d → gd d r Q →
    g v σ H fun σ' H' => H' = H ∧ (∀ us, (∀ i ∈ vs, i ∈ us) → L2.wipe σ' us = L2.wipe σ us) ∧ ∃ own' r', Stt K w W own' r' σ' H ∧ Q r'
  mo : ∀ d r Q Q', (∀ r, Q r → Q' r) → gd d r Q → gd d r Q'
def dgName (i : Nat) : TDG := fun d r Q => Q (r.set i (.dat d))
theorem gd_name {K : PySem.W.Frag} (i : Nat) : GDt K (gName i) (dgName i) [i] := by
  refine ⟨fun w W own r σ H v d Q S dv h => ?_, fun d r Q Q' q h => q _ h⟩
  obtain ⟨own', S'⟩ := S.set (i := i) dv
  exact ⟨rfl, fun us hu => wipe_set (hu i List.mem_cons_self), own', _, S', h⟩
/-- a, b = a pair -/
def itemsOf : Da → Option (List Da)
  | .tup xs => some xs
  | .tpw xs => some xs
  | _ => none
def dgTup2 (i j : Nat) : TDG := fun d r Q => ∃ x y, itemsOf d = some [x, y] ∧ Q ((r.set i (.dat x)).set j (.dat y))
theorem items_sq {K : PySem.W.Frag} {g : Gd} {W : Addr → Bool} {H : Hp} {v : V} {d : Da} {ds : List Da} (h : Dv K g (hid W H) v d) (e : itemsOf d = some ds) : ∃ a xs, v = .ref a ∧ SqT K H a xs ∧ DvAll K g (hid W H) xs ds := by
  unfold itemsOf at e
  split at e
  · cases e
    cases h with
    | tup h1 h2 => exact ⟨_, _, rfl, sq_hid h1.sq, h2⟩
  · cases e
    cases h with
    | tpw h1 h2 => exact ⟨_, _, rfl, sq_hid h1, h2⟩
  · cases e
theorem gd_tup2 {K : PySem.W.Frag} (i j : Nat) : GDt K (gTup K 2 (gCons (gName i) (gCons (gName j) gNil))) (dgTup2 i j) [i, j] := by
  refine ⟨fun w W own r σ H v d Q S dv h => ?_, fun d r Q Q' q ⟨x, y, e, z⟩ => ⟨x, y, e, q _ z⟩⟩
  obtain ⟨x, y, e, h⟩ := h
  obtain ⟨c, xs, rfl, hq, hd⟩ := items_sq dv e
  cases hd with
  | cons d1 t1 =>
    cases t1 with
    | cons d2 t2 =>
      cases t2
      obtain ⟨o1, S1⟩ := S.set (i := i) d1
      obtain ⟨o2, S2⟩ := S1.set (i := j) d2
      refine ⟨c, _, rfl, hq, rfl, _, _, rfl, _, _, rfl, rfl, rfl, fun us hu => ?_, o2, _, S2, h⟩
      rw [wipe_set (hu j (by simp)), wipe_set (hu i (by simp))]
/-- name = e -/
def dSet (te : TDE) (i : Nat) : TDS := fun E r => te r fun d => E.nx (r.set i (.dat d))
theorem psd_set {i : Nat} {x : Str} {pos' : Pos} (he : PEd X w e te) (hN : X.N.Nodup) (hi : X.N[i]? = some x := by rfl) (hx : Loc X.env.scope x := by first | exact .inl rfl | exact .inr rfl) (hs : swapsWith e (some (.Name x pos')) pos.line X.env = pure false := by rfl)
    (hf : X.fn x = true ∨ X.env.scope.names.lookup x = some .local := by first | exact .inl rfl | exact .inr rfl) : PSd X w (.Assign [.Name x pos'] e pos) (dSet te i) := by
  refine ⟨weS (ps_set hN hi hx he.pe hs hf) ?_, fun E E' r l h => he.mo _ _ _ (fun d => l.nx _) h⟩
  rintro D σ H ⟨W, own, r, S, h⟩
  refine go1 he S h fun y v H1 e1 k1 d1 p => ?_
  obtain ⟨own', S'⟩ := (S.ext e1 k1).set (i := i) d1
  exact p W own' _ H1 (.of k1 e1) S'
/-- target = e -/
def dAsg (te : TDE) (gd : TDG) : TDS := fun E r => te r fun d => gd d r E.nx
theorem psd_asg {tg : Expr} {g : TG} {gd : TDG} {vs : List Nat} (he : PEd X w e te) (hg : PG X tg g) (G : GDt X.K g gd vs) (gmo : ∀ v σ H Q Q', (∀ a b, Q a b → Q' a b) → g v σ H Q → g v σ H Q') (hs : swapsWithSole [tg] e pos.line X.env = pure false := by rfl) (hw : swappedStores [tg] e X.env = pure none := by rfl)
    (h1 : (assignEach [tg] X.env).map (·.2) = [assign tg X.env] := by rfl) : PSd X w (.Assign [tg] e pos) (dAsg te gd) := by
  refine ⟨weS (ps_asg he.pe hg hs hw h1) ?_, fun E E' r l h => he.mo _ _ _ (fun d => G.mo _ _ _ _ l.nx) h⟩
  rintro D σ H ⟨W, own, r, S, h⟩
  refine go1 he S h fun y v H1 e1 k1 d1 p => ?_
  refine gmo _ _ _ _ _ ?_ (G.run w W own r σ H1 v y _ (S.ext e1 k1) d1 p)
  rintro σ' H' ⟨rfl, _, own', r', S', q⟩
  exact q W own' σ' _ (.of k1 e1) S'
theorem gTup_mo {K : PySem.W.Frag} {n : Nat} {t : TGs} (m : ∀ vs σ H Q Q', (∀ a b, Q a b → Q' a b) → t vs σ H Q → t vs σ H Q') : ∀ v σ H Q Q', (∀ a b, Q a b → Q' a b) → gTup K n t v σ H Q → gTup K n t v σ H Q' :=
  fun v σ H Q Q' q ⟨a, xs, h1, h2, h3, h4⟩ => ⟨a, xs, h1, h2, h3, m _ _ _ _ _ q h4⟩
theorem gCons_mo {t : TG} {u : TGs} (m1 : ∀ v σ H Q Q', (∀ a b, Q a b → Q' a b) → t v σ H Q → t v σ H Q') (m2 : ∀ vs σ H Q Q', (∀ a b, Q a b → Q' a b) → u vs σ H Q → u vs σ H Q') :
    ∀ vs σ H Q Q', (∀ a b, Q a b → Q' a b) → gCons t u vs σ H Q → gCons t u vs σ H Q' := fun vs σ H Q Q' q ⟨v, rr, h1, h2⟩ => ⟨v, rr, h1, m1 _ _ _ _ _ (fun _ _ => m2 _ _ _ _ _ q) h2⟩
theorem gNil_mo : ∀ vs σ H Q Q', (∀ a b, Q a b → Q' a b) → gNil vs σ H Q → gNil vs σ H Q' := fun vs σ H Q Q' q ⟨h1, h2⟩ => ⟨h1, q _ _ h2⟩
theorem gName_mo (i : Nat) : ∀ v σ H Q Q', (∀ a b, Q a b → Q' a b) → gName i v σ H Q → gName i v σ H Q' := fun v σ H Q Q' q h => q _ _ h
end
end Pd
/-! What is walked; for; comprehensions; a def by its data promise. -/
namespace Pd
open PySem PySem.Spec PyProof.Rows L2

/-! ### what is walked -/
abbrev TDI := En → (List Da → Prop) → Prop
/-- J goes over the data ds (from the heap H1 on, W hidden there) -/
def Wlk (K : PySem.W.Frag) (g : Gd) (W : Addr → Bool) (H1 : Hp) (J : It) (ds : List Da) : Prop :=
  ∀ i H', Sm (hid W H1) H' → (i < ds.length → J.go i H') ∧ (ds.length ≤ i → J.stop i H') ∧
    ∀ x H'', i < ds.length → J.yld i H' x H'' → Sm H' H'' ∧ ∃ d, ds[i]? = some d ∧ ∀ Z : Hp, Sm (hid W H1) Z → (∀ b o, H' b = none → H'' b = some o → Z b = some o) → Dv K g Z x d
def liI (K : PySem.W.Frag) (w : Wd) (t : TDI) : TI := fun σ H R => ∃ W own r, Stt K w W own r σ H ∧ t r fun ds => ∀ J H1, Ext w.g H H1 → OkW K w.g W H1 → Wlk K w.g W H1 J ds → R J H1
structure PId (X : Cx) (w : Wd) (tg e : Expr) (t : TDI) : Prop where
  pi : PI X tg e (liI X.K w t)
  mo : ∀ r Q Q', (∀ ds, Q ds → Q' ds) → t r Q → t r Q'
section
variable {X : Cx} {w : Wd} {e tg : Expr} {pos : Pos} {te : TDE}
theorem weI {t t' : TI} (h : PI X tg e t) (le : ∀ σ H R, t' σ H R → t σ H R) : PI X tg e t' := ⟨fun pins s σ H R I q => h.run pins s σ H R I (le _ _ _ q)⟩
theorem wlk_list {K : PySem.W.Frag} {g : Gd} {W : Addr → Bool} {H : Hp} {a : Addr} {xs : List V} {ds : List Da} (h : hid W H a = some (.lst xs)) (dv : DvAll K g (hid W H) xs ds) : Wlk K g W H (Itl K a) ds := by
  intro i H' s
  have q : SqL K H' a xs := SqL.of (s _ _ h)
  refine ⟨fun hi => ?_, fun hi => ⟨xs, q, by rw [dv.len]; exact hi⟩, fun x H'' _ y => ?_⟩
  · have hx : i < xs.length := by rw [dv.len]; exact hi
    exact ⟨xs, xs[i], q, List.getElem?_eq_getElem hx⟩
  · obtain ⟨e, y⟩ := y
    subst e
    refine ⟨fun _ _ h => h, ?_⟩
    obtain ⟨d, h1, h2⟩ := dv.ta (y xs q)
    exact ⟨d, h1, fun Z z _ => Dv.mono z _ _ h2⟩
theorem wlk_tup {K : PySem.W.Frag} {g : Gd} {W : Addr → Bool} {H : Hp} {a : Addr} {xs : List V} {ds : List Da} (h : SqT K (hid W H) a xs) (dv : DvAll K g (hid W H) xs ds) : Wlk K g W H (Itt K a) ds := by
  intro i H' s
  have q : SqT K H' a xs := sqt_mono s h
  refine ⟨fun hi => ?_, fun hi => ⟨xs, q, by rw [dv.len]; exact hi⟩, fun x H'' _ y => ?_⟩
  · have hx : i < xs.length := by rw [dv.len]; exact hi
    exact ⟨xs, xs[i], q, List.getElem?_eq_getElem hx⟩
  · obtain ⟨e, y⟩ := y
    subst e
    refine ⟨fun _ _ h => h, ?_⟩
    obtain ⟨d, h1, h2⟩ := dv.ta (y xs q)
    exact ⟨d, h1, fun Z z _ => Dv.mono z _ _ h2⟩
/-- for x in a list -/
def dItL (t : TDE) : TDI := fun r Q => t r fun d => ∃ ds, d = .lst ds ∧ Q ds
theorem pid_list (h : PEd X w e te) : PId X w tg e (dItL te) := by
  refine ⟨weI (pi_list h.pe) ?_, fun r Q Q' q z => h.mo _ _ _ (fun d ⟨ds, e, z⟩ => ⟨ds, e, q _ z⟩) z⟩
  rintro σ H R ⟨W, own, r, S, z⟩
  refine go1 h S z fun d v H1 e1 k1 d1 p => ?_
  obtain ⟨ds, rfl, p⟩ := p
  cases d1 with
  | lst a1 a2 => exact ⟨_, rfl, ⟨_, SqL.of (hid_some a1).2⟩, p _ H1 e1 k1 (wlk_list a1 a2)⟩
/-- for x in a tuple -/
def dItT (t : TDE) : TDI := fun r Q => t r fun d => ∃ ds, itemsOf d = some ds ∧ Q ds
theorem pid_tup (h : PEd X w e te) : PId X w tg e (dItT te) := by
  refine ⟨weI (pi_tup h.pe) ?_, fun r Q Q' q z => h.mo _ _ _ (fun d ⟨ds, e, z⟩ => ⟨ds, e, q _ z⟩) z⟩
  rintro σ H R ⟨W, own, r, S, z⟩
  refine go1 h S z fun d v H1 e1 k1 d1 p => ?_
  obtain ⟨ds, ed, p⟩ := p
  have hid' : ∀ {ds}, itemsOf d = some ds → ∃ a xs, v = .ref a ∧ SqT X.K (hid W H1) a xs ∧ DvAll X.K w.g (hid W H1) xs ds := by
    intro ds ed
    unfold itemsOf at ed
    split at ed
    · cases ed
      cases d1 with
      | tup h1 h2 => exact ⟨_, _, rfl, h1.sq, h2⟩
    · cases ed
      cases d1 with
      | tpw h1 h2 => exact ⟨_, _, rfl, h1, h2⟩
    · cases ed
  obtain ⟨a, xs, rfl, h1, h2⟩ := hid' ed
  exact ⟨a, rfl, ⟨xs, sq_hid h1⟩, p _ H1 e1 k1 (wlk_tup h1 h2)⟩
/-- for x in range(n) -/
def rngD (n : Nat) : List Da := (List.range n).map fun i => .int (i : Nat)
theorem rngD_at {n i : Nat} (h : i < n) : (rngD n)[i]? = some (.int (i : Nat)) := by
  unfold rngD
  rw [List.getElem?_map, List.getElem?_range h]
  rfl
theorem rngD_len (n : Nat) : (rngD n).length = n := by unfold rngD; rw [List.length_map, List.length_range]
theorem wlk_rng {K : PySem.W.Frag} {g : Gd} {W : Addr → Bool} {H : Hp} {n : Nat} : Wlk K g W H (Itr 0 n) (rngD n) := by
  intro i H' s
  rw [rngD_len]
  refine ⟨fun h => h, fun h => h, fun x H'' hi y => ?_⟩
  obtain ⟨e, y⟩ := y
  subst e y
  refine ⟨fun _ _ h => h, _, rngD_at hi, fun Z _ _ => ?_⟩
  rw [Int.zero_add]
  exact .int _
def dItR (t : TDE) : TDI := fun r Q => t r fun d => ∃ n : Int, d = .int n ∧ -(2 ^ 62) ≤ n ∧ n < 2 ^ 62 ∧ Q (rngD n.toNat)
theorem pid_range {p : Pos} (hm : X.mg "range" = none) (h : PEd X w e te) (hg : Gl X "range" := by rfl) (h1 : starEach (e :: []) X.env = (false, eval e X.env) :: starEach [] X.env := by rfl) (hs : starEach [e] X.env = [(false, eval e X.env)] := by rfl) : PId X w tg (.Call (.Name "range" p) [e] [] pos) (dItR te) := by
  refine ⟨weI (pi_range1 hg hm (pa_cons h.pe pa_nil h1) hs) ?_, fun r Q Q' q z => h.mo _ _ _ (fun d ⟨n, e, a, b, z⟩ => ⟨n, e, a, b, q _ z⟩) z⟩
  rintro σ H R ⟨W, own, r, S, z⟩
  refine go1 h S z fun d v H1 e1 k1 d1 p => ?_
  obtain ⟨n, rfl, a, b, p⟩ := p
  cases d1
  exact ⟨n, rfl, a, b, p _ H1 e1 k1 wlk_rng⟩
/-- for i, x in enumerate(a list) -/
def enumD (ds : List Da) : List Da := ds.zipIdx.map fun p => .tpw [.int (p.2 : Nat), p.1]
theorem enumD_at {ds : List Da} {i : Nat} {d : Da} (h : ds[i]? = some d) : (enumD ds)[i]? = some (.tpw [.int (i : Nat), d]) := by
  unfold enumD
  rw [List.getElem?_map, List.getElem?_zipIdx, h]
  show some _ = _
  rw [Nat.zero_add]
theorem enumD_len (ds : List Da) : (enumD ds).length = ds.length := by unfold enumD; rw [List.length_map, List.length_zipIdx]
def dItE (t : TDE) : TDI := fun r Q => t r fun d => ∃ ds, d = .lst ds ∧ Q (enumD ds)
theorem pid_enum {p tpos : Pos} {elts : List Expr} {kk : Nat} (hm : X.mg "enumerate" = none) (h : PEd X w e te) (hg : Gl X "enumerate" := by rfl) (h1 : starEach (e :: []) X.env = (false, eval e X.env) :: starEach [] X.env := by rfl) (hs : starEach [e] X.env = [(false, eval e X.env)] := by rfl) :
    PId X w (.Tuple elts kk tpos) (.Call (.Name "enumerate" p) [e] [] pos) (dItE te) := by
  refine ⟨weI (pi_enum hg hm (pa_cons h.pe pa_nil h1) hs) ?_, fun r Q Q' q z => h.mo _ _ _ (fun d ⟨n, e, z⟩ => ⟨n, e, q _ z⟩) z⟩
  rintro σ H R ⟨W, own, r, S, z⟩
  refine go1 h S z fun d v H1 e1 k1 d1 p => ?_
  obtain ⟨ds, rfl, p⟩ := p
  cases d1 with
  | @lst a xs _ a1 a2 =>
    refine ⟨a, xs, rfl, SqL.of (hid_some a1).2, p _ H1 e1 k1 ?_⟩
    intro i H' s
    have q : SqL X.K H' a xs := SqL.of (s _ _ a1)
    rw [enumD_len]
    refine ⟨fun hi => ?_, fun hi => ⟨xs, q, by rw [a2.len]; exact hi⟩, fun v H'' hi y => ?_⟩
    · have hx : i < xs.length := by rw [a2.len]; exact hi
      exact ⟨xs, xs[i], q, List.getElem?_eq_getElem hx⟩
    · obtain ⟨T, x, rfl, nT, rfl, fx⟩ := y
      obtain ⟨d, h1, h2⟩ := a2.ta (fx xs q)
      refine ⟨sm_upd nT, _, enumD_at h1, fun Z z1 z2 => ?_⟩
      exact .tpw (.inl (.inl (z2 T _ nT upd_same))) (.cons (.int _) (.cons (Dv.mono z1 _ _ h2) .nil))
end

/-! ### for -/
def forD (gd : TDG) (tb : TDS) (E : EnD) : List Da → En → Prop
  | [] => E.nx
  | d :: ds => fun r => gd d r fun r1 => tb { E with nx := forD gd tb E ds, ct := forD gd tb E ds, bk := E.nx } r1
def dFor (wd : TDI) (gd : TDG) (tb : TDS) : TDS := fun E r => wd r fun ds => forD gd tb E ds r
section
variable {X : Cx} {w : Wd}
theorem forD_mo {K : PySem.W.Frag} {g : TG} {gd : TDG} {vs : List Nat} {tb : TDS} (G : GDt K g gd vs) (m : MoS tb) {E E' : EnD} (l : Le E E') : ∀ ds r, forD gd tb E ds r → forD gd tb E' ds r
  | [], r, h => l.nx r h
  | d :: ds, r, h => G.mo _ _ _ _ (fun r1 z => m { E with nx := forD gd tb E ds, ct := forD gd tb E ds, bk := E.nx } { E' with nx := forD gd tb E' ds, ct := forD gd tb E' ds, bk := E'.nx } r1 ⟨forD_mo G m l ds, l.rt, l.nx, forD_mo G m l ds⟩ z) h
theorem psd_for {tg iter : Expr} {body : List Stmt} {g : TG} {gd : TDG} {vs : List Nat} {wd : TDI} {tb : TDS} {pos : Pos} (hi : PId X w tg iter wd) (hg : PG X tg g) (G : GDt X.K g gd vs) (gmo : ∀ v σ H Q Q', (∀ a b, Q a b → Q' a b) → g v σ H Q → g v σ H Q') (hb : PSsd X w body tb)
    (hp : PassesOwn (model X.prog X.w) X.A X.env X.xe := by exact PassesOwn.never) (hc : X.calm = true := by rfl) (hs : ∀ x, foldedSetIterable iter X.env x = pure x := by intro _; rfl) : PSd X w (.For tg iter body [] pos) (dFor wd gd tb) := by
  refine ⟨weS (ps_for hp hc hi.pi hg hb.ps hs) ?_, fun E E' r l h => hi.mo _ _ _ (fun ds => forD_mo G hb.mo l ds r) h⟩
  rintro E σ H ⟨W, own, r, S, h⟩
  refine ⟨W, own, r, S, hi.mo _ _ _ (fun ds q J H1 e1 k1 wk => ?_) h⟩
  refine ⟨fun i m σ' H' => m = ds.length - i ∧ i ≤ ds.length ∧ ∃ W' own' r', Grow w.g W H1 W' H' ∧ Stt X.K w W' own' r' σ' H' ∧ forD gd tb (endD X.K w W H E) (ds.drop i) r', ⟨ds.length, by simp, Nat.zero_le _, W, own, r, .refl, S.ext e1 k1, by rw [List.drop_zero]; exact q⟩, ?_⟩
  rintro i m σ' H' ⟨rfl, hi', W', own', r', gr, S', f⟩
  have up : Grow w.g W H W' H' := (Grow.of k1 e1).trans gr
  have sm : Sm (hid W H1) (hid W' H') := gr.data k1.gW
  have sm' : Sm (hid W H1) H' := fun a o z => (hid_some (sm a o z)).2
  obtain ⟨w1, w2, w3⟩ := wk i H' sm'
  by_cases hl : i < ds.length
  · refine .inr ⟨w1 hl, fun σ2 H2 => ∃ W2 own2 r2, Grow w.g W H1 W2 H2 ∧ Stt X.K w W2 own2 r2 σ2 H2 ∧ forD gd tb (endD X.K w W H E) (ds.drop (i + 1)) r2, fun σ2 H2 z => ?_, fun x H2 y => ?_⟩
    · exact ⟨ds.length - (i + 1), by omega, rfl, by omega, z⟩
    · obtain ⟨sH, d, hd, dv⟩ := w3 x H2 hl y
      have e2 : Ext w.g H' H2 := Ext.of sH
      have k2 : OkW X.K w.g W' H2 := S'.ok.same sH
      have S2 := S'.ext e2 k2
      have dvx : Dv X.K w.g (hid W' H2) x d := by
        refine dv _ (fun a o z => e2.hid S'.ok.gW a o (sm a o z)) fun b o nb z => ?_
        rw [hid_no]
        · exact z
        · cases y' : W' b with
          | false => rfl
          | true =>
            obtain ⟨o', z'⟩ := S'.ok.al b y'
            rw [nb] at z'; cases z'
      have ed : ds.drop i = d :: ds.drop (i + 1) := by
        obtain ⟨h1, h2⟩ := List.getElem?_eq_some_iff.mp hd
        rw [List.drop_eq_getElem_cons h1, h2]
      rw [ed] at f
      refine gmo _ _ _ _ _ ?_ (G.run w W' own' r' σ' H2 x d _ S2 dvx f)
      rintro σ3 H3 ⟨rfl, _, own3, r3, S3, t3⟩
      refine ⟨W', own3, r3, S3, hb.mo { endD X.K w W H E with nx := forD gd tb (endD X.K w W H E) (ds.drop (i + 1)), ct := forD gd tb (endD X.K w W H E) (ds.drop (i + 1)), bk := (endD X.K w W H E).nx } _ _ ⟨fun r4 z W4 o4 σ4 H4 g4 S4 => ?_, fun d z => z, fun r4 z W4 o4 σ4 H4 g4 S4 => ?_, fun r4 z W4 o4 σ4 H4 g4 S4 => ?_⟩ t3⟩
      · exact ⟨W4, o4, r4, gr.trans ((Grow.of k2 e2).trans g4), S4, z⟩
      · exact z W4 o4 σ4 H4 (up.trans ((Grow.of k2 e2).trans g4)) S4
      · exact ⟨W4, o4, r4, gr.trans ((Grow.of k2 e2).trans g4), S4, z⟩
  · refine .inl ⟨w2 (by omega), ?_⟩
    have ed : ds.drop i = [] := List.drop_eq_nil_of_le (by omega)
    rw [ed] at f
    exact f W' own' σ' H' up S'
end
end Pd
/-! Comprehensions; a def by its data promise. -/
namespace Pd
open PySem PySem.Spec PyProof.Rows L2

structure PTsd (X : Cx) (w : Wd) (ifs : List Expr) (t : TDT) : Prop where
  pt : PTs X ifs (liT X.K w t)
  mo : ∀ r Q Q', (∀ b, Q b → Q' b) → t r Q → t r Q'
def dYes : TDT := fun _ Q => Q true
section
variable {X : Cx} {w : Wd} {e : Expr} {pos : Pos}
theorem ptsd_nil : PTsd X w [] dYes := by
  refine ⟨⟨fun pins s σ H Q I h => pts_nil.run pins s σ H Q I ?_⟩, fun r Q Q' q h => q _ h⟩
  obtain ⟨W, own, r, S, h⟩ := h
  exact h H Ext.refl S.ok
theorem ptsd_one {c : Expr} {t : TDT} (h : PTd X w c t) : PTsd X w [c] t := ⟨pts_one h.pt, h.mo⟩

/-- the turns of a comprehension: acc is made so far -/
def lcD (gd : TDG) (tt : TDT) (te : TDE) (vs : List Nat) (r : En) (Q : Da → Prop) : List Da → List Da → Prop
  | [], acc => Q (.lst acc)
  | d :: ds, acc => gd d (wipeD r vs) fun r2 => tt r2 fun b => if b = true then te r2 fun y => acc.length < sizeLine ∧ lcD gd tt te vs r Q ds (acc ++ [y]) else lcD gd tt te vs r Q ds acc
def dLc (wd : TDI) (gd : TDG) (tt : TDT) (te : TDE) (vs : List Nat) : TDE := fun r Q => wd r fun ds => lcD gd tt te vs r Q ds []

/-- a list that grows at D, hidden -/
def hideD (W : Addr → Bool) (D : Addr) : Addr → Bool := fun a => decide (a = D) || W a
theorem hideD_at {W : Addr → Bool} {D : Addr} : hideD W D D = true := by simp [hideD]
theorem hideD_le {W : Addr → Bool} {D a : Addr} (h : W a = true) : hideD W D a = true := by simp [hideD, h]
theorem hideD_ne {W : Addr → Bool} {D a : Addr} (h : a ≠ D) : hideD W D a = W a := by simp [hideD, h]
theorem BagI.hide {K : PySem.W.Frag} {g : Gd} {W : Addr → Bool} {H : Hp} {D : Addr} (b : BagI K g W H) (n : H D = none) : BagI K g (Pd.hideD W D) H := ⟨fun a ha => by
  obtain ⟨x, y, z, c, cs, h1, h2⟩ := b.bag a ha
  obtain ⟨q1, q2⟩ := hid_some h2
  exact ⟨x, y, z, c, cs, h1, by rw [hid_no (by rw [hideD_ne (ne_of_none q2 n)]; exact q1)]; exact q2⟩, b.tabs⟩
/-- a new thing, hidden -/
theorem BagI.lay {K : PySem.W.Frag} {g : Gd} {W : Addr → Bool} {H : Hp} {D : Addr} {o : HO} (b : BagI K g W H) (gne : ¬ Bd g D) (n : H D = none) : BagI K g (Pd.hideD W D) (L2.upd H D o) := (b.hide n).upd gne hideD_at (fun φ z => by rw [n] at z; cases z)
theorem BagI.free {K : PySem.W.Frag} {g : Gd} {W : Addr → Bool} {H : Hp} {D : Addr} (b : BagI K g W H) (n : H D = none) : ¬ Bd g D := fun h => by
  obtain ⟨o, z⟩ := b.al h
  rw [n] at z; cases z
/-- what is new now was new from the start -/
theorem Stt.new0 {K : PySem.W.Frag} {W : Addr → Bool} {own : Ow} {r : En} {σ : L2.St} {H : Hp} {D : Addr} (S : Stt K w W own r σ H) (hD : H D = none) : w.H0 D = none := by
  cases q : w.H0 D with
  | none => rfl
  | some o =>
    by_cases z : Bd w.g D
    · exact absurd z (S.ok.bag.free hD)
    · rw [S.base D o z q] at hD; cases hD
theorem Stt.wN' {K : PySem.W.Frag} {W : Addr → Bool} {own : Ow} {r : En} {σ : L2.St} {H : Hp} {D : Addr} (S : Stt K w W own r σ H) (hD : H D = none) : ∀ a, Pd.hideD W D a = true → w.W0 a = true ∨ w.H0 a = none := fun a h => by
  by_cases z : a = D
  · rw [z]
    exact .inr (S.new0 hD)
  · rw [hideD_ne z] at h
    exact S.wN a h
theorem Stt.hideD {K : PySem.W.Frag} {W : Addr → Bool} {own : Ow} {r : En} {σ : L2.St} {H H' : Hp} {D : Addr} {xs : List V} (S : Stt K w W own r σ H) (hD : H D = none) (sm : Ext w.g H H') (kD : H' D = some (.lst xs)) (bg : BagI K w.g (Pd.hideD W D) H') : Stt K w (Pd.hideD W D) own r σ H' := by
  have sub : Sm (hid W H) (hid (Pd.hideD W D) H') := fun a o q => by
    obtain ⟨q1, q2⟩ := hid_some q
    have ne : a ≠ D := fun z => by rw [z, hD] at q2; cases q2
    rw [hid_no (by rw [hideD_ne ne]; exact q1)]
    exact sm a o (fun z => by rw [S.ok.gW a z] at q1; cases q1) q2
  refine ⟨⟨bg, fun a h => hideD_le (S.ok.gW a h), fun a h => ?_⟩, S.base.trans sm, fun a h => hideD_le (S.w0 a h), S.g0, S.wN' hD, fun i a h => ?_, fun i j a h1 h2 => ⟨(S.inj i j a h1 h2).1, (S.inj i j a h1 h2).2.up fun o z => sm a o (S.oW i a h1).2.2 z⟩, S.len, fun i d h n => ?_⟩
  · by_cases z : a = D
    · exact ⟨_, by rw [z]; exact kD⟩
    · rw [hideD_ne z] at h
      by_cases y : Bd w.g a
      · exact bg.al y
      · obtain ⟨o, q⟩ := S.ok.al a h
        exact ⟨o, sm a o y q⟩
  · obtain ⟨a1, a2, a3⟩ := S.oW i a h
    exact ⟨hideD_le a1, a2, a3⟩
  · obtain ⟨v, h1, h2⟩ := S.sl i d h n
    refine ⟨v, h1, ?_⟩
    cases d with
    | no => trivial
    | dat d => exact Dv.mono sub _ _ h2
    | own ds =>
      obtain ⟨a, xs, q1, q2, q3, q4⟩ := h2
      exact ⟨a, xs, q1, q2, sm a _ (S.oW i a q1.1).2.2 q3, DvAll.mono sub _ _ q4⟩
    | reg ds =>
      obtain ⟨a, xs, q1, q2, q3, q4⟩ := h2
      exact ⟨a, xs, q1, q2, sm a _ (S.oW i a q1).2.2 q3, DvAll.mono (cutAt_sm (vis_up (fun a o q z => ⟨q, sm a o (S.oW i a q).2.2 z⟩) sub)) _ _ q4⟩

theorem lcD_mo {K : PySem.W.Frag} {g : TG} {gd : TDG} {vs' vs : List Nat} {tt : TDT} {te : TDE} {r : En} (G : GDt K g gd vs') (mt : ∀ r Q Q', (∀ b, Q b → Q' b) → tt r Q → tt r Q') (me : ∀ r Q Q', (∀ b, Q b → Q' b) → te r Q → te r Q') {Q Q' : Da → Prop} (q : ∀ d, Q d → Q' d) :
    ∀ ds acc, lcD gd tt te vs r Q ds acc → lcD gd tt te vs r Q' ds acc
  | [], acc, h => q _ h
  | d :: ds, acc, h => G.mo _ _ _ _ (fun r2 z => mt _ _ _ (fun b z => ite_mo (me _ _ _ fun y z => ⟨z.1, lcD_mo G mt me q ds _ z.2⟩) (lcD_mo G mt me q ds _) z) z) h

/-- the reading of a comprehension, given in data -/
theorem lc_in {K : PySem.W.Frag} {g : TG} {gd : TDG} {gvs vs : List Nat} {tt : TDT} {te : TDE} {σ : L2.St} {H : Hp} {Q : VK} {wd : TDI} (G : GDt K g gd gvs) (gmo : ∀ v σ H Q Q', (∀ a b, Q a b → Q' a b) → g v σ H Q → g v σ H Q') (sub : ∀ i ∈ gvs, i ∈ vs)
    (mt : ∀ r Q Q', (∀ b, Q b → Q' b) → tt r Q → tt r Q') (me : ∀ r Q Q', (∀ b, Q b → Q' b) → te r Q → te r Q') (mw : ∀ r Q Q', (∀ ds, Q ds → Q' ds) → wd r Q → wd r Q')
    (h : liE K w (dLc wd gd tt te vs) σ H Q) : tLc (liI K w wd) g (liT K w tt) (liE K w te) vs σ H Q := by
  obtain ⟨W, own, r, S, h⟩ := h
  refine ⟨W, own, r, S, mw _ _ _ (fun ds q J H1 e1 k1 wk => ?_) h⟩
  intro D hD
  have S1 := S.ext e1 k1
  -- the state while the list at D grows
  have gn : ¬ Bd w.g D := S1.ok.bag.free hD
  refine ⟨fun i m H' => m = ds.length - i ∧ i ≤ ds.length ∧ ∃ av ad, Ext w.g H1 H' ∧ BagI K w.g (hideD W D) H' ∧ H' D = some (.lst av) ∧ DvAll K w.g (hid (hideD W D) H') av ad ∧ lcD gd tt te vs r (Aft K w.g W H Q) (ds.drop i) ad, ⟨ds.length, by simp, Nat.zero_le _, [], [], ?_, ?_, upd_same, .nil, by rw [List.drop_zero]; exact q⟩, ?_⟩
  · exact Ext.of (sm_upd hD)
  · exact S1.ok.bag.lay gn hD
  · rintro i m H' ⟨rfl, hi', av, ad, eH, bg, hD', dva, f⟩
    have SD : Stt K w (hideD W D) own r σ H' := S1.hideD hD eH hD' bg
    have sm : Sm (hid W H1) (hid (hideD W D) H') := fun a o z => by
      obtain ⟨q1, q2⟩ := hid_some z
      have ne : a ≠ D := ne_of_none q2 hD
      rw [hid_no (by rw [hideD_ne ne]; exact q1)]
      exact eH a o (fun z => by rw [S1.ok.gW a z] at q1; cases q1) q2
    have sm' : Sm (hid W H1) H' := fun a o z => (hid_some (sm a o z)).2
    obtain ⟨w1, w2, w3⟩ := wk i H' sm'
    by_cases hl : i < ds.length
    · refine .inr ⟨w1 hl, fun H2 => ∃ av ad, Ext w.g H1 H2 ∧ BagI K w.g (hideD W D) H2 ∧ H2 D = some (.lst av) ∧ DvAll K w.g (hid (hideD W D) H2) av ad ∧ lcD gd tt te vs r (Aft K w.g W H Q) (ds.drop (i + 1)) ad, fun H2 z => ?_, fun x H2 y => ?_⟩
      · exact ⟨ds.length - (i + 1), by omega, rfl, by omega, z⟩
      · obtain ⟨sH, d, hd, dv⟩ := w3 x H2 hl y
        have e2 : Ext w.g H' H2 := Ext.of sH
        have k2 : OkW K w.g (hideD W D) H2 := SD.ok.same sH
        have S2 := (SD.ext e2 k2).wipe vs
        have dvx : Dv K w.g (hid (hideD W D) H2) x d := by
          refine dv _ (fun a o z => e2.hid SD.ok.gW a o (sm a o z)) fun b o nb z => ?_
          rw [hid_no]
          · exact z
          · cases y' : hideD W D b with
            | false => rfl
            | true =>
              obtain ⟨o', z'⟩ := SD.ok.al b y'
              rw [nb] at z'; cases z'
        have ed : ds.drop i = d :: ds.drop (i + 1) := by
          obtain ⟨h1, h2⟩ := List.getElem?_eq_some_iff.mp hd
          rw [List.drop_eq_getElem_cons h1, h2]
        rw [ed] at f
        have hD2 : H2 D = some (.lst av) := sH _ _ hD'
        have dva2 : DvAll K w.g (hid (hideD W D) H2) av ad := DvAll.mono (e2.hid SD.ok.gW) _ _ dva
        refine gmo _ _ _ _ _ ?_ (G.run w (hideD W D) own (wipeD r vs) (L2.wipe σ vs) H2 x d _ S2 dvx f)
        rintro σ3 H3 ⟨rfl, wp, own3, r3, S3, t3⟩
        refine ⟨by rw [wp vs sub, wipe_idem], hideD W D, own3, r3, S3, mt _ _ _ (fun b z H4 e4 k4 => ?_) t3⟩
        have gne : ¬ Bd w.g D := fun z => by
          have z1 := S1.ok.al D (S1.ok.gW D z)
          obtain ⟨o, z2⟩ := z1
          rw [hD] at z2; cases z2
        refine ite_mo (fun z => ?_) (fun z => ?_) z
        · refine ⟨hideD W D, own3, r3, S3.ext e4 k4, me _ _ _ (fun y z v H5 e5 k5 d5 => ?_) z⟩
          have e45 := e4.trans e5
          have hD5 : H5 D = some (.lst av) := e45 D _ gne hD2
          have dva5 : DvAll K w.g (hid (hideD W D) H5) av ad := DvAll.mono (e45.hid k2.gW) _ _ dva2
          have eq : hid (hideD W D) (upd H5 D (.lst (av ++ [v]))) = hid (hideD W D) H5 := by
            funext a
            unfold hid
            by_cases z : a = D
            · subst z; rw [hideD_at, if_pos rfl, if_pos rfl]
            · rw [upd_ne z]
          refine ⟨av, hD5, by rw [dva.len]; exact z.1, av ++ [v], ad ++ [y], ⟨fun b o nb hb => ?_, fun a xs ha hx => ?_⟩, k5.bag.upd gne hideD_at (fun φ z => by rw [hD5] at z; cases z), upd_same, by rw [eq]; exact dva5.app (.cons d5 .nil), z.2⟩
          · have ne : b ≠ D := ne_of_none hb hD
            rw [upd_ne ne]
            exact (eH.trans (e2.trans e45)) b o nb hb
          · have ne : a ≠ D := fun z => gne (.inl (z ▸ ha))
            rw [upd_ne ne]
            exact (eH.trans (e2.trans e45)).last a xs ha hx
        · exact ⟨av, ad, eH.trans (e2.trans e4), k4.bag, e4 D _ gne hD2, DvAll.mono (e4.hid k2.gW) _ _ dva2, z⟩
    · refine .inl ⟨w2 (by omega), ?_⟩
      have ed : ds.drop i = [] := List.drop_eq_nil_of_le (by omega)
      rw [ed] at f
      have kW : OkW K w.g W H' := ⟨bg.less fun a h => hideD_le h, S1.ok.gW, fun a ha => SD.ok.al a (hideD_le ha)⟩
      have Wd' : W D = false := by
        cases y' : W D with
        | false => rfl
        | true =>
          obtain ⟨o', z'⟩ := S1.ok.al D y'
          rw [hD] at z'; cases z'
      refine f _ H' (e1.trans eH) kW (.lst (by rw [hid_no Wd']; exact hD') (DvAll.mono (hid_le fun a h => hideD_le h) _ _ dva))

theorem ped_lc {elt tg iter : Expr} {ifs : List Expr} {scope : Scope} {own : List (Str × Nat)} {g : TG} {gd : TDG} {gvs : List Nat} {wd : TDI} {tt : TDT} {te : TDE} (hN : X.N.Nodup) (hi : PId X w tg iter wd) (ok : BlkOk X.N X.env.scope scope own) (G : GDt X.K g gd gvs) (gmo : ∀ v σ H Q Q', (∀ a b, Q a b → Q' a b) → g v σ H Q → g v σ H Q') (sub : ∀ i ∈ gvs, i ∈ own.map (·.2))
    (hg : ∀ (s : Shared) (H : Hp) (C : Addr) (cl : List (Str × Addr)) (fp : List Addr), PG (X.blk s H scope (compEnvC scope cl C X.env) fp) tg g)
    (ht : ∀ (s : Shared) (H : Hp) (C : Addr) (cl : List (Str × Addr)) (fp : List Addr), PTsd (X.blk s H scope (compEnvC scope cl C X.env) fp) w ifs tt)
    (he : ∀ (s : Shared) (H : Hp) (C : Addr) (cl : List (Str × Addr)) (fp : List Addr), PEd (X.blk s H scope (compEnvC scope cl C X.env) fp) w elt te)
    (s0 : Shared) (hc : X.calm = true := by rfl) (hs : ∀ x, foldedSetIterable iter X.env x = pure x := by intro _; rfl) :
    PEd X w (.ListComp elt [⟨tg, iter, ifs, 0⟩] scope pos) (dLc wd gd tt te (own.map (·.2))) := by
  have mt := (ht s0 (fun _ => none) 0 [] []).mo
  have me := (he s0 (fun _ => none) 0 [] []).mo
  refine ⟨weE (pe_lc (tt := liT X.K w tt) (te := liE X.K w te) hc hN hi.pi ok hg (fun s H C cl fp => (ht s H C cl fp).pt) (fun s H C cl fp => (he s H C cl fp).pe) hs) fun σ H Q h => lc_in G gmo sub mt me hi.mo h, fun r Q Q' q h => hi.mo _ _ _ (fun ds => lcD_mo G mt me q ds []) h⟩
/-- name = [..] -/
theorem psd_setLc {i : Nat} {y : Str} {py spos : Pos} {elt tg iter : Expr} {ifs : List Expr} {scope : Scope} {own : List (Str × Nat)} {g : TG} {gd : TDG} {gvs : List Nat} {wd : TDI} {tt : TDT} {te : TDE} (hN : X.N.Nodup) (hi : PId X w tg iter wd) (ok : BlkOk X.N X.env.scope scope own) (G : GDt X.K g gd gvs) (gmo : ∀ v σ H Q Q', (∀ a b, Q a b → Q' a b) → g v σ H Q → g v σ H Q') (sub : ∀ i ∈ gvs, i ∈ own.map (·.2))
    (hg : ∀ (s : Shared) (H : Hp) (C : Addr) (cl : List (Str × Addr)) (fp : List Addr), PG (X.blk s H scope (compEnvC scope cl C X.env) fp) tg g)
    (ht : ∀ (s : Shared) (H : Hp) (C : Addr) (cl : List (Str × Addr)) (fp : List Addr), PTsd (X.blk s H scope (compEnvC scope cl C X.env) fp) w ifs tt)
    (he : ∀ (s : Shared) (H : Hp) (C : Addr) (cl : List (Str × Addr)) (fp : List Addr), PEd (X.blk s H scope (compEnvC scope cl C X.env) fp) w elt te)
    (s0 : Shared) (hsw : swapsWith (.ListComp elt [⟨tg, iter, ifs, 0⟩] scope pos) (some (.Name y py)) spos.line X.env = pure true) (hy : X.N[i]? = some y := by rfl) (hyl : X.env.scope.names.lookup y = some .local := by rfl) (hc : X.calm = true := by rfl) (hs : ∀ x, foldedSetIterable iter X.env x = pure x := by intro _; rfl) :
    PSd X w (.Assign [.Name y py] (.ListComp elt [⟨tg, iter, ifs, 0⟩] scope pos) spos) (dSet (dLc wd gd tt te (own.map (·.2))) i) := by
  have mt := (ht s0 (fun _ => none) 0 [] []).mo
  have me := (he s0 (fun _ => none) 0 [] []).mo
  have mE : ∀ r Q Q', (∀ d, Q d → Q' d) → dLc wd gd tt te (own.map (·.2)) r Q → dLc wd gd tt te (own.map (·.2)) r Q' := fun r Q Q' q h => hi.mo _ _ _ (fun ds => lcD_mo G mt me q ds []) h
  refine ⟨weS (ps_setLc (i := i) (tt := liT X.K w tt) (te := liE X.K w te) hc hN hy hyl hsw hi.pi ok hg (fun s H C cl fp => (ht s H C cl fp).pt) (fun s H C cl fp => (he s H C cl fp).pe) hs) ?_, fun E E' r l h => mE _ _ _ (fun d => l.nx _) h⟩
  rintro D σ H ⟨W, own', r, S, h⟩
  refine lc_in G gmo sub mt me hi.mo ⟨W, own', r, S, mE _ _ _ (fun d z v H1 e1 k1 d1 => ?_) h⟩
  obtain ⟨o2, S2⟩ := (S.ext e1 k1).set (i := i) d1
  exact z W o2 _ H1 (.of k1 e1) S2
end

/-! ### a def by its data promise -/
def startD (N : List Str) (ds : List Da) : En := ds.map .dat ++ List.replicate (N.length - ds.length) .no
theorem start_stt {K : PySem.W.Frag} {g : Gd} {W : Addr → Bool} {H : Hp} {N : List Str} {vs : List V} {ds : List Da} (k : OkW K g W H) (dv : DvAll K g (hid W H) vs ds) : Stt K ⟨H, g, W⟩ W (fun _ _ => False) (startD N ds) (start N vs) H := by
  refine ⟨k, Ext.refl, fun _ h => h, k.gW, (fun _ h => .inl h), (fun i a h => h.elim), (fun i j a h => h.elim), ?_, fun i d h n => ?_⟩
  · unfold startD L2.start
    rw [List.length_append, List.length_append, List.length_map, List.length_map, List.length_replicate, List.length_replicate, dv.len]
  · unfold startD at h
    by_cases hi : i < ds.length
    · rw [List.getElem?_append_left (by rw [List.length_map]; exact hi), List.getElem?_map] at h
      cases q : ds[i]? with
      | none => rw [q] at h; cases h
      | some d' =>
        rw [q] at h
        cases h
        obtain ⟨v, h1, h2⟩ := dv.at q
        refine ⟨v, ?_, h2⟩
        unfold L2.start
        have hv : i < vs.length := by rw [dv.len]; exact hi
        rw [List.getElem?_append_left (by rw [List.length_map]; exact hv), List.getElem?_map, h1]
        rfl
    · rw [List.getElem?_append_right (by rw [List.length_map]; omega), List.getElem?_replicate] at h
      split at h
      · cases h
        exact absurd rfl n
      · cases h
theorem defD {P : Program} {wd : World} {K : PySem.W.Frag} {mg : Str → Option Value} {base : Heap} {x qual : Str} {st : Stmt} {f : Addr} {fd : FuncData} {N ps : List Str} {k : Nat} {p : DSp}
    (F : Fun K x qual st f fd) (S : FnScope N ps (defScope st)) (len : ∀ ds Q, p ds Q → ds.length = ps.length) (mp : MoP p)
    (inside : ∀ (cdv : Value) (A : Around) (outer : List Env) (s0 : Shared) (H : Hp) (E : XK) (w : Wd) (ds : List Da) (Q : Da → Prop), Room k (A.deeper (envOfC qual (defScope st) s0.heap.objs.size f cdv)) → A.guards = some [] → p ds Q →
      ∃ t, PSsd (cxOf CX0 P wd K mg base N qual (defScope st) f cdv A outer s0 H E).nox w (defBody st) t ∧ t { nx := fun _ => Q .non, rt := Q } (startD N ds)) :
    FnG P wd K mg base CX0 (k + 1) f fd ps (liP K p) := by
  refine FunG.ok F S ?_ ?_
  · rintro vs H Q E ⟨g, W, ds, k1, dv, h⟩
    rw [dv.len]
    exact len _ _ h
  · rintro cdv A outer s0 H vs Q E room hG ⟨g, W, ds, k1, dv, h⟩
    obtain ⟨t, ht, hq⟩ := inside cdv A outer s0 H E ⟨H, g, W⟩ ds _ room hG h
    refine ⟨_, ht.ps, W, fun _ _ => False, startD N ds, start_stt k1 dv, ht.mo { nx := fun _ => Aft K g W H Q .non, rt := Aft K g W H Q } _ _ ⟨fun r' q W' o' σ' H' g' S' => ?_, fun d q v H' e1 k2 d2 => q v H' e1 k2 d2, fun _ q => q.elim, fun _ q => q.elim⟩ hq⟩
    have z := ret_ok (E := { nx := fun _ H' => Q .non H', rt := Q }) (d := .non) (v := V.non) S' (fun v H1 e1 k2 d2 => q v H1 e1 k2 d2) H' Ext.refl S'.ok .non
    exact z
end Pd
/-! Built-ins on data. -/
namespace Pd
open PySem PySem.Spec PyProof.Rows L2

/-- lists and tuples -/
def seqOf : Da → Option (List Da)
  | .lst xs => some xs
  | .tup xs => some xs
  | .tpw xs => some xs
  | _ => none
section
variable {K : PySem.W.Frag} {g : Gd} {W : Addr → Bool} {H : Hp}
theorem seq_sq {v : V} {d : Da} {ds : List Da} (h : Dv K g (hid W H) v d) (e : seqOf d = some ds) : ∃ a xs, v = .ref a ∧ (SqL K H a xs ∨ SqT K H a xs) ∧ DvAll K g (hid W H) xs ds := by
  unfold seqOf at e
  split at e
  · cases e
    cases h with
    | lst h1 h2 => exact ⟨_, _, rfl, .inl (SqL.of (hid_some h1).2), h2⟩
  · cases e
    cases h with
    | tup h1 h2 => exact ⟨_, _, rfl, .inr (sq_hid h1.sq), h2⟩
  · cases e
    cases h with
    | tpw h1 h2 => exact ⟨_, _, rfl, .inr (sq_hid h1), h2⟩
  · cases e
theorem DvAll.one {vs : List V} {d : Da} (h : DvAll K g H vs [d]) : ∃ v, vs = [v] ∧ Dv K g H v d := by
  cases h with
  | cons a t => cases t; exact ⟨_, rfl, a⟩
theorem DvAll.two {vs : List V} {d e : Da} (h : DvAll K g H vs [d, e]) : ∃ v u, vs = [v, u] ∧ Dv K g H v d ∧ Dv K g H u e := by
  cases h with
  | cons a t =>
    cases t with
    | cons b t => cases t; exact ⟨_, _, rfl, a, b⟩
end
section
variable {X : Cx} {w : Wd} {e : Expr} {es : List Expr} {p pos : Pos} {t : TDA}

/-! ### len, abs, int, tuple, list, sum -/
def lenD : DB := fun ds Q => ∃ x, ds = [x] ∧ ((∃ xs, seqOf x = some xs ∧ Q (.int (xs.length : Nat))) ∨ ∃ z, x = .str z ∧ z.length ≤ sizeLine ∧ Q (.int (z.length : Nat)))
theorem lenD_mo : MoP lenD := fun ds Q Q' q ⟨x, h1, h⟩ => ⟨x, h1, h.elim (fun ⟨xs, a, b⟩ => .inl ⟨xs, a, q _ b⟩) fun ⟨z, a, b, c⟩ => .inr ⟨z, a, b, q _ c⟩⟩
theorem ped_len (hm : X.mg "len" = none) (args : PAd X w (e :: es) t) (hg : Gl X "len" := by rfl) (he : starEach (e :: es) X.env = (false, eval e X.env) :: starEach es X.env := by rfl) (hpl : (backTo pos (starEach es X.env)).any (·.1) = false := by rfl) :
    PEd X w (.Call (.Name "len" p) (e :: es) [] pos) (dCall lenD t) := by
  refine ped_callB call_len lenD_mo ?_ hm PySem.boot_len args hg (by decide) (by decide) he hpl
  rintro g W H vs ds Q k dv ⟨x, rfl, h⟩
  obtain ⟨v, rfl, dx⟩ := dv.one
  rcases h with ⟨xs, h1, h2⟩ | ⟨z, rfl, h1, h2⟩
  · obtain ⟨a, us, rfl, hq, hd⟩ := seq_sq dx h1
    refine ⟨_, us.length, rfl, ?_, h2.now k ?_⟩
    · rcases hq with hq | hq
      · exact .inl ⟨us, hq, rfl⟩
      · exact .inr ⟨us, hq, rfl⟩
    · rw [hd.len]
      exact .int _
  · cases dx
    exact ⟨_, z.length, rfl, ⟨h1, rfl⟩, h2.now k (.int _)⟩
def intFD : DB := fun ds Q => (∃ i, ds = [.int i] ∧ Q (.int i)) ∨ ∃ b, ds = [.bl b] ∧ Q (.int (if b then 1 else 0))
theorem ped_intF (hm : X.mg "int" = none) (args : PAd X w (e :: es) t) (hg : Gl X "int" := by rfl) (he : starEach (e :: es) X.env = (false, eval e X.env) :: starEach es X.env := by rfl) (hpl : (backTo pos (starEach es X.env)).any (·.1) = false := by rfl) :
    PEd X w (.Call (.Name "int" p) (e :: es) [] pos) (dCall intFD t) := by
  refine ped_callTy call_int1 (fun ds Q Q' q h => h.elim (fun ⟨i, a, b⟩ => .inl ⟨i, a, q _ b⟩) fun ⟨i, a, b⟩ => .inr ⟨i, a, q _ b⟩) ?_ hm (by decide +kernel) args hg (by decide) (by decide) he hpl
  rintro g W H vs ds Q k dv h
  rcases h with ⟨i, rfl, h⟩ | ⟨i, rfl, h⟩
  · obtain ⟨v, rfl, dx⟩ := dv.one
    cases dx
    exact .inl ⟨i, rfl, h.now k (.int _)⟩
  · obtain ⟨v, rfl, dx⟩ := dv.one
    cases dx
    exact .inr ⟨i, rfl, h.now k (.int _)⟩
def tupFD : DB := fun ds Q => ∃ x, ds = [x] ∧ ((∃ xs, x = .lst xs ∧ Q (.tup xs)) ∨ ∃ xs, x = .tup xs ∧ Q (.tup xs))
theorem ped_tupF (hm : X.mg "tuple" = none) (args : PAd X w (e :: es) t) (hg : Gl X "tuple" := by rfl) (he : starEach (e :: es) X.env = (false, eval e X.env) :: starEach es X.env := by rfl) (hpl : (backTo pos (starEach es X.env)).any (·.1) = false := by rfl) :
    PEd X w (.Call (.Name "tuple" p) (e :: es) [] pos) (dCall tupFD t) := by
  refine ped_callTy cr_tupS (fun ds Q Q' q ⟨x, a, h⟩ => ⟨x, a, h.elim (fun ⟨i, a, b⟩ => .inl ⟨i, a, q _ b⟩) fun ⟨i, a, b⟩ => .inr ⟨i, a, q _ b⟩⟩) ?_ hm (by decide +kernel) args hg (by decide) (by decide) he hpl
  rintro g W H vs ds Q k dv ⟨x, rfl, h⟩
  obtain ⟨v, rfl, dx⟩ := dv.one
  rcases h with ⟨xs, rfl, h⟩ | ⟨xs, rfl, h⟩
  · cases dx with
    | lst a1 a2 => exact ⟨_, _, rfl, .inl ⟨SqL.of (hid_some a1).2, h.newT k a2⟩⟩
  · cases dx with
    | tup a1 a2 => exact ⟨_, _, rfl, .inr ⟨sq_hid a1.sq, h.now k (.tup a1 a2)⟩⟩
def lstFD : DB := fun ds Q => ∃ x xs, ds = [x] ∧ seqOf x = some xs ∧ Q (.lst xs)
theorem ped_lstF (hm : X.mg "list" = none) (args : PAd X w (e :: es) t) (hg : Gl X "list" := by rfl) (he : starEach (e :: es) X.env = (false, eval e X.env) :: starEach es X.env := by rfl) (hpl : (backTo pos (starEach es X.env)).any (·.1) = false := by rfl) :
    PEd X w (.Call (.Name "list" p) (e :: es) [] pos) (dCall lstFD t) := by
  refine ped_callTy call_list_of (fun ds Q Q' q ⟨x, xs, a, b, h⟩ => ⟨x, xs, a, b, q _ h⟩) ?_ hm (by decide +kernel) args hg (by decide) (by decide) he hpl
  rintro g W H vs ds Q k dv ⟨x, xs, rfl, h1, h⟩
  obtain ⟨v, rfl, dx⟩ := dv.one
  obtain ⟨a, us, rfl, hq, hd⟩ := seq_sq dx h1
  exact ⟨a, us, rfl, hq, fun l nl => h.newL k nl hd⟩
/-! ### sorted -/
def srtOk (ds : List Da) : Prop := canPs ds = true ∧ PySem.W.AllAlike (ds.map toP) ∧ PySem.W.Sortable (ds.map toP) ∧ (∀ d ∈ ds, (toP d).depth ≤ 60) ∧ ds.length ≤ sizeLine
def srt (ds : List Da) : List Da := ds.mergeSort (PySem.W.dataLe false toP)
def sortD : DB := fun ds Q => ∃ x xs, ds = [x] ∧ x = .lst xs ∧ srtOk xs ∧ Q (.lst (srt xs))
theorem each_dv {K : PySem.W.Frag} {g : Gd} {H : Hp} : ∀ {xs : List V} {ds : List Da} {its : List Value}, DvAll K g H xs ds → Vals xs its → PySem.W.EachIs (fun u d => ∃ v, RelV v u ∧ Dv K g H v d) its ds
  | _, _, _, .nil, .nil => .nil
  | _, _, _, .cons a t, .cons b u => .cons ⟨_, b, a⟩ (each_dv t u)
theorem dv_each {K : PySem.W.Frag} {g : Gd} {H : Hp} : ∀ {its : List Value} {ds : List Da}, PySem.W.EachIs (fun u d => ∃ v, RelV v u ∧ Dv K g H v d) its ds → ∃ xs, Vals xs its ∧ DvAll K g H xs ds
  | _, _, .nil => ⟨[], .nil, .nil⟩
  | _, _, .cons ⟨v, a, b⟩ t => by
    obtain ⟨xs, h1, h2⟩ := dv_each t
    exact ⟨v :: xs, .cons a h1, .cons b h2⟩
theorem readsAll_toP {h : Heap} : ∀ {ds : List Da} {vs : List Value} {as : List Addr}, ReadsAll h vs (toPs ds) as → PySem.W.EachIs (fun v d => ∃ as, Reads h v (toP d) as) vs ds
  | [], _, _, r => by rw [toPs] at r; cases r; exact .nil
  | d :: ds, _, _, r => by
    rw [toPs] at r
    cases r with
    | cons h1 h2 => exact .cons ⟨_, h1⟩ (readsAll_toP h2)
/-- sorted, by values -/
def rSortD (K : PySem.W.Frag) : List V → Hp → VK → Prop := fun vs H Q => ∃ (g : Gd) (Hh : Hp) (a : Addr) (xs : List V) (ds : List Da), vs = [.ref a] ∧ Sm Hh H ∧ H a = some (.lst xs) ∧ DvAll K g Hh xs ds ∧ srtOk ds ∧ ∀ ys p, DvAll K g Hh ys (srt ds) → H p = none → Q (.ref p) (upd H p (.lst ys))
theorem cr_sortD {k : Nat} (hr : Room k X.A) : CallR X (.builtin "sorted") (rSortD X.K) := by
  intro pins s σ H vs us Q I r h
  obtain ⟨g, Hh, a, xs, ds, rfl, sm, ha, dv, ⟨c1, c2, c3, c4, c5⟩, q⟩ := h
  obtain ⟨its, rv, hl, hz⟩ := I.list (SqL.of ha)
  rw [Vals.ref1 r]
  have dvH : DvAll X.K g H xs ds := DvAll.mono sm _ _ dv
  obtain ⟨as, ra⟩ := Dp.readsAll I (toPs ds) xs its (DvAll.dp ds xs dvH c1) rv
  refine PySem.W.sorted_data (β := Da) (enc := toP) (R := fun u d => ∃ v, RelV v u ∧ Dv X.K g Hh v d) hl.isList (each_dv dv rv) (readsAll_toP ra) c2 c3 c5 (fun d hd => ?_) (fun out h1 h2 => ?_)
  · have := hr.un
    have := c4 d hd
    omega
  · obtain ⟨ys, y1, y2⟩ := dv_each h2
    obtain ⟨ep, he'⟩ := PyProof.Rows.sortedAll_at s.heap its out.toArray
    have hlen : ys.length ≤ sizeLine := by rw [y1.length, h1]; exact c5
    have new : ObjOk X.prog X.w (upd H (s.heap.objs.size + 1) (.lst ys)) (sortedAll s.heap its out.toArray) (s.heap.objs.size + 1) (.lst ys) := ⟨hlen, out, ep, y1, he'⟩
    exact ⟨.ref _, _, I.laid (t' := s.toks) (fun _ _ => PyProof.Rows.sortedAll_old) (Nat.le_succ _) new, rfl, q ys _ y2 (I.hok.fresh (Nat.le_succ _))⟩
theorem ped_sorted {k : Nat} (hr : Room k X.A) (hm : X.mg "sorted" = none) (args : PAd X w (e :: es) t) (hg : Gl X "sorted" := by rfl) (he : starEach (e :: es) X.env = (false, eval e X.env) :: starEach es X.env := by rfl) (hpl : (backTo pos (starEach es X.env)).any (·.1) = false := by rfl) :
    PEd X w (.Call (.Name "sorted" p) (e :: es) [] pos) (dCall sortD t) := by
  refine ped_callB (cr_sortD hr) (fun ds Q Q' q ⟨x, xs, a, b, c, h⟩ => ⟨x, xs, a, b, c, q _ h⟩) ?_ hm (by decide +kernel) args hg (by decide) (by decide) he hpl
  rintro g W H vs ds Q k dv ⟨x, xs, rfl, rfl, c, h⟩
  obtain ⟨v, rfl, dx⟩ := dv.one
  cases dx with
  | lst a1 a2 =>
    exact ⟨g, hid W H, _, _, xs, rfl, hid_sub, (hid_some a1).2, a2, c, fun ys p dy np => h.newL k np dy⟩

/-! ### repr -/
def shwOk (x : Da) : Prop := canP x = true ∧ (toP x).showable = true ∧ (toP x).depth ≤ 60 ∧ (toP x).shown.length ≤ sizeLine
def reprD : DB := fun ds Q => ∃ x, ds = [x] ∧ shwOk x ∧ Q (.str (toP x).shown)
mutual
theorem noDict_toP : ∀ d : Da, canP d = true → (toP d).hasDict = false
  | .non, _ => by rw [toP, PyData.hasDict]
  | .bl _, _ => by rw [toP, PyData.hasDict]
  | .int _, _ => by rw [toP, PyData.hasDict]
  | .str _, _ => by rw [toP, PyData.hasDict]
  | .lst xs, h => by rw [toP, PyData.hasDict]; rw [canP] at h; exact noDict_toPs xs h
  | .tup xs, h => by rw [toP, PyData.hasDict]; rw [canP] at h; exact noDict_toPs xs h
  | .tpw xs, h => by rw [toP, PyData.hasDict]; rw [canP] at h; exact noDict_toPs xs h
  | .dct _, h => by rw [canP] at h; cases h
  | .bag, h => by rw [canP] at h; cases h
  | .raw _, h => by rw [canP] at h; cases h
  | .fix _, h => by rw [canP] at h; cases h
theorem noDict_toPs : ∀ ds : List Da, canPs ds = true → PyData.hasDictAll (toPs ds) = false
  | [], _ => by rw [toPs, PyData.hasDictAll]
  | d :: ds, h => by
    rw [canPs, Bool.and_eq_true] at h
    rw [toPs, PyData.hasDictAll, noDict_toP d h.1, noDict_toPs ds h.2]
    rfl
end
def rReprD (K : PySem.W.Frag) : List V → Hp → VK → Prop := fun vs H Q => ∃ v d, vs = [v] ∧ Dp K H v d ∧ d.showable = true ∧ d.hasDict = false ∧ d.depth ≤ 60 ∧ d.shown.length ≤ sizeLine ∧ Q (.str d.shown) H
theorem cr_reprD {k : Nat} (hr : Room k X.A) (hG : X.A.guards = some []) : CallR X (.builtin "repr") (rReprD X.K) := by
  intro pins s σ H vs us Q I r h
  obtain ⟨v, d, rfl, dp, hs, hn, hd, hz, q⟩ := h
  obtain ⟨u, rfl, ru⟩ := vals1 r
  obtain ⟨as, rd⟩ := Dp.reads I d v u dp ru
  have un := hr.un
  have refs : ∀ a : Addr, u = .ref a → wpAny (model X.prog X.w) X.A (call (.builtin "repr") [u]) (EP X pins σ Q) X.xe s := by
    rintro a rfl
    refine repr_of_reads' (h₀ := s.heap) rd hs (PyData.noDict_hsm hn) hG (by omega) (fun _ _ e => e) (fun h' u' tk hk => ?_) hz
    exact ⟨.str d.shown, H, I.kept hk, ⟨u', rfl⟩, q⟩
  have fin : ∀ (x : Str), x = d.shown → EP X pins σ Q (.str x s.toks) { s with toks := s.toks + 1 } := fun x e => ⟨.str d.shown, H, I.tok _, ⟨s.toks, by rw [e]⟩, q⟩
  cases rd with
  | none => exact PySem.P.repr_of_none (fin _ (by rw [PyData.shown]))
  | bool b => exact PySem.P.repr_of_bool (fin _ (by rw [PyData.shown]))
  | int i tk => exact PySem.P.repr_of_int (by rw [PyData.showable] at hs; exact of_decide_eq_true hs) (fin _ (by rw [PyData.shown]))
  | str x tk => exact PySem.P.repr_of_str (fin _ (by rw [PyData.shown])) (by rw [PyData.shown] at hz; exact hz)
  | list _ _ _ _ => exact refs _ rfl
  | tuple _ _ _ _ => exact refs _ rfl
  | dict _ _ _ _ _ => exact refs _ rfl
theorem ped_repr {k : Nat} (hr : Room k X.A) (hG : X.A.guards = some []) (hm : X.mg "repr" = none) (args : PAd X w (e :: es) t) (hg : Gl X "repr" := by rfl) (he : starEach (e :: es) X.env = (false, eval e X.env) :: starEach es X.env := by rfl) (hpl : (backTo pos (starEach es X.env)).any (·.1) = false := by rfl) :
    PEd X w (.Call (.Name "repr" p) (e :: es) [] pos) (dCall reprD t) := by
  refine ped_callB (cr_reprD hr hG) (fun ds Q Q' q ⟨x, a, b, h⟩ => ⟨x, a, b, q _ h⟩) ?_ hm (by decide +kernel) args hg (by decide) (by decide) he hpl
  rintro g W H vs ds Q k dv ⟨x, rfl, ⟨c1, c2, c3, c4⟩, h⟩
  obtain ⟨v, rfl, dx⟩ := dv.one
  exact ⟨v, toP x, rfl, Dv.dp x v (Dv.mono hid_sub _ _ dx) c1, c2, noDict_toP x c1, c3, c4, h.now k (.str _)⟩
end
end Pd
/-! Slices, dicts, count. -/
namespace Pd
open PySem PySem.Spec PyProof.Rows L2

/-! ### slices -/
def cutD (xs : List Da) (lo hi : Option Int) : List Da := (xs.drop (HT.sIx xs.length 0 lo)).take (HT.sIx xs.length xs.length hi - HT.sIx xs.length 0 lo)
theorem DvAll.cut {K : PySem.W.Frag} {g : Gd} {H : Hp} {xs : List V} {ds : List Da} (h : DvAll K g H xs ds) (lo hi : Option Int) : DvAll K g H (cutV xs lo hi) (cutD ds lo hi) := by
  unfold cutV cutD
  rw [h.len]
  exact (h.dr _).tk _
theorem cutV_all {xs : List V} {lo hi : Option Int} (h1 : HT.sIx xs.length 0 lo = 0) (h2 : HT.sIx xs.length xs.length hi = xs.length) : cutV xs lo hi = xs := by
  unfold cutV
  rw [h1, h2, List.drop_zero, Nat.sub_zero, List.take_length]
abbrev TDO := En → (Option Int → Prop) → Prop
def liO (K : PySem.W.Frag) (w : Wd) (t : TDO) : TO := fun σ H Q => ∃ W own r, Stt K w W own r σ H ∧ t r fun o => ∀ H', Ext w.g H H' → OkW K w.g W H' → Q o H'
structure POd (X : Cx) (w : Wd) (o : Option Expr) (t : TDO) : Prop where
  po : PO X o (liO X.K w t)
  mo : ∀ r Q Q', (∀ b, Q b → Q' b) → t r Q → t r Q'
section
variable {X : Cx} {w : Wd} {e a : Expr} {es : List Expr} {p pos p2 : Pos} {te ty : TDE}
def dNoP : TDO := fun _ Q => Q none
def dPart (t : TDE) : TDO := fun r Q => t r fun d => ∃ i, d = .int i ∧ Q (some i)
theorem pod_none : POd X w none dNoP := by
  refine ⟨⟨fun pins s σ H Q I h => po_none.run pins s σ H Q I ?_⟩, fun r Q Q' q h => q _ h⟩
  obtain ⟨W, own, r, S, h⟩ := h
  exact h H Ext.refl S.ok
theorem pod_some (h : PEd X w e te) : POd X w (some e) (dPart te) := by
  refine ⟨⟨fun pins s σ H Q I q => (po_some h.pe).run pins s σ H Q I ?_⟩, fun r Q Q' q z => h.mo _ _ _ (fun d ⟨i, a, b⟩ => ⟨i, a, q _ b⟩) z⟩
  obtain ⟨W, own, r, S, q⟩ := q
  refine go1 h S q fun x v H1 e1 k1 d1 z => ?_
  obtain ⟨i, rfl, z⟩ := z
  cases d1
  exact ⟨i, rfl, z H1 e1 k1⟩
def slD (x : Da) (lo hi : Option Int) (Q : Da → Prop) : Prop := match x with
  | .lst xs => Q (.lst (cutD xs lo hi))
  | .tup xs => Q (.tup (cutD xs lo hi))
  | .str z => z.length ≤ sizeLine ∧ Q (.str (cutS z lo hi))
  | _ => False
theorem slD_mo {x : Da} {lo hi : Option Int} {Q Q' : Da → Prop} (q : ∀ d, Q d → Q' d) (h : slD x lo hi Q) : slD x lo hi Q' := by
  unfold slD at h ⊢
  split at h
  · exact q _ h
  · exact q _ h
  · exact ⟨h.1, q _ h.2⟩
  · exact h.elim
/-- a slice of a tuple, its object told -/
def rSlT2 (K : PySem.W.Frag) : V → Option Int → Option Int → Hp → VK → Prop := fun x lo hi H Q => ∃ a xs, x = .ref a ∧ SqT K H a xs ∧
  (HT.sIx xs.length 0 lo = 0 ∧ HT.sIx xs.length xs.length hi = xs.length → Q (.ref a) H) ∧ NewT (cutV xs lo hi) H Q
theorem sl_tup2 : SlR X (rSlT2 X.K) := by
  intro pins s σ H x v vl vu lo hi sl Q I rx hs pl pu h
  obtain ⟨c, xs, rfl, hx, q1, q2⟩ := h
  cases rx
  obtain ⟨its, r, ht, hz⟩ := I.tuple hx
  have hlen : its.toArray.size = xs.length := by rw [List.size_toArray]; exact r.length.symm
  refine ⟨"tuple", _, PyProof.Rows.slot_tuple_getitem.lookup, ht.typeIs, ?_⟩
  by_cases hw : HT.sIx xs.length 0 lo = 0 ∧ HT.sIx xs.length xs.length hi = xs.length
  · exact getItem_tuple_whole ht hs pl pu (by rw [hlen]; exact hw) ⟨.ref c, H, I, rfl, q1 hw⟩
  · refine HT.getItem_tuple_cut ht hs pl pu (by rw [hlen]; exact hw) ?_ (by rw [hlen]; exact hz)
    rw [hlen]
    have rc : Vals (cutV xs lo hi) ((its.drop (HT.sIx xs.length 0 lo)).take (HT.sIx xs.length xs.length hi - HT.sIx xs.length 0 lo)) := (r.drop _).take _
    exact new_tup I rc (Nat.le_trans (cutV_length xs lo hi) hz) q2
def dSl (t : TDE) (lo hi : TDO) : TDE := fun r Q => t r fun x => lo r fun l => hi r fun u => slD x l u Q
theorem ped_slice {l h : Option Expr} {tl th : TDO} (he : PEd X w e te) (hl : POd X w l tl) (hh : POd X w h th) : PEd X w (.Subscript e (.Slice l h none p2) pos) (dSl te tl th) := by
  refine ⟨weE (pe_slice ((sl_list.or sl_tup2).or sl_str) he.pe hl.po hh.po) ?_, fun r Q Q' q z => he.mo _ _ _ (fun x => hl.mo _ _ _ fun i => hh.mo _ _ _ fun j => slD_mo q) z⟩
  rintro σ H Q ⟨W, own, r, S, z⟩
  refine go1 he S z fun x v H1 e1 k1 d1 z => ?_
  refine ⟨W, own, r, S.ext e1 k1, hl.mo _ _ _ (fun i z H2 e2 k2 => ?_) z⟩
  refine ⟨W, own, r, (S.ext e1 k1).ext e2 k2, hh.mo _ _ _ (fun j z H3 e3 k3 => ?_) z⟩
  have dx : Dv X.K w.g (hid W H3) v x := Dv.mono ((e2.trans e3).hid k1.gW) _ _ d1
  have z' : slD x i j (Aft X.K w.g W H3 Q) := slD_mo (fun d q => q.then (e1.trans (e2.trans e3))) z
  unfold slD at z'
  split at z'
  · cases dx with
    | lst a1 a2 => exact .inl (.inl ⟨_, _, rfl, SqL.of (hid_some a1).2, fun p np => z'.newL k3 np (a2.cut i j)⟩)
  · cases dx with
    | tup a1 a2 =>
      refine .inl (.inr ⟨_, _, rfl, sq_hid a1.sq, fun hw => ?_, z'.newT k3 (a2.cut i j)⟩)
      have e0 := cutV_all hw.1 hw.2
      have a3 := a2.cut i j
      rw [e0] at a3
      exact z'.now k3 (.tup a1 a3)
  · cases dx
    exact .inr ⟨_, rfl, z'.1, z'.2.now k3 (.str _)⟩
  · exact z'.elim

/-! ### dicts -/
def kD : Key → Da
  | .inl i => .int i
  | .inr x => .str x
def valD (kvs : List (Key × Da)) (k : Key) : Option Da := (kvs.find? fun kv => decide (kv.1 = k)).map (·.2)
def putD (kvs : List (Key × Da)) (k : Key) (v : Da) : List (Key × Da) :=
  if (kvs.any fun kv => decide (kv.1 = k)) = true then kvs.map (fun kv => if kv.1 = k then (kv.1, v) else kv) else kvs ++ [(k, v)]
theorem KvAll.val {K : PySem.W.Frag} {g : Gd} {H : Hp} {k : Key} : ∀ {kvs : List (Key × V)} {ds : List (Key × Da)} {d : Da}, KvAll K g H kvs ds → valD ds k = some d → ∃ v, valV kvs k = some v ∧ Dv K g H v d
  | _, _, _, .nil, h => by cases h
  | _, _, d, .cons (k := k') (v := v) (vs := vs) (d := d') (ds := ds) a t, h => by
    by_cases e : k' = k
    · have : valD ((k', d') :: ds) k = some d' := by simp [valD, List.find?_cons, e]
      rw [this] at h
      cases h
      exact ⟨v, valV_pos e, a⟩
    · have : valD ((k', d') :: ds) k = valD ds k := by simp [valD, List.find?_cons, e]
      rw [this] at h
      obtain ⟨u, h1, h2⟩ := t.val h
      exact ⟨u, by rw [valV_neg e]; exact h1, h2⟩
theorem KvAll.app {K : PySem.W.Frag} {g : Gd} {H : Hp} : ∀ {kvs xs : List (Key × V)} {ds es : List (Key × Da)}, KvAll K g H kvs ds → KvAll K g H xs es → KvAll K g H (kvs ++ xs) (ds ++ es)
  | _, _, _, _, .nil, q => q
  | _, _, _, _, .cons a t, q => .cons a (t.app q)
theorem KvAll.anyK {K : PySem.W.Frag} {g : Gd} {H : Hp} {k : Key} : ∀ {kvs : List (Key × V)} {ds : List (Key × Da)}, KvAll K g H kvs ds → (kvs.any fun kv => decide (kv.1 = k)) = ds.any fun kv => decide (kv.1 = k)
  | _, _, .nil => rfl
  | _, _, .cons a t => by rw [List.any_cons, List.any_cons, t.anyK]
theorem KvAll.mapPut {K : PySem.W.Frag} {g : Gd} {H : Hp} {k : Key} {v : V} {d : Da} : ∀ {kvs : List (Key × V)} {ds : List (Key × Da)}, KvAll K g H kvs ds → Dv K g H v d →
    KvAll K g H (kvs.map fun kv => if kv.1 = k then (kv.1, v) else kv) (ds.map fun kv => if kv.1 = k then (kv.1, d) else kv)
  | _, _, .nil, _ => .nil
  | _, _, .cons (k := k') a t, dv => by
    rw [List.map_cons, List.map_cons]
    by_cases e : k' = k
    · rw [if_pos e, if_pos e]; exact .cons dv (t.mapPut dv)
    · rw [if_neg e, if_neg e]; exact .cons a (t.mapPut dv)
theorem KvAll.put {K : PySem.W.Frag} {g : Gd} {H : Hp} {k : Key} {v : V} {d : Da} {kvs : List (Key × V)} {ds : List (Key × Da)} (h : KvAll K g H kvs ds) (dv : Dv K g H v d) : KvAll K g H (putK kvs k v) (putD ds k d) := by
  unfold putK putD
  rw [h.anyK]
  by_cases q : (ds.any fun kv => decide (kv.1 = k)) = true
  · rw [if_pos q, if_pos q]
    exact h.mapPut dv
  · rw [if_neg q, if_neg q]
    exact h.app (.cons dv .nil)
/-! ### t.count(x) -/
mutual
theorem plain_toP : ∀ d : Da, canP d = true → (toP d).plain = true
  | .non, _ => by rw [toP, PyData.plain]
  | .bl _, _ => by rw [toP, PyData.plain]
  | .int _, _ => by rw [toP, PyData.plain]
  | .str _, _ => by rw [toP, PyData.plain]
  | .lst xs, h => by rw [toP, PyData.plain]; rw [canP] at h; exact plain_toPs xs h
  | .tup xs, h => by rw [toP, PyData.plain]; rw [canP] at h; exact plain_toPs xs h
  | .tpw xs, h => by rw [toP, PyData.plain]; rw [canP] at h; exact plain_toPs xs h
  | .dct _, h => by rw [canP] at h; cases h
  | .bag, h => by rw [canP] at h; cases h
  | .raw _, h => by rw [canP] at h; cases h
  | .fix _, h => by rw [canP] at h; cases h
theorem plain_toPs : ∀ ds : List Da, canPs ds = true → PyData.plainAll (toPs ds) = true
  | [], _ => by rw [toPs, PyData.plainAll]
  | d :: ds, h => by
    rw [canPs, Bool.and_eq_true] at h
    rw [toPs, PyData.plainAll, plain_toP d h.1, plain_toPs ds h.2]
    rfl
end
end
end Pd
/-! Where a def stands; its promise by its name; a law's own bag and draws. -/
namespace Pd
open PySem PySem.Spec PyProof.Rows L2

/-- a def of the text, by its name -/
structure DefAt (K : PySem.W.Frag) (mg : Str → Option Value) (x : Str) (st : Stmt) (ps : List Str) : Prop where
  ex : ∃ f fd, Fun K x x st f fd ∧ mg x = some (.ref f) ∧ Binds K fd ps []
/-- a def whose promise is known -/
structure Calld (P : Program) (wd : World) (K : PySem.W.Frag) (mg : Str → Option Value) (base : Heap) (k : Nat) (x : Str) (ps : List Str) (p : DSp) : Prop where
  ex : ∃ f fd, FnG P wd K mg base CX0 k f fd ps (liP K p) ∧ mg x = some (.ref f) ∧ PySem.W.keepIn K (.ref f) = true ∧ Binds K fd ps []
  mp : MoP p
theorem Calld.up {P : Program} {wd : World} {K : PySem.W.Frag} {mg : Str → Option Value} {base : Heap} {j k : Nat} {x : Str} {ps : List Str} {p : DSp} (c : Calld P wd K mg base j x ps p) (h : j ≤ k) : Calld P wd K mg base k x ps p := by
  obtain ⟨⟨f, fd, F, a, b, d⟩, mp⟩ := c
  exact ⟨⟨f, fd, F.up h, a, b, d⟩, mp⟩
section
variable {X : Cx} {w : Wd}
theorem ped_f {x : Str} {p pos : Pos} {k : Nat} {ps : List Str} {sp : DSp} {t : TDA} {e : Expr} {es : List Expr} (c : Calld X.prog X.w X.K X.mg X.base k x ps sp) (room : Room k X.A) (hG : X.A.guards = some []) (args : PAd X w (e :: es) t) (gl : Gl X x := by rfl) (nd : (x == ("__debug__" : Str)) = false := by decide)
    (st : starEach (e :: es) X.env = (false, eval e X.env) :: starEach es X.env := by rfl) (bk : (backTo pos (starEach es X.env)).any (·.1) = false := by rfl) : PEd X w (.Call (.Name x p) (e :: es) [] pos) (dCall sp t) := by
  obtain ⟨⟨f, fd, F, a, b, d⟩, mp⟩ := c
  exact ped_call F mp room hG a b d args gl nd st bk
end
theorem defC {P : Program} {wd : World} {K : PySem.W.Frag} {mg : Str → Option Value} {base : Heap} {x : Str} {st : Stmt} {N ps : List Str} {k : Nat} {p : DSp} (At : DefAt K mg x st ps)
    (S : FnScope N ps (defScope st)) (len : ∀ ds Q, p ds Q → ds.length = ps.length) (mp : MoP p)
    (inside : ∀ (f : Addr) (cdv : Value) (A : Around) (outer : List Env) (s0 : Shared) (H : Hp) (E : XK) (w : Wd) (ds : List Da) (Q : Da → Prop), Room k (A.deeper (envOfC x (defScope st) s0.heap.objs.size f cdv)) → A.guards = some [] → p ds Q →
      ∃ t, PSsd (cxOf CX0 P wd K mg base N x (defScope st) f cdv A outer s0 H E).nox w (defBody st) t ∧ t { nx := fun _ => Q .non, rt := Q } (startD N ds)) :
    Calld P wd K mg base (k + 1) x ps p := by
  obtain ⟨f, fd, F, a, b⟩ := At.ex
  exact ⟨⟨f, fd, defD F S len mp (inside f), a, F.kp, b⟩, mp⟩

/-! ### the bag and a draw -/
section
variable {X : Cx}
theorem pget_list : PGet X (rIxL X.K) := by
  intro pins s σ H x y v u Q I rx ry h
  obtain ⟨p, xs, i, z, rfl, rfl, hq, he, q⟩ := h
  cases rx
  obtain ⟨t, rfl⟩ := ry
  obtain ⟨its, r, pl, hz⟩ := I.list hq
  obtain ⟨j, h1, h2, h3, h4, h5⟩ := atI_get he
  obtain ⟨w, ew, rw'⟩ := r.get h2
  have hl := r.length
  have hn := line63
  have fin : EP X pins σ Q w s := ⟨z, H, I, rw', q⟩
  by_cases h0 : 0 ≤ i
  · have hj : i.toNat = j := by
      have z1 := seqIndex_of h0 h5
      rw [z1] at h1
      cases h1
      rfl
    exact wpAny_getItem_list pl.isList h0 (by omega) (by rw [hj]; simpa using ew) fin
  · have hj : (i + (its.toArray.size : Int)).toNat = j := by
      have z1 := seqIndex_neg (by omega) h4
      rw [z1] at h1
      rw [List.size_toArray, ← hl]
      cases h1
      rfl
    exact wpAny_getItem_list_neg pl.isList (by omega) (by rw [List.size_toArray]; omega) (by omega) (by rw [hj]; simpa using ew) fin
end

/-- a draw: any integer from 0 to below many -/
def pTake : DSp := fun ds Q => ∃ n : Int, ds = [.bag, .int n] ∧ 0 < n ∧ n.natAbs.log2 < 9000 ∧ ∀ r, 0 ≤ r → r < n → Q (.int r)
theorem pTake_mo : MoP pTake := fun ds Q Q' q ⟨n, a, b, c, h⟩ => ⟨n, a, b, c, fun r h1 h2 => q _ (h r h1 h2)⟩
/-- the bag's places -/
def bagL (x y : Int) (z : Nat) (c : Addr) : HO := .lst [.int x, .int y, .int z, .ref c]
/-- in a draw: all but the bag is kept, the bag has its places -/
structure BagT (K : PySem.W.Frag) (H0 : Hp) (g c : Addr) (cs : List Int) (H : Hp) (x y : Int) (z : Nat) : Prop where
  keep : ∀ b o, b ≠ g → H0 b = some o → H b = some o
  at_g : H g = some (bagL x y z c)
  at_c : H c = some (.lst (cs.map V.int))
  ne : c ≠ g
theorem BagT.put {K : PySem.W.Frag} {H0 : Hp} {g c : Addr} {cs : List Int} {H : Hp} {x y : Int} {z : Nat} {x' y' : Int} {z' : Nat} (B : BagT K H0 g c cs H x y z) : BagT K H0 g c cs (upd H g (bagL x' y' z' c)) x' y' z' :=
  ⟨fun b o n h => by rw [upd_ne n]; exact B.keep b o n h, upd_same, by rw [upd_ne B.ne]; exact B.at_c, B.ne⟩
theorem ix4 {n : Nat} {k : Int} {j : Nat} (e : k = (j : Nat)) (h : j < n) : ixN n k = some j := by
  subst e
  unfold ixN
  rw [if_pos (Int.natCast_nonneg j), if_pos (by omega)]
  simp
theorem mul_ok {i j : Int} (h1 : 0 ≤ j) (h2 : j < 2 ^ 64) : CMul i j := .inr ⟨by omega, h2⟩
theorem mod_lt {i n : Int} (h : 0 < n) : 0 ≤ i % n ∧ i % n < n := ⟨Int.emod_nonneg _ (by omega), Int.emod_lt_of_pos _ h⟩

end Pd
/-! Reasoning about data readings: sizes, equal data, comprehensions as maps, loops by invariants. -/
namespace Pd
open PySem PySem.Spec PyProof.Rows L2

/-! ### sizes -/
structure Sz (d : Da) (n c : Nat) : Prop where
  can : canP d = true
  lay : (toP d).canLay0 = true
  shw : (toP d).showable = true
  dep : (toP d).depth ≤ n
  len : (toP d).shown.length ≤ c
theorem Sz.up {d : Da} {n c n' c' : Nat} (h : Sz d n c) (h1 : n ≤ n') (h2 : c ≤ c') : Sz d n' c' := ⟨h.can, h.lay, h.shw, Nat.le_trans h.dep h1, Nat.le_trans h.len h2⟩
theorem Sz.shp {d : Da} {n c : Nat} (h : Sz d n c) (hn : n ≤ 60) : shp d = true := by
  unfold Pd.shp SeqAt.shaped
  rw [h.can, h.lay, decide_eq_true (Nat.le_trans h.dep (Nat.le_trans hn (by decide)))]
  rfl
theorem Sz.ok {d : Da} {n c : Nat} (h : Sz d n c) (hn : n ≤ 60) (hc : c ≤ 16777216) : shwOk d := ⟨h.can, h.shw, Nat.le_trans h.dep hn, Nat.le_trans h.len (by rw [sizeLine_eq]; exact hc)⟩
theorem eqd_refl {d : Da} {n c : Nat} (h : Sz d n c) : eqd d d = true := PySem.SeqAt.eqv_refl _ h.lay
theorem log2_of {i : Int} {k : Nat} (h : i.natAbs < 2 ^ k) (hk : 0 < k) : i.natAbs.log2 < k := by
  by_cases z : i.natAbs = 0
  · rw [z]; simpa using hk
  · exact (Nat.log2_lt z).mpr h
theorem sz_str {x : Str} (h : ∀ c ∈ x.cps.toList, c < 128) : Sz (.str x) 0 (10 * x.length + 2) := by
  refine ⟨by rw [canP], ?_, by rw [toP, PyData.showable], by rw [toP, PyData.depth]; exact Nat.le_refl _, ?_⟩
  · rw [toP, PyData.canLay0]
    unfold PyData.strOk
    rw [← Array.all_toList, List.all_eq_true]
    intro c hc
    have := h c hc
    exact decide_eq_true (by omega)
  · rw [toP, PyData.shown]
    exact StrLaws.reprText_len x fun c hc => Nat.lt_trans (h c hc) (by decide)
theorem szs {ds : List Da} {n c : Nat} : (∀ d ∈ ds, Sz d n c) → canPs ds = true ∧ PyData.canLayAll0 (toPs ds) = true ∧ PyData.showableAll (toPs ds) = true ∧ PyData.depthAll (toPs ds) ≤ n ∧ ((PyData.shownAll (toPs ds)).map (·.length)).sum ≤ ds.length * c ∧ (PyData.shownAll (toPs ds)).length = ds.length := by
  induction ds with
  | nil => intro _; refine ⟨by rw [canPs], by rw [toPs, PyData.canLayAll0], by rw [toPs, PyData.showableAll], by rw [toPs, PyData.depthAll]; exact Nat.zero_le _, by rw [toPs, PyData.shownAll]; exact Nat.zero_le _, by rw [toPs, PyData.shownAll]; rfl⟩
  | cons d ds ih =>
    intro h
    obtain ⟨a1, a2, a3, a4, a5, a6⟩ := ih fun e he => h e (List.mem_cons_of_mem _ he)
    have hd := h d List.mem_cons_self
    refine ⟨by rw [canPs, hd.can, a1]; rfl, by rw [toPs, PyData.canLayAll0, hd.lay, a2]; rfl, by rw [toPs, PyData.showableAll, hd.shw, a3]; rfl, by rw [toPs, PyData.depthAll]; exact Nat.max_le.mpr ⟨hd.dep, a4⟩, ?_, by rw [toPs, PyData.shownAll, List.length_cons, List.length_cons, a6]⟩
    rw [toPs, PyData.shownAll, List.map_cons, List.sum_cons, List.length_cons, Nat.add_mul, Nat.one_mul]
    have := hd.len
    omega
theorem sz_lst {ds : List Da} {n c : Nat} (h : ∀ d ∈ ds, Sz d n c) : Sz (.lst ds) (n + 1) (ds.length * (c + 2) + 3) := by
  obtain ⟨a1, a2, a3, a4, a5, a6⟩ := szs h
  refine ⟨by rw [canP]; exact a1, by rw [toP, PyData.canLay0]; exact a2, by rw [toP, PyData.showable]; exact a3, by rw [toP, PyData.depth]; omega, ?_⟩
  rw [toP, PyData.shown]
  have q := listText_len_le (PyData.shownAll (toPs ds))
  rw [a6] at q
  rw [Nat.mul_add]
  omega
theorem sz_tup {ds : List Da} {n c : Nat} (h : ∀ d ∈ ds, Sz d n c) : Sz (.tup ds) (n + 1) (ds.length * (c + 2) + 3) := by
  obtain ⟨a1, a2, a3, a4, a5, a6⟩ := szs h
  refine ⟨by rw [canP]; exact a1, by rw [toP, PyData.canLay0]; exact a2, by rw [toP, PyData.showable]; exact a3, by rw [toP, PyData.depth]; omega, ?_⟩
  rw [toP, PyData.shown]
  have q := tupleText_len_le (PyData.shownAll (toPs ds))
  rw [a6] at q
  rw [Nat.mul_add]
  omega

/-! ### equal data -/
theorem eqd_int (i j : Int) : eqd (.int i) (.int j) = (i == j) := by unfold eqd; rw [toP, toP, PyData.eqv]
theorem eqd_str (i j : Str) : eqd (.str i) (.str j) = (i == j) := by unfold eqd; rw [toP, toP, PyData.eqv]
theorem shp_int (i : Int) : shp (.int i) = true := by unfold shp SeqAt.shaped; rw [canP, toP, PyData.canLay0, PyData.depth]; rfl
theorem shp_unit : shp (.tup []) = true := by unfold shp SeqAt.shaped; rw [canP, toP, PyData.canLay0, PyData.depth, canPs, toPs, PyData.canLayAll0, PyData.depthAll]; rfl
theorem eqd_tupNil (xs : List Da) : eqd (.tup xs) (.tup []) = xs.isEmpty := by
  unfold eqd
  rw [toP, toP, PyData.eqv, toPs]
  cases xs with
  | nil => rw [toPs, PyData.eqvAll]; rfl
  | cons x xs => rw [toPs, PyData.eqvAll]; rfl

/-! ### comprehensions -/
theorem paired_len {α β : Type} {F : α → β → Prop} : ∀ {xs : List α} {ys : List β}, Paired F xs ys → xs.length = ys.length
  | _, _, .nil => rfl
  | _, _, .cons _ t => by rw [List.length_cons, List.length_cons, paired_len t]
theorem paired_mem {α β : Type} {F : α → β → Prop} : ∀ {xs : List α} {ys : List β} {y : β}, Paired F xs ys → y ∈ ys → ∃ x ∈ xs, F x y
  | _, _, _, .nil, h => by cases h
  | _, _, _, .cons h t, hm => by
    rcases List.mem_cons.mp hm with e | e
    · subst e; exact ⟨_, List.mem_cons_self, h⟩
    · obtain ⟨x, a, b⟩ := paired_mem t e
      exact ⟨x, List.mem_cons_of_mem _ a, b⟩
/-- without tests: whatever each element may be -/
theorem lcD_all {gd : TDG} {te : TDE} {vs : List Nat} {r : En} {Q : Da → Prop} (F : Da → Da → Prop) : ∀ (ds acc : List Da),
    acc.length + ds.length ≤ 16777216 → (∀ d ∈ ds, ∀ P : Da → Prop, (∀ y, F d y → P y) → gd d (wipeD r vs) fun r2 => te r2 P) → (∀ ys, Paired F ds ys → Q (.lst (acc ++ ys))) → lcD gd dYes te vs r Q ds acc
  | [], acc, _, _, q => by
    have z := q [] .nil
    rw [List.append_nil] at z
    exact z
  | d :: ds, acc, hl, h, q => by
    rw [List.length_cons] at hl
    refine h d List.mem_cons_self (fun y => acc.length < sizeLine ∧ lcD gd dYes te vs r Q ds (acc ++ [y])) fun y fy => ⟨by rw [sizeLine_eq]; omega, ?_⟩
    refine lcD_all F ds (acc ++ [y]) (by rw [List.length_append]; show acc.length + 1 + _ ≤ _; omega) (fun e he => h e (List.mem_cons_of_mem _ he)) fun ys hy => ?_
    rw [List.append_assoc]
    exact q (y :: ys) (.cons fy hy)
/-! ### loops -/
end Pd
/-! (x,) * n; texts split; a script's bag; a draw. -/
namespace Pd
open PySem PySem.Spec PyProof.Rows L2

/-! ### a tuple n times -/
section
variable {X : Cx}
/-! ### texts split -/
def dSplit (ta tb : TDE) : TDE := fun r Q => ta r fun x => ∃ a, x = .str a ∧ tb r fun y => ∃ b, y = .str b ∧ (b.length == 0) = false ∧ a.length + 2 ≤ sizeLine ∧ Q (.lst ((Txt.split a b).map .str))
theorem ped_split {w : Wd} {a b : Expr} {apos pos : Pos} {ta tb : TDE} (ha : PEd X w a ta) (hb : PEd X w b tb) (hs : starEach [b] X.env = [(false, eval b X.env)] := by rfl) (hbase : attributeBase a "split" X.env (eval a X.env) = eval a X.env := by rfl) (hline : (apos.endLine == pos.line) = true := by rfl) :
    PEd X w (.Call (.Attribute a "split" apos) [b] [] pos) (dSplit ta tb) := by
  refine ⟨weE (pe_split ha.pe hb.pe hs hbase hline) ?_, fun r Q Q' q h => ha.mo _ _ _ (fun x ⟨a, e, z⟩ => ⟨a, e, hb.mo _ _ _ (fun y ⟨b, c, d, f, z⟩ => ⟨b, c, d, f, q _ z⟩) z⟩) h⟩
  rintro σ H Q ⟨W, own, r, S, h⟩
  refine go1 ha S h fun x v H1 e1 k1 d1 z => ?_
  obtain ⟨a, rfl, z⟩ := z
  cases d1
  refine ⟨⟨a, rfl⟩, go1 hb (S.ext e1 k1) z fun y u H2 e2 k2 d2 z2 => ?_⟩
  obtain ⟨b, rfl, c1, c2, z3⟩ := z2
  cases d2
  exact ⟨a, b, rfl, rfl, c1, c2, fun p np => (z3.then (e1.trans e2)).newL k2 np (DvAll.mk_strs _)⟩
end
end Pd
/-! A law's own frame: the bag is made of the script, then the rest in data; the end of a row. -/
namespace Pd
open PySem PySem.Spec PyProof.Rows L2

/-! ### the bag, made -/
def spBag (K : PySem.W.Frag) : Sp := fun vs H Q _ => ∃ (a : Addr) (ns : List Int), vs = [.ref a] ∧ SqL K H a (ns.map V.int) ∧ ns.length ≤ 63 ∧
  ∀ (H' : Hp) (p c : Addr) (cs : List Int), Sm H H' → H p = none → H c = none → c ≠ p → H' p = some (bagL 0 1234567891 0 c) → H' c = some (.lst (cs.map V.int)) → Q (.ref p) H'
def absI (i : Int) : Int := if i < 0 then -i else i
theorem cutV_ints (ns : List Int) (lo hi : Option Int) : ∃ ms : List Int, cutV (ns.map V.int) lo hi = ms.map V.int ∧ ms.length ≤ ns.length := by
  unfold cutV
  rw [← List.map_drop, ← List.map_take]
  refine ⟨_, rfl, ?_⟩
  rw [List.length_take, List.length_drop]
  omega
theorem bag_read (K : PySem.W.Frag) (vs : List V) (H : Hp) (Q : VK) (E : XK) (h : spBag K vs H Q E) (m1 : TT) (hm : m1 = tYes) :
    tRet (tLst (tCons (tC (.int 0)) (tCons (tC (.int 1234567891)) (tCons (tC (.int 0)) (tCons (tLc (iList K (tSl (rSlL K) (tVar 0) tNoPart (tPart (tC (.int 63))))) (gName 1) m1 (tCB (fun xs H Q => ∃ i, xs = [V.int i] ∧ Q (.int (if i < 0 then -i else i)) H) (tCons (tVar 1) tNil)) [1]) tNil)))))
      { nx := fun _ H' => Q .non H', rt := Q } (L2.start ["_law_script", "_law_cell"] vs) H := by
  subst hm
  obtain ⟨a, ns, rfl, hS, hl, q⟩ := h
  refine ⟨.ref a, rfl, 63, rfl, a, ns.map V.int, rfl, hS, fun b nb => ?_⟩
  obtain ⟨ms, em, lm⟩ := cutV_ints ns none (some 63)
  have sb : Sm H (upd H b (.lst (cutV (ns.map V.int) none (some 63)))) := sm_upd nb
  refine ⟨b, rfl, ⟨_, SqL.of upd_same⟩, fun D hD => ?_⟩
  have nDb : D ≠ b := fun e => by rw [e, upd_same] at hD; cases hD
  rw [em] at hD sb ⊢
  refine lc_list (K := K) (a := b) (xs := ms.map V.int) (fun i H' => (∀ x o, x ≠ D → upd H b (.lst (ms.map V.int)) x = some o → H' x = some o) ∧ H' D = some (.lst (((ms.take i).map absI).map V.int))) ⟨fun x o n e => by rw [upd_ne n]; exact e, upd_same⟩
    (fun i H' _ h => SqL.of (h.1 b _ nDb.symm upd_same)) ?_ ?_
  · rintro i x H' hi ⟨k, hD'⟩
    obtain ⟨z, hz, rfl⟩ : ∃ z, ms[i]? = some z ∧ x = V.int z := by
      rw [List.getElem?_map] at hi
      cases e : ms[i]? with
      | none => rw [e] at hi; cases hi
      | some z => rw [e] at hi; exact ⟨z, rfl, (Option.some.inj hi).symm⟩
    refine ⟨rfl, ?_⟩
    unfold tYes
    dsimp only
    rw [if_pos rfl]
    refine ⟨_, rfl, z, rfl, _, hD', ?_, fun y o n e => by rw [upd_ne n]; exact k y o n e, ?_⟩
    · rw [List.length_map, List.length_map, List.length_take, sizeLine_eq]
      omega
    · rw [upd_same, List.take_add_one, hz, List.map_append, List.map_append]
      rfl
  · rintro H' ⟨k, hD'⟩
    rw [List.length_map, List.take_length] at hD'
    refine ⟨by show 4 ≤ sizeLine; decide, fun p np => ?_⟩
    have nDp : D ≠ p := ne_of_none hD' np
    have hDn : H D = none := by
      cases e : H D with
      | none => rfl
      | some o => rw [sb D o e] at hD; cases hD
    have keep : Sm H H' := fun x o e => k x o (ne_of_none e hDn) (sb x o e)
    have hp : H p = none := by
      cases e : H p with
      | none => rfl
      | some o => rw [keep p o e] at np; cases np
    refine q _ p D _ (fun x o e => ?_) hp hDn nDp upd_same (by rw [upd_ne nDp]; exact hD')
    rw [upd_ne (ne_of_none e hp)]
    exact keep x o e

/-! ### the law -/
def spLawT (K : PySem.W.Frag) (T : List (Addr × Str)) : Sp := fun vs H Q _ => (∀ p ∈ T, H p.1 = some (.tbl #[])) ∧ ∃ (a : Addr) (ns : List Int), vs = [.ref a] ∧ SqL K H a (ns.map V.int) ∧ ns.length ≤ 63 ∧ ∀ H', Q (.bl true) H'
def liX (K : PySem.W.Frag) (T : List (Addr × Str)) (t : TDS) : TS := fun E σ H => ∃ w, w.g.tab = T ∧ liS K w t E σ H
theorem pssX {X : Cx} {T : List (Addr × Str)} {sts : List Stmt} {t : TDS} (h : ∀ w, w.g.tab = T → PSsd X w sts t) : PSs X sts (liX X.K T t) := by
  constructor
  rintro pins s σ H D I ⟨w, hw, q⟩
  exact (h w hw).ps.run pins s σ H D I q
/-- the slots behind the bag's making: nothing but the bag, at 1 -/
def lawStart (n : Nat) : En := .no :: .dat .bag :: List.replicate n .no
theorem lawGT {P : Program} {wd : World} {K : PySem.W.Frag} {mg : Str → Option Value} {base : Heap} {st s1 : Stmt} {rest : List Stmt} {f : Addr} {fd : FuncData} {n : Nat} {names : List Str} {k : Nat} (T : List (Addr × Str))
    (F : Fun K "law" "law" st f fd) (S : FnScope ("_law_script" :: "_law_bag_here" :: names) ["_law_script"] (defScope st)) (hn : names.length = n) (hb : defBody st = s1 :: rest)
    (inside : ∀ (cdv : Value) (A : Around) (outer : List Env) (s0 : Shared) (H : Hp) (E : XK), fd.code = cdv → Room k (A.deeper (envOfC "law" (defScope st) s0.heap.objs.size f cdv)) → A.guards = some [] →
      ∃ td, PS (cxOf CX0 P wd K mg base ("_law_script" :: "_law_bag_here" :: names) "law" (defScope st) f cdv A outer s0 H E).nox s1 (tAsg (tCall (spBag K) [] E0 (tCons (tVar 0) tNil)) (gName 1)) ∧
        (∀ w, w.g.tab = T → PSsd (cxOf CX0 P wd K mg base ("_law_script" :: "_law_bag_here" :: names) "law" (defScope st) f cdv A outer s0 H E).nox w rest td) ∧ td { nx := fun _ => False, rt := fun d => d = .bl true } (lawStart n)) :
    FnG P wd K mg base CX0 (k + 1) f fd ["_law_script"] (spLawT K T) := by
  refine FunG.okC F S ?_ ?_
  · rintro vs H Q E ⟨_, a, ns, rfl, _⟩
    rfl
  · rintro cdv A outer s0 H vs Q E hcd room hG ⟨hT, a, ns, rfl, hS, hl, q⟩
    obtain ⟨td, h1, h2, h3⟩ := inside cdv A outer s0 H E hcd room hG
    rw [hb]
    refine ⟨_, pss_cons h1 (pssX h2), .ref a, rfl, a, ns, rfl, hS, hl, fun H' p c cs sm np nc ne hp hc => ?_⟩
    let g : Gd := ⟨some p, T⟩
    let W : Addr → Bool := fun b => decide (b = p) || T.any fun q => decide (q.1 = b)
    have Wp : W p = true := by show (decide (p = p) || _) = true; rw [decide_eq_true rfl]; rfl
    have WT : ∀ b, W b = true → b = p ∨ ∃ q, (b, q) ∈ T := fun b hb => by
      rcases Bool.or_eq_true _ _ ▸ hb with z | z
      · exact .inl (of_decide_eq_true z)
      · obtain ⟨q, q1, q2⟩ := List.any_eq_true.mp z
        exact .inr ⟨q.2, by rw [← of_decide_eq_true q2]; exact q1⟩
    have Tt : ∀ q ∈ T, H' q.1 = some (.tbl #[]) := fun q hq => sm _ _ (hT q hq)
    have Wc : W c = false := by
      cases e : W c with
      | false => rfl
      | true =>
        rcases WT c e with z | ⟨q, z⟩
        · exact absurd z ne
        · have t := hT _ z
          rw [nc] at t
          cases t
    have kW : OkW K g W H' := by
      refine ⟨⟨fun b hb => ?_, fun q hq => LamX.TabS.nil (Tt q hq)⟩, fun b hb => ?_, fun b hb => ?_⟩
      · cases hb
        exact ⟨0, 1234567891, 0, c, cs, hp, by rw [hid_no Wc]; exact hc⟩
      · rcases hb with hb | ⟨q, hb⟩
        · cases hb
          exact Wp
        · show (_ || T.any _) = true
          rw [Bool.or_eq_true]
          exact .inr (List.any_eq_true.mpr ⟨_, hb, decide_eq_true rfl⟩)
      · rcases WT b hb with z | ⟨q, z⟩
        · rw [z]
          exact ⟨_, hp⟩
        · exact ⟨_, Tt _ z⟩
    refine ⟨⟨H', g, W⟩, rfl, W, fun _ _ => False, lawStart n, ⟨kW, Ext.refl, fun _ h => h, kW.gW, (fun _ h => .inl h), (fun i a h => by cases h), (fun i j a h => by cases h), ?_, fun i d h nd => ?_⟩, (h2 ⟨H', g, W⟩ rfl).mo { nx := fun _ => False, rt := fun d => d = .bl true } _ _ ⟨fun _ z => z.elim, fun d z v H2 e2 k2 d2 => ?_, fun _ z => z.elim, fun _ z => z.elim⟩ h3⟩
    · unfold lawStart L2.start
      simp only [List.length_cons, List.length_replicate, List.length_set, List.length_append, List.length_map, List.length_nil, hn]
      omega
    · match i, h with
      | 0, h => cases h; exact absurd rfl nd
      | 1, h =>
        cases h
        exact ⟨.ref p, rfl, .bag rfl⟩
      | i + 2, h =>
        have : (List.replicate n Sl.no)[i]? = some d := h
        rw [List.getElem?_replicate] at this
        split at this
        · cases this; exact absurd rfl nd
        · cases this
    · subst z
      cases d2
      exact q H2
end Pd
/-! sum of a tuple; readings of slices, counts, dicts. -/
namespace Pd
open PySem PySem.Spec PyProof.Rows L2

section
variable {X : Cx} {w : Wd}
end

/-! ### readings -/
theorem cutD_from (xs : List Da) {t : Nat} (h : t ≤ xs.length) : cutD xs (some (t : Int)) none = xs.drop t := by
  unfold cutD
  rw [HT.sIx_nat, HT.sIx_none, Nat.min_eq_left h, List.take_of_length_le]
  rw [List.length_drop]
  exact Nat.le_refl _
theorem cutD_to (xs : List Da) (t : Nat) : cutD xs none (some (t : Int)) = xs.take t := by
  unfold cutD
  rw [HT.sIx_nat, HT.sIx_none, List.drop_zero, Nat.sub_zero]
  rcases Nat.le_total t xs.length with h | h
  · rw [Nat.min_eq_left h]
  · rw [Nat.min_eq_right h, List.take_of_length_le (Nat.le_refl _), List.take_of_length_le h]
theorem canP_strs (a : List Str) : canPs (a.map .str) = true := by
  rw [canPs_all, List.all_map, List.all_eq_true]
  intro x _
  show canP (.str x) = true
  rw [canP]
theorem dep_strs (a : List Str) : PyData.depthAll (toPs (a.map .str)) ≤ 60 := by
  have : PyData.depthAll (toPs (a.map .str)) = 0 := by
    induction a with
    | nil => rw [List.map_nil, toPs, PyData.depthAll]
    | cons x xs ih => rw [List.map_cons, toPs, PyData.depthAll, ih, toP, PyData.depth]; rfl
  omega
end Pd
/-! Comprehensions by their results; rows of integers and tuples of texts. -/
namespace Pd
open PySem PySem.Spec PyProof.Rows L2

/-- without tests: the list that comes out is given -/
theorem lcD_ix {gd : TDG} {te : TDE} {vs : List Nat} {r : En} {Q : Da → Prop} : ∀ (ds res acc : List Da), res.length = ds.length → acc.length + ds.length ≤ 16777216 →
    (∀ (k : Nat) (h1 : k < ds.length) (h2 : k < res.length) (P : Da → Prop), P res[k] → gd ds[k] (wipeD r vs) fun r2 => te r2 P) → Q (.lst (acc ++ res)) → lcD gd dYes te vs r Q ds acc
  | [], [], acc, _, _, _, q => by
    rw [List.append_nil] at q
    exact q
  | [], y :: ys, _, e, _, _, _ => by cases e
  | d :: ds, [], _, e, _, _, _ => by cases e
  | d :: ds, y :: ys, acc, e, hl, h, q => by
    rw [List.length_cons] at hl
    refine h 0 (Nat.succ_pos _) (Nat.succ_pos _) (fun z => acc.length < sizeLine ∧ lcD gd dYes te vs r Q ds (acc ++ [z])) ⟨by rw [sizeLine_eq]; omega, ?_⟩
    refine lcD_ix ds ys (acc ++ [y]) (Nat.succ.inj e) (by rw [List.length_append]; show acc.length + 1 + _ ≤ _; omega) (fun k h1 h2 P hP => ?_) ?_
    · exact h (k + 1) (Nat.succ_lt_succ h1) (Nat.succ_lt_succ h2) P hP
    · rw [List.append_assoc]
      exact q
theorem rngD_get {n k : Nat} (h : k < (rngD n).length) : (rngD n)[k] = .int (k : Nat) := by
  have := rngD_at (n := n) (i := k) (by rw [rngD_len] at h; exact h)
  rw [List.getElem?_eq_getElem h] at this
  exact Option.some.inj this
theorem at_da {is : List Da} {k : Nat} (h : k < is.length) : L2.atI is ((k : Nat) : Int) = some is[k] := by
  refine L2.atI_nat ?_
  rw [List.getElem?_eq_getElem h]

abbrev strsD (ts : List Str) : Da := .tup (ts.map .str)
/-- integers up to b either way -/
def Upto (b : Int) (is : List Int) : Prop := ∀ i ∈ is, -b ≤ i ∧ i ≤ b
theorem Upto.at {b : Int} {is : List Int} (h : Upto b is) {k : Nat} (hk : k < is.length) : -b ≤ is[k] ∧ is[k] ≤ b := h _ (List.getElem_mem hk)
theorem cmul_small' {i j : Int} (h : -1000000 ≤ i ∧ i ≤ 1000000) : CMulA i j := .inl (.inl ⟨by omega, by omega⟩)
/-! ### texts compared -/
def strEqD : DD := fun x y Q => ∃ i j, x = .str i ∧ y = .str j ∧ Q (.bl (i == j))
theorem ped_eqS {X : Cx} {w : Wd} {a b : Expr} {pos : Pos} {ta tb : TDE} (ha : PEd X w a ta) (hb : PEd X w b tb) : PEd X w (.Compare a [.Eq] [b] pos) (dOp strEqD ta tb) := by
  refine ped_cmp op_eq (nobehind _ (by decide) (by decide)) (fun x y Q Q' q ⟨i, j, a, b, h⟩ => ⟨i, j, a, b, q _ h⟩) ?_ ha hb
  rintro g W H v u x y Q k dx dy ⟨i, j, rfl, rfl, h⟩
  cases dx
  cases dy
  have e : decide (V.str i = V.str j) = (i == j) := by
    rw [Bool.eq_iff_iff]
    simp
  exact ⟨rfl, by rw [e]; exact h.now k (.bl _)⟩
/-! ### loops by what holds ahead of each turn -/
theorem forD_go {gd : TDG} {tb : TDS} {E : EnD} {ds : List Da} (I : Nat → En → Prop) (done : ∀ r, I ds.length r → E.nx r)
    (step : ∀ i d r (nx : En → Prop), ds[i]? = some d → I i r → (∀ r', I (i + 1) r' → nx r') → gd d r fun r1 => tb { E with nx := nx, ct := nx, bk := E.nx } r1) :
    ∀ (es : List Da) (i : Nat) (r : En), ds.drop i = es → I i r → i ≤ ds.length → forD gd tb E es r
  | [], i, r, e, h, hi => by
    have : i = ds.length := by
      have := congrArg List.length e
      rw [List.length_drop, List.length_nil] at this
      omega
    subst this
    exact done r h
  | d :: es, i, r, e, h, hi => by
    have hl : i < ds.length := by
      have := congrArg List.length e
      rw [List.length_drop, List.length_cons] at this
      omega
    have e2 := List.drop_eq_getElem_cons hl
    rw [e] at e2
    injection e2 with e3 e4
    exact step i d r _ (by rw [List.getElem?_eq_getElem hl, e3]) h fun r' hr' => forD_go I done step es (i + 1) r' e4.symm hr' (by omega)
theorem forD_run {gd : TDG} {tb : TDS} {E : EnD} {ds : List Da} (I : Nat → En → Prop) {r : En} (start : I 0 r) (done : ∀ r, I ds.length r → E.nx r)
    (step : ∀ i d r (nx : En → Prop), ds[i]? = some d → I i r → (∀ r', I (i + 1) r' → nx r') → gd d r fun r1 => tb { E with nx := nx, ct := nx, bk := E.nx } r1) : forD gd tb E ds r :=
  forD_go I done step ds 0 r rfl start (Nat.zero_le _)

/-! ### sorted texts -/
theorem srt_strs {a : List Str} : ∃ b : List Str, srt (a.map .str) = b.map .str ∧ b.Perm a := by
  have p : (srt (a.map .str)).Perm (a.map .str) := List.mergeSort_perm _ _
  have q : ∀ (l : List Da), (∀ d ∈ l, ∃ t, d = .str t) → ∃ b : List Str, l = b.map .str := by
    intro l
    induction l with
    | nil => intro _; exact ⟨[], rfl⟩
    | cons d l ih =>
      intro h
      obtain ⟨t, rfl⟩ := h d List.mem_cons_self
      obtain ⟨b, rfl⟩ := ih fun e he => h e (List.mem_cons_of_mem _ he)
      exact ⟨t :: b, rfl⟩
  obtain ⟨b, e⟩ := q (srt (a.map .str)) fun d hd => by
    obtain ⟨t, _, rfl⟩ := List.mem_map.mp (p.mem_iff.mp hd)
    exact ⟨t, rfl⟩
  refine ⟨b, e, ?_⟩
  rw [e] at p
  have z := p.filterMap (fun d => match d with | .str t => some t | _ => none)
  rw [List.filterMap_map, List.filterMap_map] at z
  have f : ∀ l : List Str, l.filterMap ((fun d => match d with | .str t => some t | _ => none) ∘ Da.str) = l := by
    intro l
    induction l with
    | nil => rfl
    | cons x xs ih => rw [List.filterMap_cons]; exact congrArg (x :: ·) ih
  rw [f, f] at z
  exact z
theorem srtOk_strs {a : List Str} (h : a.length ≤ 16777216) : srtOk (a.map .str) := by
  refine ⟨canP_strs a, ?_, .inr ?_, ?_, by rw [List.length_map, sizeLine_eq]; exact h⟩
  · intro d hd d' hd'
    rw [List.map_map] at hd hd'
    obtain ⟨t, _, rfl⟩ := List.mem_map.mp hd
    obtain ⟨t', _, rfl⟩ := List.mem_map.mp hd'
    show PySem.W.alike (toP (.str t)) (toP (.str t')) = true
    rw [toP, toP]
    rfl
  · intro d hd
    rw [List.map_map] at hd
    obtain ⟨t, _, rfl⟩ := List.mem_map.mp hd
    show toP (.str t) ≠ .none ∧ ∀ xs, toP (.str t) ≠ .tuple xs
    rw [toP]
    exact ⟨(fun z => by cases z), (fun xs z => by cases z)⟩
  · intro d hd
    obtain ⟨t, _, rfl⟩ := List.mem_map.mp hd
    rw [toP, PyData.depth]
    exact Nat.zero_le _
/-! ### from nothing -/
theorem lcD_ix0 {gd : TDG} {te : TDE} {vs : List Nat} {r : En} {Q : Da → Prop} (ds res : List Da) (e : res.length = ds.length) (hl : ds.length ≤ 16777216)
    (h : ∀ (k : Nat) (h1 : k < ds.length) (h2 : k < res.length) (P : Da → Prop), P res[k] → gd ds[k] (wipeD r vs) fun r2 => te r2 P) (q : Q (.lst res)) : lcD gd dYes te vs r Q ds [] :=
  lcD_ix ds res [] e (by rw [List.length_nil]; omega) h q
end Pd
/-! The head of a law whose promise is told with the guards (FnG): it is called with nothing tracked but the script. -/
namespace Pd
open PySem PySem.Spec PyProof.Rows L2

theorem ints_vals {ns : List Int} {us : List Value} (h : IntsAre us ns) : Vals (ns.map V.int) us := by
  induction h with
  | nil => exact .nil
  | cons n t _ ih => exact .cons ⟨t, rfl⟩ ih

/-- what the caller wants of the answer -/
abbrev Told (s1 : Shared) : Result → Shared → Prop := fun r s2 => r = .ok (.ret (.bool true)) ∧ OldK s1.heap s2.heap ∧ s2.os = s1.os ∧ AllBare s2.gens

section
variable {P : Program} {wd : World} {K : PySem.W.Frag} {mg mb : Str → Option Value} {k : Nat} {fa a : Addr} {fd : FuncData} {x : Str} {sp : Sp} {s1 : Shared} {us : List Value} {ns : List Int}
end
/-- a def by what the top has written -/
theorem defAt_mk {K : PySem.W.Frag} {mg : Str → Option Value} {h : Heap} {x : Str} {st : Stmt} {ps : List Str} {f : Addr} {oc kV dc pm cd ct : Value} {od an : Option Addr} {sl : Array (Option Value)} (inK : K.In h) (gl : h.Ns mainGlobals mg)
    (a : PySem.W.nsIn K mainGlobals x = some (some (.ref f))) (l : K.lookup f = some ⟨oc, od, .func (PySem.W.fnOf x x (defArgs st) (defBody st) (defScope st) .none kV dc pm an cd ct), sl⟩) (c : PySem.W.codeIn K cd x = true) (k : PySem.W.keepIn K (.ref f) = true)
    (b : ∀ (kV doc pm : Value) (an : Option Addr) (cdv ct : Value) (us : List Value), us.length = ps.length → bindArgs (PySem.W.fnOf x x (defArgs st) (defBody st) (defScope st) .none kV doc pm an cdv ct) ⟨us, []⟩ = pure (ps.zip us)) : DefAt K mg x st ps :=
  ⟨f, _, fun_mk l c k, PySem.W.mg_of inK gl a, (fun_mk l c k).binds b⟩
end Pd
/-! Lists of one's own: hidden while they change; opened for a look. -/
namespace Pd
open PySem PySem.Spec PyProof.Rows L2

/-! ### data in which nothing can change -/
mutual
def noL : Da → Bool
  | .non => true
  | .bl _ => true
  | .int _ => true
  | .str _ => true
  | .tup xs => noLs xs
  | .tpw xs => noLs xs
  | .lst _ => false
  | .dct _ => false
  | .bag => false
  | .raw _ => false
  | .fix _ => true
def noLs : List Da → Bool
  | [] => true
  | x :: xs => noL x && noLs xs
end
theorem noLs_all : ∀ xs : List Da, noLs xs = xs.all noL
  | [] => by rw [noLs]; rfl
  | x :: xs => by rw [noLs, noLs_all xs]; rfl
theorem noL_strs (ts : List Str) : noLs (ts.map .str) = true := by
  rw [noLs_all, List.all_map, List.all_eq_true]
  intro x _
  show noL (.str x) = true
  rw [noL]
section
variable {K : PySem.W.Frag} {g g' : Gd} {H H' : Hp}
theorem sqt_sees {a : Addr} {xs : List V} (e : Sees H H') (h : SqT K H a xs) : SqT K H' a xs := by
  rcases h with (h | ⟨o, h⟩) | h
  · exact .inl (.inl (e _ _ h (fun _ z => by cases z) (fun _ z => by cases z)))
  · exact .inl (.inr ⟨o, e _ _ h (fun _ z => by cases z) (fun _ z => by cases z)⟩)
  · exact .inr h
theorem tups_sees {a : Addr} {xs : List V} (e : Sees H H') (h : TupS K H a xs) : TupS K H' a xs := by
  rcases h with ⟨o, h, n⟩ | h
  · exact .inl ⟨o, e _ _ h (fun _ z => by cases z) (fun _ z => by cases z), n⟩
  · exact .inr h
mutual
theorem Dv.sees (e : Sees H H') : ∀ (d : Da) (v : V), noL d = true → Dv K g H v d → Dv K g' H' v d
  | .non, _, _, h => by cases h; exact .non
  | .bl _, _, _, h => by cases h; exact .bl _
  | .int _, _, _, h => by cases h; exact .int _
  | .str _, _, _, h => by cases h; exact .str _
  | .lst ds, _, n, _ => by rw [noL] at n; cases n
  | .tup ds, _, n, h => by
    rw [noL] at n
    cases h with
    | tup h1 h2 => exact .tup (tups_sees e h1) (DvAll.sees e ds _ n h2)
  | .tpw ds, _, n, h => by
    rw [noL] at n
    cases h with
    | tpw h1 h2 => exact .tpw (sqt_sees e h1) (DvAll.sees e ds _ n h2)
  | .dct ds, _, n, _ => by rw [noL] at n; cases n
  | .bag, _, n, _ => by rw [noL] at n; cases n
  | .raw _, _, n, _ => by rw [noL] at n; cases n
  | .fix _, _, _, h => by
    cases h with
    | fix q => exact .fix fun H2 s => q H2 (Sees.trans e s)
theorem DvAll.sees (e : Sees H H') : ∀ (ds : List Da) (vs : List V), noLs ds = true → DvAll K g H vs ds → DvAll K g' H' vs ds
  | [], _, _, h => by cases h; exact .nil
  | d :: ds, _, n, h => by
    rw [noLs, Bool.and_eq_true] at n
    cases h with
    | cons h1 h2 => exact .cons (Dv.sees e d _ n.1 h1) (DvAll.sees e ds _ n.2 h2)
end
end

/-! ### a look at one's own -/
def opS : Sl → Sl
  | .no => .no
  | .dat d => .dat d
  | .own ds => .dat (.lst ds)
  | .reg ds => .dat (.lst ds)
def openE (r : En) : En := r.map opS
/-- a slot with something of one's own -/
def ownS (r : En) (i : Nat) : Prop := (∃ ds, r[i]? = some (.own ds)) ∨ ∃ ds, r[i]? = some (.reg ds)
open Classical in
/-- what stays hidden -/
noncomputable def shut (W : Addr → Bool) (own : Ow) (r : En) : Addr → Bool := fun a => W a && !decide (∃ i, own i a ∧ ownS r i)
section
variable {K : PySem.W.Frag} {w : Wd} {W : Addr → Bool} {own : Ow} {r : En} {σ : L2.St} {H H1 : Hp}
theorem shut_le {a : Addr} (h : shut W own r a = true) : W a = true := by
  unfold shut at h
  rw [Bool.and_eq_true] at h
  exact h.1
theorem shut_own {a : Addr} {i : Nat} (h1 : own i a) (h2 : ownS r i) : shut W own r a = false := by
  unfold shut
  simp only [Bool.and_eq_false_iff, Bool.not_eq_false', decide_eq_true_eq]
  exact .inr ⟨i, h1, h2⟩
theorem shut_not {a : Addr} (h : W a = true) (h2 : shut W own r a = false) : ∃ i, own i a ∧ ownS r i := by
  unfold shut at h2
  rw [h, Bool.true_and, Bool.not_eq_false'] at h2
  simpa using h2
theorem Stt.shutG (S : Stt K w W own r σ H) {a : Addr} (h : Bd w.g a) : shut W own r a = true := by
  cases e : shut W own r a with
  | true => rfl
  | false =>
    obtain ⟨i, q, _⟩ := shut_not (S.ok.gW a h) e
    exact absurd h (S.oW i a q).2.2
theorem Stt.opened (S : Stt K w W own r σ H) : Stt K ⟨H, w.g, shut W own r⟩ (shut W own r) (fun _ _ => False) (openE r) σ H := by
  refine ⟨S.ok.less (fun b hb => shut_le hb) fun a ha => S.shutG ha, Ext.refl, fun _ h => h, fun a ha => S.shutG ha, (fun _ h => .inl h), (fun i a h => h.elim), (fun i j a h => h.elim), ?_, fun i d h n => ?_⟩
  · unfold openE
    rw [List.length_map]
    exact S.len
  · unfold openE at h
    rw [List.getElem?_map] at h
    cases e : r[i]? with
    | none => rw [e] at h; cases h
    | some d0 =>
      rw [e] at h
      have h' : opS d0 = d := Option.some.inj h
      subst h'
      have n0 : d0 ≠ .no := fun z => n (by rw [z]; rfl)
      obtain ⟨v, h1, h2⟩ := S.sl i d0 e n0
      refine ⟨v, h1, ?_⟩
      cases d0 with
      | no => exact absurd rfl n0
      | dat d => exact Dv.mono (hid_le fun b hb => shut_le hb) _ _ h2
      | own ds =>
        obtain ⟨a, xs, q1, rfl, q3, q4⟩ := h2
        exact .lst (by rw [hid_no (shut_own q1.1 (.inl ⟨ds, e⟩))]; exact q3) (DvAll.mono (hid_le fun b hb => shut_le hb) _ _ q4)
      | reg ds =>
        obtain ⟨a, xs, q1, rfl, q3, q4⟩ := h2
        refine .lst (by rw [hid_no (shut_own q1 (.inr ⟨ds, e⟩))]; exact q3) (DvAll.mono (fun b o z => ?_) _ _ q4)
        have z := cutAt_le b o z
        by_cases q : own i b
        · rw [vis_own q] at z
          rw [hid_no (shut_own q (.inr ⟨ds, e⟩))]
          exact z
        · rw [vis_not q] at z
          exact hid_le (fun b hb => shut_le hb) _ _ (nom_some z).1
/-- hidden again -/
theorem Stt.shutOk (S : Stt K w W own r σ H) (e : Ext w.g H H1) (k : OkW K w.g (shut W own r) H1) : OkW K w.g W H1 := S.ok.back e k.bag
theorem Stt.seesBack (S : Stt K w W own r σ H) (e : Ext w.g H H1) : Sees (hid (shut W own r) H1) (hid W H1) := fun a o h n1 n2 => by
  obtain ⟨h1, h2⟩ := hid_some h
  cases q : W a with
  | false => rw [hid_no q]; exact h2
  | true =>
    obtain ⟨i, q1, _⟩ := shut_not q h1
    rcases (S.inj i i a q1 q1).2 with ⟨xs, p3⟩ | ⟨xs, p3⟩
    · have := e a _ (S.oW i a q1).2.2 p3
      rw [h2] at this
      exact absurd (Option.some.inj this) (n1 xs)
    · have := e a _ (S.oW i a q1).2.2 p3
      rw [h2] at this
      exact absurd (Option.some.inj this) (n2 xs)
end
section
variable {X : Cx} {w : Wd} {e : Expr}
theorem ptd_open {t : TDT} (h : ∀ w, PTd X w e t) : PTd X w e (fun r Q => t (openE r) Q) := by
  refine ⟨⟨fun pins s σ H Q I q => ?_⟩, fun r Q Q' q z => (h w).mo _ _ _ q z⟩
  obtain ⟨W, own, r, S, z⟩ := q
  refine (h ⟨H, w.g, shut W own r⟩).pt.run pins s σ H Q I ⟨shut W own r, fun _ _ => False, openE r, S.opened, (h w).mo _ _ _ (fun b q H1 e1 k1 => q H1 e1 (S.shutOk e1 k1)) z⟩
end
end Pd
/-! One's own lists: made, lengthened, emptied. -/
namespace Pd
open PySem PySem.Spec PyProof.Rows L2

section
variable {K : PySem.W.Frag} {w : Wd} {W : Addr → Bool} {own : Ow} {r : En} {σ : L2.St} {H H1 : Hp}
theorem hid_upd {W : Addr → Bool} {H : Hp} {a : Addr} {o : HO} (h : W a = true) : hid W (upd H a o) = hid W H := by
  funext b
  unfold hid
  by_cases z : b = a
  · subst z
    rw [if_pos h, if_pos h]
  · rw [upd_ne z]
theorem nothing {H H0 : Hp} {g : Gd} {p : Addr} (np : H p = none) (e : Ext g H0 H) (ge : ¬ Bd g p) : H0 p = none := by
  cases q : H0 p with
  | none => rfl
  | some o =>
    have := e p o ge q
    rw [np] at this
    cases this
/-- what stands at a place of one's own changes: a list stays a list, a dict a dict -/
theorem Stt.putOwn (S : Stt K w W own r σ H) {i : Nat} {a : Addr} {o : HO} {s : Sl} (h1 : own i a) (mo : Mut (upd H a o) a) (ns : s ≠ .no → ∃ v, σ[i]? = some (some v) ∧ SlD K w.g W own (upd H a o) i v s) :
    Stt K w W own (r.set i s) σ (upd H a o) ∧ Grow w.g W H W (upd H a o) := by
  obtain ⟨hW, h0, hg⟩ := S.oW i a h1
  have eq := hid_upd (H := H) (o := o) hW
  refine ⟨⟨⟨S.ok.bag.upd hg hW (S.inj i i a h1 h1).2.nx, S.ok.gW, fun b hb => ?_⟩, ⟨fun b o n hb => ?_, fun b xs hb hx => ?_⟩, S.w0, S.g0, S.wN, S.oW, fun j k b q1 q2 => ⟨(S.inj j k b q1 q2).1, ?_⟩, ?_, fun j d h n => ?_⟩, fun b o n wb hb => ?_, fun b hb => ?_, fun b hb => .inl hb⟩
  · by_cases z : b = a
    · exact ⟨_, by rw [z]; exact upd_same⟩
    · obtain ⟨o, q⟩ := S.ok.al b hb
      exact ⟨o, by rw [upd_ne z]; exact q⟩
  · have ne : b ≠ a := fun z => by rw [z, h0] at hb; cases hb
    rw [upd_ne ne]
    exact S.base b o n hb
  · have ne : b ≠ a := fun z => hg (.inl (z ▸ hb))
    rw [upd_ne ne]
    exact S.base.last b xs hb hx
  · by_cases z : b = a
    · rw [z]; exact mo
    · exact (S.inj j k b q1 q2).2.up fun o q => by rw [upd_ne z]; exact q
  · rw [List.length_set]
    exact S.len
  · by_cases hj : j = i
    · subst hj
      have hl : j < r.length := by
        have := (List.getElem?_eq_some_iff.mp h).1
        rwa [List.length_set] at this
      rw [List.getElem?_set_self hl] at h
      cases h
      exact ns n
    · rw [List.getElem?_set_ne (Ne.symm hj)] at h
      obtain ⟨v, q1, q2⟩ := S.sl j d h n
      refine ⟨v, q1, ?_⟩
      cases d with
      | no => exact absurd rfl n
      | dat d =>
        show Dv K w.g (hid W (upd H a o)) v d
        rw [eq]
        exact q2
      | own fs =>
        obtain ⟨b, xs, p1, p2, p3, p4⟩ := q2
        have ne : b ≠ a := fun z => hj (S.inj j i a (z ▸ p1.1) h1).1
        exact ⟨b, xs, p1, p2, by rw [upd_ne ne]; exact p3, by rw [eq]; exact p4⟩
      | reg ds =>
        obtain ⟨b, xs, p1, p2, p3, p4⟩ := q2
        have off : ∀ c, own j c → c ≠ a := fun c q z => hj (S.inj j i a (z ▸ q) h1).1
        refine ⟨b, xs, p1, p2, by rw [upd_ne (off b p1)]; exact p3, DvAll.mono (cutAt_sm (vis_up (fun c o q z => ⟨q, ?_⟩) (by rw [eq]; exact fun _ _ z => z))) _ _ p4⟩
        rw [upd_ne (off c q)]
        exact z
  · have ne : b ≠ a := fun z => by rw [z, hW] at wb; cases wb
    rw [upd_ne ne]
    exact hb
  · by_cases z : b = a
    · rw [z, upd_same]
      intro q
      cases q
    · rw [upd_ne z]
      exact hb
/-- one's own list changes -/
theorem Stt.setOwn (S : Stt K w W own r σ H) {i : Nat} {a : Addr} {ds es : List Da} {ys : List V} (h1 : OnlyOwn own i a) (h2 : r[i]? = some (.own ds)) (dv : DvAll K w.g (hid W H) ys es) :
    Stt K w W own (r.set i (.own es)) σ (upd H a (.lst ys)) ∧ Grow w.g W H W (upd H a (.lst ys)) := by
  refine S.putOwn h1.1 (.inl ⟨_, upd_same⟩) fun _ => ?_
  obtain ⟨v, q1, a', xs, p1, p2, _⟩ := S.sl i _ h2 (fun z => by cases z)
  have ea : a' = a := h1.2 a' p1.1
  rw [ea] at p2
  exact ⟨v, q1, a, ys, h1, p2, upd_same, by rw [hid_upd (S.oW i a h1.1).1]; exact dv⟩
/-- a hidden list or dict that is nobody's becomes that of a slot; what the slot owned is let go -/
theorem Stt.takeOwn (S : Stt K w W own r σ H) (i : Nat) {p : Addr} {xs : List V} {ds : List Da} (Wp : W p = true) (h0 : w.H0 p = none) (ge : ¬ Bd w.g p) (oN : ∀ j, ¬ own j p) (hp : H p = some (.lst xs)) (dv : DvAll K w.g (hid W H) xs ds) :
    Stt K w W (fun j a => (j = i ∧ a = p) ∨ (j ≠ i ∧ own j a)) (r.set i (.own ds)) (σ.set i (some (.ref p))) H := by
  refine ⟨S.ok, S.base, S.w0, S.g0, S.wN, fun j a h => ?_, fun j k a q1 q2 => ?_, by rw [List.length_set, List.length_set]; exact S.len, fun j d h n => ?_⟩
  · rcases h with ⟨_, rfl⟩ | h
    · exact ⟨Wp, h0, ge⟩
    · exact S.oW j a h.2
  · rcases q1 with ⟨rfl, rfl⟩ | q1
    · rcases q2 with ⟨rfl, _⟩ | q2
      · exact ⟨rfl, .inl ⟨_, hp⟩⟩
      · exact absurd q2.2 (oN k)
    · rcases q2 with ⟨rfl, rfl⟩ | q2
      · exact absurd q1.2 (oN j)
      · exact S.inj j k a q1.2 q2.2
  · by_cases hj : j = i
    · subst hj
      have hl : j < r.length := by
        have := (List.getElem?_eq_some_iff.mp h).1
        rwa [List.length_set] at this
      rw [List.getElem?_set_self hl] at h
      cases h
      exact ⟨.ref p, by rw [List.getElem?_set_self (by rw [← S.len]; exact hl)], p, xs, ⟨.inl ⟨rfl, rfl⟩, fun b hb => hb.elim (fun z => z.2) fun z => absurd rfl z.1⟩, rfl, hp, dv⟩
    · rw [List.getElem?_set_ne (Ne.symm hj)] at h
      obtain ⟨v, q1, q2⟩ := S.sl j d h n
      refine ⟨v, by rw [List.getElem?_set_ne (Ne.symm hj)]; exact q1, ?_⟩
      cases d with
      | no => exact absurd rfl n
      | dat d => exact q2
      | own fs =>
        obtain ⟨b, zs, p1, p2⟩ := q2
        exact ⟨b, zs, ⟨.inr ⟨hj, p1.1⟩, fun c hc => hc.elim (fun z => absurd z.1 hj) fun z => p1.2 c z.2⟩, p2⟩
      | reg ds =>
        obtain ⟨b, zs, p1, p2, p3, p4⟩ := q2
        exact ⟨b, zs, .inr ⟨hj, p1⟩, p2, p3, DvAll.mono (cutAt_sm (vis_up (fun a o q z => ⟨.inr ⟨hj, q⟩, z⟩) fun _ _ z => z)) _ _ p4⟩
/-- a new thing at p is hidden -/
theorem Stt.hideO (S : Stt K w W own r σ H) {p : Addr} {o : HO} (np : H p = none) : Stt K w (Pd.hideD W p) own r σ (upd H p o) ∧ Grow w.g W H (Pd.hideD W p) (upd H p o) ∧ Sm (hid W H) (hid (Pd.hideD W p) (upd H p o)) ∧ ¬ Bd w.g p ∧ w.H0 p = none ∧ ∀ j, ¬ own j p := by
  have ge : ¬ Bd w.g p := fun z => by
    obtain ⟨o, q⟩ := S.ok.al p (S.ok.gW p z)
    rw [np] at q
    cases q
  have sm : Sm (hid W H) (hid (Pd.hideD W p) (upd H p o)) := fun b o q => by
    obtain ⟨q1, q2⟩ := hid_some q
    have ne : b ≠ p := ne_of_none q2 np
    rw [hid_no (by rw [hideD_ne ne]; exact q1), upd_ne ne]
    exact q2
  have oN : ∀ j, ¬ own j p := fun j z => by
    obtain ⟨o, q⟩ := S.ok.al p (S.oW j p z).1
    rw [np] at q
    cases q
  have old : ∀ j a u, own j a → H a = some u → upd H p o a = some u := fun j a u q z => by rw [upd_ne (ne_of_none z np)]; exact z
  refine ⟨⟨⟨S.ok.bag.lay ge np, fun b hb => hideD_le (S.ok.gW b hb), fun b hb => ?_⟩, S.base.trans (Ext.of (sm_upd np)), fun b hb => hideD_le (S.w0 b hb), S.g0, S.wN' np, fun j a h => ?_, fun j k a q1 q2 => ⟨(S.inj j k a q1 q2).1, (S.inj j k a q1 q2).2.up fun u z => old j a u q1 z⟩, S.len, fun j d h n => ?_⟩, ⟨fun b o n wb hb => ?_, fun b hb => ?_, fun b hb => ?_⟩, sm, ge, nothing np S.base ge, oN⟩
  · by_cases z : b = p
    · exact ⟨_, by rw [z]; exact upd_same⟩
    · rw [hideD_ne z] at hb
      obtain ⟨o, q⟩ := S.ok.al b hb
      exact ⟨o, by rw [upd_ne z]; exact q⟩
  · obtain ⟨q1, q2, q3⟩ := S.oW j a h
    exact ⟨hideD_le q1, q2, q3⟩
  · obtain ⟨v, q1, q2⟩ := S.sl j d h n
    refine ⟨v, q1, ?_⟩
    cases d with
    | no => exact absurd rfl n
    | dat d => exact Dv.mono sm _ _ q2
    | own fs =>
      obtain ⟨b, zs, p1, p2, p3, p4⟩ := q2
      exact ⟨b, zs, p1, p2, old j b _ p1.1 p3, DvAll.mono sm _ _ p4⟩
    | reg ds =>
      obtain ⟨b, zs, p1, p2, p3, p4⟩ := q2
      exact ⟨b, zs, p1, p2, old j b _ p1 p3, DvAll.mono (cutAt_sm (vis_up (fun a u q z => ⟨q, old j a u q z⟩) sm)) _ _ p4⟩
  · rw [upd_ne (ne_of_none hb np)]
    exact hb
  · have ne : b ≠ p := fun z => hb (by rw [z]; exact np)
    rw [upd_ne ne]
    exact hb
  · by_cases z : b = p
    · exact .inr (by rw [z]; exact np)
    · rw [hideD_ne z] at hb
      exact .inl hb
/-- a new list becomes one's own -/
theorem Stt.newOwn (S : Stt K w W own r σ H) (i : Nat) {p : Addr} {xs : List V} {ds : List Da} (np : H p = none) (dv : DvAll K w.g (hid W H) xs ds) :
    (∃ own', Stt K w (Pd.hideD W p) own' (r.set i (.own ds)) (σ.set i (some (.ref p))) (upd H p (.lst xs))) ∧ Grow w.g W H (Pd.hideD W p) (upd H p (.lst xs)) := by
  obtain ⟨S1, gr, sm, ge, h0, oN⟩ := S.hideO (o := .lst xs) np
  exact ⟨⟨_, S1.takeOwn i hideD_at h0 ge oN upd_same (DvAll.mono sm _ _ dv)⟩, gr⟩
end

section
variable {X : Cx} {w : Wd} {e : Expr} {es : List Expr} {te : TDE}
/-- an expression whose value is a new list -/
structure PFd (X : Cx) (w : Wd) (e : Expr) (t : TDA) : Prop where
  pe : PE X e (fun σ H Q => ∃ W own r, Stt X.K w W own r σ H ∧ t r fun ds => ∀ p xs H1, Ext w.g H H1 → OkW X.K w.g W H1 → H1 p = none → DvAll X.K w.g (hid W H1) xs ds → Q (.ref p) (upd H1 p (.lst xs)))
  mo : ∀ r Q Q', (∀ ds, Q ds → Q' ds) → t r Q → t r Q'
theorem pfd_lst {t : TDA} {pos : Pos} (h : PAd X w es t) : PFd X w (.List es pos) (fun r Q => t r fun ds => ds.length ≤ sizeLine ∧ Q ds) := by
  refine ⟨weE (pe_lst h.pa) ?_, fun r Q Q' q z => h.mo _ _ _ (fun ds z => ⟨z.1, q _ z.2⟩) z⟩
  rintro σ H Q ⟨W, own, r, S, z⟩
  refine goA h S z fun xs vs H1 e1 k1 d1 z => ⟨by rw [d1.len]; exact z.1, fun p np => z.2 p vs H1 e1 k1 np d1⟩
def dSetF (t : TDA) (i : Nat) : TDS := fun E r => t r fun ds => E.nx (r.set i (.own ds))
theorem psd_setF {i : Nat} {x : Str} {pos pos' : Pos} {t : TDA} (he : PFd X w e t) (hN : X.N.Nodup) (hi : X.N[i]? = some x := by rfl) (hx : Loc X.env.scope x := by first | exact .inl rfl | exact .inr rfl) (hs : swapsWith e (some (.Name x pos')) pos.line X.env = pure false := by rfl)
    (hf : X.fn x = true ∨ X.env.scope.names.lookup x = some .local := by first | exact .inl rfl | exact .inr rfl) : PSd X w (.Assign [.Name x pos'] e pos) (dSetF t i) := by
  refine ⟨weS (ps_set hN hi hx he.pe hs hf) ?_, fun E E' r l h => he.mo _ _ _ (fun d => l.nx _) h⟩
  rintro D σ H ⟨W, own, r, S, h⟩
  refine ⟨W, own, r, S, he.mo _ _ _ (fun ds z p xs H1 e1 k1 np dv => ?_) h⟩
  have S1 := S.ext e1 k1
  obtain ⟨⟨own', S'⟩, gr⟩ := S1.newOwn i np dv
  exact z _ own' _ _ ((Grow.of k1 e1).trans gr) S'
def dApp (i : Nat) (te : TDE) : TDS := fun E r => ∃ ds, r[i]? = some (.own ds) ∧ te r fun d => ds.length < sizeLine ∧ E.nx (r.set i (.own (ds ++ [d])))
theorem psd_app {i : Nat} {x : Str} {p apos cpos pos : Pos} (he : PEd X w e te) (hN : X.N[i]? = some x := by rfl) (hv : Vis X.env.scope x := by first | exact Or.inl rfl | exact Or.inr (Or.inl rfl) | exact Or.inr (Or.inr rfl)) (hd : (x == ("__debug__" : Str)) = false := by decide) (hcd : (x == ("__classdict__" : Str)) = false := by decide)
    (hbase : attributeBase (.Name x p) "append" X.env (eval (.Name x p) X.env) = eval (.Name x p) X.env := by rfl)
    (hfew : ((backTo cpos (starEach [e] X.env)).all (fun x => !x.1) && (backToKw cpos (keywordEach [] X.env)).all (fun x => x.1.isSome) && decide (([e] : List Expr).length + ([] : List Keyword).length + (if ([] : List Keyword).isEmpty then 0 else 1) < 30)) = true := by rfl)
    (hline : (apos.endLine == cpos.line) = true := by rfl) (hst : starEach [e] X.env = (false, eval e X.env) :: starEach [] X.env := by rfl) (hpl : (backTo cpos (starEach [] X.env)).any (·.1) = false := by rfl)
    (hs : swapsWith (.Call (.Attribute (.Name x p) "append" apos) [e] [] cpos) none pos.line X.env = pure false := by rfl) :
    PSd X w (.Expr (.Call (.Attribute (.Name x p) "append" apos) [e] [] cpos) pos) (dApp i te) := by
  refine ⟨weS (ps_expr (pe_bm PySem.F.plainAttrs_list PySem.F.slot_list_append PySem.F.type_list_append mt_append (pv i hN hv hd hcd) (pa_cons he.pe pa_nil hst) hbase hfew hline hst hpl) hs) ?_, fun E E' r l ⟨ds, a, h⟩ => ⟨ds, a, he.mo _ _ _ (fun d z => ⟨z.1, l.nx _ z.2⟩) h⟩⟩
  rintro D σ H ⟨W, own, r, S, ds, hr, h⟩
  obtain ⟨v, hv, a, xs, o1, rfl, o3, o4⟩ := S.sl i _ hr (fun z => by cases z)
  refine ⟨.ref a, hv, .inl ⟨rfl, _, SqL.of o3⟩, ?_⟩
  refine go1 he S h fun d v H1 e1 k1 d1 z => ?_
  have S1 := S.ext e1 k1
  obtain ⟨v', hv', a', xs', q1, q2, q3, q4⟩ := S1.sl i _ hr (fun z => by cases z)
  cases o1.2 _ q1.1
  obtain ⟨S', gr⟩ := S1.setOwn (ys := xs' ++ [v]) (es := ds ++ [d]) o1 hr (q4.app (.cons d1 .nil))
  exact ⟨a, xs', v, rfl, rfl, q3, by rw [q4.len]; exact z.1, z.2 W own σ _ ((Grow.of k1 e1).trans gr) S'⟩
end
end Pd
namespace Pd
open PySem PySem.Spec PyProof.Rows L2 Tx

/-! ### sets of texts as values -/
section
variable {X : Cx}
end
end Pd
/-! isinstance, chains, in, names of the module, sets of texts. -/
namespace Pd
open PySem PySem.Spec PyProof.Rows L2 Tx

/-! ### isinstance -/
section
variable {X : Cx} {w : Wd} {a b c e : Expr} {es : List Expr} {ta tb tc te : TDE} {pos : Pos}
/-! ### chains -/
/-! ### in -/
/-! ### names of the module -/
/-! ### sets of texts -/
end
end Pd
/-! while; own lists emptied, joined. -/
namespace Pd
open PySem PySem.Spec PyProof.Rows L2
section
variable {X : Cx} {w : Wd} {a b c e : Expr} {es : List Expr} {ta tb te : TDE} {tt : TDT} {pos : Pos}
/-- x.clear() -/
def dClr (i : Nat) : TDS := fun E r => ∃ ds, r[i]? = some (.own ds) ∧ E.nx (r.set i (.own []))
theorem psd_clear {i : Nat} {x : Str} {p apos cpos : Pos} (hN : X.N[i]? = some x := by rfl) (hv : Vis X.env.scope x := by first | exact Or.inl rfl | exact Or.inr (Or.inl rfl) | exact Or.inr (Or.inr rfl)) (hd : (x == ("__debug__" : Str)) = false := by decide) (hcd : (x == ("__classdict__" : Str)) = false := by decide)
    (hbase : attributeBase (.Name x p) "clear" X.env (eval (.Name x p) X.env) = eval (.Name x p) X.env := by rfl) (hline : (apos.endLine == cpos.line) = true := by rfl)
    (hs : swapsWith (.Call (.Attribute (.Name x p) "clear" apos) [] [] cpos) none pos.line X.env = pure false := by rfl) : PSd X w (.Expr (.Call (.Attribute (.Name x p) "clear" apos) [] [] cpos) pos) (dClr i) := by
  refine ⟨weS (ps_expr (pe_bm0 PySem.F.plainAttrs_list PySem.F.slot_list_clear PySem.F.type_list_clear mt_clear (pv i hN hv hd hcd) hbase hline) hs) ?_, fun E E' r l ⟨ds, a, h⟩ => ⟨ds, a, l.nx _ h⟩⟩
  rintro D σ H ⟨W, own, r, S, ds, hr, h⟩
  obtain ⟨v, hv, a, xs, o1, rfl, o3, o4⟩ := S.sl i _ hr (fun z => by cases z)
  obtain ⟨S', gr⟩ := S.setOwn (ys := []) (es := []) o1 hr .nil
  exact ⟨.ref a, hv, .inl ⟨rfl, _, SqL.of o3⟩, a, xs, rfl, rfl, o3, h W own σ _ gr S'⟩
end
/-! ### while by a measure -/
end Pd
namespace Pd
open PySem PySem.Spec PyProof.Rows L2 Tx
/-! ### sorted of a tuple of texts -/
section
variable {X : Cx} {w : Wd} {e : Expr} {te : TDE} {pos : Pos}
end
end Pd
/-! A tuple turned about: t[::-1]. -/
namespace Pd
open PySem PySem.Spec PyProof.Rows L2
section
variable {P : Program} {wd : World} {A : Around} {E : Value → Shared → Prop} {s : Shared}
end
section
variable {X : Cx} {w : Wd} {e : Expr}
end
end Pd
/-! repr of data that hold dicts (and no lists); displays of dicts. -/
namespace Pd
open PySem PySem.Spec PyProof.Rows L2
def keyP : Key → PyData
  | .inl i => .int i
  | .inr x => .str x
mutual
def toR : Da → PyData
  | .non => .none
  | .bl b => .bool b
  | .int i => .int i
  | .str x => .str x
  | .lst _ => .none
  | .tup xs => .tuple (toRs xs)
  | .tpw xs => .tuple (toRs xs)
  | .dct kvs => .dict (toRk kvs)
  | .bag => .none
  | .raw _ => .none
  | .fix _ => .none
def toRs : List Da → List PyData
  | [] => []
  | x :: xs => toR x :: toRs xs
def toRk : List (Key × Da) → List (PyData × PyData)
  | [] => []
  | (k, x) :: xs => (keyP k, toR x) :: toRk xs
end
mutual
def canR : Da → Bool
  | .non => true
  | .bl _ => true
  | .int _ => true
  | .str _ => true
  | .lst _ => false
  | .tup xs => canRs xs
  | .tpw xs => canRs xs
  | .dct kvs => canRk kvs
  | .bag => false
  | .raw _ => false
  | .fix _ => false
def canRs : List Da → Bool
  | [] => true
  | x :: xs => canR x && canRs xs
def canRk : List (Key × Da) → Bool
  | [] => true
  | (_, x) :: xs => canR x && canRk xs
end
theorem keys_reads {P : Program} {wd : World} {h : Heap} : ∀ {es : List DictEntry} {us : List (Key × Value)} {kds : List (Key × Da)}, Pairs (mixKind P wd) es us → us.map (·.1) = kds.map (·.1) → ReadsAll h (es.map (·.key)) ((toRk kds).map (·.1)) []
  | _, _, [], .nil, _ => by rw [toRk]; exact .nil
  | _, _, _ :: _, .nil, e => by cases e
  | _, _, [], .cons _ _ _, e => by cases e
  | _, _, (k, x) :: kds, .cons (e := en) (kv := kv) h1 h2 h3, e => by
    rw [List.map_cons, List.map_cons] at e
    injection e with e1 e2
    have t := keys_reads (h := h) h3 e2
    rw [toRk, List.map_cons, List.map_cons]
    have hk : keyIs kv.1 en.key = true := h1
    rw [e1] at hk
    rcases keyIs_shape hk with ⟨i, t0, q1, q2⟩ | ⟨y, t0, q1, q2⟩
    · have q1' : k = .inl i := q1
      rw [q2, q1']
      exact ReadsAll.cons (as := []) (bs := []) (Reads.int i t0) t
    · have q1' : k = .inr y := q1
      rw [q2, q1']
      exact ReadsAll.cons (as := []) (bs := []) (Reads.str y t0) t
theorem pairs_vals {P : Program} {wd : World} : ∀ {es : List DictEntry} {us : List (Key × Value)}, Pairs (mixKind P wd) es us → es.map (·.val) = us.map (·.2)
  | _, _, .nil => rfl
  | _, _, .cons _ h2 h3 => by rw [List.map_cons, List.map_cons, h2, pairs_vals h3]
section
variable {X : Cx} {pins : List (Addr × Obj)} {σ : L2.St} {H : Hp} {s : Shared} {g : Gd} {Hh : Hp}
mutual
theorem Dv.readsR (I : Inv X pins σ H s) (sm : Sm Hh H) : ∀ (d : Da) (v : V) (u : Value), Dv X.K g Hh v d → canR d = true → RelV v u → ∃ as, Reads s.heap u (toR d) as ∧ sysModules ∉ as
  | .non, _, _, h, _, r => by cases h; cases r; exact ⟨[], by rw [toR]; exact .none, List.not_mem_nil⟩
  | .bl b, _, _, h, _, r => by cases h; cases r; exact ⟨[], by rw [toR]; exact .bool b, List.not_mem_nil⟩
  | .int i, _, _, h, _, r => by cases h; obtain ⟨t, rfl⟩ := r; exact ⟨[], by rw [toR]; exact .int i t, List.not_mem_nil⟩
  | .str x, _, _, h, _, r => by cases h; obtain ⟨t, rfl⟩ := r; exact ⟨[], by rw [toR]; exact .str x t, List.not_mem_nil⟩
  | .lst _, _, _, _, c, _ => by rw [canR] at c; cases c
  | .tup ds, _, _, h, c, r => by
    rw [canR] at c
    cases h with
    | tup h1 h2 =>
      cases r
      obtain ⟨its, rv, ⟨o, ho, hc, n, hd⟩, _⟩ := I.tuple (sqt_mono sm h1.sq)
      obtain ⟨as, q1, q2⟩ := DvAll.readsR I sm ds _ its h2 c rv
      exact ⟨as, by rw [toR]; exact .tuple ho hc hd q1, q2⟩
  | .tpw ds, _, _, h, c, r => by
    rw [canR] at c
    cases h with
    | tpw h1 h2 =>
      cases r
      obtain ⟨its, rv, ⟨o, ho, hc, n, hd⟩, _⟩ := I.tuple (sqt_mono sm h1)
      obtain ⟨as, q1, q2⟩ := DvAll.readsR I sm ds _ its h2 c rv
      exact ⟨as, by rw [toR]; exact .tuple ho hc hd q1, q2⟩
  | .dct kds, _, _, h, c, r => by
    rw [canR] at c
    cases h with
    | @dct a kvs _ h1 h2 =>
      cases r
      obtain ⟨_, low, us, kv, o, es, ep, ho, hex, hd, _, hp, _⟩ := (show ObjOk X.prog X.w H s.heap a (.dK kvs) from I.hok a _ (sm _ _ h1))
      obtain ⟨bs, q1, q2, q3⟩ := KvAll.readsR I sm kds kvs us h2 c kv
      refine ⟨a :: ([] ++ bs), ?_, fun z => ?_⟩
      · rw [toR]
        have k1 := keys_reads (h := s.heap) hp q3
        have k2 := pairs_vals hp
        exact Reads.dict (as := []) (bs := bs) ho hex.1 hd k1 (by rw [k2]; exact q1)
      · rcases List.mem_cons.mp z with z | z
        · rw [← z] at low
          simp at low
        · exact q2 z
  | .bag, _, _, _, c, _ => by rw [canR] at c; cases c
  | .raw _, _, _, _, c, _ => by rw [canR] at c; cases c
  | .fix _, _, _, _, c, _ => by rw [canR] at c; cases c
theorem DvAll.readsR (I : Inv X pins σ H s) (sm : Sm Hh H) : ∀ (ds : List Da) (vs : List V) (us : List Value), DvAll X.K g Hh vs ds → canRs ds = true → Vals vs us → ∃ as, ReadsAll s.heap us (toRs ds) as ∧ sysModules ∉ as
  | [], _, _, h, _, r => by cases h; cases r; exact ⟨[], by rw [toRs]; exact .nil, List.not_mem_nil⟩
  | d :: ds, _, _, h, c, r => by
    rw [canRs, Bool.and_eq_true] at c
    cases h with
    | cons h1 h2 =>
      cases r with
      | cons r1 r2 =>
        obtain ⟨as, q1, n1⟩ := Dv.readsR I sm d _ _ h1 c.1 r1
        obtain ⟨bs, q2, n2⟩ := DvAll.readsR I sm ds _ _ h2 c.2 r2
        exact ⟨as ++ bs, by rw [toRs]; exact .cons q1 q2, fun z => (List.mem_append.mp z).elim n1 n2⟩
theorem KvAll.readsR (I : Inv X pins σ H s) (sm : Sm Hh H) : ∀ (kds : List (Key × Da)) (kvs : List (Key × V)) (us : List (Key × Value)), KvAll X.K g Hh kvs kds → canRk kds = true → KV kvs us → ∃ as, ReadsAll s.heap (us.map (·.2)) ((toRk kds).map (·.2)) as ∧ sysModules ∉ as ∧ us.map (·.1) = kds.map (·.1)
  | [], _, _, h, _, r => by cases h; cases r; exact ⟨[], by rw [toRk]; exact .nil, List.not_mem_nil, rfl⟩
  | (k, d) :: kds, _, _, h, c, r => by
    rw [canRk, Bool.and_eq_true] at c
    cases h with
    | cons h1 h2 =>
      cases r with
      | cons r1 r2 =>
        obtain ⟨as, q1, n1⟩ := Dv.readsR I sm d _ _ h1 c.1 r1.2
        obtain ⟨bs, q2, n2, e2⟩ := KvAll.readsR I sm kds _ _ h2 c.2 r2
        exact ⟨as ++ bs, by rw [toRk]; exact .cons q1 q2, fun z => (List.mem_append.mp z).elim n1 n2, by rw [List.map_cons, List.map_cons, e2]; exact congrArg (· :: _) r1.1.symm⟩
end
end
/-! ### repr -/
section
variable {X : Cx} {w : Wd} {e : Expr} {es : List Expr} {t : TDA} {p pos : Pos}
/-! ### displays of dicts -/
end
end Pd
/-! The same as tests. -/
namespace Pd
open PySem PySem.Spec PyProof.Rows L2
section
variable {X : Cx} {w : Wd} {a b c : Expr} {ta tb tc : TDE} {pos : Pos}
end
end Pd
/-! Sorted texts: one list alone is sorted; lists of texts compared. -/
namespace Pd
open PySem PySem.Spec PyProof.Rows L2
def leS (a b : Str) : Prop := ¬ b.cps.toList < a.cps.toList
theorem leS_trans {a b c : Str} (h1 : leS a b) (h2 : leS b c) : leS a c := List.not_lt.mpr (List.le_trans (List.not_lt.mp h1) (List.not_lt.mp h2))
theorem leS_anti {a b : Str} (h1 : leS a b) (h2 : leS b a) : a = b := by
  have e := List.le_antisymm (List.not_lt.mp h1) (List.not_lt.mp h2)
  cases a with
  | mk x =>
    cases b with
    | mk y =>
      have e2 : x.toList = y.toList := e
      rw [Array.toList_inj.mp e2]
theorem rising_iff : ∀ (l : List Str) (p : Str), risingS p l = true → (p :: l).Pairwise leS
  | [], p, _ => List.pairwise_singleton _ _
  | x :: l, p, h => by
    unfold risingS at h
    rw [Bool.and_eq_true] at h
    have t := rising_iff l x h.2
    have px : leS p x := by
      have z : ltCps x.cps.toList p.cps.toList = false := by simpa using h.1
      rw [ltCps_eq] at z
      exact of_decide_eq_false z
    refine List.pairwise_cons.mpr ⟨fun y hy => ?_, t⟩
    rcases List.mem_cons.mp hy with e | e
    · rw [e]; exact px
    · exact leS_trans px ((List.pairwise_cons.mp t).1 y e)
theorem sorted_pw {l : List Str} (h : sortedS l = true) : l.Pairwise leS := by
  cases l with
  | nil => exact List.Pairwise.nil
  | cons x l => exact rising_iff l x h
theorem sorted_uniq {a b : List Str} (h1 : sortedS a = true) (h2 : sortedS b = true) (p : a.Perm b) : a = b :=
  List.Perm.eq_of_pairwise (le := leS) (fun _ _ _ _ => leS_anti) (sorted_pw h1) (sorted_pw h2) p
theorem eqv_strs : ∀ (a b : List Str), PyData.eqvAll (toPs (a.map .str)) (toPs (b.map .str)) = decide (a = b)
  | [], [] => by rw [List.map_nil, toPs, PyData.eqvAll]; rfl
  | [], y :: b => by rw [List.map_nil, List.map_cons, toPs, toPs, PyData.eqvAll]; rfl
  | x :: a, [] => by rw [List.map_nil, List.map_cons, toPs, toPs, PyData.eqvAll]; rfl
  | x :: a, y :: b => by
    have e : PyData.eqv (toP (.str x)) (toP (.str y)) = (x == y) := eqd_str x y
    rw [List.map_cons, List.map_cons, toPs, toPs, PyData.eqvAll, e, eqv_strs a b, Bool.eq_iff_iff, Bool.and_eq_true, beq_iff_eq, decide_eq_true_eq, decide_eq_true_eq]
    constructor
    · rintro ⟨rfl, rfl⟩; rfl
    · intro h; cases h; exact ⟨rfl, rfl⟩
theorem eqd_lstrs {a b : List Str} : eqd (.lst (a.map .str)) (.lst (b.map .str)) = decide (a = b) := by
  unfold eqd
  rw [toP, toP, PyData.eqv]
  exact eqv_strs a b
end Pd
/-! xs == [], xs != [] of lists of whatever. -/
namespace Pd
open PySem PySem.Spec PyProof.Rows L2
section
variable {X : Cx}
variable {w : Wd} {a b : Expr} {ta tb : TDE} {pos : Pos}
end
end Pd
/-! New lists: comprehensions of one and of two walks, a def that returns one, a def's list kept as one's own. -/
namespace Pd
open PySem PySem.Spec PyProof.Rows L2
section
variable {K : PySem.W.Frag} {w : Wd} {W : Addr → Bool} {own : Ow} {r : En} {σ : L2.St} {H H' : Hp}
/-- a target that takes no list over -/
structure GDs (K : PySem.W.Frag) (g : TG) (gd : TDG) (vs : List Nat) : Prop where
  run : ∀ (w : Wd) (W : Addr → Bool) (own : Ow) (r : En) (σ : L2.St) (H : Hp) (v : V) (d : Da) (Q : En → Prop), Stt K w W own r σ H → Dv K w.g (hid W H) v d → gd d r Q →
    g v σ H fun σ' H' => H' = H ∧ (∀ us, (∀ i ∈ vs, i ∈ us) → L2.wipe σ' us = L2.wipe σ us) ∧ ∃ own' r', (∀ j a, own' j a → own j a) ∧ Stt K w W own' r' σ' H ∧ Q r'
  mo : ∀ d r Q Q', (∀ r, Q r → Q' r) → gd d r Q → gd d r Q'
theorem gds_name (i : Nat) : GDs K (gName i) (dgName i) [i] := by
  refine ⟨fun w W own r σ H v d Q S dv h => ?_, fun d r Q Q' q h => q _ h⟩
  exact ⟨rfl, fun us hu => wipe_set (hu i List.mem_cons_self), _, _, fun j a h => h.2, S.setS (i := i) dv, h⟩
theorem gds_tup2 (i j : Nat) : GDs K (gTup K 2 (gCons (gName i) (gCons (gName j) gNil))) (dgTup2 i j) [i, j] := by
  refine ⟨fun w W own r σ H v d Q S dv h => ?_, fun d r Q Q' q ⟨x, y, e, z⟩ => ⟨x, y, e, q _ z⟩⟩
  obtain ⟨x, y, e, h⟩ := h
  obtain ⟨c, xs, rfl, hq, hd⟩ := items_sq dv e
  cases hd with
  | cons d1 t1 =>
    cases t1 with
    | cons d2 t2 =>
      cases t2
      have S2 := (S.setS (i := i) d1).setS (i := j) d2
      refine ⟨c, _, rfl, hq, rfl, _, _, rfl, _, _, rfl, rfl, rfl, fun us hu => ?_, _, _, fun k a h => h.2.2, S2, h⟩
      rw [wipe_set (hu j (by simp)), wipe_set (hu i (by simp))]

/-! ### a list that grows at D -/
structure Gro (K : PySem.W.Frag) (g : Gd) (W : Addr → Bool) (H1 : Hp) (D : Addr) (H' : Hp) (ad : List Da) : Prop where
  ext : Ext g H1 H'
  bag : BagI K g (hideD W D) H'
  at_ : ∃ av, H' D = some (.lst av) ∧ DvAll K g (hid (hideD W D) H') av ad
theorem hidD_upd {W : Addr → Bool} {H : Hp} {D : Addr} {o : HO} : hid (hideD W D) (upd H D o) = hid (hideD W D) H := hid_upd hideD_at
section
variable {g : Gd} {H1 : Hp} {D : Addr} {ad : List Da}
theorem Gro.go (G : Gro K g W H1 D H ad) (gne : ¬ Bd g D) (gW : ∀ a, Bd g a → hideD W D a = true) (e : Ext g H H') (b : BagI K g (hideD W D) H') : Gro K g W H1 D H' ad := by
  obtain ⟨av, h1, h2⟩ := G.at_
  exact ⟨G.ext.trans e, b, av, e D _ gne h1, DvAll.mono (e.hid gW) _ _ h2⟩
theorem Gro.push (G : Gro K g W H1 D H ad) (hD : H1 D = none) (gne : ¬ Bd g D) {v : V} {y : Da} (d : Dv K g (hid (hideD W D) H) v y) : ∃ av, H D = some (.lst av) ∧ av.length = ad.length ∧ Gro K g W H1 D (upd H D (.lst (av ++ [v]))) (ad ++ [y]) := by
  obtain ⟨av, h1, h2⟩ := G.at_
  refine ⟨av, h1, h2.len, ⟨fun b o nb hb => ?_, fun a xs ha hx => ?_⟩, G.bag.upd gne hideD_at (fun φ z => by rw [h1] at z; cases z), av ++ [v], upd_same, by rw [hidD_upd]; exact h2.app (.cons d .nil)⟩
  · rw [upd_ne (ne_of_none hb hD)]
    exact G.ext b o nb hb
  · have ne : a ≠ D := fun z => gne (.inl (z ▸ ha))
    rw [upd_ne ne]
    exact G.ext.last a xs ha hx
/-- the list is done: it is new -/
theorem Gro.new (G : Gro K g W H1 D H ad) (hD : H1 D = none) (k : OkW K g W H1) : ∃ xs Hm, Ext g H1 Hm ∧ OkW K g W Hm ∧ Hm D = none ∧ DvAll K g (hid W Hm) xs ad ∧ H = upd Hm D (.lst xs) := by
  obtain ⟨av, h1, h2⟩ := G.at_
  have gne : ¬ Bd g D := fun z => by
    obtain ⟨o, q⟩ := k.al D (k.gW D z)
    rw [hD] at q; cases q
  have WD : W D = false := by
    cases y : W D with
    | false => rfl
    | true => obtain ⟨o, q⟩ := k.al D y; rw [hD] at q; cases q
  have eq : hid (hideD W D) H = hid W (cutAt D H) := by
    funext b
    unfold hid
    by_cases z : b = D
    · subst z
      rw [hideD_at, if_pos rfl, WD, if_neg Bool.false_ne_true, cutAt_same]
    · rw [hideD_ne z, cutAt_ne z]
  refine ⟨av, cutAt D H, ⟨fun b o nb hb => ?_, fun a xs ha hx => ?_⟩, ⟨(G.bag.cut gne hideD_at (fun φ z => by rw [h1] at z; cases z)).less (fun a h => hideD_le h), k.gW, fun a ha => ?_⟩, cutAt_same, by rw [← eq]; exact h2, ?_⟩
  · rw [cutAt_ne (ne_of_none hb hD)]
    exact G.ext b o nb hb
  · have ne : a ≠ D := fun z => gne (.inl (z ▸ ha))
    obtain ⟨ys, q1, q2⟩ := G.ext.last a xs ha hx
    exact ⟨ys, by rw [cutAt_ne ne]; exact q1, q2⟩
  · have ne : a ≠ D := fun z => by rw [z, WD] at ha; cases ha
    rw [cutAt_ne ne]
    by_cases y : Bd g a
    · exact G.bag.al y
    · obtain ⟨o, q⟩ := k.al a ha
      exact ⟨o, G.ext a o y q⟩
  · funext b
    by_cases z : b = D
    · rw [z, h1, upd_same]
    · rw [upd_ne z, cutAt_ne z]
end
/-- all but the bag and what stands at D is kept -/
structure Xt (g : Gd) (D : Addr) (H H' : Hp) : Prop where
  out : ∀ b o, b ≠ D → ¬ Bd g b → H b = some o → H' b = some o
  last : ∀ a xs, g.bag = some a → H a = some (.lst xs) → ∃ ys, H' a = some (.lst ys) ∧ ys[3]? = xs[3]?
theorem Xt.of {g : Gd} {D : Addr} {H H' : Hp} (e : Ext g H H') : Xt g D H H' := ⟨fun b o _ n h => e b o n h, e.last⟩
theorem Xt.trans {g : Gd} {D : Addr} {H H1 H2 : Hp} (a : Xt g D H H1) (b : Xt g D H1 H2) : Xt g D H H2 := ⟨fun c o n1 n2 h => b.out c o n1 n2 (a.out c o n1 n2 h), fun c xs hg h => by
  obtain ⟨ys, h1, h2⟩ := a.last c xs hg h
  obtain ⟨zs, h3, h4⟩ := b.last c ys hg h1
  exact ⟨zs, h3, h4.trans h2⟩⟩
theorem Xt.upd {g : Gd} {D : Addr} {H : Hp} {o : HO} (gne : ¬ Bd g D) : Xt g D H (upd H D o) := ⟨fun b o n _ h => by rw [upd_ne n]; exact h, fun a xs ha h => ⟨xs, by rw [upd_ne (show a ≠ D from fun z => gne (.inl (z ▸ ha)))]; exact h, rfl⟩⟩
theorem Xt.hid {g : Gd} {D : Addr} {H H' : Hp} {W : Addr → Bool} (gW : ∀ a, Bd g a → W a = true) (WD : W D = true) (e : Xt g D H H') : Sm (hid W H) (hid W H') := fun a o q => by
  obtain ⟨e1, e2⟩ := hid_some q
  rw [hid_no e1]
  exact e.out a o (fun z => by rw [z, WD] at e1; cases e1) (fun z => by rw [gW a z] at e1; cases e1) e2
theorem Stt.xt {D : Addr} (S : Stt K w W own r σ H) (WD : W D = true) (h0 : w.H0 D = none) (oD : ∀ j, ¬ own j D) (e : Xt w.g D H H') (k : OkW K w.g W H') : Stt K w W own r σ H' := by
  refine ⟨k, ⟨fun b o n h => ?_, fun a xs ha h => ?_⟩, S.w0, S.g0, S.wN, S.oW, fun i j a h1 h2 => ⟨(S.inj i j a h1 h2).1, (S.inj i j a h1 h2).2.up fun o z => e.out a o (fun y => oD i (y ▸ h1)) (S.oW i a h1).2.2 z⟩, S.len, fun i d h n => ?_⟩
  · exact e.out b o (ne_of_none h h0) n (S.base b o n h)
  · obtain ⟨ys, q1, q2⟩ := S.base.last a xs ha h
    obtain ⟨zs, q3, q4⟩ := e.last a ys ha q1
    exact ⟨zs, q3, q4.trans q2⟩
  · obtain ⟨v, h1, h2⟩ := S.sl i d h n
    refine ⟨v, h1, ?_⟩
    have sm := e.hid S.ok.gW WD
    cases d with
    | no => trivial
    | dat d => exact Dv.mono sm _ _ h2
    | own ds =>
      obtain ⟨a, xs, q1, q2, q3, q4⟩ := h2
      exact ⟨a, xs, q1, q2, e.out a _ (fun z => oD i (z ▸ q1.1)) (S.oW i a q1.1).2.2 q3, DvAll.mono sm _ _ q4⟩
    | reg ds =>
      obtain ⟨a, xs, q1, q2, q3, q4⟩ := h2
      have kp : ∀ b o, own i b → H b = some o → H' b = some o := fun b o q z => e.out b o (fun y => oD i (y ▸ q)) (S.oW i b q).2.2 z
      exact ⟨a, xs, q1, q2, kp a _ q1 q3, DvAll.mono (cutAt_sm (vis_up (fun a o q z => ⟨q, kp a o q z⟩) sm)) _ _ q4⟩
end

/-! ### the turns -/
def lcK (gd : TDG) (tt : TDT) (te : TDE) (vs : List Nat) (r : En) (k : List Da → Prop) : List Da → List Da → Prop
  | [], acc => k acc
  | d :: ds, acc => gd d (wipeD r vs) fun r2 => tt r2 fun b => if b = true then te r2 fun y => acc.length < sizeLine ∧ lcK gd tt te vs r k ds (acc ++ [y]) else lcK gd tt te vs r k ds acc
def lcN (gd : TDG) (tt : TDT) (wd1 : TDI) (gd1 : TDG) (tt1 : TDT) (te : TDE) (vs vs1 : List Nat) (r : En) (k : List Da → Prop) : List Da → List Da → Prop
  | [], acc => k acc
  | d :: ds, acc => gd d (wipeD r vs) fun r2 => tt r2 fun b => if b = true then wd1 r2 fun es => lcK gd1 tt1 te vs1 r2 (fun acc' => lcN gd tt wd1 gd1 tt1 te vs vs1 r k ds acc') es acc else lcN gd tt wd1 gd1 tt1 te vs vs1 r k ds acc
theorem lcK_mo {gd : TDG} {tt : TDT} {te : TDE} {vs : List Nat} {r : En} (mg : ∀ d r Q Q', (∀ r, Q r → Q' r) → gd d r Q → gd d r Q') (mt : ∀ r Q Q', (∀ b, Q b → Q' b) → tt r Q → tt r Q') (me : ∀ r Q Q', (∀ b, Q b → Q' b) → te r Q → te r Q') {k k' : List Da → Prop} (q : ∀ d, k d → k' d) :
    ∀ ds acc, lcK gd tt te vs r k ds acc → lcK gd tt te vs r k' ds acc
  | [], acc, h => q _ h
  | d :: ds, acc, h => mg _ _ _ _ (fun r2 z => mt _ _ _ (fun b z => ite_mo (me _ _ _ fun y z => ⟨z.1, lcK_mo mg mt me q ds _ z.2⟩) (lcK_mo mg mt me q ds _) z) z) h
theorem lcN_mo {gd : TDG} {tt : TDT} {wd1 : TDI} {gd1 : TDG} {tt1 : TDT} {te : TDE} {vs vs1 : List Nat} {r : En} (mg : ∀ d r Q Q', (∀ r, Q r → Q' r) → gd d r Q → gd d r Q') (mt : ∀ r Q Q', (∀ b, Q b → Q' b) → tt r Q → tt r Q') (mw : ∀ r Q Q', (∀ b, Q b → Q' b) → wd1 r Q → wd1 r Q')
    (mg1 : ∀ d r Q Q', (∀ r, Q r → Q' r) → gd1 d r Q → gd1 d r Q') (mt1 : ∀ r Q Q', (∀ b, Q b → Q' b) → tt1 r Q → tt1 r Q') (me : ∀ r Q Q', (∀ b, Q b → Q' b) → te r Q → te r Q') {k k' : List Da → Prop} (q : ∀ d, k d → k' d) :
    ∀ ds acc, lcN gd tt wd1 gd1 tt1 te vs vs1 r k ds acc → lcN gd tt wd1 gd1 tt1 te vs vs1 r k' ds acc
  | [], acc, h => q _ h
  | d :: ds, acc, h => mg _ _ _ _ (fun r2 z => mt _ _ _ (fun b z => ite_mo (mw _ _ _ fun es z => lcK_mo mg1 mt1 me (fun acc' => lcN_mo mg mt mw mg1 mt1 me q ds acc') es acc z) (lcN_mo mg mt mw mg1 mt1 me q ds acc) z) z) h
end Pd
/-! Comprehensions as new lists. -/
namespace Pd
open PySem PySem.Spec PyProof.Rows L2
/-- what a new list must give -/
def NewL (K : PySem.W.Frag) (g : Gd) (W : Addr → Bool) (H : Hp) (Q : VK) (ds : List Da) : Prop := ∀ p xs H1, Ext g H H1 → OkW K g W H1 → H1 p = none → DvAll K g (hid W H1) xs ds → Q (.ref p) (upd H1 p (.lst xs))
theorem gro_start {K : PySem.W.Frag} {g : Gd} {W : Addr → Bool} {H1 : Hp} {D : Addr} (k : OkW K g W H1) (hD : H1 D = none) : Gro K g W H1 D (upd H1 D (.lst [])) [] := by
  exact ⟨Ext.of (sm_upd hD), k.bag.lay (k.bag.free hD) hD, [], upd_same, .nil⟩
theorem drop_at {ds : List Da} {i : Nat} {d : Da} (hd : ds[i]? = some d) : ds.drop i = d :: ds.drop (i + 1) := by
  obtain ⟨h1, h2⟩ := List.getElem?_eq_some_iff.mp hd
  rw [List.drop_eq_getElem_cons h1, h2]
section
variable {K : PySem.W.Frag} {w : Wd}
theorem Gro.sm {g : Gd} {W : Addr → Bool} {H1 H' : Hp} {D : Addr} {ad : List Da} (G : Gro K g W H1 D H' ad) (k : OkW K g W H1) (hD : H1 D = none) : Sm (hid W H1) (hid (hideD W D) H') := fun a o z => by
  obtain ⟨q1, q2⟩ := hid_some z
  have ne : a ≠ D := ne_of_none q2 hD
  rw [hid_no (by rw [hideD_ne ne]; exact q1)]
  exact G.ext a o (fun z => by rw [k.gW a z] at q1; cases q1) q2
theorem lcF2_in {g g1 : TG} {gd gd1 : TDG} {gvs gvs1 vs vs1 : List Nat} {tt tt1 : TDT} {te : TDE} {σ : L2.St} {H : Hp} {Q : VK} {wd wd1 : TDI} {W : Addr → Bool} {own : Ow} {r : En} (G : GDs K g gd gvs) (gmo : ∀ v σ H Q Q', (∀ a b, Q a b → Q' a b) → g v σ H Q → g v σ H Q') (sub : ∀ i ∈ gvs, i ∈ vs)
    (G1 : GDs K g1 gd1 gvs1) (gmo1 : ∀ v σ H Q Q', (∀ a b, Q a b → Q' a b) → g1 v σ H Q → g1 v σ H Q') (sub1 : ∀ i ∈ gvs1, i ∈ vs1)
    (mt : ∀ r Q Q', (∀ b, Q b → Q' b) → tt r Q → tt r Q') (mt1 : ∀ r Q Q', (∀ b, Q b → Q' b) → tt1 r Q → tt1 r Q') (me : ∀ r Q Q', (∀ b, Q b → Q' b) → te r Q → te r Q') (mw : ∀ r Q Q', (∀ ds, Q ds → Q' ds) → wd r Q → wd r Q') (mw1 : ∀ r Q Q', (∀ ds, Q ds → Q' ds) → wd1 r Q → wd1 r Q')
    (S : Stt K w W own r σ H) (h : wd r fun ds => lcN gd tt wd1 gd1 tt1 te vs vs1 r (NewL K w.g W H Q) ds []) : tLc2 (liI K w wd) g (liT K w tt) (liI K w wd1) g1 (liT K w tt1) (liE K w te) vs vs1 σ H Q := by
  refine ⟨W, own, r, S, mw _ _ _ (fun ds q J H1 e1 k1 wk => ?_) h⟩
  intro D hD
  have S1 := S.ext e1 k1
  have gne : ¬ Bd w.g D := fun z => by
    obtain ⟨o, z2⟩ := S1.ok.al D (S1.ok.gW D z)
    rw [hD] at z2; cases z2
  have h0 : w.H0 D = none := by
    cases e : w.H0 D with
    | none => rfl
    | some o =>
      have := S1.base D o gne e
      rw [hD] at this
      cases this
  have oD : ∀ j, ¬ own j D := fun j z => by
    obtain ⟨o, q⟩ := S1.ok.al D (S1.oW j D z).1
    rw [hD] at q
    cases q
  have WD : hideD W D D = true := hideD_at
  refine ⟨fun i m H' => m = ds.length - i ∧ i ≤ ds.length ∧ ∃ ad, Gro K w.g W H1 D H' ad ∧ lcN gd tt wd1 gd1 tt1 te vs vs1 r (NewL K w.g W H Q) (ds.drop i) ad, ⟨ds.length, by simp, Nat.zero_le _, [], gro_start k1 hD, by rw [List.drop_zero]; exact q⟩, ?_⟩
  rintro i m H' ⟨rfl, hi', ad, gr, f⟩
  obtain ⟨av, hav, _⟩ := gr.at_
  have SD : Stt K w (hideD W D) own r σ H' := S1.hideD hD gr.ext hav gr.bag
  have sm := gr.sm k1 hD
  have sm' : Sm (hid W H1) H' := fun a o z => (hid_some (sm a o z)).2
  obtain ⟨w1, w2, w3⟩ := wk i H' sm'
  by_cases hl : i < ds.length
  · refine .inr ⟨w1 hl, fun H2 => ∃ ad, Gro K w.g W H1 D H2 ad ∧ lcN gd tt wd1 gd1 tt1 te vs vs1 r (NewL K w.g W H Q) (ds.drop (i + 1)) ad, fun H2 z => ⟨ds.length - (i + 1), by omega, rfl, by omega, z⟩, fun x H2 y => ?_⟩
    obtain ⟨sH, d, hd, dv⟩ := w3 x H2 hl y
    have e2 : Ext w.g H' H2 := Ext.of sH
    have k2 : OkW K w.g (hideD W D) H2 := SD.ok.same sH
    have S2 := (SD.ext e2 k2).wipe vs
    have dvx : Dv K w.g (hid (hideD W D) H2) x d := by
      refine dv _ (fun a o z => e2.hid SD.ok.gW a o (sm a o z)) fun b o nb z => ?_
      rw [hid_no]
      · exact z
      · cases y' : hideD W D b with
        | false => rfl
        | true =>
          obtain ⟨o', z'⟩ := SD.ok.al b y'
          rw [nb] at z'; cases z'
    rw [drop_at hd] at f
    have gr2 := gr.go gne SD.ok.gW e2 k2.bag
    refine gmo _ _ _ _ _ ?_ (G.run w (hideD W D) own (wipeD r vs) (L2.wipe σ vs) H2 x d _ S2 dvx f)
    rintro σ3 H3 ⟨rfl, wp, own3, r3, o3, S3, t3⟩
    refine ⟨by rw [wp vs sub, wipe_idem], hideD W D, own3, r3, S3, mt _ _ _ (fun b z H4 e4 k4 => ?_) t3⟩
    have gr4 := gr2.go gne SD.ok.gW e4 k4.bag
    refine ite_mo (fun z => ?_) (fun z => ⟨ad, gr4, z⟩) z
    have S4 := S3.ext e4 k4
    have oD3 : ∀ j, ¬ own3 j D := fun j z => oD j (o3 j D z)
    refine ⟨hideD W D, own3, r3, S4, mw1 _ _ _ (fun es z J1 H5 e5 k5 wk1 => ?_) z⟩
    have gr5 := gr4.go gne SD.ok.gW e5 k5.bag
    have S5 := S4.ext e5 k5
    refine ⟨fun j n H' => n = es.length - j ∧ j ≤ es.length ∧ ∃ ad, Gro K w.g W H1 D H' ad ∧ Xt w.g D H5 H' ∧ lcK gd1 tt1 te vs1 r3 (fun acc' => lcN gd tt wd1 gd1 tt1 te vs vs1 r (NewL K w.g W H Q) (ds.drop (i + 1)) acc') (es.drop j) ad, ⟨es.length, by simp, Nat.zero_le _, ad, gr5, Xt.of .refl, by rw [List.drop_zero]; exact z⟩, ?_⟩
    rintro j n H6 ⟨rfl, hj, ad6, gr6, x6, f6⟩
    have ok6 : OkW K w.g (hideD W D) H6 := by
      obtain ⟨av6, hav6, _⟩ := gr6.at_
      exact (S1.hideD hD gr6.ext hav6 gr6.bag).ok
    have S6 : Stt K w (hideD W D) own3 r3 σ3 H6 := S5.xt WD h0 oD3 x6 ok6
    have sm6 : Sm (hid (hideD W D) H5) (hid (hideD W D) H6) := x6.hid SD.ok.gW WD
    obtain ⟨v1, v2, v3⟩ := wk1 j H6 (fun a o z => (hid_some (sm6 a o z)).2)
    by_cases hl1 : j < es.length
    · refine .inr ⟨v1 hl1, fun H7 => ∃ ad, Gro K w.g W H1 D H7 ad ∧ Xt w.g D H5 H7 ∧ lcK gd1 tt1 te vs1 r3 (fun acc' => lcN gd tt wd1 gd1 tt1 te vs vs1 r (NewL K w.g W H Q) (ds.drop (i + 1)) acc') (es.drop (j + 1)) ad, fun H7 z => ⟨es.length - (j + 1), by omega, rfl, by omega, z⟩, fun x1 H7 y1 => ?_⟩
      obtain ⟨sH7, d1, hd1, dv1⟩ := v3 x1 H7 hl1 y1
      have e7 : Ext w.g H6 H7 := Ext.of sH7
      have k7 : OkW K w.g (hideD W D) H7 := ok6.same sH7
      have S7 := (S6.ext e7 k7).wipe vs1
      have dvx1 : Dv K w.g (hid (hideD W D) H7) x1 d1 := by
        refine dv1 _ (fun a o z => e7.hid SD.ok.gW a o (sm6 a o z)) fun b o nb z => ?_
        rw [hid_no]
        · exact z
        · cases y' : hideD W D b with
          | false => rfl
          | true =>
            obtain ⟨o', z'⟩ := ok6.al b y'
            rw [nb] at z'; cases z'
      rw [drop_at hd1] at f6
      have gr7 := gr6.go gne SD.ok.gW e7 k7.bag
      have x7 := x6.trans (Xt.of e7)
      refine gmo1 _ _ _ _ _ ?_ (G1.run w (hideD W D) own3 (wipeD r3 vs1) (L2.wipe σ3 vs1) H7 x1 d1 _ S7 dvx1 f6)
      rintro σ8 H8 ⟨rfl, wp1, own8, r8, o8, S8, t8⟩
      refine ⟨by rw [wp1 vs1 sub1, wipe_idem], hideD W D, own8, r8, S8, mt1 _ _ _ (fun b z H9 e9 k9 => ?_) t8⟩
      have gr9 := gr7.go gne SD.ok.gW e9 k9.bag
      have x9 := x7.trans (Xt.of e9)
      refine ite_mo (fun z => ?_) (fun z => ⟨ad6, gr9, x9, z⟩) z
      refine ⟨hideD W D, own8, r8, S8.ext e9 k9, me _ _ _ (fun y z v Ha ea ka da => ?_) z⟩
      obtain ⟨ava, q1, q2, q3⟩ := (gr9.go gne SD.ok.gW ea ka.bag).push hD gne da
      exact ⟨ava, q1, by rw [q2]; exact z.1, _, q3, (x9.trans (Xt.of ea)).trans (Xt.upd gne), z.2⟩
    · refine .inl ⟨v2 (by omega), ?_⟩
      have ed : es.drop j = [] := List.drop_eq_nil_of_le (by omega)
      rw [ed] at f6
      exact ⟨ad6, gr6, f6⟩
  · refine .inl ⟨w2 (by omega), ?_⟩
    rw [List.drop_eq_nil_of_le (by omega)] at f
    obtain ⟨xs, Hm, m1, m2, m3, m4, rfl⟩ := gr.new hD k1
    exact f D xs Hm (e1.trans m1) m2 m3 m4
end
section
variable {X : Cx} {w : Wd} {e : Expr} {es : List Expr} {pos : Pos}
def dLcN (wd : TDI) (gd : TDG) (tt : TDT) (wd1 : TDI) (gd1 : TDG) (tt1 : TDT) (te : TDE) (vs vs1 : List Nat) : TDA := fun r Q => wd r fun ds => lcN gd tt wd1 gd1 tt1 te vs vs1 r Q ds []
theorem pfd_lc2 {elt tg iter tg1 iter1 : Expr} {ifs ifs1 : List Expr} {scope : Scope} {own : List (Str × Nat)} {vs1 : List Nat} {g g1 : TG} {gd gd1 : TDG} {gvs gvs1 : List Nat} {wd wd1 : TDI} {tt tt1 : TDT} {te : TDE} (hN : X.N.Nodup) (hi : PId X w tg iter wd) (ok : BlkOk X.N X.env.scope scope own) (hv : ∀ i ∈ vs1, i ∈ own.map (·.2))
    (G : GDs X.K g gd gvs) (gmo : ∀ v σ H Q Q', (∀ a b, Q a b → Q' a b) → g v σ H Q → g v σ H Q') (sub : ∀ i ∈ gvs, i ∈ own.map (·.2))
    (G1 : GDs X.K g1 gd1 gvs1) (gmo1 : ∀ v σ H Q Q', (∀ a b, Q a b → Q' a b) → g1 v σ H Q → g1 v σ H Q') (sub1 : ∀ i ∈ gvs1, i ∈ vs1)
    (hg : ∀ (s : Shared) (H : Hp) (C : Addr) (cl : List (Str × Addr)) (fp : List Addr), PG (X.blk s H scope (compEnvC scope cl C X.env) fp) tg g)
    (ht : ∀ (s : Shared) (H : Hp) (C : Addr) (cl : List (Str × Addr)) (fp : List Addr), PTsd (X.blk s H scope (compEnvC scope cl C X.env) fp) w ifs tt)
    (hi1 : ∀ (s : Shared) (H : Hp) (C : Addr) (cl : List (Str × Addr)) (fp : List Addr), PId (X.blk s H scope (compEnvC scope cl C X.env) fp) w tg1 iter1 wd1)
    (hg1 : ∀ (s : Shared) (H : Hp) (C : Addr) (cl : List (Str × Addr)) (fp : List Addr), PG (X.blk s H scope (compEnvC scope cl C X.env) fp) tg1 g1)
    (ht1 : ∀ (s : Shared) (H : Hp) (C : Addr) (cl : List (Str × Addr)) (fp : List Addr), PTsd (X.blk s H scope (compEnvC scope cl C X.env) fp) w ifs1 tt1)
    (he : ∀ (s : Shared) (H : Hp) (C : Addr) (cl : List (Str × Addr)) (fp : List Addr), PEd (X.blk s H scope (compEnvC scope cl C X.env) fp) w elt te)
    (s0 : Shared) (hc : X.calm = true := by rfl) (hs : ∀ x, foldedSetIterable iter X.env x = pure x := by intro _; rfl) (hs1 : ∀ env x, foldedSetIterable iter1 env x = pure x := by intro _ _; rfl) :
    PFd X w (.ListComp elt [⟨tg, iter, ifs, 0⟩, ⟨tg1, iter1, ifs1, 0⟩] scope pos) (dLcN wd gd tt wd1 gd1 tt1 te (own.map (·.2)) vs1) := by
  have mt := (ht s0 (fun _ => none) 0 [] []).mo
  have mt1 := (ht1 s0 (fun _ => none) 0 [] []).mo
  have mw1 := (hi1 s0 (fun _ => none) 0 [] []).mo
  have me := (he s0 (fun _ => none) 0 [] []).mo
  refine ⟨weE (pe_lc2 (tt := liT X.K w tt) (tt1 := liT X.K w tt1) (wi1 := liI X.K w wd1) (te := liE X.K w te) hc hN hi.pi ok hv hg (fun s H C cl fp => (ht s H C cl fp).pt) (fun s H C cl fp => (hi1 s H C cl fp).pi) hg1 (fun s H C cl fp => (ht1 s H C cl fp).pt) (fun s H C cl fp => (he s H C cl fp).pe) hs hs1) ?_, fun r Q Q' q h => hi.mo _ _ _ (fun ds => lcN_mo G.mo mt mw1 G1.mo mt1 me q ds []) h⟩
  rintro σ H Q ⟨W, own, r, S, h⟩
  exact lcF2_in G gmo sub G1 gmo1 sub1 mt mt1 me hi.mo mw1 S h
end
end Pd
/-! Defs that return a new list. -/
namespace Pd
open PySem PySem.Spec PyProof.Rows L2
/-! ### the promise of a new list -/
abbrev DSpF := List Da → (List Da → Prop) → Prop
def MoPF (p : DSpF) : Prop := ∀ ds Q Q', (∀ d, Q d → Q' d) → p ds Q → p ds Q'
def liF (K : PySem.W.Frag) (p : DSpF) : Sp := fun vs H Q _ => ∃ g W ds, OkW K g W H ∧ DvAll K g (hid W H) vs ds ∧ p ds (NewL K g W H Q)
structure CalldF (P : Program) (wd : World) (K : PySem.W.Frag) (mg : Str → Option Value) (base : Heap) (k : Nat) (x : Str) (ps : List Str) (p : DSpF) : Prop where
  ex : ∃ f fd, FnG P wd K mg base CX0 k f fd ps (liF K p) ∧ mg x = some (.ref f) ∧ PySem.W.keepIn K (.ref f) = true ∧ Binds K fd ps []
  mp : MoPF p
section
variable {P : Program} {wd : World} {K : PySem.W.Frag} {mg : Str → Option Value} {base : Heap}
theorem CalldF.up {j k : Nat} {x : Str} {ps : List Str} {p : DSpF} (c : CalldF P wd K mg base j x ps p) (h : j ≤ k) : CalldF P wd K mg base k x ps p := by
  obtain ⟨⟨f, fd, F, a, b, d⟩, mp⟩ := c
  exact ⟨⟨f, fd, F.up h, a, b, d⟩, mp⟩
theorem NewL.aft {g : Gd} {W : Addr → Bool} {H : Hp} {Q : VK} {ds : List Da} (h : Aft K g W H Q (.lst ds)) : NewL K g W H Q ds := fun p xs H1 e1 k1 np dv => by
  obtain ⟨n1, n2, n3, n4⟩ := k1.new (o := .lst xs) np
  exact h _ _ (e1.trans n1) n2 (.lst n4 (DvAll.mono n3 _ _ dv))
theorem NewL.then {g : Gd} {W : Addr → Bool} {H H' : Hp} {Q : VK} {ds : List Da} (h : NewL K g W H Q ds) (e : Ext g H H') : NewL K g W H' Q ds := fun p xs H1 e1 => h p xs H1 (e.trans e1)
/-- as a datum -/
theorem CalldF.dat {k : Nat} {x : Str} {ps : List Str} {p : DSpF} (c : CalldF P wd K mg base k x ps p) : Calld P wd K mg base k x ps (fun ds Q => p ds fun xs => Q (.lst xs)) := by
  obtain ⟨⟨f, fd, F, a, b, d⟩, mp⟩ := c
  refine ⟨⟨f, fd, ⟨fun vs H Q E ⟨g, W, ds, k1, dv, h⟩ => F.many vs H Q E ⟨g, W, ds, k1, dv, mp _ _ _ (fun _ => NewL.aft) h⟩, fun A outer s0 H args us vs Q E room hG z bd rel ⟨g, W, ds, k1, dv, h⟩ => F.goes A outer s0 H args us vs Q E room hG z bd rel ⟨g, W, ds, k1, dv, mp _ _ _ (fun _ => NewL.aft) h⟩⟩, a, b, d⟩, fun ds Q Q' q h => mp _ _ _ (fun xs => q _) h⟩
end
section
variable {X : Cx} {w : Wd}
def dCallF (p : DSpF) (t : TDA) : TDA := fun r Q => t r fun ds => p ds Q
theorem pfd_f {x : Str} {p pos : Pos} {k : Nat} {ps : List Str} {sp : DSpF} {t : TDA} {e : Expr} {es : List Expr} (c : CalldF X.prog X.w X.K X.mg X.base k x ps sp) (room : Room k X.A) (hG : X.A.guards = some []) (args : PAd X w (e :: es) t) (gl : Gl X x := by rfl) (nd : (x == ("__debug__" : Str)) = false := by decide)
    (st : starEach (e :: es) X.env = (false, eval e X.env) :: starEach es X.env := by rfl) (bk : (backTo pos (starEach es X.env)).any (·.1) = false := by rfl) : PFd X w (.Call (.Name x p) (e :: es) [] pos) (dCallF sp t) := by
  obtain ⟨⟨f, fd, F, a, b, d⟩, mp⟩ := c
  refine ⟨weE (pe_callG (E := E0) F room hG gl a b d .nil pass0 args.pa nd st bk) ?_, fun r Q Q' q h => args.mo _ _ _ (fun ds z => mp _ _ _ q z) h⟩
  rintro σ H Q ⟨W, own, r, S, h⟩
  refine goA args S h fun xs vs H1 e1 k1 d1 p => ?_
  rw [List.append_nil]
  exact ⟨w.g, W, xs, k1, d1, mp _ _ _ (fun d q => NewL.then q e1) p⟩
end

/-! ### the body of such a def -/
structure EnF extends EnD where
  rf : List Da → Prop
abbrev TDF := EnF → En → Prop
/-- what is hidden at the start stands somewhere -/
def WOk (w : Wd) : Prop := ∀ a, w.W0 a = true → ∃ o, w.H0 a = some o
def endF (K : PySem.W.Frag) (w : Wd) (W : Addr → Bool) (H : Hp) (E : Ends) : EnF := { endD K w W H E with rf := NewL K w.g w.W0 w.H0 E.rt }
structure LeF (E E' : EnF) : Prop where
  le : Le E.toEnD E'.toEnD
  rf : ∀ d, E.rf d → E'.rf d
structure PSsF (X : Cx) (w : Wd) (st : List Stmt) (t : TDF) : Prop where
  ps : PSs X st (fun E σ H => ∃ W own r, Stt X.K w W own r σ H ∧ t (endF X.K w W H E) r)
  mo : ∀ E E' r, LeF E E' → t E r → t E' r
theorem endF_grow {K : PySem.W.Frag} {w : Wd} {W W1 : Addr → Bool} {H H1 : Hp} {E : Ends} (g : Grow w.g W H W1 H1) : LeF (endF K w W H E) (endF K w W1 H1 E) := ⟨endD_grow g, fun _ h => h⟩
section
variable {X : Cx} {w : Wd} {e : Expr} {es : List Expr} {st : Stmt} {sts rest : List Stmt} {pos : Pos} {t : TDS} {tt : TDT} {u v : TDF}
def dSeqF (t : TDS) (u : TDF) : TDF := fun E r => t { E.toEnD with nx := u E } r
theorem psf_cons (h1 : PSd X w st t) (h2 : PSsF X w rest u) : PSsF X w (st :: rest) (dSeqF t u) := by
  refine ⟨weSs (pss_cons h1.ps h2.ps) ?_, fun E E' r l h => h1.mo { E.toEnD with nx := u E } { E'.toEnD with nx := u E' } r ⟨fun r' => h2.mo E E' r' l, l.le.rt, l.le.bk, l.le.ct⟩ h⟩
  rintro D σ H ⟨W, own, r, S, h⟩
  refine ⟨W, own, r, S, h1.mo { endD X.K w W H D with nx := u (endF X.K w W H D) } (endD X.K w W H { D with nx := _ }) r ⟨fun r' z W' o' σ' H' g' S' => ?_, fun _ z => z, fun _ z => z, fun _ z => z⟩ h⟩
  exact ⟨W', o', r', S', h2.mo _ _ _ (endF_grow g') z⟩
theorem psf_retF {t : TDA} (he : PFd X w e t) : PSsF X w [.Return (some e) pos] (fun E r => t r E.rf) := by
  refine ⟨weSs (pss_one (ps_ret he.pe)) ?_, fun E E' r l h => he.mo _ _ _ l.rf h⟩
  rintro D σ H ⟨W, own, r, S, h⟩
  refine ⟨W, own, r, S, he.mo _ _ _ (fun ds z p xs H1 e1 k1 np dv => ?_) h⟩
  refine z p xs H1 (S.base.trans e1) (k1.less S.w0 S.g0) np (DvAll.mono (hid_le S.w0) _ _ dv)
theorem psf_retOwn (i : Nat) {x : Str} {p : Pos} (hw : WOk w) (hN : X.N[i]? = some x := by rfl) (hv : Vis X.env.scope x := by first | exact Or.inl rfl | exact Or.inr (Or.inl rfl) | exact Or.inr (Or.inr rfl)) (hd : (x == ("__debug__" : Str)) = false := by decide) (hcd : (x == ("__classdict__" : Str)) = false := by decide) :
    PSsF X w [.Return (some (.Name x p)) pos] (fun E r => ∃ ds, r[i]? = some (.own ds) ∧ E.rf ds) := by
  refine ⟨weSs (pss_one (ps_ret (pv i hN hv hd hcd))) ?_, fun E E' r l ⟨ds, h1, h2⟩ => ⟨ds, h1, l.rf _ h2⟩⟩
  rintro D σ H ⟨W, own, r, S, ds, hr, h⟩
  obtain ⟨v, hv, a, xs, o1, rfl, o3, o4⟩ := S.sl i _ hr (fun z => by cases z)
  obtain ⟨oW, oH, og⟩ := S.oW i a o1.1
  have w0a : w.W0 a = false := by
    cases q : w.W0 a with
    | false => rfl
    | true => obtain ⟨o, z⟩ := hw a q; rw [oH] at z; cases z
  have eq : H = upd (cutAt a H) a (.lst xs) := by
    funext b
    by_cases z : b = a
    · rw [z, o3, upd_same]
    · rw [upd_ne z, cutAt_ne z]
  have sm : Sm (hid W H) (hid w.W0 (cutAt a H)) := fun b o q => by
    obtain ⟨q1, q2⟩ := hid_some q
    have ne : b ≠ a := fun z => by rw [z, oW] at q1; cases q1
    rw [hid_no, cutAt_ne ne]
    · exact q2
    · cases y : w.W0 b with
      | false => rfl
      | true => rw [S.w0 b y] at q1; cases q1
  refine ⟨.ref a, hv, ?_⟩
  have z := h a xs (cutAt a H) ⟨fun b o n hb => ?_, fun b ys hb hx => ?_⟩ ⟨(S.ok.bag.cut og oW (S.inj _ _ a o1.1 o1.1).2.nx).less S.w0, S.g0, fun c hc => ?_⟩ cutAt_same (DvAll.mono sm _ _ o4)
  · rw [← eq] at z
    exact z
  · rw [cutAt_ne (ne_of_none hb oH)]
    exact S.base b o n hb
  · have ne : b ≠ a := fun z => og (.inl (z ▸ hb))
    rw [cutAt_ne ne]
    exact S.base.last b ys hb hx
  · have ne : c ≠ a := fun z => by rw [z, w0a] at hc; cases hc
    rw [cutAt_ne ne]
    exact S.ok.al c (S.w0 c hc)
end
theorem defF {P : Program} {wd : World} {K : PySem.W.Frag} {mg : Str → Option Value} {base : Heap} {x : Str} {st : Stmt} {N ps : List Str} {k : Nat} {p : DSpF} (At : DefAt K mg x st ps)
    (S : FnScope N ps (defScope st)) (len : ∀ ds Q, p ds Q → ds.length = ps.length) (mp : MoPF p)
    (inside : ∀ (f : Addr) (cdv : Value) (A : Around) (outer : List Env) (s0 : Shared) (H : Hp) (E : XK) (w : Wd) (ds : List Da) (Q : List Da → Prop), Room k (A.deeper (envOfC x (defScope st) s0.heap.objs.size f cdv)) → A.guards = some [] → WOk w → p ds Q →
      ∃ t, PSsF (cxOf CX0 P wd K mg base N x (defScope st) f cdv A outer s0 H E).nox w (defBody st) t ∧ t { nx := fun _ => False, rt := fun _ => False, bk := fun _ => False, ct := fun _ => False, rf := Q } (startD N ds)) :
    CalldF P wd K mg base (k + 1) x ps p := by
  obtain ⟨f, fd, F, a, b⟩ := At.ex
  refine ⟨⟨f, fd, FunG.ok F S ?_ ?_, a, F.kp, b⟩, mp⟩
  · rintro vs H Q E ⟨g, W, ds, k1, dv, h⟩
    rw [dv.len]
    exact len _ _ h
  · rintro cdv A outer s0 H vs Q E room hG ⟨g, W, ds, k1, dv, h⟩
    obtain ⟨t, ht, hq⟩ := inside f cdv A outer s0 H E ⟨H, g, W⟩ ds _ room hG (fun a ha => k1.al a ha) h
    refine ⟨_, ht.ps, W, fun _ _ => False, startD N ds, start_stt k1 dv, ht.mo { nx := fun _ => False, rt := fun _ => False, bk := fun _ => False, ct := fun _ => False, rf := NewL K g W H Q } _ _ ⟨⟨fun _ (q : False) => q.elim, fun _ (q : False) => q.elim, fun _ (q : False) => q.elim, fun _ (q : False) => q.elim⟩, fun ds q => q⟩ hq⟩

/-! ### two new lists at once -/
section
variable {X : Cx} {w : Wd} {a b : Expr} {pos : Pos}
def dParF (i j : Nat) (ta tb : TDA) : TDS := fun E r => ta r fun x => tb r fun y => E.nx ((r.set i (.own x)).set j (.own y))
theorem psd_parF {i j : Nat} {x y : Str} {px py pt : Pos} {kt k2 pt2} {ta tb : TDA} (ha : PFd X w a ta) (hb : PFd X w b tb) (hN : X.N.Nodup) (hc : X.calm = true := by rfl) (hi : X.N[i]? = some x := by rfl) (hj : X.N[j]? = some y := by rfl) (hij : i ≠ j := by decide)
    (hx : X.env.scope.names.lookup x = some .local := by rfl) (hy : X.env.scope.names.lookup y = some .local := by rfl) (hs1 : starEach (a :: [b]) X.env = (false, eval a X.env) :: starEach [b] X.env := by rfl) (hs2 : starEach (b :: []) X.env = (false, eval b X.env) :: starEach [] X.env := by rfl)
    (hw : swappedStores [.Tuple [.Name x px, .Name y py] kt pt] (.Tuple [a, b] k2 pt2) X.env = pure (some [x, y]) := by rfl)
    (hs : swapsWithSole [.Tuple [.Name x px, .Name y py] kt pt] (.Tuple [a, b] k2 pt2) pos.line X.env = pure false := by rfl) :
    PSd X w (.Assign [.Tuple [.Name x px, .Name y py] kt pt] (.Tuple [a, b] k2 pt2) pos) (dParF i j ta tb) := by
  refine ⟨weS (ps_par hc hN hi hj hij hx hy (pa_cons ha.pe (pa_cons hb.pe pa_nil hs2) hs1) hw hs) ?_, fun E E' r l h => ha.mo _ _ _ (fun d => hb.mo _ _ _ (fun d => l.nx _)) h⟩
  rintro D σ H ⟨W, own, r, S, h⟩
  refine ⟨W, own, r, S, ha.mo _ _ _ (fun ds z p xs H1 e1 k1 np dv => ?_) h⟩
  have S1 := S.ext e1 k1
  obtain ⟨S2, gr2', sm2, ge, h0, oN⟩ := S1.hideO (o := .lst xs) np
  have gr2 : Grow w.g W H (hideD W p) (upd H1 p (.lst xs)) := (Grow.of k1 e1).trans gr2'
  refine ⟨hideD W p, own, r, S2, hb.mo _ _ _ (fun es y p2 ys H3 e3 k3 np2 dv2 => ?_) z⟩
  have S3 := S2.ext e3 k3
  have hp3 : H3 p = some (.lst xs) := e3 p _ ge upd_same
  have S4 := S3.takeOwn i (ds := ds) hideD_at h0 ge oN hp3 (DvAll.mono (fun a o q => (e3.hid S2.ok.gW) a o (sm2 a o q)) _ _ dv)
  obtain ⟨⟨own5, S5⟩, gr5⟩ := S4.newOwn j np2 dv2
  exact ⟨.ref p, .ref p2, rfl, y _ own5 _ _ ((gr2.trans (Grow.of k3 e3)).trans gr5) S5⟩
end
end Pd
/-! Own lists by insert; dicts: their items, their keys sorted, made of pairs. -/
namespace Pd
open PySem PySem.Spec PyProof.Rows L2 LiI
section
variable {X : Cx} {w : Wd} {e f : Expr} {es : List Expr} {te ta tb : TDE} {t : TDA} {pos p : Pos}
/-! ### xs.insert(i, e) -/
/-! ### list(d.items()) -/
/-! ### dict(a list of pairs of any making) -/
/-! ### sorted(d) -/
end
end Pd
/-! Lists of lists and dicts of one's own: made, and changed within. -/
namespace Pd
open PySem PySem.Spec PyProof.Rows L2
section
variable {K : PySem.W.Frag} {w : Wd} {W : Addr → Bool} {own : Ow} {r : En} {σ : L2.St} {H H' : Hp}
/-- a slot is no longer known -/
theorem Stt.drop (S : Stt K w W own r σ H) (i : Nat) : Stt K w W own (r.set i .no) σ H := by
  refine ⟨S.ok, S.base, S.w0, S.g0, S.wN, S.oW, S.inj, by rw [List.length_set]; exact S.len, fun j u h n => ?_⟩
  by_cases hj : j = i
  · subst hj
    have hl : j < r.length := by
      have := (List.getElem?_eq_some_iff.mp h).1
      rwa [List.length_set] at this
    rw [List.getElem?_set_self hl] at h
    cases h
    exact absurd rfl n
  · rw [List.getElem?_set_ne (Ne.symm hj)] at h
    exact S.sl j u h n
end
/-! ### for x in xs: x.append(c) -/
section
variable {X : Cx} {w : Wd}
/-! ### xs.append(e), of such a list -/
end
/-! ### new things -/
open Classical in
/-- of lists and dicts the new ones alone -/
noncomputable def newM (H Hh : Hp) : Hp := fun a => if H a = none then Hh a else nom (Hh a)
theorem newM_new {H Hh : Hp} {a : Addr} (h : H a = none) : newM H Hh a = Hh a := if_pos h
theorem newM_old {H Hh : Hp} {a : Addr} (h : H a ≠ none) : newM H Hh a = nom (Hh a) := if_neg h
theorem newM_le {H Hh : Hp} : Sm (newM H Hh) Hh := fun a o z => by
  by_cases q : H a = none
  · rw [newM_new q] at z; exact z
  · rw [newM_old q] at z; exact (nom_some z).1
theorem newM_up {H H' Hh Hh' : Hp} (h1 : ∀ a, H' a = none → H a = none) (h2 : Sm Hh Hh') : Sm (newM H' Hh) (newM H Hh') := fun a o z => by
  by_cases q' : H' a = none
  · rw [newM_new q'] at z
    rw [newM_new (h1 a q')]
    exact h2 a o z
  · rw [newM_old q'] at z
    obtain ⟨z1, z2⟩ := nom_some z
    by_cases q : H a = none
    · rw [newM_new q]
      exact h2 a o z1
    · rw [newM_old q, h2 a o z1]
      exact z2
/-- a new value: its lists and dicts are new -/
def AftN (K : PySem.W.Frag) (g : Gd) (W : Addr → Bool) (H : Hp) (Q : VK) (d : Da) : Prop := ∀ v H', Ext g H H' → OkW K g W H' → Dv K g (newM H (hid W H')) v d → Q v H'
/-- a new list of new things -/
def NewR (K : PySem.W.Frag) (g : Gd) (W : Addr → Bool) (H : Hp) (Q : VK) (ds : List Da) : Prop := ∀ p xs H1, Ext g H H1 → OkW K g W H1 → H1 p = none → DvAll K g (newM H (hid W H1)) xs ds → Q (.ref p) (upd H1 p (.lst xs))
structure PVd (X : Cx) (w : Wd) (e : Expr) (t : TDE) : Prop where
  pe : PE X e (fun σ H Q => ∃ W own r, Stt X.K w W own r σ H ∧ t r (AftN X.K w.g W H Q))
  mo : ∀ r Q Q', (∀ d, Q d → Q' d) → t r Q → t r Q'
structure PNd (X : Cx) (w : Wd) (e : Expr) (t : TDA) : Prop where
  pe : PE X e (fun σ H Q => ∃ W own r, Stt X.K w W own r σ H ∧ t r (NewR X.K w.g W H Q))
  mo : ∀ r Q Q', (∀ ds, Q ds → Q' ds) → t r Q → t r Q'
theorem Ext.none {g : Gd} {K : PySem.W.Frag} {W : Addr → Bool} {H H' : Hp} (e : Ext g H H') (k : OkW K g W H') {a : Addr} (h : H' a = none) : H a = none := by
  cases q : H a with
  | none => rfl
  | some o =>
    by_cases z : Bd g a
    · obtain ⟨u, y⟩ := k.al a (k.gW a z)
      rw [h] at y; cases y
    · have := e a o z q
      rw [h] at this; cases this
theorem AftN.then {K : PySem.W.Frag} {g : Gd} {W : Addr → Bool} {H H' : Hp} {Q : VK} {d : Da} (h : AftN K g W H Q d) (e : Ext g H H') (k : OkW K g W H') : AftN K g W H' Q d := fun v H2 e2 k2 dv => h v H2 (e.trans e2) k2 (Dv.mono (newM_up (fun a ha => e.none k ha) fun _ _ z => z) _ _ dv)
section
variable {X : Cx} {w : Wd} {e : Expr} {es : List Expr} {pos : Pos}
end
end Pd
/-! Dict comprehensions; defs that return new things. -/
namespace Pd
open PySem PySem.Spec PyProof.Rows L2
/-! ### a dict that grows at D -/
structure GrD (K : PySem.W.Frag) (g : Gd) (W : Addr → Bool) (H1 : Hp) (D : Addr) (H' : Hp) (ad : List (Key × Da)) : Prop where
  ext : Ext g H1 H'
  bag : BagI K g (hideD W D) H'
  at_ : ∃ av, H' D = some (.dK av) ∧ KvAll K g (hid (hideD W D) H') av ad
theorem KvAll.len {K : PySem.W.Frag} {g : Gd} {H : Hp} : ∀ {us : List (Key × V)} {kvs : List (Key × Da)}, KvAll K g H us kvs → us.length = kvs.length
  | _, _, .nil => rfl
  | _, _, .cons _ t => by rw [List.length_cons, List.length_cons, t.len]
section
variable {K : PySem.W.Frag} {g : Gd} {W : Addr → Bool} {H H' H1 : Hp} {D : Addr} {ad : List (Key × Da)}
theorem GrD.go (G : GrD K g W H1 D H ad) (gne : ¬ Bd g D) (gW : ∀ a, Bd g a → hideD W D a = true) (e : Ext g H H') (b : BagI K g (hideD W D) H') : GrD K g W H1 D H' ad := by
  obtain ⟨av, h1, h2⟩ := G.at_
  exact ⟨G.ext.trans e, b, av, e D _ gne h1, KvAll.mono (e.hid gW) _ _ h2⟩
theorem GrD.put (G : GrD K g W H1 D H ad) (hD : H1 D = none) (gne : ¬ Bd g D) (k : Key) {v : V} {y : Da} (d : Dv K g (hid (hideD W D) H) v y) : ∃ av, H D = some (.dK av) ∧ av.length = ad.length ∧ GrD K g W H1 D (upd H D (.dK (putK av k v))) (putD ad k y) := by
  obtain ⟨av, h1, h2⟩ := G.at_
  refine ⟨av, h1, h2.len, ⟨fun b o nb hb => ?_, fun a xs ha hx => ?_⟩, G.bag.upd gne hideD_at (fun φ z => by rw [h1] at z; cases z), putK av k v, upd_same, by rw [hidD_upd]; exact h2.put d⟩
  · rw [upd_ne (ne_of_none hb hD)]
    exact G.ext b o nb hb
  · have ne : a ≠ D := fun z => gne (.inl (z ▸ ha))
    rw [upd_ne ne]
    exact G.ext.last a xs ha hx
theorem GrD.new (G : GrD K g W H1 D H ad) (hD : H1 D = none) (k : OkW K g W H1) : ∃ xs Hm, Ext g H1 Hm ∧ OkW K g W Hm ∧ Hm D = none ∧ KvAll K g (hid W Hm) xs ad ∧ H = upd Hm D (.dK xs) := by
  obtain ⟨av, h1, h2⟩ := G.at_
  have gne : ¬ Bd g D := fun z => by
    obtain ⟨o, q⟩ := k.al D (k.gW D z)
    rw [hD] at q; cases q
  have WD : W D = false := by
    cases y : W D with
    | false => rfl
    | true => obtain ⟨o, q⟩ := k.al D y; rw [hD] at q; cases q
  have eq : hid (hideD W D) H = hid W (cutAt D H) := by
    funext b
    unfold hid
    by_cases z : b = D
    · subst z
      rw [hideD_at, if_pos rfl, WD, if_neg Bool.false_ne_true, cutAt_same]
    · rw [hideD_ne z, cutAt_ne z]
  refine ⟨av, cutAt D H, ⟨fun b o nb hb => ?_, fun a xs ha hx => ?_⟩, ⟨(G.bag.cut gne hideD_at (fun φ z => by rw [h1] at z; cases z)).less (fun a h => hideD_le h), k.gW, fun a ha => ?_⟩, cutAt_same, by rw [← eq]; exact h2, ?_⟩
  · rw [cutAt_ne (ne_of_none hb hD)]
    exact G.ext b o nb hb
  · have ne : a ≠ D := fun z => gne (.inl (z ▸ ha))
    obtain ⟨ys, q1, q2⟩ := G.ext.last a xs ha hx
    exact ⟨ys, by rw [cutAt_ne ne]; exact q1, q2⟩
  · have ne : a ≠ D := fun z => by rw [z, WD] at ha; cases ha
    rw [cutAt_ne ne]
    by_cases y : Bd g a
    · exact G.bag.al y
    · obtain ⟨o, q⟩ := k.al a ha
      exact ⟨o, G.ext a o y q⟩
  · funext b
    by_cases z : b = D
    · rw [z, h1, upd_same]
    · rw [upd_ne z, cutAt_ne z]
end
/-- what a new dict must give -/
def NewD (K : PySem.W.Frag) (g : Gd) (W : Addr → Bool) (H : Hp) (Q : VK) (ds : List (Key × Da)) : Prop := ∀ p us H1, Ext g H H1 → OkW K g W H1 → H1 p = none → KvAll K g (hid W H1) us ds → Q (.ref p) (upd H1 p (.dK us))
abbrev TDK := En → (List (Key × Da) → Prop) → Prop
structure PDd (X : Cx) (w : Wd) (e : Expr) (t : TDK) : Prop where
  pe : PE X e (fun σ H Q => ∃ W own r, Stt X.K w W own r σ H ∧ t r (NewD X.K w.g W H Q))
  mo : ∀ r Q Q', (∀ ds, Q ds → Q' ds) → t r Q → t r Q'
section
variable {K : PySem.W.Frag} {w : Wd}
end
section
variable {X : Cx} {w : Wd} {e : Expr} {es : List Expr} {pos : Pos}
def noLk : List (Key × Da) → Bool
  | [] => true
  | (_, d) :: ds => noL d && noLk ds
theorem KvAll.sees {K : PySem.W.Frag} {g g' : Gd} {H H' : Hp} (e : Sees H H') : ∀ {kvs : List (Key × Da)} {us : List (Key × V)}, noLk kvs = true → KvAll K g H us kvs → KvAll K g' H' us kvs
  | [], _, _, h => by cases h; exact .nil
  | (k, d) :: kvs, _, n, h => by
    rw [noLk, Bool.and_eq_true] at n
    cases h with
    | cons h1 h2 => exact .cons (Dv.sees e d _ n.1 h1) (KvAll.sees e n.2 h2)
end
end Pd
/-! repr of data of all sorts; lists of dicts compared. -/
namespace Pd
open PySem PySem.Spec PyProof.Rows L2
mutual
def toX : Da → PyData
  | .non => .none
  | .bl b => .bool b
  | .int i => .int i
  | .str x => .str x
  | .lst xs => .list (toXs xs)
  | .tup xs => .tuple (toXs xs)
  | .tpw xs => .tuple (toXs xs)
  | .dct kvs => .dict (toXk kvs)
  | .bag => .none
  | .raw _ => .none
  | .fix _ => .none
def toXs : List Da → List PyData
  | [] => []
  | x :: xs => toX x :: toXs xs
def toXk : List (Key × Da) → List (PyData × PyData)
  | [] => []
  | (k, x) :: xs => (keyP k, toX x) :: toXk xs
end
mutual
def canX : Da → Bool
  | .non => true
  | .bl _ => true
  | .int _ => true
  | .str _ => true
  | .lst xs => canXs xs
  | .tup xs => canXs xs
  | .tpw xs => canXs xs
  | .dct kvs => canXk kvs
  | .bag => false
  | .raw _ => false
  | .fix _ => false
def canXs : List Da → Bool
  | [] => true
  | x :: xs => canX x && canXs xs
def canXk : List (Key × Da) → Bool
  | [] => true
  | (_, x) :: xs => canX x && canXk xs
end
theorem keys_readsX {P : Program} {wd : World} {h : Heap} : ∀ {es : List DictEntry} {us : List (Key × Value)} {kds : List (Key × Da)}, Pairs (mixKind P wd) es us → us.map (·.1) = kds.map (·.1) → ReadsAll h (es.map (·.key)) ((toXk kds).map (·.1)) []
  | _, _, [], .nil, _ => by rw [toXk]; exact .nil
  | _, _, _ :: _, .nil, e => by cases e
  | _, _, [], .cons _ _ _, e => by cases e
  | _, _, (k, x) :: kds, .cons (e := en) (kv := kv) h1 h2 h3, e => by
    rw [List.map_cons, List.map_cons] at e
    injection e with e1 e2
    have t := keys_readsX (h := h) h3 e2
    rw [toXk, List.map_cons, List.map_cons]
    have hk : keyIs kv.1 en.key = true := h1
    rw [e1] at hk
    rcases keyIs_shape hk with ⟨i, t0, q1, q2⟩ | ⟨y, t0, q1, q2⟩
    · have q1' : k = .inl i := q1
      rw [q2, q1']
      exact ReadsAll.cons (as := []) (bs := []) (Reads.int i t0) t
    · have q1' : k = .inr y := q1
      rw [q2, q1']
      exact ReadsAll.cons (as := []) (bs := []) (Reads.str y t0) t
section
variable {X : Cx} {pins : List (Addr × Obj)} {σ : L2.St} {H : Hp} {s : Shared} {g : Gd} {Hh : Hp}
mutual
theorem Dv.readsX (I : Inv X pins σ H s) (hb : ∃ o, X.base.get? sysModules = some o) (sm : Sm Hh H) : ∀ (d : Da) (v : V) (u : Value), Dv X.K g Hh v d → canX d = true → RelV v u → ∃ as, Reads s.heap u (toX d) as ∧ sysModules ∉ as
  | .non, _, _, h, _, r => by cases h; cases r; exact ⟨[], by rw [toX]; exact .none, List.not_mem_nil⟩
  | .bl b, _, _, h, _, r => by cases h; cases r; exact ⟨[], by rw [toX]; exact .bool b, List.not_mem_nil⟩
  | .int i, _, _, h, _, r => by cases h; obtain ⟨t, rfl⟩ := r; exact ⟨[], by rw [toX]; exact .int i t, List.not_mem_nil⟩
  | .str x, _, _, h, _, r => by cases h; obtain ⟨t, rfl⟩ := r; exact ⟨[], by rw [toX]; exact .str x t, List.not_mem_nil⟩
  | .lst ds, _, _, h, c, r => by
    rw [canX] at c
    cases h with
    | @lst a xs _ h1 h2 =>
      cases r
      have ha := sm _ _ h1
      obtain ⟨its, rv, hl, hz⟩ := I.list (SqL.of ha)
      obtain ⟨_, its2, n, rv2, ho⟩ := (show ObjOk X.prog X.w H s.heap a (.lst xs) from I.hok a _ ha)
      obtain ⟨as, q1, q2⟩ := DvAll.readsX I hb sm ds _ its2 h2 c rv2
      refine ⟨a :: as, by rw [toX]; exact .list ho rfl rfl (by simpa using q1), fun z => ?_⟩
      rcases List.mem_cons.mp z with z | z
      · obtain ⟨o, q⟩ := hb
        have := (I.bs _ _ q).2
        rw [z, ha] at this
        cases this
      · exact q2 z
  | .tup ds, _, _, h, c, r => by
    rw [canX] at c
    cases h with
    | tup h1 h2 =>
      cases r
      obtain ⟨its, rv, ⟨o, ho, hc, n, hd⟩, _⟩ := I.tuple (sqt_mono sm h1.sq)
      obtain ⟨as, q1, q2⟩ := DvAll.readsX I hb sm ds _ its h2 c rv
      exact ⟨as, by rw [toX]; exact .tuple ho hc hd q1, q2⟩
  | .tpw ds, _, _, h, c, r => by
    rw [canX] at c
    cases h with
    | tpw h1 h2 =>
      cases r
      obtain ⟨its, rv, ⟨o, ho, hc, n, hd⟩, _⟩ := I.tuple (sqt_mono sm h1)
      obtain ⟨as, q1, q2⟩ := DvAll.readsX I hb sm ds _ its h2 c rv
      exact ⟨as, by rw [toX]; exact .tuple ho hc hd q1, q2⟩
  | .dct kds, _, _, h, c, r => by
    rw [canX] at c
    cases h with
    | @dct a kvs _ h1 h2 =>
      cases r
      obtain ⟨_, low, us, kv, o, es, ep, ho, hex, hd, _, hp, _⟩ := (show ObjOk X.prog X.w H s.heap a (.dK kvs) from I.hok a _ (sm _ _ h1))
      obtain ⟨bs, q1, q2, q3⟩ := KvAll.readsX I hb sm kds kvs us h2 c kv
      refine ⟨a :: ([] ++ bs), ?_, fun z => ?_⟩
      · rw [toX]
        have k1 := keys_readsX (h := s.heap) hp q3
        have k2 := pairs_vals hp
        exact Reads.dict (as := []) (bs := bs) ho hex.1 hd k1 (by rw [k2]; exact q1)
      · rcases List.mem_cons.mp z with z | z
        · rw [← z] at low
          simp at low
        · exact q2 z
  | .bag, _, _, _, c, _ => by rw [canX] at c; cases c
  | .raw _, _, _, _, c, _ => by rw [canX] at c; cases c
  | .fix _, _, _, _, c, _ => by rw [canX] at c; cases c
theorem DvAll.readsX (I : Inv X pins σ H s) (hb : ∃ o, X.base.get? sysModules = some o) (sm : Sm Hh H) : ∀ (ds : List Da) (vs : List V) (us : List Value), DvAll X.K g Hh vs ds → canXs ds = true → Vals vs us → ∃ as, ReadsAll s.heap us (toXs ds) as ∧ sysModules ∉ as
  | [], _, _, h, _, r => by cases h; cases r; exact ⟨[], by rw [toXs]; exact .nil, List.not_mem_nil⟩
  | d :: ds, _, _, h, c, r => by
    rw [canXs, Bool.and_eq_true] at c
    cases h with
    | cons h1 h2 =>
      cases r with
      | cons r1 r2 =>
        obtain ⟨as, q1, n1⟩ := Dv.readsX I hb sm d _ _ h1 c.1 r1
        obtain ⟨bs, q2, n2⟩ := DvAll.readsX I hb sm ds _ _ h2 c.2 r2
        exact ⟨as ++ bs, by rw [toXs]; exact .cons q1 q2, fun z => (List.mem_append.mp z).elim n1 n2⟩
theorem KvAll.readsX (I : Inv X pins σ H s) (hb : ∃ o, X.base.get? sysModules = some o) (sm : Sm Hh H) : ∀ (kds : List (Key × Da)) (kvs : List (Key × V)) (us : List (Key × Value)), KvAll X.K g Hh kvs kds → canXk kds = true → KV kvs us → ∃ as, ReadsAll s.heap (us.map (·.2)) ((toXk kds).map (·.2)) as ∧ sysModules ∉ as ∧ us.map (·.1) = kds.map (·.1)
  | [], _, _, h, _, r => by cases h; cases r; exact ⟨[], by rw [toXk]; exact .nil, List.not_mem_nil, rfl⟩
  | (k, d) :: kds, _, _, h, c, r => by
    rw [canXk, Bool.and_eq_true] at c
    cases h with
    | cons h1 h2 =>
      cases r with
      | cons r1 r2 =>
        obtain ⟨as, q1, n1⟩ := Dv.readsX I hb sm d _ _ h1 c.1 r1.2
        obtain ⟨bs, q2, n2, e2⟩ := KvAll.readsX I hb sm kds _ _ h2 c.2 r2
        exact ⟨as ++ bs, by rw [toXk]; exact .cons q1 q2, fun z => (List.mem_append.mp z).elim n1 n2, by rw [List.map_cons, List.map_cons, e2]; exact congrArg (· :: _) r1.1.symm⟩
end
end
/-! ### repr -/
def shwOkX (x : Da) : Prop := canX x = true ∧ (toX x).showable = true ∧ (toX x).depth ≤ 60 ∧ (toX x).shown.length ≤ sizeLine
section
variable {X : Cx} {w : Wd} {e : Expr} {es : List Expr} {t : TDA} {p pos : Pos}
end
/-! ### sizes of data of all sorts -/
structure SzX (d : Da) (n c : Nat) : Prop where
  can : canX d = true
  shw : (toX d).showable = true
  dep : (toX d).depth ≤ n
  len : (toX d).shown.length ≤ c
theorem SzX.up {d : Da} {n c n' c' : Nat} (h : SzX d n c) (h1 : n ≤ n') (h2 : c ≤ c') : SzX d n' c' := ⟨h.can, h.shw, Nat.le_trans h.dep h1, Nat.le_trans h.len h2⟩
theorem SzX.ok {d : Da} {n c : Nat} (h : SzX d n c) (hn : n ≤ 60) (hc : c ≤ 16777216) : shwOkX d := ⟨h.can, h.shw, Nat.le_trans h.dep hn, Nat.le_trans h.len (by rw [sizeLine_eq]; exact hc)⟩
mutual
theorem toX_toP : ∀ d : Da, canP d = true → toX d = toP d ∧ canX d = true
  | .non, _ => ⟨by rw [toX, toP], by rw [canX]⟩
  | .bl _, _ => ⟨by rw [toX, toP], by rw [canX]⟩
  | .int _, _ => ⟨by rw [toX, toP], by rw [canX]⟩
  | .str _, _ => ⟨by rw [toX, toP], by rw [canX]⟩
  | .lst xs, h => by rw [canP] at h; obtain ⟨a, b⟩ := toXs_toPs xs h; exact ⟨by rw [toX, toP, a], by rw [canX]; exact b⟩
  | .tup xs, h => by rw [canP] at h; obtain ⟨a, b⟩ := toXs_toPs xs h; exact ⟨by rw [toX, toP, a], by rw [canX]; exact b⟩
  | .tpw xs, h => by rw [canP] at h; obtain ⟨a, b⟩ := toXs_toPs xs h; exact ⟨by rw [toX, toP, a], by rw [canX]; exact b⟩
  | .dct _, h => by rw [canP] at h; cases h
  | .bag, h => by rw [canP] at h; cases h
  | .raw _, h => by rw [canP] at h; cases h
  | .fix _, h => by rw [canP] at h; cases h
theorem toXs_toPs : ∀ ds : List Da, canPs ds = true → toXs ds = toPs ds ∧ canXs ds = true
  | [], _ => ⟨by rw [toXs, toPs], by rw [canXs]⟩
  | d :: ds, h => by
    rw [canPs, Bool.and_eq_true] at h
    obtain ⟨a, b⟩ := toX_toP d h.1
    obtain ⟨c, e⟩ := toXs_toPs ds h.2
    exact ⟨by rw [toXs, toPs, a, c], by rw [canXs, b, e]; rfl⟩
end
theorem Sz.x {d : Da} {n c : Nat} (h : Sz d n c) : SzX d n c := by
  obtain ⟨a, b⟩ := toX_toP d h.can
  exact ⟨b, by rw [a]; exact h.shw, by rw [a]; exact h.dep, by rw [a]; exact h.len⟩
end Pd
/-! Lists of dicts compared; dicts within emptied; defs that return new things. -/
namespace Pd
open PySem PySem.Spec PyProof.Rows L2
/-! ### == of lists of dicts -/
section
variable {X : Cx} {w : Wd} {a b : Expr} {ta tb : TDE} {pos : Pos}
end
/-! ### for x in xs: x.clear(), of dicts -/
section
variable {X : Cx} {w : Wd}
end
end Pd
/-! Defs that return a new value, or a new list of new values. -/
namespace Pd
open PySem PySem.Spec PyProof.Rows L2
def liV (K : PySem.W.Frag) (p : DSp) : Sp := fun vs H Q _ => ∃ g W ds, OkW K g W H ∧ DvAll K g (hid W H) vs ds ∧ p ds (AftN K g W H Q)
def liR (K : PySem.W.Frag) (p : DSpF) : Sp := fun vs H Q _ => ∃ g W ds, OkW K g W H ∧ DvAll K g (hid W H) vs ds ∧ p ds (NewR K g W H Q)
structure CalldV (P : Program) (wd : World) (K : PySem.W.Frag) (mg : Str → Option Value) (base : Heap) (k : Nat) (x : Str) (ps : List Str) (p : DSp) : Prop where
  ex : ∃ f fd, FnG P wd K mg base CX0 k f fd ps (liV K p) ∧ mg x = some (.ref f) ∧ PySem.W.keepIn K (.ref f) = true ∧ Binds K fd ps []
  mp : MoP p
structure CalldR (P : Program) (wd : World) (K : PySem.W.Frag) (mg : Str → Option Value) (base : Heap) (k : Nat) (x : Str) (ps : List Str) (p : DSpF) : Prop where
  ex : ∃ f fd, FnG P wd K mg base CX0 k f fd ps (liR K p) ∧ mg x = some (.ref f) ∧ PySem.W.keepIn K (.ref f) = true ∧ Binds K fd ps []
  mp : MoPF p
section
variable {P : Program} {wd : World} {K : PySem.W.Frag} {mg : Str → Option Value} {base : Heap}
theorem CalldV.up {j k : Nat} {x : Str} {ps : List Str} {p : DSp} (c : CalldV P wd K mg base j x ps p) (h : j ≤ k) : CalldV P wd K mg base k x ps p := by
  obtain ⟨⟨f, fd, F, a, b, d⟩, mp⟩ := c
  exact ⟨⟨f, fd, F.up h, a, b, d⟩, mp⟩
theorem CalldR.up {j k : Nat} {x : Str} {ps : List Str} {p : DSpF} (c : CalldR P wd K mg base j x ps p) (h : j ≤ k) : CalldR P wd K mg base k x ps p := by
  obtain ⟨⟨f, fd, F, a, b, d⟩, mp⟩ := c
  exact ⟨⟨f, fd, F.up h, a, b, d⟩, mp⟩
theorem AftN.aft {g : Gd} {W : Addr → Bool} {H : Hp} {Q : VK} {d : Da} (h : Aft K g W H Q d) : AftN K g W H Q d := fun v H' e k dv => h v H' e k (Dv.mono newM_le _ _ dv)
theorem NewR.aft {g : Gd} {W : Addr → Bool} {H : Hp} {Q : VK} {ds : List Da} (h : Aft K g W H Q (.lst ds)) : NewR K g W H Q ds := fun p xs H1 e1 k1 np dv => by
  obtain ⟨n1, n2, n3, n4⟩ := k1.new (o := .lst xs) np
  exact h _ _ (e1.trans n1) n2 (.lst n4 (DvAll.mono (fun a o z => n3 a o (newM_le a o z)) _ _ dv))
/-- as data -/
theorem CalldV.dat {k : Nat} {x : Str} {ps : List Str} {p : DSp} (c : CalldV P wd K mg base k x ps p) : Calld P wd K mg base k x ps p := by
  obtain ⟨⟨f, fd, F, a, b, d⟩, mp⟩ := c
  exact ⟨⟨f, fd, ⟨fun vs H Q E ⟨g, W, ds, k1, dv, h⟩ => F.many vs H Q E ⟨g, W, ds, k1, dv, mp _ _ _ (fun _ => AftN.aft) h⟩, fun A outer s0 H args us vs Q E room hG z bd rel ⟨g, W, ds, k1, dv, h⟩ => F.goes A outer s0 H args us vs Q E room hG z bd rel ⟨g, W, ds, k1, dv, mp _ _ _ (fun _ => AftN.aft) h⟩⟩, a, b, d⟩, mp⟩
theorem CalldR.dat {k : Nat} {x : Str} {ps : List Str} {p : DSpF} (c : CalldR P wd K mg base k x ps p) : Calld P wd K mg base k x ps (fun ds Q => p ds fun xs => Q (.lst xs)) := by
  obtain ⟨⟨f, fd, F, a, b, d⟩, mp⟩ := c
  exact ⟨⟨f, fd, ⟨fun vs H Q E ⟨g, W, ds, k1, dv, h⟩ => F.many vs H Q E ⟨g, W, ds, k1, dv, mp _ _ _ (fun _ => NewR.aft) h⟩, fun A outer s0 H args us vs Q E room hG z bd rel ⟨g, W, ds, k1, dv, h⟩ => F.goes A outer s0 H args us vs Q E room hG z bd rel ⟨g, W, ds, k1, dv, mp _ _ _ (fun _ => NewR.aft) h⟩⟩, a, b, d⟩, fun ds Q Q' q h => mp _ _ _ (fun xs => q _) h⟩
theorem NewR.then {g : Gd} {W : Addr → Bool} {H H' : Hp} {Q : VK} {ds : List Da} (h : NewR K g W H Q ds) (e : Ext g H H') (k : OkW K g W H') : NewR K g W H' Q ds := fun p xs H1 e1 k1 np dv => h p xs H1 (e.trans e1) k1 np (DvAll.mono (newM_up (fun a ha => e.none k ha) fun _ _ z => z) _ _ dv)
end
section
variable {X : Cx} {w : Wd} {e : Expr} {es : List Expr} {pos p : Pos}
/-! ### a written list of new values -/
def AftNA (K : PySem.W.Frag) (g : Gd) (W : Addr → Bool) (H : Hp) (Q : List V → Hp → Prop) (ds : List Da) : Prop := ∀ xs H', Ext g H H' → OkW K g W H' → DvAll K g (newM H (hid W H')) xs ds → Q xs H'
structure PNA (X : Cx) (w : Wd) (es : List Expr) (t : TDA) : Prop where
  pa : PA X es (fun σ H Q => ∃ W own r, Stt X.K w W own r σ H ∧ t r (AftNA X.K w.g W H Q))
  mo : ∀ r Q Q', (∀ ds, Q ds → Q' ds) → t r Q → t r Q'
end
/-! ### a def whose body returns a new value at once -/
end Pd
/-! The head of a law, the base told to hold the modules' dict. -/
namespace Pd
open PySem PySem.Spec PyProof.Rows L2
theorem _root_.PySem.Heap.NoSeer.mods' {h : Heap} (x : h.NoSeer) : ∃ mm, h.Ns sysModules mm := by
  obtain ⟨mm, a, _⟩ := x.mods
  exact ⟨mm, a⟩
section
variable {P : Program} {wd : World} {K : PySem.W.Frag} {mg mb : Str → Option Value} {k : Nat} {fa a : Addr} {fd : FuncData} {x : Str} {sp : Sp} {s1 : Shared} {us : List Value} {ns : List Int}
end
end Pd
/-! sorted(set(a list of whole numbers)). -/
namespace Pd
open PySem PySem.Spec PyProof.Rows L2
section
variable {X : Cx} {w : Wd} {e : Expr} {te : TDE} {pos : Pos}
end
end Pd
/-! name = [.. for .. for ..]. -/
namespace Pd
open PySem PySem.Spec PyProof.Rows L2
section
variable {X : Cx} {w : Wd} {pos : Pos}
end
/-! ### what a comprehension of two walks gives -/
/-- the inner turns, each known: none (left out) or one thing -/
theorem lcK_run {gd : TDG} {tt : TDT} {te : TDE} {vs : List Nat} {r : En} {k : List Da → Prop} (f : Da → Option Da) : ∀ (ds acc : List Da), acc.length + ds.length ≤ sizeLine →
    (∀ d ∈ ds, ∀ (Y : Da → Prop) (Z : Prop), (∀ y, f d = some y → Y y) → (f d = none → Z) → gd d (wipeD r vs) fun r2 => tt r2 fun b => if b = true then te r2 Y else Z) →
    k (acc ++ ds.filterMap f) → lcK gd tt te vs r k ds acc
  | [], acc, _, _, h => by rw [List.filterMap_nil, List.append_nil] at h; exact h
  | d :: ds, acc, hl, st, h => by
    rw [List.length_cons] at hl
    refine st d List.mem_cons_self (fun y => acc.length < sizeLine ∧ lcK gd tt te vs r k ds (acc ++ [y])) (lcK gd tt te vs r k ds acc) (fun y hy => ⟨by omega, ?_⟩) (fun hn => ?_)
    · refine lcK_run f ds (acc ++ [y]) (by rw [List.length_append, List.length_singleton]; omega) (fun e he => st e (List.mem_cons_of_mem _ he)) ?_
      rw [List.filterMap_cons, hy] at h
      rw [List.append_assoc]
      exact h
    · refine lcK_run f ds acc (by omega) (fun e he => st e (List.mem_cons_of_mem _ he)) ?_
      rw [List.filterMap_cons, hn] at h
      exact h
theorem lcN_run {gd : TDG} {tt : TDT} {wd1 : TDI} {gd1 : TDG} {tt1 : TDT} {te : TDE} {vs vs1 : List Nat} {r : En} {k : List Da → Prop} (F : Da → List Da) (B : Nat) : ∀ (ds acc : List Da), acc.length + (ds.flatMap F).length ≤ B →
    (∀ d ∈ ds, ∀ (acc : List Da) (k' : List Da → Prop), acc.length + (F d).length ≤ B → k' (acc ++ F d) → gd d (wipeD r vs) fun r2 => tt r2 fun b => if b = true then wd1 r2 fun es => lcK gd1 tt1 te vs1 r2 k' es acc else k' acc) →
    k (acc ++ ds.flatMap F) → lcN gd tt wd1 gd1 tt1 te vs vs1 r k ds acc
  | [], acc, _, _, h => by rw [List.flatMap_nil, List.append_nil] at h; exact h
  | d :: ds, acc, hl, st, h => by
    rw [List.flatMap_cons, List.length_append] at hl
    refine st d List.mem_cons_self acc _ (by omega) ?_
    refine lcN_run F B ds (acc ++ F d) (by rw [List.length_append]; omega) (fun e he => st e (List.mem_cons_of_mem _ he)) ?_
    rw [List.flatMap_cons] at h
    rw [List.append_assoc]
    exact h
end Pd
/-! Groups: a dict of one's own whose values are lists of one's own. -/
namespace Pd
open PySem PySem.Spec PyProof.Rows L2
section
variable {K : PySem.W.Frag} {w : Wd} {W : Addr → Bool} {own : Ow} {r : En} {σ : L2.St} {H H' : Hp}
/-- groups of things by numbers -/
structure Grp (K : PySem.W.Frag) (g : Gd) (W : Addr → Bool) (own : Ow) (s : Nat) (H : Hp) (D : Addr) (T : List (Int × Da)) (ks : List Int) (q : Int → Addr) : Prop where
  oD : own s D
  hD : H D = some (.dK (ks.map fun k => (Sum.inl k, V.ref (q k))))
  nd : ks.Nodup
  mem : ∀ k, k ∈ ks ↔ k ∈ T.map (·.1)
  at_ : ∀ k ∈ ks, own s (q k) ∧ q k ≠ D ∧ ∃ vs, H (q k) = some (.lst vs) ∧ DvAll K g (hid W H) vs ((T.filter fun p => p.1 == k).map (·.2))
  inj : ∀ k ∈ ks, ∀ k' ∈ ks, q k = q k' → k = k'
variable {g : Gd} {s : Nat} {D : Addr} {T : List (Int × Da)} {ks : List Int} {q : Int → Addr}
theorem Grp.ext (G : Grp K g W own s H D T ks q) (gW : ∀ a, Bd g a → W a = true) (og : ∀ a, own s a → ¬ Bd g a) (e : Ext g H H') : Grp K g W own s H' D T ks q :=
  ⟨G.oD, e D _ (og D G.oD) G.hD, G.nd, G.mem, fun k hk => by
    obtain ⟨h1, h2, vs, h3, h4⟩ := G.at_ k hk
    exact ⟨h1, h2, vs, e _ _ (og _ h1) h3, DvAll.mono (e.hid gW) _ _ h4⟩, G.inj⟩
theorem Grp.sub {own' : Ow} (G : Grp K g W own s H D T ks q) (h : ∀ a, own s a → own' s a) : Grp K g W own' s H D T ks q :=
  ⟨h _ G.oD, G.hD, G.nd, G.mem, fun k hk => by
    obtain ⟨h1, h2, h3⟩ := G.at_ k hk
    exact ⟨h _ h1, h2, h3⟩, G.inj⟩
theorem Grp.up {W' : Addr → Bool} (G : Grp K g W own s H D T ks q) (h : ∀ a o, own s a → H a = some o → H' a = some o) (sm : Sm (hid W H) (hid W' H')) : Grp K g W' own s H' D T ks q :=
  ⟨G.oD, h _ _ G.oD G.hD, G.nd, G.mem, fun k hk => by
    obtain ⟨h1, h2, vs, h3, h4⟩ := G.at_ k hk
    exact ⟨h1, h2, vs, h _ _ h1 h3, DvAll.mono sm _ _ h4⟩, G.inj⟩
theorem valV_ngrp {ks : List Int} {q : Int → Addr} {n : Int} (h : n ∉ ks) : valV (ks.map fun k => ((Sum.inl k : Key), V.ref (q k))) (Sum.inl n) = none := by
  induction ks with
  | nil => rfl
  | cons k ks ih =>
    rw [List.map_cons, valV_neg (fun z => h (by rw [Sum.inl.inj z]; exact List.mem_cons_self))]
    exact ih fun z => h (List.mem_cons_of_mem _ z)
/-- one more of a number that has a group -/
theorem Grp.more (G : Grp K g W own s H D T ks q) {n : Int} {d : Da} {v : V} {vs : List V} (hn : n ∈ ks) (hW : W (q n) = true) (hv : H (q n) = some (.lst vs)) (dv : Dv K g (hid W H) v d) :
    Grp K g W own s (upd H (q n) (.lst (vs ++ [v]))) D (T ++ [(n, d)]) ks q := by
  obtain ⟨_, nD, _⟩ := G.at_ n hn
  refine ⟨G.oD, by rw [upd_ne (Ne.symm nD)]; exact G.hD, G.nd, fun k => ?_, fun k hk => ?_, G.inj⟩
  · rw [List.map_append, List.mem_append, ← G.mem k]
    constructor
    · exact .inl
    · rintro (z | z)
      · exact z
      · rw [List.mem_singleton.mp z]; exact hn
  · obtain ⟨h1, h2, us, h3, h4⟩ := G.at_ k hk
    rw [hid_upd hW, List.filter_append, List.map_append]
    by_cases e : k = n
    · subst e
      rw [hv] at h3
      cases h3
      refine ⟨h1, h2, _, upd_same, ?_⟩
      have e2 : ([(k, d)].filter fun p => p.1 == k).map (·.2) = [d] := by simp
      rw [e2]
      exact h4.app (.cons dv .nil)
    · refine ⟨h1, h2, us, by rw [upd_ne fun z => e (G.inj k hk n hn z)]; exact h3, ?_⟩
      have e2 : ([(n, d)].filter fun p => p.1 == k).map (·.2) = [] := by
        rw [List.filter_cons_of_neg (by simpa using fun z => e z.symm)]
        rfl
      rw [e2, List.append_nil]
      exact h4
/-- the first of a number -/
theorem Grp.first (G : Grp K g W own s H D T ks q) {n : Int} {d : Da} {v : V} {p : Addr} (hn : n ∉ ks) (op : own s p) (np : p ≠ D) (nq : ∀ k ∈ ks, q k ≠ p) (hD : W D = true) (hp : W p = true) (dv : Dv K g (hid W H) v d) :
    Grp K g W own s (upd (upd H D (.dK (putK (ks.map fun k => ((Sum.inl k : Key), V.ref (q k))) (Sum.inl n) (.ref p)))) p (.lst [v])) D (T ++ [(n, d)]) (ks ++ [n]) (fun k => if k = n then p else q k) := by
  have eq : ∀ k ∈ ks, (if k = n then p else q k) = q k := fun k hk => if_neg fun (z : k = n) => hn (by rw [← z]; exact hk)
  have ep : putK (ks.map fun k => ((Sum.inl k : Key), V.ref (q k))) (Sum.inl n) (.ref p) = (ks ++ [n]).map fun k => ((Sum.inl k : Key), V.ref (if k = n then p else q k)) := by
    rw [putK_new _ (valV_ngrp hn), List.map_append]
    have e1 : (ks.map fun k => ((Sum.inl k : Key), V.ref (q k))) = ks.map fun k => ((Sum.inl k : Key), V.ref (if k = n then p else q k)) := List.map_congr_left fun k hk => by rw [eq k hk]
    rw [e1]
    show _ = _ ++ [(Sum.inl n, V.ref (if n = n then p else q n))]
    rw [if_pos rfl]
  have none_ : (T.filter fun x => x.1 == n) = [] := by
    rw [List.filter_eq_nil_iff]
    intro x hx z
    have : x.1 = n := by simpa using z
    exact hn ((G.mem n).mpr (List.mem_map.mpr ⟨x, hx, this⟩))
  have hh : hid W (upd (upd H D (.dK (putK (ks.map fun k => ((Sum.inl k : Key), V.ref (q k))) (Sum.inl n) (.ref p)))) p (.lst [v])) = hid W H := by rw [hid_upd hp, hid_upd hD]
  refine ⟨G.oD, by rw [upd_ne (Ne.symm np), upd_same, ep], ?_, fun k => ?_, fun k hk => ?_, fun k hk k' hk' => ?_⟩
  · rw [List.nodup_append]
    refine ⟨G.nd, by simp, fun a ha b hb z => hn ?_⟩
    rw [← List.mem_singleton.mp hb, ← z]
    exact ha
  · rw [List.map_append, List.mem_append, List.mem_append, ← G.mem k]
    rfl
  · rw [hh, List.filter_append, List.map_append]
    rcases List.mem_append.mp hk with z | z
    · obtain ⟨h1, h2, us, h3, h4⟩ := G.at_ k z
      have ne : k ≠ n := fun y => hn (y ▸ z)
      rw [eq k z]
      refine ⟨h1, h2, us, by rw [upd_ne (nq k z), upd_ne h2]; exact h3, ?_⟩
      have e2 : ([(n, d)].filter fun p => p.1 == k).map (·.2) = [] := by
        rw [List.filter_cons_of_neg (by simpa using fun z => ne z.symm)]
        rfl
      rw [e2, List.append_nil]
      exact h4
    · have e := List.mem_singleton.mp z
      subst e
      rw [if_pos rfl, none_]
      refine ⟨op, np, _, upd_same, ?_⟩
      have e2 : ([(k, d)].filter fun p => p.1 == k).map (·.2) = [d] := by simp
      rw [e2]
      exact .cons dv .nil
  · rcases List.mem_append.mp hk with z | z
    · rcases List.mem_append.mp hk' with z' | z'
      · rw [eq k z, eq k' z']
        exact G.inj k z k' z'
      · rw [eq k z, List.mem_singleton.mp z', if_pos rfl]
        exact fun y => absurd y (nq k z)
    · rcases List.mem_append.mp hk' with z' | z'
      · rw [eq k' z', List.mem_singleton.mp z, if_pos rfl]
        exact fun y => absurd y.symm (nq k' z')
      · intro _
        rw [List.mem_singleton.mp z, List.mem_singleton.mp z']
end
end Pd
/-! A body that made groups returns: what is new is data again, and known to be new. -/
namespace Pd
open PySem PySem.Spec PyProof.Rows L2
section
variable {K : PySem.W.Frag} {w : Wd} {W : Addr → Bool} {own : Ow} {r : En} {σ : L2.St} {H : Hp}
end
end Pd
/-! Texts told apart. -/
namespace Pd
open PySem PySem.Spec PyProof.Rows L2
end Pd
/-! Instances that never change once they are made: as data; their attributes, methods, making. -/
namespace Pd
open PySem PySem.Spec PyProof.Rows L2
/-! ### calls with the guards told -/
section
variable {X : Cx} {CX : CXT} {k : Nat} {f C : Addr} {fd : FuncData} {ps : List Str} {sp : Sp} {dvs : List V} {ds : List Value} {E : XK} {x m : Str} {p pos apos : Pos} {e o : Expr} {es : List Expr} {ta : TE} {t : TA}
end
/-! ### an instance as a datum -/
/-- its attributes are these data -/
inductive Flds (K : PySem.W.Frag) (H : Hp) : List (Str × V) → List (Str × Da) → Prop
  | nil : Flds K H [] []
  | cons {x : Str} {v : V} {d : Da} {us : List (Str × V)} {fs : List (Str × Da)} : Dv K Gd.no H v d → Flds K H us fs → Flds K H ((x, v) :: us) ((x, d) :: fs)
def noLf : List (Str × Da) → Bool
  | [] => true
  | (_, d) :: fs => noL d && noLf fs
theorem Flds.sees {K : PySem.W.Frag} {H H' : Hp} (e : Sees H H') : ∀ {us : List (Str × V)} {fs : List (Str × Da)}, noLf fs = true → Flds K H us fs → Flds K H' us fs
  | _, _, _, .nil => .nil
  | _, _, n, .cons h t => by
    rw [noLf, Bool.and_eq_true] at n
    exact .cons (Dv.sees e _ _ n.1 h) (Flds.sees e n.2 t)
theorem Flds.get {K : PySem.W.Frag} {H : Hp} {f : Str} : ∀ {us : List (Str × V)} {fs : List (Str × Da)} {d : Da}, Flds K H us fs → fs.lookup f = some d → ∃ v, us.lookup f = some v ∧ Dv K Gd.no H v d
  | _, _, _, .nil, h => by cases h
  | _, _, d, .cons (x := x) (v := v) h t, e => by
    rw [List.lookup_cons] at e
    rw [List.lookup_cons]
    cases q : f == x with
    | true =>
      rw [q] at e
      cases e
      exact ⟨v, rfl, h⟩
    | false =>
      rw [q] at e
      exact Flds.get t e
theorem Flds.no {K : PySem.W.Frag} {H : Hp} {f : Str} : ∀ {us : List (Str × V)} {fs : List (Str × Da)}, Flds K H us fs → fs.lookup f = none → us.lookup f = none
  | _, _, .nil, _ => rfl
  | _, _, .cons (x := x) h t, e => by
    rw [List.lookup_cons] at e
    rw [List.lookup_cons]
    cases q : f == x with
    | true => rw [q] at e; cases e
    | false =>
      rw [q] at e
      exact Flds.no t e
section
variable {X : Cx} {w : Wd} {o e : Expr} {es : List Expr} {to : TDE} {t : TDA} {f m : Str} {pos apos : Pos}
/-- a method whose promise is known -/
structure CalldM (P : Program) (wd : World) (K : PySem.W.Frag) (mg : Str → Option Value) (base : Heap) (k : Nat) (C : Addr) (m : Str) (ps : List Str) (p : DSp) : Prop where
  ex : ∃ f fd, FnG P wd K mg base CX0 k f fd ps (liP K p) ∧ Meth K C m f ∧ Binds K fd ps []
  cl : Cls K C
  mp : MoP p
end
end Pd
/-! An instance is made: C(..) with an own __init__ that sets its attributes. -/
namespace Pd
open PySem PySem.Spec PyProof.Rows L2
mutual
/-- no instance within -/
def noF : Da → Bool
  | .fix _ => false
  | .lst xs => noFs xs
  | .tup xs => noFs xs
  | .tpw xs => noFs xs
  | .dct kvs => noFk kvs
  | .non => true
  | .bl _ => true
  | .int _ => true
  | .str _ => true
  | .bag => true
  | .raw _ => true
def noFs : List Da → Bool
  | [] => true
  | x :: xs => noF x && noFs xs
def noFk : List (Key × Da) → Bool
  | [] => true
  | (_, x) :: xs => noF x && noFk xs
end
/-- all but what is at x stays -/
def But (x : Addr) (H H' : Hp) : Prop := ∀ a o, a ≠ x → H a = some o → H' a = some o
section
variable {K : PySem.W.Frag} {g : Gd} {H H' : Hp} {x : Addr}
theorem not_ins {a : Addr} {o : HO} (hx : ∃ C dx us, H x = some (.ins C dx us)) (h : H a = some o) (n : ∀ C dx us, o ≠ .ins C dx us) : a ≠ x := fun z => by
  obtain ⟨C, dx, us, q⟩ := hx
  rw [z, q] at h
  exact n C dx us (Option.some.inj h).symm
theorem sqt_but {a : Addr} {xs : List V} (hx : ∃ C dx us, H x = some (.ins C dx us)) (e : But x H H') (h : SqT K H a xs) : SqT K H' a xs := by
  rcases h with (h | ⟨o, h⟩) | h
  · exact .inl (.inl (e _ _ (not_ins hx h fun _ _ _ z => by cases z) h))
  · exact .inl (.inr ⟨o, e _ _ (not_ins hx h fun _ _ _ z => by cases z) h⟩)
  · exact .inr h
theorem tups_but {a : Addr} {xs : List V} (hx : ∃ C dx us, H x = some (.ins C dx us)) (e : But x H H') (h : TupS K H a xs) : TupS K H' a xs := by
  rcases h with ⟨o, h, n⟩ | h
  · exact .inl ⟨o, e _ _ (not_ins hx h fun _ _ _ z => by cases z) h, n⟩
  · exact .inr h
mutual
theorem Dv.but (hx : ∃ C dx us, H x = some (.ins C dx us)) (e : But x H H') : ∀ (d : Da) (v : V), noF d = true → Dv K g H v d → Dv K g H' v d
  | .non, _, _, h => by cases h; exact .non
  | .bl _, _, _, h => by cases h; exact .bl _
  | .int _, _, _, h => by cases h; exact .int _
  | .str _, _, _, h => by cases h; exact .str _
  | .lst ds, _, n, h => by
    rw [noF] at n
    cases h with
    | lst h1 h2 => exact .lst (e _ _ (not_ins hx h1 fun _ _ _ z => by cases z) h1) (DvAll.but hx e ds _ n h2)
  | .tup ds, _, n, h => by
    rw [noF] at n
    cases h with
    | tup h1 h2 => exact .tup (tups_but hx e h1) (DvAll.but hx e ds _ n h2)
  | .tpw ds, _, n, h => by
    rw [noF] at n
    cases h with
    | tpw h1 h2 => exact .tpw (sqt_but hx e h1) (DvAll.but hx e ds _ n h2)
  | .dct ds, _, n, h => by
    rw [noF] at n
    cases h with
    | dct h1 h2 => exact .dct (e _ _ (not_ins hx h1 fun _ _ _ z => by cases z) h1) (KvAll.but hx e ds _ n h2)
  | .bag, _, _, h => by
    cases h with
    | bag q => exact .bag q
  | .raw _, _, _, h => by cases h; exact .raw
  | .fix _, _, n, _ => by rw [noF] at n; cases n
theorem DvAll.but (hx : ∃ C dx us, H x = some (.ins C dx us)) (e : But x H H') : ∀ (ds : List Da) (vs : List V), noFs ds = true → DvAll K g H vs ds → DvAll K g H' vs ds
  | [], _, _, h => by cases h; exact .nil
  | d :: ds, _, n, h => by
    rw [noFs, Bool.and_eq_true] at n
    cases h with
    | cons h1 h2 => exact .cons (Dv.but hx e d _ n.1 h1) (DvAll.but hx e ds _ n.2 h2)
theorem KvAll.but (hx : ∃ C dx us, H x = some (.ins C dx us)) (e : But x H H') : ∀ (ds : List (Key × Da)) (vs : List (Key × V)), noFk ds = true → KvAll K g H vs ds → KvAll K g H' vs ds
  | [], _, _, h => by cases h; exact .nil
  | (k, d) :: ds, _, n, h => by
    rw [noFk, Bool.and_eq_true] at n
    cases h with
    | cons h1 h2 => exact .cons (Dv.but hx e d _ n.1 h1) (KvAll.but hx e ds _ n.2 h2)
end
end
/-- what an __init__ makes of a new instance -/
def liI0 (K : PySem.W.Frag) (C : Addr) (p : List Da → (List (Str × Da) → Prop) → Prop) : Sp := fun vs H Q _ => ∃ (g : Gd) (W : Addr → Bool) (ds : List Da) (x dx : Addr) (vs' : List V), vs = .ref x :: vs' ∧ H x = some (.ins C dx []) ∧ W x = false ∧ OkW K g W H ∧ DvAll K g (hid W H) vs' ds ∧
  p ds fun fs => ∀ us H', Ext g (cutAt x H) (cutAt x H') → OkW K g W H' → H' x = some (.ins C dx us) → Flds K (hid W H') us fs → Q .non H'
structure CalldI (P : Program) (wd : World) (K : PySem.W.Frag) (mg : Str → Option Value) (base : Heap) (k : Nat) (c : Str) (C : Addr) (ps : List Str) (p : List Da → (List (Str × Da) → Prop) → Prop) : Prop where
  ex : ∃ f fd, FnG P wd K mg base CX0 k f fd ps (liI0 K C p) ∧ Mk K C f ∧ mg c = some (.ref C) ∧ Binds K fd ps []
  mp : ∀ ds Q Q', (∀ fs, Q fs → Q' fs) → p ds Q → p ds Q'
section
variable {X : Cx} {w : Wd} {e : Expr} {es : List Expr} {t : TDA} {pos q : Pos}
end
end Pd
/-! An __init__ that looks at what it is handed, then sets two attributes. -/
namespace Pd
open PySem PySem.Spec PyProof.Rows L2
end Pd
/-! Methods by their bodies; properties read. -/
namespace Pd
open PySem PySem.Spec PyProof.Rows L2
/-- a method of the class at C, as the text has it -/
structure MethAt (K : PySem.W.Frag) (C : Addr) (m qual : Str) (st : Stmt) (ps : List Str) : Prop where
  ex : ∃ f fd, Fun K m qual st f fd ∧ Meth K C m f ∧ Binds K fd ps []
/-- a property whose getter's promise is known -/
structure CalldP (P : Program) (wd : World) (K : PySem.W.Frag) (mg : Str → Option Value) (base : Heap) (k : Nat) (C : Addr) (m : Str) (p : DSp) : Prop where
  ex : ∃ a f fd, FnG P wd K mg base CX0 k f fd ["self"] (liP K p) ∧ PropOf K C m a f ∧ Binds K fd ["self"] []
  cl : Cls K C
  mp : MoP p
section
variable {X : Cx} {CX : CXT} {k : Nat} {C p g : Addr} {f : Str} {fd : FuncData} {ps : List Str} {sp : Sp} {dvs : List V} {ds : List Value} {E : XK} {o : Expr} {pos : Pos} {ta : TE}
end
end Pd
/-! A walk over an instance whose own __iter__ gives iter(a tuple of its own). -/
namespace Pd
open PySem PySem.Spec PyProof.Rows L2
/-! ### a tuple's iterator -/
def TtO (l it : Addr) (i : Nat) : HO := .ext fun h => h.IsTupleIter it l i
section
variable {X : Cx}
end
/-! ### a contract that knows how large the heap was -/
structure FnGN (P : Program) (wd : World) (K : PySem.W.Frag) (mg : Str → Option Value) (base : Heap) (CX : CXT) (k : Nat) (f : Addr) (fd : FuncData) (ps : List Str) (sp : Nat → Sp) : Prop where
  many : ∀ n vs H Q E, sp n vs H Q E → vs.length = ps.length
  goes : ∀ (A : Around) (outer : List Env) (s0 : Shared) (H : Hp) (args : Args) (us : List Value) (vs : List V) (Q : VK) (E : XK),
    Room k A → A.guards = some [] → Env0 P wd K mg base A outer s0 H → BindsTo s0 fd args (ps.zip us) → Vals vs us → sp s0.heap.objs.size vs H Q E →
      codeAny (model P wd) A (.call (.ref f) args) (CR CX outer P wd H s0 Q E) s0
theorem FunG.okN {P : Program} {wd : World} {K : PySem.W.Frag} {mg : Str → Option Value} {base : Heap} {x qual : Str} {st : Stmt} {f : Addr} {fd : FuncData} {N ps : List Str} {k : Nat} {sp : Nat → Sp}
    (F : Fun K x qual st f fd) (S : FnScope N ps (defScope st)) (many : ∀ n vs H Q E, sp n vs H Q E → vs.length = ps.length)
    (inside : ∀ (cdv : Value) (A : Around) (outer : List Env) (s0 : Shared) (H : Hp) (vs : List V) (Q : VK) (E : XK), Room k (A.deeper (envOfC qual (defScope st) s0.heap.objs.size f cdv)) → A.guards = some [] → sp s0.heap.objs.size vs H Q E →
      ∃ t, PSs (cxOf CX0 P wd K mg base N qual (defScope st) f cdv A outer s0 H E).nox (defBody st) t ∧ t { nx := fun _ H' => Q .non H', rt := Q } (start N vs) H) :
    FnGN P wd K mg base CX0 (k + 1) f fd ps sp := by
  constructor
  · exact many
  · intro A outer s0 H args us vs Q E room hG z0 bd rel pre
    obtain ⟨oc, od, kV, doc, pm, an, cdv, ct, osl, rfl, at_f, at_c⟩ := F.ex
    have keep0 : ∀ b o, base.get? b = some o → s0.heap.get? b = some o := fun b o e => (z0.bs b o e).1
    have inK : K.In s0.heap := z0.mod.kin.keeps keep0
    have nolim : s0.heap.NoLimit := z0.mod.nolimit.keeps keep0
    have kinds : ∀ y ∈ ps.zip us, (defScope st).names.lookup y.1 = some .local ∨ ((defScope st).names.lookup y.1 = some .cell ∧ ((cellsFrom (s0.heap.objs.size + 1) (defScope st).names []).lookup y.1).isSome = true) := by
      rintro ⟨n, v⟩ hy
      cases S.par n (List.of_mem_zip hy).1 with
      | inl q => exact Or.inl q
      | inr q => exact Or.inr ⟨q, PySem.W.cellsFrom_some _ _ _ (Or.inl q)⟩
    apply codeAny_call_function room.depth (inK _ _ at_f) rfl S.co S.gen rfl (PySem.W.codeRec_of inK at_c) (bd _ _ _ _ ?_)
    apply wpAny_newFunctionEnv_cells S.kind kinds
    intro env ee s1 ic
    subst ee
    refine ⟨nolim.keeps ic.toInCall.keep, codeAny_func ?_⟩
    obtain ⟨t, runs, goal⟩ := inside cdv A outer s0 H vs Q E (room.deeper _) hG pre
    have J := inv_start (CX := CX0) (P := P) (w := wd) (K := K) (mg := mg) (base := base) (N := N) (ps := ps) (qual := qual) (scope := defScope st) (f := f) (cd := cdv) (E := E) S room.hd z0 (many _ _ _ _ _ pre) rel ic
    have last : ∀ {σ' : L2.St} {H' : Hp} {v : V} {u : Value} {s' : Shared}, Inv (cxOf CX0 P wd K mg base N qual (defScope st) f cdv A outer s0 H E) [] σ' H' s' → RelV v u → Q v H' → CE outer P wd H s0 Q u s' := by
      intro σ' H' v u s' I rv q
      exact ⟨v, H', I.os, I.bare, I.base, I.hok, rv, q⟩
    refine wpAny_mono (runs.nox.run [] s1 (start N vs) H _ J goal) ?_ (fun e s' hs => hs)
    intro fl s' hs
    cases fl with
    | next =>
      obtain ⟨σ', H', I, q⟩ := hs
      exact last (v := V.non) (u := Value.none) I rfl q
    | ret u =>
      obtain ⟨v, σ', H', I, rv, q⟩ := hs
      exact last I rv q
    | brk =>
      obtain ⟨_, _, _, q⟩ := hs
      exact q.elim
    | cont =>
      obtain ⟨_, _, _, q⟩ := hs
      exact q.elim
/-! ### pyIter of an instance -/
/-- what an own __iter__ gives: an iterator of the tuple that the attribute f holds -/
def spIter (K : PySem.W.Frag) (C : Addr) (f : Str) : Nat → Sp := fun n vs H Q _ => ∃ a dx us l xs, vs = [.ref a] ∧ H a = some (.ins C dx us) ∧ us.lookup f = some (.ref l) ∧ SqT K H l xs ∧ ∀ it, H it = none → n ≤ it → Q (.ref it) (upd H it (TtO l it 0))
structure IterAt (P : Program) (wd : World) (K : PySem.W.Frag) (mg : Str → Option Value) (base : Heap) (k : Nat) (C : Addr) (f : Str) : Prop where
  ex : ∃ g fd, FnGN P wd K mg base CX0 k g fd ["self"] (spIter K C f) ∧ PySem.W.findIn K (.ref C) "__iter__" = some (some (.ref g)) ∧ PySem.W.isFn K (.ref g) = true ∧ Binds K fd ["self"] []
section
variable {X : Cx} {pins : List (Addr × Obj)} {σ : L2.St} {H : Hp} {s : Shared}
end
end Pd
/-! for x in o, for i, x in enumerate(o), o an instance with an own __iter__. -/
namespace Pd
open PySem PySem.Spec PyProof.Rows L2
section
variable {X : Cx} {tg : Expr}
end
/-! ### enumerate -/
end Pd
/-! enumerate(o); walks over instances as data. -/
namespace Pd
open PySem PySem.Spec PyProof.Rows L2
section
variable {X : Cx}
end
/-! ### as data -/
section
variable {X : Cx} {w : Wd} {e tg : Expr} {pos : Pos} {te : TDE}
end
end Pd
/-! An instance's own __iter__, __len__, __or__, by their bodies; in; a nested target; list or tuple. -/
namespace Pd
open PySem PySem.Spec PyProof.Rows L2
/-! ### an own def called by a built-in -/
section
variable {X : Cx} {k : Nat} {f C : Addr} {fd : FuncData} {ps : List Str} {sp : Sp}
end
/-! ### len(o) -/
/-- a special method whose promise is known -/
structure CalldS (P : Program) (wd : World) (K : PySem.W.Frag) (mg : Str → Option Value) (base : Heap) (k : Nat) (C : Addr) (m : Str) (ps : List Str) (p : DSp) : Prop where
  ex : ∃ f fd, FnG P wd K mg base CX0 k f fd ps (liP K p) ∧ PySem.W.findIn K (.ref C) m = some (some (.ref f)) ∧ PySem.W.isFn K (.ref f) = true ∧ Binds K fd ps []
  mp : MoP p
section
variable {X : Cx} {w : Wd} {e a b : Expr} {es : List Expr} {pos : Pos} {te ta tb : TDE} {C : Addr} {k : Nat} {ps : List Str} {p : DSp}
/-! ### o | o' -/
/-! ### in, of data -/
/-! ### any -/
/-! ### a list or a tuple, walked -/
end
/-! ### for i, (a, b, c) in .. -/
/-! ### __iter__ by its body -/
end Pd
/-! xs[i] = e, xs a list of one's own; isinstance(x, (list, tuple)). -/
namespace Pd
open PySem PySem.Spec PyProof.Rows L2
theorem DvAll.st {K : PySem.W.Frag} {g : Gd} {H : Hp} {v : V} {d : Da} (h : Dv K g H v d) : ∀ {xs : List V} {ds : List Da} (j : Nat), DvAll K g H xs ds → DvAll K g H (xs.set j v) (ds.set j d)
  | _, _, _, .nil => .nil
  | _, _, 0, .cons a t => .cons h t
  | _, _, j + 1, .cons a t => .cons a (DvAll.st h j t)
section
variable {X : Cx} {w : Wd} {e f : Expr} {te ti : TDE} {pos : Pos}
end
end Pd
/-! key in dict, len(dict); more room. -/
namespace Pd
open PySem PySem.Spec PyProof.Rows L2
section
variable {X : Cx} {w : Wd} {e f a b : Expr} {es : List Expr} {te ti ta tb : TDE} {pos : Pos}
end
section
variable {P : Program} {wd : World} {K : PySem.W.Frag} {mg : Str → Option Value} {base : Heap} {j k : Nat} {C : Addr} {m x : Str} {ps : List Str} {p : DSp}
theorem CalldM.up (c : CalldM P wd K mg base j C m ps p) (h : j ≤ k) : CalldM P wd K mg base k C m ps p := by
  obtain ⟨⟨f, fd, F, mt, bd⟩, cl, mp⟩ := c
  exact ⟨⟨f, fd, F.up h, mt, bd⟩, cl, mp⟩
theorem CalldS.up (c : CalldS P wd K mg base j C m ps p) (h : j ≤ k) : CalldS P wd K mg base k C m ps p := by
  obtain ⟨⟨f, fd, F, mt, bd⟩, mp⟩ := c
  exact ⟨⟨f, fd, F.up h, mt, bd⟩, mp⟩
theorem CalldP.up (c : CalldP P wd K mg base j C m p) (h : j ≤ k) : CalldP P wd K mg base k C m p := by
  obtain ⟨⟨a, f, fd, F, mt, bd⟩, cl, mp⟩ := c
  exact ⟨⟨a, f, fd, F.up h, mt, bd⟩, cl, mp⟩
theorem CalldI.up {q : List Da → (List (Str × Da) → Prop) → Prop} (c : CalldI P wd K mg base j x C ps q) (h : j ≤ k) : CalldI P wd K mg base k x C ps q := by
  obtain ⟨⟨f, fd, F, mt, a, bd⟩, mp⟩ := c
  exact ⟨⟨f, fd, F.up h, mt, a, bd⟩, mp⟩
theorem FnGN.up {CX : CXT} {f : Addr} {fd : FuncData} {sp : Nat → Sp} (F : FnGN P wd K mg base CX j f fd ps sp) (h : j ≤ k) : FnGN P wd K mg base CX k f fd ps sp :=
  ⟨F.many, fun A outer s0 H args us vs Q E room => F.goes A outer s0 H args us vs Q E (room.mono h)⟩
theorem IterAt.up (c : IterAt P wd K mg base j C m) (h : j ≤ k) : IterAt P wd K mg base k C m := by
  obtain ⟨f, fd, F, a, b, bd⟩ := c.ex
  exact ⟨f, fd, F.up h, a, b, bd⟩
end
end Pd
/-! sorted texts are sorted. -/
namespace Pd
open PySem PySem.Spec PyProof.Rows L2
theorem rising_of : ∀ (l : List Str) (p : Str), (p :: l).Pairwise leS → risingS p l = true
  | [], _, _ => rfl
  | x :: l, p, h => by
    obtain ⟨h1, h2⟩ := List.pairwise_cons.mp h
    unfold risingS
    rw [Bool.and_eq_true]
    refine ⟨?_, rising_of l x h2⟩
    have z := h1 x List.mem_cons_self
    have : ltCps x.cps.toList p.cps.toList = false := by
      rw [ltCps_eq]
      exact decide_eq_false z
    rw [this]
    rfl
theorem sorted_of {l : List Str} (h : l.Pairwise leS) : sortedS l = true := by
  cases l with
  | nil => rfl
  | cons x l => exact rising_of l x h
theorem le_str {x y : Str} (h : PySem.W.dataLe false toP (.str x) (.str y) = true) : leS x y := by
  intro z
  unfold PySem.W.dataLe at h
  unfold PySem.W.sortLe at h
  have e : PyProof.Rows.lexLt PyProof.Rows.itemOrd (PySem.W.keyToks (toP (.str y))) (PySem.W.keyToks (toP (.str x))) = true := by
    have e1 : toP (.str y) = .str y := by unfold toP; rfl
    have e2 : toP (.str x) = .str x := by unfold toP; rfl
    rw [e1, e2, PySem.W.keyToks, PySem.W.keyToks]
    have ne : (Sum.inr y.cps.toList : Int ⊕ List Nat) ≠ Sum.inr x.cps.toList := fun q => by
      have := Sum.inr.inj q
      rw [this] at z
      exact absurd z (List.lt_irrefl _)
    rw [PyProof.Rows.lex_diff (O := PyProof.Rows.itemOrd) ne]
    show PyProof.Rows.strKind.blt y.cps.toList x.cps.toList = true
    exact decide_eq_true z
  have h' : (!PyProof.Rows.lexLt PyProof.Rows.itemOrd (PySem.W.keyToks (toP (.str y))) (PySem.W.keyToks (toP (.str x)))) = true := h
  rw [e] at h'
  cases h'
theorem srt_strsS {a : List Str} : ∃ b : List Str, srt (a.map .str) = b.map .str ∧ b.Perm a ∧ sortedS b = true := by
  obtain ⟨b, e, p⟩ := srt_strs (a := a)
  refine ⟨b, e, p, sorted_of ?_⟩
  have t := PySem.W.sortLe_total (PyProof.Rows.listOrd PyProof.Rows.itemOrd) false fun b : Da => PySem.W.keyToks (toP b)
  have h := List.pairwise_mergeSort (le := PySem.W.dataLe false toP) t.trans (fun a b => (Bool.or_eq_true _ _).mpr (t.total a b)) (a.map .str)
  have h2 : (b.map Da.str).Pairwise fun x y => PySem.W.dataLe false toP x y = true := by
    have e' : (a.map Da.str).mergeSort (PySem.W.dataLe false toP) = b.map .str := e
    rw [← e']
    exact h
  rw [List.pairwise_map] at h2
  exact h2.imp fun h => le_str h
end Pd
/-! Comprehensions over what a list of things makes: with a test (place by place), without. -/
namespace Pd
open PySem PySem.Spec PyProof.Rows L2
theorem lcD_sel {gd : TDG} {tt : TDT} {te : TDE} {vs : List Nat} {r : En} {Q : Da → Prop} : ∀ (ds : List Da) (sel : List (Option Da)) (acc : List Da), sel.length = ds.length → acc.length + ds.length ≤ 16777216 →
    (∀ (k : Nat) (h1 : k < ds.length) (h2 : k < sel.length) (P : Bool → Da → Prop), (∀ y, sel[k] = some y → P true y) → (sel[k] = none → P false .non) → gd ds[k] (wipeD r vs) fun r2 => tt r2 fun b => if b = true then te r2 (P true) else P false .non) →
    Q (.lst (acc ++ sel.filterMap id)) → lcD gd tt te vs r Q ds acc
  | [], [], acc, _, _, _, q => by
    have z : Q (.lst (acc ++ [])) := q
    rw [List.append_nil] at z
    exact z
  | [], _ :: _, _, e, _, _, _ => by cases e
  | _ :: _, [], _, e, _, _, _ => by cases e
  | d :: ds, s :: sel, acc, e, hl, h, q => by
    rw [List.length_cons] at hl
    refine h 0 (Nat.zero_lt_succ _) (Nat.zero_lt_succ _) (fun b y => if b = true then acc.length < sizeLine ∧ lcD gd tt te vs r Q ds (acc ++ [y]) else lcD gd tt te vs r Q ds acc) (fun y hp => ?_) (fun hp => ?_)
    · rw [if_pos rfl]
      have hp : s = some y := hp
      subst hp
      refine ⟨by rw [sizeLine_eq]; omega, lcD_sel ds sel _ (by simpa using e) (by rw [List.length_append]; show acc.length + 1 + _ ≤ _; omega) (fun k h1 h2 => h (k + 1) (Nat.succ_lt_succ h1) (Nat.succ_lt_succ h2)) ?_⟩
      rw [List.append_assoc]
      exact q
    · rw [if_neg Bool.false_ne_true]
      have hp : s = none := hp
      subst hp
      exact lcD_sel ds sel _ (by simpa using e) (by omega) (fun k h1 h2 => h (k + 1) (Nat.succ_lt_succ h1) (Nat.succ_lt_succ h2)) q
/-- over ts.map f: the items of which p is so, made by g -/
theorem lcD_selM {α : Type} {gd : TDG} {tt : TDT} {te : TDE} {vs : List Nat} {r : En} {Q : Da → Prop} (f : α → Da) (p : α → Bool) (g : α → Da) (ts : List α) (hl : ts.length ≤ 16777216)
    (h : ∀ t ∈ ts, ∀ P : Bool → Da → Prop, (p t = true → P true (g t)) → (p t = false → P false .non) → gd (f t) (wipeD r vs) fun r2 => tt r2 fun b => if b = true then te r2 (P true) else P false .non)
    (q : Q (.lst ((ts.filter p).map g))) : lcD gd tt te vs r Q (ts.map f) [] := by
  refine lcD_sel (ts.map f) (ts.map fun t => if p t = true then some (g t) else none) [] (by simp) (by simpa using hl) (fun k h1 h2 P hy hn => ?_) ?_
  · rw [List.length_map] at h1
    simp only [List.getElem_map] at hy hn ⊢
    refine h _ (List.getElem_mem h1) P (fun e => hy _ (if_pos e)) (fun e => hn (if_neg (by rw [e]; exact Bool.false_ne_true)))
  · have e : ([] : List Da) ++ (ts.map fun t => if p t = true then some (g t) else none).filterMap id = (ts.filter p).map g := by
      rw [List.nil_append, List.filterMap_map]
      clear hl h q
      induction ts with
      | nil => rfl
      | cons t ts ih =>
        by_cases e : p t = true
        · rw [List.filter_cons_of_pos e, List.map_cons, ← ih]
          exact List.filterMap_cons_some (if_pos e)
        · rw [List.filter_cons_of_neg e, ← ih]
          exact List.filterMap_cons_none (if_neg e)
    rw [e]
    exact q
/-- .. without a test -/
theorem lcD_mapM {α : Type} {gd : TDG} {te : TDE} {vs : List Nat} {r : En} {Q : Da → Prop} (f : α → Da) (g : α → Da) (ts : List α) (hl : ts.length ≤ 16777216)
    (h : ∀ t ∈ ts, ∀ P : Da → Prop, P (g t) → gd (f t) (wipeD r vs) fun r2 => te r2 P) (q : Q (.lst (ts.map g))) : lcD gd dYes te vs r Q (ts.map f) [] := by
  refine lcD_ix0 (ts.map f) (ts.map g) (by simp) (by simpa using hl) (fun k h1 h2 P hP => ?_) q
  rw [List.length_map] at h1
  simp only [List.getElem_map] at hP ⊢
  exact h _ (List.getElem_mem h1) P hP
theorem enumD_map {α : Type} (f : α → Da) (ts : List α) : enumD (ts.map f) = ts.zipIdx.map fun p => .tpw [.int (p.2 : Nat), f p.1] := by
  unfold enumD
  rw [List.zipIdx_map, List.map_map]
  rfl
end Pd
/-! Equal dicts of numbers. -/
namespace Pd
open PySem PySem.Spec PyProof.Rows L2
section
variable {X : Cx} {w : Wd} {a b : Expr} {ta tb : TDE} {pos : Pos}
end
end Pd
/-! Calls of own methods within comprehensions: the frag is named. -/
namespace Pd
open PySem PySem.Spec PyProof.Rows L2
section
variable {X : Cx} {w : Wd} {e o : Expr} {es : List Expr} {pos : Pos} {apos : Pos} {te to : TDE} {t : TDA} {C : Addr} {k : Nat} {m : Str} {ps : List Str} {p : DSp}
end
end Pd
/-! An own class's == and !=, by its __eq__; isinstance of an own class; o[i] by its __getitem__. -/
namespace Pd
open PySem PySem.Spec PySem.Calls PyProof.Rows L2
/-! ### != by an own __eq__ -/
section
variable {prog : Program} {w : World} {A : Around} {E : Value → Shared → Prop} {s : Shared} {K : PySem.W.Frag} {x C f L : Addr} {b tb : Value} {h₀ : Heap} {m : Str → Option Value} {ox : Obj} {od : Option Obj}
end
end Pd
/-! == and != of an own class, isinstance of it, o[i]: read as data. -/
namespace Pd
open PySem PySem.Spec PySem.Calls PyProof.Rows L2
/-- what == of an own class wants of the text -/
structure OwnEqF (K : PySem.W.Frag) (C : Addr) : Prop where
  ne : PySem.W.findIn K (.ref C) "__ne__" = some (some (.builtin "object.__ne__"))
  mo : PySem.W.mroIn K C (.type "object") = some true
  ca : PySem.W.findIn K (.ref C) "__class__" = some (some (.builtin "object.__class__"))
  cg : PySem.W.specialIn K (.builtin "object.__class__") "__get__" = some (some (.builtin "getset_descriptor.__get__"))
  ct : PySem.W.takesIn K (.builtin "object.__class__") = some true
  ci : (PySem.W.clsIn K C).isSome = true
  ty : PySem.W.typeIn K (.ref C) = some (.type "type")
section
variable {X : Cx} {w : Wd} {a b e : Expr} {pos : Pos} {te ta tb : TDE} {C : Addr} {k : Nat} {ps : List Str} {p : DSp}
/-! ### isinstance(x, own class) -/
/-! ### o == y, o != y -/
/-! ### o[i] -/
end
end Pd
/-! More new things: data without lists, lists of one's own, [new, new][i]; x = a new thing. -/
namespace Pd
open PySem PySem.Spec PyProof.Rows L2
section
variable {X : Cx} {w : Wd} {a b e : Expr} {pos : Pos} {ta tb te : TDE}
end
/-! ### x = a new thing -/
section
variable {K : PySem.W.Frag} {w : Wd} {W : Addr → Bool} {own : Ow} {r : En} {σ : L2.St} {H H1 : Hp}
end
section
variable {X : Cx} {w : Wd} {e : Expr}
end
end Pd
/-! x = x + [new, new], x a new list of new things. -/
namespace Pd
open PySem PySem.Spec PyProof.Rows L2
section
variable {X : Cx} {w : Wd} {es : List Expr}
end
end Pd
/-! list(o), o an instance whose own __iter__ gives iter(a tuple of its own). -/
namespace Pd
open PySem PySem.Spec PySem.Calls PyProof.Rows L2
section
variable {X : Cx} {k : Nat} {f C a q : Addr} {fd : FuncData} {ps : List Str} {sp : Sp} {pins : List (Addr × Obj)} {σ : L2.St} {H : Hp} {s : Shared} {A1 : Around}
end
end Pd
/-! list(o), o an instance whose own __iter__ gives iter(a tuple of its own): the rule. -/
namespace Pd
open PySem PySem.Spec PySem.Calls PyProof.Rows L2
section
variable {X : Cx} {pins : List (Addr × Obj)} {σ : L2.St} {H : Hp} {s : Shared} {A1 : Around}
end
/-! ### the rule -/
section
variable {X : Cx} {C : Addr} {f : Str} {k : Nat} {p : DSp} {ps : List Str}
end
end Pd
/-! list(o) as data; for x in xs + xs[:n], xs one's own; walks named by the frag; methods that return new things. -/
namespace Pd
open PySem PySem.Spec PyProof.Rows L2
section
variable {X : Cx} {w : Wd} {e tg ce : Expr} {pos : Pos} {te : TDE} {C : Addr} {f : Str} {k : Nat} {p : DSp} {ps : List Str}
/-! ### list(o) -/
end
/-! ### methods that return new things -/
structure CalldMV (P : Program) (wd : World) (K : PySem.W.Frag) (mg : Str → Option Value) (base : Heap) (k : Nat) (C : Addr) (m : Str) (ps : List Str) (p : DSp) : Prop where
  ex : ∃ f fd, FnG P wd K mg base CX0 k f fd ps (liV K p) ∧ Meth K C m f ∧ Binds K fd ps []
  cl : Cls K C
  mp : MoP p
section
variable {P : Program} {wd : World} {K : PySem.W.Frag} {mg : Str → Option Value} {base : Heap} {j k : Nat} {C : Addr} {m x : Str} {ps : List Str} {p : DSp}
theorem CalldMV.up (c : CalldMV P wd K mg base j C m ps p) (h : j ≤ k) : CalldMV P wd K mg base k C m ps p := by
  obtain ⟨⟨f, fd, F, mt, bd⟩, cl, mp⟩ := c
  exact ⟨⟨f, fd, F.up h, mt, bd⟩, cl, mp⟩
theorem CalldMV.dat (c : CalldMV P wd K mg base k C m ps p) : CalldM P wd K mg base k C m ps p := by
  obtain ⟨⟨f, fd, F, a, b⟩, cl, mp⟩ := c
  exact ⟨⟨f, fd, ⟨fun vs H Q E ⟨g, W, ds, k1, dv, h⟩ => F.many vs H Q E ⟨g, W, ds, k1, dv, mp _ _ _ (fun _ => AftN.aft) h⟩, fun A outer s0 H args us vs Q E room hG z bd rel ⟨g, W, ds, k1, dv, h⟩ => F.goes A outer s0 H args us vs Q E room hG z bd rel ⟨g, W, ds, k1, dv, mp _ _ _ (fun _ => AftN.aft) h⟩⟩, a, b⟩, cl, mp⟩
end
section
variable {X : Cx} {w : Wd} {o e : Expr} {es : List Expr} {to : TDE} {t : TDA} {m : Str} {pos apos : Pos} {C : Addr} {k : Nat} {ps : List Str} {p : DSp}
/-! ### list(t), a new list -/
end
end Pd
/-! An attribute read within a comprehension. -/
namespace Pd
open PySem PySem.Spec PyProof.Rows L2
section
variable {X : Cx} {w : Wd} {o : Expr} {to : TDE} {f : Str} {pos : Pos}
end
end Pd
/-! x = x + [e, ..], x a list of one's own. -/
namespace Pd
open PySem PySem.Spec PyProof.Rows L2
section
variable {X : Cx} {w : Wd} {es : List Expr}
/-! ### xs[::-1], a list -/
end
end Pd
/-! A dict of numbers and texts is walked over while it is read: it is locked for one expression. -/
namespace Pd
open PySem PySem.Spec PyProof.Rows L2
/-! ### data that stand in any heap -/
def GrdD : Da → Prop
  | .int _ => True
  | .str _ => True
  | _ => False
def Grd (kvs : List (Key × Da)) : Prop := ∀ kv ∈ kvs, GrdD kv.2
inductive KvG : List (Key × V) → List (Key × Da) → Prop
  | nil : KvG [] []
  | int {k : Key} {i : Int} {us : List (Key × V)} {kvs : List (Key × Da)} : KvG us kvs → KvG ((k, .int i) :: us) ((k, .int i) :: kvs)
  | str {k : Key} {x : Str} {us : List (Key × V)} {kvs : List (Key × Da)} : KvG us kvs → KvG ((k, .str x) :: us) ((k, .str x) :: kvs)
theorem KvG.of {K : PySem.W.Frag} {g : Gd} {H : Hp} : ∀ {kvs : List (Key × Da)} {us : List (Key × V)}, KvAll K g H us kvs → Grd kvs → KvG us kvs
  | [], _, h, _ => by cases h; exact .nil
  | (k, d) :: kvs, _, h, q => by
    cases h with
    | cons a t =>
      have r := KvG.of t fun kv m => q kv (List.mem_cons_of_mem _ m)
      have c := q (k, d) List.mem_cons_self
      cases a with
      | int i => exact .int r
      | str x => exact .str r
      | _ => exact c.elim
theorem KvG.all {K : PySem.W.Frag} {g : Gd} {H : Hp} : ∀ {us : List (Key × V)} {kvs : List (Key × Da)}, KvG us kvs → KvAll K g H us kvs
  | _, _, .nil => .nil
  | _, _, .int h => .cons (.int _) h.all
  | _, _, .str h => .cons (.str _) h.all
mutual
def nofix : Da → Bool
  | .lst ds => nofixs ds
  | .tup ds => nofixs ds
  | .tpw ds => nofixs ds
  | .dct kvs => nofixk kvs
  | .fix _ => false
  | _ => true
def nofixs : List Da → Bool
  | [] => true
  | d :: ds => nofix d && nofixs ds
def nofixk : List (Key × Da) → Bool
  | [] => true
  | (_, d) :: ds => nofix d && nofixk ds
end
/-- all but dicts that are locked stays -/
def Tr (H H' : Hp) : Prop := ∀ b o, H b = some o → (∀ od us, o ≠ .frz od (.dK us)) → H' b = some o
section
variable {K : PySem.W.Frag} {g : Gd} {H H' : Hp}
theorem sqt_tr {a : Addr} {xs : List V} (e : Tr H H') (h : SqT K H a xs) : SqT K H' a xs := by
  rcases h with (h | ⟨o, h⟩) | h
  · exact .inl (.inl (e _ _ h fun _ _ z => nomatch z))
  · exact .inl (.inr ⟨o, e _ _ h fun _ _ z => nomatch z⟩)
  · exact .inr h
theorem tups_tr {a : Addr} {xs : List V} (e : Tr H H') (h : TupS K H a xs) : TupS K H' a xs := by
  rcases h with ⟨o, h, n⟩ | h
  · exact .inl ⟨o, e _ _ h fun _ _ z => (nomatch z), n⟩
  · exact .inr h
mutual
theorem Dv.tr (e : Tr H H') : ∀ (d : Da) (v : V), nofix d = true → Dv K g H v d → Dv K g H' v d
  | .non, _, _, h => by cases h; exact .non
  | .bl _, _, _, h => by cases h; exact .bl _
  | .int _, _, _, h => by cases h; exact .int _
  | .str _, _, _, h => by cases h; exact .str _
  | .lst ds, _, n, h => by
    cases h with
    | lst h1 h2 => exact .lst (e _ _ h1 fun _ _ z => nomatch z) (DvAll.tr e ds _ (by simpa [nofix] using n) h2)
  | .tup ds, _, n, h => by
    cases h with
    | tup h1 h2 => exact .tup (tups_tr e h1) (DvAll.tr e ds _ (by simpa [nofix] using n) h2)
  | .tpw ds, _, n, h => by
    cases h with
    | tpw h1 h2 => exact .tpw (sqt_tr e h1) (DvAll.tr e ds _ (by simpa [nofix] using n) h2)
  | .dct ds, _, n, h => by
    cases h with
    | dct h1 h2 => exact .dct (e _ _ h1 fun _ _ z => nomatch z) (KvAll.tr e ds _ (by simpa [nofix] using n) h2)
  | .bag, _, _, h => by
    cases h with
    | bag q => exact .bag q
  | .raw _, _, _, h => by cases h; exact .raw
  | .fix _, _, n, _ => by simp [nofix] at n
theorem DvAll.tr (e : Tr H H') : ∀ (ds : List Da) (vs : List V), nofixs ds = true → DvAll K g H vs ds → DvAll K g H' vs ds
  | [], _, _, h => by cases h; exact .nil
  | d :: ds, _, n, h => by
    have n := Bool.and_eq_true_iff.mp (show (nofix d && nofixs ds) = true by simpa [nofixs] using n)
    cases h with
    | cons h1 h2 => exact .cons (Dv.tr e d _ n.1 h1) (DvAll.tr e ds _ n.2 h2)
theorem KvAll.tr (e : Tr H H') : ∀ (ds : List (Key × Da)) (vs : List (Key × V)), nofixk ds = true → KvAll K g H vs ds → KvAll K g H' vs ds
  | [], _, _, h => by cases h; exact .nil
  | (k, d) :: ds, _, n, h => by
    have n := Bool.and_eq_true_iff.mp (show (nofix d && nofixk ds) = true by simpa [nofixk] using n)
    cases h with
    | cons h1 h2 => exact .cons (Dv.tr e d _ n.1 h1) (KvAll.tr e ds _ n.2 h2)
end
end
/-! ### the expression -/
section
variable {X : Cx} {w : Wd} {e tg : Expr} {te t : TDE} {i j : Nat}
/-! ### a locked dict: walked over, looked up -/
theorem KvG.len : ∀ {us : List (Key × V)} {kvs : List (Key × Da)}, KvG us kvs → us.length = kvs.length
  | _, _, .nil => rfl
  | _, _, .int h => by rw [List.length_cons, List.length_cons, h.len]
  | _, _, .str h => by rw [List.length_cons, List.length_cons, h.len]
theorem KvG.at : ∀ {us : List (Key × V)} {kvs : List (Key × Da)} {n : Nat} {k : Key} {v : V}, KvG us kvs → us[n]? = some (k, v) → ∃ d, kvs[n]? = some (k, d)
  | _, _, _, _, _, .nil, e => by cases e
  | _, _, 0, _, _, .int h, e => by cases e; exact ⟨_, rfl⟩
  | _, _, 0, _, _, .str h, e => by cases e; exact ⟨_, rfl⟩
  | _, _, n + 1, _, _, .int h, e => h.at (n := n) e
  | _, _, n + 1, _, _, .str h, e => h.at (n := n) e
end
section
variable {X : Cx} {w : Wd} {a e : Expr} {te ty : TDE} {pos : Pos}
end
end Pd
/-! dict(zip(a tuple, a list)): the pairs, as what fills a dict. -/
namespace Pd
open PySem
section
variable {prog : Program} {w : World} {A : Around} {E : Value → Shared → Prop} {s : Shared} {z TI TO T i1 i2 : Addr} {fp1 fp2 : List Addr} {n1 n2 i : Nat} {P1 P2 : Nat → Value → Prop} {St1 St2 : Nat → Heap → Prop} {f : Bool} {oT : Obj}
end
/-- a new zip of the tuple at l1 and the list at l2 -/
structure ZOk (z TI TO i1 i2 l1 l2 : Addr) (xs ys : Array Value) (h : Heap) : Prop where
  z : IsZip h z TI TO .none
  ti : IsPair h TI (.ref i1) (.ref i2)
  to : ∃ a b, IsPair h TO a b
  one : h.IsTupleIter i1 l1 0 ∧ h.IsTuple l1 xs
  two : h.IsListIter i2 l2 0 ∧ h.IsList l2 ys
end Pd
/-! dict(zip(a tuple of numbers and texts, a list)): the rule. -/
namespace Pd
open PySem PySem.Spec PySem.Calls PyProof.Rows L2
/-! ### zip of a tuple and a list -/
section
variable {prog : Program} {w : World} {A : Around} {E : Value → Shared → Prop} {s : Shared}
end
/-! ### the pairs, as keys and values -/
section
variable {X : Cx} {e f : Expr} {ta : TA} {p p2 pos pos2 : Pos}
end
end Pd
/-! dict(zip(a tuple of numbers and texts, a list)), as data. -/
namespace Pd
open PySem PySem.Spec PySem.Calls PyProof.Rows L2
section
variable {K : PySem.W.Frag} {g : Gd} {H : Hp}
theorem KvAll.zip : ∀ {ks : List Key} {ys : List V} {ds : List Da}, DvAll K g H ys ds → KvAll K g H (ks.zip ys) (ks.zip ds)
  | [], _, _, _ => .nil
  | _ :: _, _, _, .nil => .nil
  | _ :: _, _, _, .cons a t => .cons a (KvAll.zip t)
end
section
variable {X : Cx} {w : Wd} {e f : Expr} {t : TDA} {p p2 pos pos2 : Pos}
end
end Pd
/-! sum(a list of lists, []). -/
namespace Pd
open PySem PySem.Spec PySem.Calls PyProof.Rows L2
section
variable {X : Cx} {pins : List (Addr × Obj)} {σ : L2.St} {A1 : Around}
/-- the addresses of lists, and what they hold -/
abbrev Lsts (H : Hp) (ps : List Addr) (xss : List (List V)) : Prop := Paired (fun p xs => H p = some (.lst xs)) ps xss
theorem Lsts.at {H : Hp} : ∀ {ps : List Addr} {xss : List (List V)} {i : Nat}, Lsts H ps xss → i < ps.length → ∃ p xs, ps[i]? = some p ∧ xss.drop i = xs :: xss.drop (i + 1) ∧ H p = some (.lst xs)
  | _, _, _, .nil, h => absurd h (Nat.not_lt_zero _)
  | _, _, 0, .cons a _, _ => ⟨_, _, rfl, rfl, a⟩
  | _, _, i + 1, .cons _ t, h => Lsts.at (i := i) t (Nat.lt_of_succ_lt_succ h)
end
end Pd
/-! sum(a list of lists, []): the rule. -/
namespace Pd
open PySem PySem.Spec PySem.Calls PyProof.Rows L2
section
variable {X : Cx}
end
end Pd
/-! sum(a list of lists, []), as data. -/
namespace Pd
open PySem PySem.Spec PySem.Calls PyProof.Rows L2
section
variable {X : Cx} {w : Wd} {e : Expr} {es : List Expr} {p pos : Pos}
end
end Pd
/-! len(set(a list of unlike tuples of texts)). -/
namespace Pd
open PySem PySem.Spec PyProof.Rows L2
section
variable {P : Program} {w : World} {A : Around} {E : Value → Shared → Prop} {s : Shared}
end
section
variable {X : Cx} {pins : List (Addr × Obj)} {σ : L2.St} {H : Hp} {s : Shared}
end
end Pd
namespace Pd
open PySem PySem.Spec PyProof.Rows L2
section
variable {X : Cx} {w : Wd} {e : Expr} {te : TDE} {pos : Pos}
end
end Pd
/-! a test: two instances of a class with its own __eq__. -/
namespace Pd
open PySem PySem.Spec PyProof.Rows L2
section
variable {X : Cx} {w : Wd} {a b : Expr} {ta tb : TDE} {pos : Pos} {k : Nat} {C : Addr} {ps : List Str} {p : DSp}
end
end Pd
/-! Exceptions: contracts of defs that may raise, said of data; raise; a call that may raise. -/
namespace Pd
open PySem PySem.Spec PyProof.Rows L2
/-- an exception of an own class: what it keeps, by its name -/
structure Xn where
  C : Addr
  kp : Option (Str × Da)
/-- the dict at d holds it -/
def Kept (K : PySem.W.Frag) (g : Gd) (Hh : Hp) (d : Option Addr) : Option (Str × Da) → Prop
  | none => d = none
  | some (f, y) => ∃ dd v, d = some dd ∧ Hh dd = some (.xd [(f, v)]) ∧ Dv K g Hh v y
theorem Kept.mono {K : PySem.W.Frag} {g : Gd} {H H' : Hp} {d : Option Addr} (e : Sm H H') : ∀ {k : Option (Str × Da)}, Kept K g H d k → Kept K g H' d k
  | none, h => h
  | some (f, y), ⟨dd, v, h1, h2, h3⟩ => ⟨dd, v, h1, e _ _ h2, Dv.mono e _ _ h3⟩
def XnAt (K : PySem.W.Frag) (g : Gd) (Hh : Hp) (x : Xn) (cls : Value) (d : Option Addr) : Prop := cls = .ref x.C ∧ Kept K g Hh d x.kp
abbrev DSpX := List Da → (Da → Prop) → (Xn → Prop) → Prop
def MoPX (p : DSpX) : Prop := ∀ ds Q Q' R R', (∀ d, Q d → Q' d) → (∀ x, R x → R' x) → p ds Q R → p ds Q' R'
def AftX (K : PySem.W.Frag) (g : Gd) (W : Addr → Bool) (H : Hp) (E : XK) (x : Xn) : Prop := ∀ cls d H', Ext g H H' → OkW K g W H' → XnAt K g (hid W H') x cls d → E cls d H'
def liPX (K : PySem.W.Frag) (p : DSpX) : Sp := fun vs H Q E => ∃ g W ds, OkW K g W H ∧ DvAll K g (hid W H) vs ds ∧ p ds (Aft K g W H Q) (AftX K g W H E)
/-- what a def's context takes of exceptions: R tells of the exception and the slots -/
structure TkD (X : Cx) (w : Wd) (R : Xn → En → Prop) : Prop where
  ex : ∃ Wx : WX, Takes X Wx ∧ ∀ x r W own σ H cls d, R x r → Stt X.K w W own r σ H → XnAt X.K w.g (hid W H) x cls d → Wx cls d σ H
structure CalldX (P : Program) (wd : World) (K : PySem.W.Frag) (mg : Str → Option Value) (base : Heap) (k : Nat) (x : Str) (ps : List Str) (p : DSpX) : Prop where
  ex : ∃ f fd, FnG P wd K mg base (L2.CX P wd) k f fd ps (liPX K p) ∧ mg x = some (.ref f) ∧ PySem.W.keepIn K (.ref f) = true ∧ Binds K fd ps []
  mp : MoPX p
theorem CalldX.up {P : Program} {wd : World} {K : PySem.W.Frag} {mg : Str → Option Value} {base : Heap} {j k : Nat} {x : Str} {ps : List Str} {p : DSpX} (c : CalldX P wd K mg base j x ps p) (h : j ≤ k) : CalldX P wd K mg base k x ps p := by
  obtain ⟨⟨f, fd, F, a, b, d⟩, mp⟩ := c
  exact ⟨⟨f, fd, F.up h, a, b, d⟩, mp⟩
section
variable {X : Cx} {CX : CXT} {k : Nat} {f : Addr} {fd : FuncData} {ps : List Str} {sp : Sp} {dvs : List V} {ds : List Value} {E : XK} {x : Str} {p pos : Pos} {e : Expr} {es : List Expr} {t : TA}
end
section
variable {X : Cx} {w : Wd}
end
end Pd
/-! raise C(e), C an own error class whose __init__ keeps its one argument. -/
namespace Pd
open PySem PySem.Spec PyProof.Rows L2
/-- the class at C, called x, keeps its argument as f -/
structure ErrAt (K : PySem.W.Frag) (mg : Str → Option Value) (x f : Str) (C : Addr) : Prop where
  gC : mg x = some (.ref C)
  ox : OexC K C
  no : PySem.W.findIn K (.ref C) f = some none
  init : ∃ qual st fI fd p1 p2 p3 p4, Fun K "__init__" qual st fI fd ∧ PySem.W.findIn K (.ref C) "__init__" = some (some (.ref fI)) ∧ PySem.W.typeIn K (.ref fI) = some (.type "function") ∧ Binds K fd ["self", f] [] ∧ FnScope ["self", f] ["self", f] (defScope st) ∧
    defBody st = [.Assign [.Attribute (.Name "self" p1) f p2] (.Name f p3) p4] ∧ (f == ("__debug__" : Str)) = false ∧ (f == ("__classdict__" : Str)) = false ∧ (defScope st).names.lookup ("self" : Str) = some .local ∧ (defScope st).names.lookup f = some .local
section
variable {P : Program} {wd : World} {K : PySem.W.Frag} {mg : Str → Option Value} {base : Heap}
end
section
variable {X : Cx} {w : Wd}
end
end Pd
/-! try: .. except C as e: a suite that returns; isinstance(e, C), e.f. -/
namespace Pd
open PySem PySem.Spec PyProof.Rows L2
def noLx : Option (Str × Da) → Bool
  | none => true
  | some (_, y) => noL y
theorem Kept.sees {K : PySem.W.Frag} {g g' : Gd} {H H' : Hp} {d : Option Addr} (e : Sees H H') : ∀ {k : Option (Str × Da)}, noLx k = true → Kept K g H d k → Kept K g' H' d k
  | none, _, h => h
  | some (f, y), n, ⟨dd, v, h1, h2, h3⟩ => ⟨dd, v, h1, e _ _ h2 (fun _ z => by cases z) (fun _ z => by cases z), Dv.sees e _ _ n h3⟩
/-! ### try -/
section
variable {K : PySem.W.Frag} {w : Wd} {W W' : Addr → Bool} {own own' : Ow} {r r' : En} {σ σ' : L2.St} {H H' : Hp}
end
section
variable {X : Cx} {w : Wd} {x n : Str} {c : Value} {i : Nat} {body suite : List Stmt} {b₀ : Stmt} {np pos pos' : Pos} {tb : (Xn → En → Prop) → TDS} {ts : Addr → Option Addr → Xn → TDS}
end
/-! ### in the suite -/
structure ExcOk (K : PySem.W.Frag) (C : Addr) : Prop where
  cl : (PySem.W.clsIn K C).isSome = true
  ga : PySem.W.findIn K (.ref C) "__getattribute__" = some (some (.builtin "BaseException.__getattribute__"))
  gg : PySem.W.findIn K (.ref C) "__getattr__" = some none
  su : PySem.W.subIn K (.ref C) (.type "BaseException") = some true
  ca : PySem.W.findIn K (.ref C) "__class__" = some (some (.builtin "object.__class__"))
  cg : PySem.W.specialIn K (.builtin "object.__class__") "__get__" = some (some (.builtin "getset_descriptor.__get__"))
  ct : PySem.W.takesIn K (.builtin "object.__class__") = some true
  mo : PySem.W.mroIn K C (.type "object") = some true
  hd : PySem.W.hasDictIn K C = true
section
variable {X : Cx} {w : Wd} {a D : Addr} {d : Option Addr} {oe : Obj} {pn : List (Addr × Obj)} {e : Expr} {te : TDE} {pos : Pos}
end
end Pd
/-! a | b, own __or__ that may raise. -/
namespace Pd
open PySem PySem.Spec PyProof.Rows L2
structure CalldSX (P : Program) (wd : World) (K : PySem.W.Frag) (mg : Str → Option Value) (base : Heap) (k : Nat) (C : Addr) (m : Str) (ps : List Str) (p : DSpX) : Prop where
  ex : ∃ f fd, FnG P wd K mg base (L2.CX P wd) k f fd ps (liPX K p) ∧ PySem.W.findIn K (.ref C) m = some (some (.ref f)) ∧ PySem.W.isFn K (.ref f) = true ∧ Binds K fd ps []
  mp : MoPX p
theorem CalldSX.up {P : Program} {wd : World} {K : PySem.W.Frag} {mg : Str → Option Value} {base : Heap} {j k : Nat} {C : Addr} {m : Str} {ps : List Str} {p : DSpX} (c : CalldSX P wd K mg base j C m ps p) (h : j ≤ k) : CalldSX P wd K mg base k C m ps p := by
  obtain ⟨⟨f, fd, F, a, b, d⟩, mp⟩ := c
  exact ⟨⟨f, fd, F.up h, a, b, d⟩, mp⟩
section
variable {X : Cx} {w : Wd} {a b : Expr} {ta tb : TDE} {pos : Pos} {C : Addr} {k : Nat} {ps : List Str} {p : DSpX}
end
end Pd
/-! A list of one's own: walked over by a for, its last item let go, one of its items picked by a call. -/
namespace Pd
open PySem PySem.Spec PyProof.Rows L2
/-- this very thing -/
def isAt (a : Addr) : Da := .fix fun _ v => v = .ref a
def lay (W : Addr → Bool) (a : Addr) : Addr → Bool := fun b => W b && !decide (b = a)
/-- what is left of the slots: plain data and the bag -/
inductive KeepR : En → En → Prop
  | nil : KeepR [] []
  | no {d : Sl} {r r2 : En} : KeepR r r2 → KeepR (d :: r) (.no :: r2)
  | dat {x : Da} {r r2 : En} : noL x = true → KeepR r r2 → KeepR (.dat x :: r) (.dat x :: r2)
  | bag {r r2 : En} : KeepR r r2 → KeepR (.dat .bag :: r) (.dat .bag :: r2)
theorem KeepR.len : ∀ {r r2 : En}, KeepR r r2 → r2.length = r.length
  | _, _, .nil => rfl
  | _, _, .no h => congrArg (· + 1) h.len
  | _, _, .dat _ h => congrArg (· + 1) h.len
  | _, _, .bag h => congrArg (· + 1) h.len
theorem KeepR.at : ∀ {r r2 : En} {j : Nat} {d : Sl}, KeepR r r2 → r2[j]? = some d → d ≠ .no → r[j]? = some d ∧ ∃ x, d = .dat x ∧ (x = .bag ∨ noL x = true)
  | _, _, _, _, .nil, e, _ => by cases e
  | _, _, 0, _, .no _, e, n => by cases e; exact absurd rfl n
  | _, _, 0, _, .dat z _, e, _ => by cases e; exact ⟨rfl, _, rfl, .inr z⟩
  | _, _, 0, _, .bag _, e, _ => by cases e; exact ⟨rfl, _, rfl, .inl rfl⟩
  | _, _, j + 1, _, .no h, e, n => KeepR.at (j := j) h e n
  | _, _, j + 1, _, .dat _ h, e, n => KeepR.at (j := j) h e n
  | _, _, j + 1, _, .bag h, e, n => KeepR.at (j := j) h e n
section
variable {K : PySem.W.Frag} {w : Wd} {W W' : Addr → Bool} {own own' : Ow} {r r' : En} {σ σ' : L2.St} {H H' : Hp}
end
/-! ### for x in xs, xs one's own -/
section
variable {X : Cx} {w : Wd}
end
/-! ### xs.pop() -/
section
variable {X : Cx} {w : Wd}
end
/-! ### a call that picks an item of one's own list -/
section
variable {X : Cx} {w : Wd} {e : Expr}
end
end Pd
/-! dict(a dict); equal dicts of numbers and texts. -/
namespace Pd
open PySem PySem.Spec PyProof.Rows L2
section
variable {X : Cx} {w : Wd} {a b e : Expr} {es : List Expr} {ta tb : TDE} {p pos : Pos}
end
end Pd
/-! An own error's kin: what is caught, what isinstance says. -/
namespace Pd
open PySem PySem.Spec PyProof.Rows L2
section
variable {K : PySem.W.Frag} {S D : Addr}
end
end Pd
/-! Whole numbers of any sign divided; any of a tuple of numbers; the least and the greatest. -/
namespace Pd
open PySem PySem.Spec PyProof.Rows L2
/-- i // j goes its short way -/
def CDivZ (i j : Int) : Prop := j ≠ 0 ∧ (j.natAbs.log2 < 9000 ∨ i.natAbs.log2 < 9000 ∨ i.natAbs ≤ 2 * j.natAbs)
def dgN (n : Int) : Nat := if n == 0 then 0 else n.natAbs.log2 / 30 + 1
theorem dgN_le (n : Int) : dgN n ≤ n.natAbs.log2 / 30 + 1 := by
  unfold dgN
  split <;> omega
theorem CDivZ.ok {i j : Int} (h : CDivZ i j) : Builtin.divisionGoesByPylong i j = false := by
  obtain ⟨h0, h⟩ := h
  show (decide (dgN j > 300) && decide (dgN i > dgN j + 150)) = false
  have hi := dgN_le i
  have ej : dgN j = j.natAbs.log2 / 30 + 1 := if_neg (by simpa using h0)
  rw [Bool.and_eq_false_iff]
  rcases h with h | h | h
  · exact .inl (decide_eq_false (by omega))
  · by_cases z : dgN j > 300
    · exact .inr (decide_eq_false (by omega))
    · exact .inl (decide_eq_false z)
  · refine .inr (decide_eq_false ?_)
    by_cases zi : i = 0
    · have : dgN i = 0 := by rw [zi]; rfl
      omega
    · have : i.natAbs.log2 ≤ j.natAbs.log2 + 1 := by
        have h1 : i.natAbs < 2 ^ (j.natAbs.log2 + 2) := by
          have := Nat.lt_log2_self (n := j.natAbs)
          rw [Nat.pow_succ]
          omega
        have h2 := (Nat.log2_lt (by omega : i.natAbs ≠ 0)).mpr h1
        omega
      omega
section
variable {X : Cx} {w : Wd} {e a b : Expr} {es : List Expr} {p q pos : Pos} {t : TDA} {ta tb : TDE}
/-! ### any of a tuple of numbers -/
/-! ### the least and the greatest -/
end
end Pd
/-! name = [.. for x in ..], name one's own list (it may be walked, too). -/
namespace Pd
open PySem PySem.Spec PyProof.Rows L2
section
variable {X : Cx} {w : Wd} {pos : Pos}
end
end Pd
/-! Defs of several statements that return a new value (or plain data). -/
namespace Pd
open PySem PySem.Spec PyProof.Rows L2
structure EnV extends EnD where
  rv : Da → Prop
abbrev TDV := EnV → En → Prop
def endV (K : PySem.W.Frag) (w : Wd) (W : Addr → Bool) (H : Hp) (E : Ends) : EnV := { endD K w W H E with rv := AftN K w.g w.W0 w.H0 E.rt }
structure LeV (E E' : EnV) : Prop where
  le : Le E.toEnD E'.toEnD
  rv : ∀ d, E.rv d → E'.rv d
structure PSsV (X : Cx) (w : Wd) (st : List Stmt) (t : TDV) : Prop where
  ps : PSs X st (fun E σ H => ∃ W own r, Stt X.K w W own r σ H ∧ t (endV X.K w W H E) r)
  mo : ∀ E E' r, LeV E E' → t E r → t E' r
section
variable {X : Cx} {w : Wd} {e : Expr} {st : Stmt} {rest : List Stmt} {pos : Pos} {t : TDS} {tt : TDT} {u v : TDV}
end
end Pd
/-! xs.index(i), xs a list of numbers. -/
namespace Pd
open PySem PySem.Spec PyProof.Rows L2
section
variable {X : Cx} {w : Wd} {o e : Expr} {to te : TDE} {apos cpos : Pos}
end
end Pd
/-! Two names at once, one of them a new list; x is None. -/
namespace Pd
open PySem PySem.Spec PyProof.Rows L2
section
variable {X : Cx} {w : Wd} {a b : Expr} {pos : Pos}
/-! ### None -/
variable {ta tb : TDE}
end
end Pd
/-! A tuple of a new list and a datum: made, held, its list added to, let go. -/
namespace Pd
open PySem PySem.Spec PyProof.Rows L2
section
variable {X : Cx} {w : Wd} {a b e : Expr} {pos p2 : Pos} {ta : TDA} {tb te : TDE}
end
end Pd
/-! x, y = e, (a new list, a datum); three statements; y[0].append(None): y is held meanwhile. -/
namespace Pd
open PySem PySem.Spec PyProof.Rows L2
section
variable {X : Cx} {w : Wd} {a b : Expr} {pos : Pos} {ta tb : TDE}
end
section
variable {K : PySem.W.Frag} {w : Wd} {W : Addr → Bool} {own : Ow} {r : En} {σ : L2.St} {H H1 : Hp}
end
end Pd
/-! x, y = e, (a new list, a datum) or None; three statements; y[0].append(None). -/
namespace Pd
open PySem PySem.Spec PyProof.Rows L2
section
variable {X : Cx} {s2 s3 s4 : Stmt} {t2 t3 t4 : TDS} {T5 : TS}
end
section
variable {X : Cx} {w : Wd} {a b : Expr} {pos : Pos} {s2 s3 s4 : Stmt} {rest : List Stmt} {t2 t3 t4 u : TDS}
end
end Pd
/-! y = x, where x is a list of one's own: from there on a datum, both. -/
namespace Pd
open PySem PySem.Spec PyProof.Rows L2
section
variable {K : PySem.W.Frag} {w : Wd} {W : Addr → Bool} {own : Ow} {r : En} {σ : L2.St} {H : Hp}
end
section
variable {X : Cx} {w : Wd}
end
end Pd
/-! Defs whose own lists become data: y = x, return x. -/
namespace Pd
open PySem PySem.Spec PyProof.Rows L2
section
variable {X : Cx} {w : Wd}
end
end Pd
/-! name = [.. for x in ..], a list of one's own of any data. -/
namespace Pd
open PySem PySem.Spec PyProof.Rows L2
section
variable {X : Cx} {w : Wd} {pos : Pos}
end
end Pd
/-! Rows of whole numbers: mixtures, steps, and how great the first parts of steps can be. -/
namespace El
abbrev Vc := Nat → Int
/-- the mixtures of G -/
inductive Lat (G : List Vc) : Vc → Prop
  | zero : Lat G (fun _ => 0)
  | add {x g : Vc} (k : Int) : Lat G x → g ∈ G → Lat G (fun i => x i + k * g i)
theorem Lat.of {G : List Vc} {g : Vc} (h : g ∈ G) : Lat G g := by
  have z := Lat.add 1 Lat.zero h
  have e : (fun i => (fun _ => (0 : Int)) i + 1 * g i) = g := funext fun i => by simp
  rwa [e] at z
theorem Lat.sum {G : List Vc} {x y : Vc} (hx : Lat G x) (hy : Lat G y) : Lat G (fun i => x i + y i) := by
  induction hy with
  | zero =>
    have e : (fun i => x i + (fun _ => (0 : Int)) i) = x := funext fun i => by simp
    rw [e]; exact hx
  | @add y g k hy hg ih =>
    have e : (fun i => x i + (y i + k * g i)) = fun i => (x i + y i) + k * g i := funext fun i => by omega
    rw [e]
    exact ih.add k hg
theorem Lat.mul {G : List Vc} {x : Vc} (c : Int) (hx : Lat G x) : Lat G (fun i => c * x i) := by
  induction hx with
  | zero =>
    have e : (fun i => c * (fun _ => (0 : Int)) i) = (fun _ : Nat => (0 : Int)) := funext fun i => by simp
    rw [e]; exact .zero
  | @add y g k hy hg ih =>
    have e : (fun i => c * (y i + k * g i)) = fun i => c * y i + (c * k) * g i := funext fun i => by rw [Int.mul_add, Int.mul_assoc]
    rw [e]
    exact ih.add _ hg
theorem Lat.sub {G : List Vc} {x y : Vc} (k : Int) (hx : Lat G x) (hy : Lat G y) : Lat G (fun i => x i - y i * k) := by
  have z := hx.sum (hy.mul (-k))
  have e : (fun i => x i + -k * y i) = fun i => x i - y i * k := funext fun i => by rw [Int.neg_mul, Int.mul_comm k]; omega
  rwa [e] at z
theorem Lat.mono {G G' : List Vc} {x : Vc} (h : ∀ g ∈ G, Lat G' g) (hx : Lat G x) : Lat G' x := by
  induction hx with
  | zero => exact .zero
  | @add y g k hy hg ih => exact ih.sum ((h g hg).mul k)
theorem Lat.sub_of {G G' : List Vc} {x : Vc} (h : ∀ g ∈ G, g ∈ G') (hx : Lat G x) : Lat G' x := hx.mono fun g hg => .of (h g hg)
theorem Lat.zeros {G : List Vc} {x : Vc} {i : Nat} (h : ∀ g ∈ G, g i = 0) (hx : Lat G x) : x i = 0 := by
  induction hx with
  | zero => rfl
  | @add y g k hy hg ih =>
    show y i + k * g i = 0
    rw [ih, h g hg]; simp
theorem Lat.head {g : Vc} {G : List Vc} {x : Vc} (hx : Lat (g :: G) x) : ∃ k y, Lat G y ∧ x = fun i => k * g i + y i := by
  induction hx with
  | zero => exact ⟨0, _, .zero, funext fun i => by simp⟩
  | @add y h c hy hh ih =>
    obtain ⟨k, z, hz, rfl⟩ := ih
    rcases List.mem_cons.mp hh with e | e
    · subst e
      exact ⟨k + c, z, hz, funext fun i => by show k * h i + z i + c * h i = (k + c) * h i + z i; rw [Int.add_mul]; omega⟩
    · exact ⟨k, _, hz.add c e, funext fun i => by show k * g i + z i + c * h i = k * g i + (z i + c * h i); omega⟩
/-! ### first places -/
structure Fp (x : Vc) (q : Nat) : Prop where
  nz : x q ≠ 0
  zs : ∀ i < q, x i = 0
theorem Fp.uniq {x : Vc} {p q : Nat} (h : Fp x p) (h' : Fp x q) : p = q := by
  rcases Nat.lt_trichotomy p q with l | e | l
  · exact absurd (h'.zs p l) h.nz
  · exact e
  · exact absurd (h.zs q l) h'.nz
theorem Fp.mul {x : Vc} {q : Nat} {D : Int} (h : Fp x q) (hD : D ≠ 0) : Fp (fun i => D * x i) q :=
  ⟨fun e => (Int.mul_eq_zero.mp e).elim hD h.nz, fun i l => by show D * x i = 0; rw [h.zs i l]; simp⟩
/-- rows in steps: nought before n, each row begins later than the one above -/
inductive Ech : Nat → List Vc → Prop
  | nil {n : Nat} : Ech n []
  | cons {n q : Nat} {s : Vc} {ss : List Vc} : Fp s q → n ≤ q → Ech (q + 1) ss → Ech n (s :: ss)
theorem Ech.zero : ∀ {n : Nat} {ss : List Vc}, Ech n ss → ∀ s ∈ ss, ∀ i < n, s i = 0
  | _, _, .nil, _, h, _, _ => nomatch h
  | _, _, .cons f l e, s, h, i, hi => by
    rcases List.mem_cons.mp h with rfl | h
    · exact f.zs i (by omega)
    · exact Ech.zero e s h i (by omega)
theorem Ech.down {n m : Nat} {ss : List Vc} (h : Ech n ss) (l : m ≤ n) : Ech m ss := by
  cases h with
  | nil => exact .nil
  | cons f l2 e => exact .cons f (Nat.le_trans l l2) e
theorem Ech.lat {n : Nat} {ss : List Vc} (h : Ech n ss) {x : Vc} (hx : Lat ss x) : ∀ i < n, x i = 0 := fun i hi => hx.zeros fun g hg => h.zero g hg i hi
theorem Ech.fp : ∀ {n : Nat} {ss : List Vc}, Ech n ss → ∀ {x : Vc} {q : Nat}, Lat ss x → Fp x q → ∃ s ∈ ss, Fp s q ∧ s q ∣ x q
  | _, _, .nil, x, q, hx, f => absurd (hx.zeros fun _ h => absurd h List.not_mem_nil) f.nz
  | _, _, .cons (q := q0) (s := s) (ss := ss) f0 l e, x, q, hx, f => by
    obtain ⟨k, y, hy, rfl⟩ := hx.head
    have y0 : y q0 = 0 := e.lat hy q0 (Nat.lt_succ_self _)
    by_cases hk : k = 0
    · subst hk
      have ex : (fun i => 0 * s i + y i) = y := funext fun i => by simp
      rw [ex] at f ⊢
      obtain ⟨t, ht, h1, h2⟩ := Ech.fp e hy f
      exact ⟨t, List.mem_cons_of_mem _ ht, h1, h2⟩
    · have f2 : Fp (fun i => k * s i + y i) q0 := ⟨by
        show k * s q0 + y q0 ≠ 0
        rw [y0, Int.add_zero]
        exact fun z => (Int.mul_eq_zero.mp z).elim hk f0.nz, fun i hi => by
        show k * s i + y i = 0
        rw [f0.zs i hi, e.lat hy i (by omega)]; simp⟩
      have eq := f.uniq f2
      subst eq
      refine ⟨s, List.mem_cons_self, f0, ⟨k, ?_⟩⟩
      show k * s q + y q = s q * k
      rw [y0, Int.add_zero, Int.mul_comm]
theorem Ech.one : ∀ {n : Nat} {ss : List Vc}, Ech n ss → ∀ {s t : Vc} {q : Nat}, s ∈ ss → t ∈ ss → Fp s q → Fp t q → s = t
  | _, _, .nil, _, _, _, h, _, _, _ => nomatch h
  | _, _, .cons f0 l e, s, t, q, hs, ht, f, f' => by
    rcases List.mem_cons.mp hs with h1 | h1
    · rcases List.mem_cons.mp ht with h2 | h2
      · rw [h1, h2]
      · rw [h1] at f
        have := f0.uniq f
        subst this
        exact absurd (e.zero t h2 _ (Nat.lt_succ_self _)) f'.nz
    · rcases List.mem_cons.mp ht with h2 | h2
      · rw [h2] at f'
        have := f0.uniq f'
        subst this
        exact absurd (e.zero s h1 _ (Nat.lt_succ_self _)) f.nz
      · exact Ech.one e h1 h2 f f'
/-! ### small rows that begin where steps begin -/
def Fb : Nat → Nat → Nat
  | 0, B => B
  | n + 1, B => Fb n (2 * (B * B))
theorem Fb_up : ∀ (n : Nat) {B C : Nat}, B ≤ C → Fb n B ≤ Fb n C
  | 0, _, _, h => h
  | n + 1, B, C, h => Fb_up n (Nat.mul_le_mul_left 2 (Nat.mul_le_mul h h))
theorem sq_up (B : Nat) : B ≤ 2 * (B * B) := by
  rcases Nat.eq_zero_or_pos B with e | e
  · subst e; exact Nat.le_refl _
  · have := Nat.le_mul_of_pos_right B e
    omega
theorem Fb_succ (n B : Nat) : Fb n B ≤ Fb (n + 1) B := Fb_up n (sq_up B)
theorem Fb_le {n m : Nat} (h : n ≤ m) (B : Nat) : Fb n B ≤ Fb m B := by
  induction h with
  | refl => exact Nat.le_refl _
  | step _ ih => exact Nat.le_trans ih (Fb_succ _ B)
theorem Fb_self (n B : Nat) : B ≤ Fb n B := Fb_le (Nat.zero_le n) B
/-- how great a part can be where no step begins, if those where steps begin are at most P -/
def Wb : Nat → Nat → Nat → Nat
  | 0, _, _ => 0
  | n + 1, B, P => Wb n (2 * (B * B)) (2 * (B * P)) + P * B
def crs (g : Vc) (j : Nat) (h : Vc) : Vc := fun i => g j * h i - h j * g i
theorem crs_le {g h : Vc} {j B : Nat} (hg : ∀ i, (g i).natAbs ≤ B) (hh : ∀ i, (h i).natAbs ≤ B) (i : Nat) : (crs g j h i).natAbs ≤ 2 * (B * B) := by
  have a : (g j * h i).natAbs ≤ B * B := by rw [Int.natAbs_mul]; exact Nat.mul_le_mul (hg j) (hh i)
  have b : (h j * g i).natAbs ≤ B * B := by rw [Int.natAbs_mul]; exact Nat.mul_le_mul (hh j) (hg i)
  unfold crs
  omega
/-- small steps of mixtures of G that begin wherever a mixture of G begins -/
theorem small : ∀ (d j n B : Nat) (G : List Vc), G.length ≤ n → (∀ g ∈ G, (∀ i < j, g i = 0) ∧ (∀ i, j + d ≤ i → g i = 0) ∧ ∀ i, (g i).natAbs ≤ B) →
    ∃ E, Ech j E ∧ (∀ e ∈ E, Lat G e ∧ ∀ i, (e i).natAbs ≤ Fb n B) ∧ (∀ x, Lat G x → ∃ D : Int, D ≠ 0 ∧ Lat E (fun i => D * x i)) ∧
      ∀ (x : Vc) (P : Nat), (∃ D : Int, D ≠ 0 ∧ Lat G (fun i => D * x i)) → (∀ q, (∃ e ∈ E, Fp e q) → (x q).natAbs ≤ P) → ∀ i, (x i).natAbs ≤ Wb n B P
  | 0, j, n, B, G, hl, hG => by
    have nought : ∀ x, Lat G x → ∀ i, x i = 0 := fun x hx i => hx.zeros fun g hg => by
      rcases Nat.lt_or_ge i j with l | l
      · exact (hG g hg).1 i l
      · exact (hG g hg).2.1 i (by omega)
    refine ⟨[], .nil, (fun _ h => absurd h List.not_mem_nil), fun x hx => ⟨1, by decide, ?_⟩, fun x P ⟨D, hD, hx⟩ _ i => by
      have z : D * x i = 0 := nought _ hx i
      rw [(Int.mul_eq_zero.mp z).resolve_left hD]
      exact Nat.zero_le _⟩
    have e : (fun i => 1 * x i) = (fun _ : Nat => (0 : Int)) := funext fun i => by
      have : x i = 0 := hx.zeros fun g hg => by
        rcases Nat.lt_or_ge i j with l | l
        · exact (hG g hg).1 i l
        · exact (hG g hg).2.1 i (by omega)
      rw [this]; simp
    rw [e]; exact .zero
  | d + 1, j, n, B, G, hl, hG => by
    by_cases hz : ∀ g ∈ G, g j = 0
    · obtain ⟨E, h1, h2, h3⟩ := small d (j + 1) n B G hl fun g hg => ⟨fun i hi => by
        rcases Nat.lt_or_eq_of_le (Nat.le_of_lt_succ hi) with l | l
        · exact (hG g hg).1 i l
        · rw [l]; exact hz g hg, fun i hi => (hG g hg).2.1 i (by omega), (hG g hg).2.2⟩
      exact ⟨E, h1.down (Nat.le_succ _), h2, h3⟩
    · simp only [Classical.not_forall] at hz
      obtain ⟨g, hg, gj⟩ := hz
      obtain ⟨A, C, rfl⟩ := List.append_of_mem hg
      have hgG := hG g hg
      have mem : ∀ h ∈ A ++ C, h ∈ A ++ g :: C := fun h hh => by
        rcases List.mem_append.mp hh with z | z
        · exact List.mem_append_left _ z
        · exact List.mem_append_right _ (List.mem_cons_of_mem _ z)
      obtain ⟨n, rfl⟩ : ∃ n', n = n' + 1 := by
        cases n with
        | zero => simp at hl
        | succ n => exact ⟨n, rfl⟩
      obtain ⟨E, h1, h2, h3⟩ := small d (j + 1) n (2 * (B * B)) ((A ++ C).map (crs g j)) (by
        rw [List.length_map]
        simp only [List.length_append, List.length_cons] at hl ⊢
        omega) fun h' hh' => by
          obtain ⟨h, hh, rfl⟩ := List.mem_map.mp hh'
          have z := hG h (mem h hh)
          refine ⟨fun i hi => ?_, fun i hi => ?_, crs_le hgG.2.2 z.2.2⟩
          · show g j * h i - h j * g i = 0
            rcases Nat.lt_or_eq_of_le (Nat.le_of_lt_succ hi) with l | l
            · rw [z.1 i l, hgG.1 i l]; simp
            · rw [l, Int.mul_comm]; omega
          · show g j * h i - h j * g i = 0
            rw [z.2.1 i (by omega), hgG.2.1 i (by omega)]; simp
      have inG : ∀ h' ∈ (A ++ C).map (crs g j), Lat (A ++ g :: C) h' := fun h' hh' => by
        obtain ⟨h, hh, rfl⟩ := List.mem_map.mp hh'
        have z := (Lat.mul (g j) (Lat.of (mem h hh))).sub (h j) (Lat.of hg)
        have e : (fun i => g j * h i - g i * h j) = crs g j h := funext fun i => by unfold crs; rw [Int.mul_comm (g i)]
        rwa [e] at z
      obtain ⟨h3, h4⟩ := h3
      -- g j · x is some g and a mixture of the others
      have key : ∀ x, Lat (A ++ g :: C) x → ∃ k y, Lat ((A ++ C).map (crs g j)) y ∧ (fun i => g j * x i) = fun i => k * g i + y i := fun x hx => by
        clear h2 h3 h4
        induction hx with
        | zero => exact ⟨0, _, .zero, funext fun i => by simp⟩
        | @add x h c hx hh ih =>
          obtain ⟨k, y, hy, e⟩ := ih
          have e' := fun i => congrFun e i
          have hh2 : h = g ∨ h ∈ A ++ C := by
            rcases List.mem_append.mp hh with z | z
            · exact .inr (List.mem_append_left _ z)
            · rcases List.mem_cons.mp z with z | z
              · exact .inl z
              · exact .inr (List.mem_append_right _ z)
          rcases hh2 with rfl | hh2
          · refine ⟨k + h j * c, y, hy, funext fun i => ?_⟩
            have := e' i
            show h j * (x i + c * h i) = _
            rw [Int.mul_add, this, Int.add_mul, Int.mul_assoc]; omega
          · refine ⟨k + c * h j, _, hy.add c (List.mem_map_of_mem hh2), funext fun i => ?_⟩
            have := e' i
            show g j * (x i + c * h i) = _
            rw [Int.mul_add, this, Int.add_mul]
            unfold crs
            rw [Int.mul_sub, Int.mul_assoc c (h j), Int.mul_left_comm (g j) c]; omega
      have at0 : ∀ y, Lat ((A ++ C).map (crs g j)) y → y j = 0 := fun y hy => hy.zeros fun h' hh' => by
        obtain ⟨h, hh, rfl⟩ := List.mem_map.mp hh'
        show g j * h j - h j * g j = 0
        rw [Int.mul_comm]; omega
      refine ⟨g :: E, .cons ⟨gj, hgG.1⟩ (Nat.le_refl _) h1, fun e he => ?_, fun x hx => ?_, fun x P ⟨D, hD, hx⟩ hP i => ?_⟩
      · rcases List.mem_cons.mp he with rfl | he
        · exact ⟨.of hg, fun i => Nat.le_trans (hgG.2.2 i) (Fb_self _ _)⟩
        · exact ⟨(h2 e he).1.mono inG, (h2 e he).2⟩
      · obtain ⟨k, y, hy, e⟩ := key x hx
        obtain ⟨D, hD, hy2⟩ := h3 y hy
        refine ⟨D * g j, fun z => (Int.mul_eq_zero.mp z).elim hD gj, ?_⟩
        have z := (Lat.mul (D * k) (Lat.of (List.mem_cons_self (a := g) (l := E)))).sum (hy2.sub_of fun e he => List.mem_cons_of_mem g he)
        have e2 : (fun i => D * k * g i + D * y i) = fun i => D * g j * x i := funext fun i => by
          have := congrFun e i
          rw [Int.mul_assoc D (g j), this, Int.mul_add, Int.mul_assoc]
        rwa [e2] at z
      · obtain ⟨k, y', hy', e⟩ := key _ hx
        have ek : k = D * x j := by
          have z := congrFun e j
          have z : g j * (D * x j) = k * g j + y' j := z
          rw [at0 y' hy', Int.add_zero, Int.mul_comm] at z
          exact (Int.eq_of_mul_eq_mul_right gj z).symm
        have ey : y' = fun i => D * (g j * x i - x j * g i) := funext fun i => by
          have z : g j * (D * x i) = k * g i + y' i := congrFun e i
          rw [Int.mul_sub, Int.mul_left_comm D (g j), ← Int.mul_assoc D (x j), ← ek, z]; omega
        have px : (x j).natAbs ≤ P := hP j ⟨g, List.mem_cons_self, gj, hgG.1⟩
        have bound : ∀ (a b : Int) (u v : Nat), a.natAbs ≤ u → b.natAbs ≤ v → (a * b).natAbs ≤ u * v := fun a b u v h1 h2 => by rw [Int.natAbs_mul]; exact Nat.mul_le_mul h1 h2
        have yi := h4 (fun i => g j * x i - x j * g i) (2 * (B * P)) ⟨D, hD, by rw [← ey]; exact hy'⟩ (fun q ⟨e, he, f⟩ => by
          have b1 := bound (g j) (x q) B P (hgG.2.2 j) (hP q ⟨e, List.mem_cons_of_mem _ he, f⟩)
          have b2 := bound (x j) (g q) P B px (hgG.2.2 q)
          rw [Nat.mul_comm P B] at b2
          show (g j * x q - x j * g q).natAbs ≤ _
          omega) i
        have b2 := bound (x j) (g i) P B px (hgG.2.2 i)
        have b3 : (x i).natAbs ≤ (g j * x i).natAbs := by
          rw [Int.natAbs_mul]
          exact Nat.le_mul_of_pos_left _ (Int.natAbs_pos.mpr gj)
        have yi' : (g j * x i - x j * g i).natAbs ≤ Wb n (2 * (B * B)) (2 * (B * P)) := yi
        show (x i).natAbs ≤ Wb n (2 * (B * B)) (2 * (B * P)) + P * B
        omega
/-- the first part of a step is small -/
theorem pivot_small {G made : List Vc} {m n B : Nat} (hl : G.length ≤ n) (hG : ∀ g ∈ G, (∀ i, m ≤ i → g i = 0) ∧ ∀ i, (g i).natAbs ≤ B) (em : Ech 0 made) (h1 : ∀ s ∈ made, Lat G s) (h2 : ∀ g ∈ G, Lat made g)
    {s : Vc} {q : Nat} (hs : s ∈ made) (f : Fp s q) : (s q).natAbs ≤ Fb n B := by
  obtain ⟨E, e1, e2, e3, _⟩ := small m 0 n B G hl fun g hg => ⟨fun i hi => absurd hi (Nat.not_lt_zero _), fun i hi => (hG g hg).1 i (by omega), (hG g hg).2⟩
  obtain ⟨D, hD, hx⟩ := e3 s (h1 s hs)
  obtain ⟨e, he, fe, _⟩ := e1.fp hx (f.mul hD)
  obtain ⟨t, ht, ft, dv⟩ := em.fp ((e2 e he).1.mono h2) fe
  have := em.one hs ht f ft
  subst this
  refine Nat.le_trans ?_ ((e2 e he).2 q)
  exact Nat.le_of_dvd (Int.natAbs_pos.mpr fe.nz) (Int.natAbs_dvd_natAbs.mpr dv)
/-- all of a row is small whose parts where steps begin are -/
theorem part_small {G made : List Vc} {m n B P : Nat} (hl : G.length ≤ n) (hG : ∀ g ∈ G, (∀ i, m ≤ i → g i = 0) ∧ ∀ i, (g i).natAbs ≤ B) (em : Ech 0 made) (h2 : ∀ g ∈ G, Lat made g)
    {x : Vc} (hx : Lat G x) (hP : ∀ s ∈ made, ∀ q, Fp s q → (x q).natAbs ≤ P) (i : Nat) : (x i).natAbs ≤ Wb n B P := by
  obtain ⟨E, e1, e2, _, e4⟩ := small m 0 n B G hl fun g hg => ⟨fun i hi => absurd hi (Nat.not_lt_zero _), fun i hi => (hG g hg).1 i (by omega), (hG g hg).2⟩
  refine e4 x P ⟨1, by decide, ?_⟩ (fun q ⟨e, he, f⟩ => ?_) i
  · have e : (fun i => 1 * x i) = x := funext fun i => by simp
    rw [e]; exact hx
  · obtain ⟨t, ht, ft, _⟩ := em.fp ((e2 e he).1.mono h2) f
    exact hP t ht q ft
end El
/-! The two rows of a step and a rest, joined by Euclid. -/
namespace El
theorem fd {a b : Int} (hb : b ≠ 0) : ∃ m, a = b * a.fdiv b + m ∧ ((0 < b ∧ 0 ≤ m ∧ m < b) ∨ (b < 0 ∧ b < m ∧ m ≤ 0)) := by
  refine ⟨a - b * a.fdiv b, by omega, ?_⟩
  rcases Int.lt_trichotomy b 0 with h | h | h
  · have e : a.fdiv b = (-a).fdiv (-b) := (Int.neg_fdiv_neg a b).symm
    rw [e, Int.fdiv_eq_ediv_of_nonneg _ (by omega)]
    have h1 := Int.mul_ediv_add_emod (-a) (-b)
    have h2 := Int.emod_nonneg (-a) (by omega : -b ≠ 0)
    have h3 := Int.emod_lt_of_pos (-a) (by omega : 0 < -b)
    rw [Int.neg_mul] at h1
    exact .inr ⟨h, by omega, by omega⟩
  · exact absurd h hb
  · rw [Int.fdiv_eq_ediv_of_nonneg _ (by omega)]
    have h1 := Int.mul_ediv_add_emod a b
    have h2 := Int.emod_nonneg a hb
    have h3 := Int.emod_lt_of_pos a h
    exact .inl ⟨h, by omega, by omega⟩
/-- a quotient that needs no great division -/
def Dv (P : Nat) (a b : Int) : Prop := b.natAbs ≤ P ∨ (((0 ≤ a ∧ 0 ≤ b) ∨ (a ≤ 0 ∧ b ≤ 0)) ∧ (a - b).natAbs ≤ P ∧ b.natAbs ≤ a.natAbs) ∨ a.natAbs ≤ P
theorem Dv.next {P : Nat} {a b q m : Int} (h : Dv P a b) (hb : b ≠ 0) (e : a = b * q + m) (hm : (0 < b ∧ 0 ≤ m ∧ m < b) ∨ (b < 0 ∧ b < m ∧ m ≤ 0)) : Dv P b m := by
  have ml : m.natAbs < b.natAbs := by omega
  rcases h with h | ⟨hs, h1, h2⟩ | h
  · exact .inl (by omega)
  · refine .inl ?_
    by_cases hq : b.natAbs ≤ P
    · omega
    · -- one is taken off
      have q1 : q = 1 := by
        have hq0 : ¬ q ≤ 0 := fun l => by
          rcases hm with ⟨b0, m0, m1⟩ | ⟨b0, m0, m1⟩
          · have : b * q ≤ 0 := Int.mul_nonpos_of_nonneg_of_nonpos (by omega) l
            omega
          · have : 0 ≤ b * q := Int.mul_nonneg_of_nonpos_of_nonpos (by omega) l
            omega
        have hq2 : ¬ 2 ≤ q := fun l => by
          rcases hm with ⟨b0, m0, m1⟩ | ⟨b0, m0, m1⟩
          · have : b * 2 ≤ b * q := Int.mul_le_mul_of_nonneg_left l (by omega)
            omega
          · have : b * q ≤ b * 2 := Int.mul_le_mul_of_nonpos_left (by omega) l
            omega
        omega
      subst q1
      omega
  · by_cases hq : b.natAbs ≤ P
    · exact .inl (by omega)
    · by_cases hs : (0 ≤ a ∧ 0 ≤ b) ∨ (a ≤ 0 ∧ b ≤ 0)
      · have q0 : q = 0 := by
          have hq0 : ¬ q ≤ -1 := fun l => by
            rcases hm with ⟨b0, m0, m1⟩ | ⟨b0, m0, m1⟩
            · have : b * q ≤ b * (-1) := Int.mul_le_mul_of_nonneg_left l (by omega)
              omega
            · have : b * (-1) ≤ b * q := Int.mul_le_mul_of_nonpos_left (by omega) l
              omega
          have hq2 : ¬ 1 ≤ q := fun l => by
            rcases hm with ⟨b0, m0, m1⟩ | ⟨b0, m0, m1⟩
            · have : b * 1 ≤ b * q := Int.mul_le_mul_of_nonneg_left l (by omega)
              omega
            · have : b * q ≤ b * 1 := Int.mul_le_mul_of_nonpos_left (by omega) l
              omega
          omega
        subst q0
        exact .inl (by omega)
      · have q0 : q = -1 := by
          have hq0 : ¬ q ≤ -2 := fun l => by
            rcases hm with ⟨b0, m0, m1⟩ | ⟨b0, m0, m1⟩
            · have : b * q ≤ b * (-2) := Int.mul_le_mul_of_nonneg_left l (by omega)
              omega
            · have : b * (-2) ≤ b * q := Int.mul_le_mul_of_nonpos_left (by omega) l
              omega
          have hq2 : ¬ 0 ≤ q := fun l => by
            rcases hm with ⟨b0, m0, m1⟩ | ⟨b0, m0, m1⟩
            · have : b * 0 ≤ b * q := Int.mul_le_mul_of_nonneg_left l (by omega)
              omega
            · have : b * q ≤ b * 0 := Int.mul_le_mul_of_nonpos_left (by omega) l
              omega
          omega
        subst q0
        refine .inr (.inl ⟨?_, ?_, ?_⟩) <;> omega
/-- how the rows have become others -/
structure Mix (s0 r0 s r : Vc) (u v u' v' : Int) : Prop where
  s : ∀ i, s i = u * s0 i + v * r0 i
  r : ∀ i, r i = u' * s0 i + v' * r0 i
/-- between the turns -/
structure Eu (P : Nat) (p : Nat) (s0 r0 s r : Vc) : Prop where
  mix : ∃ u v u' v', Mix s0 r0 s r u v u' v' ∧ ((u = 1 ∧ v = 0 ∧ u' = 0 ∧ v' = 1) ∨
    (r0 p ≠ 0 ∧ s p ≠ 0 ∧ ((0 ≤ s p ∧ 0 ≤ r p) ∨ (s p ≤ 0 ∧ r p ≤ 0)) ∧ (s p).natAbs ≤ (r0 p).natAbs ∧ (r p).natAbs ≤ (r0 p).natAbs ∧ u.natAbs ≤ (r0 p).natAbs ∧ u.natAbs * (r p).natAbs + u'.natAbs * (s p).natAbs ≤ (r0 p).natAbs))
  l1 : Lat [s, r] s0
  l2 : Lat [s, r] r0
  l3 : Lat [s0, r0] s
  l4 : Lat [s0, r0] r
  dv : Dv P (s p) (r p)
theorem Eu.start {P p : Nat} {s0 r0 : Vc} (h : (s0 p).natAbs ≤ P) : Eu P p s0 r0 s0 r0 :=
  ⟨⟨1, 0, 0, 1, ⟨fun i => by omega, fun i => by omega⟩, .inl ⟨rfl, rfl, rfl, rfl⟩⟩, .of List.mem_cons_self, .of (List.mem_cons_of_mem _ List.mem_cons_self), .of List.mem_cons_self, .of (List.mem_cons_of_mem _ List.mem_cons_self), .inr (.inr h)⟩
theorem Eu.next {P p : Nat} {s0 r0 s r r' : Vc} (E : Eu P p s0 r0 s r) (hb : r p ≠ 0) (e : ∀ i, r' i = s i - r i * (s p).fdiv (r p)) : Eu P p s0 r0 r r' := by
  obtain ⟨⟨u, v, u', v', M, hc⟩, l1, l2, l3, l4, dv⟩ := E
  obtain ⟨m, em, hm⟩ := fd (a := s p) hb
  generalize hq : (s p).fdiv (r p) = q at e em
  have er : r' p = m := by have := e p; omega
  have fr : r' = fun i => s i - r i * q := funext e
  have fs : s = fun i => r' i + q * r i := funext fun i => by have := e i; rw [Int.mul_comm q]; omega
  have inS : Lat [r, r'] s := by
    rw [fs]
    exact Lat.add q (Lat.of (List.mem_cons_of_mem _ List.mem_cons_self)) List.mem_cons_self
  have up : ∀ g ∈ [s, r], Lat [r, r'] g := fun g hg => by
    rcases List.mem_cons.mp hg with z | z
    · rw [z]; exact inS
    · rw [List.mem_singleton.mp z]; exact .of List.mem_cons_self
  refine ⟨⟨u', v', u - q * u', v - q * v', ⟨M.r, fun i => ?_⟩, .inr ?_⟩, l1.mono up, l2.mono up, l4, ?_, ?_⟩
  · rw [e i, M.s i, M.r i, Int.sub_mul, Int.sub_mul, Int.add_mul, Int.mul_right_comm u' (s0 i) q, Int.mul_right_comm v' (r0 i) q, Int.mul_comm u' q, Int.mul_comm v' q]
    omega
  · rw [er]
    rcases hc with ⟨rfl, rfl, rfl, rfl⟩ | ⟨h0, h1, h2, h3, h4, h5, h6⟩
    · have e0 : r p = r0 p := by have := M.r p; omega
      rw [e0] at hb hm ⊢
      refine ⟨hb, hb, by omega, Nat.le_refl _, by omega, by omega, ?_⟩
      simp
    · refine ⟨h0, hb, by omega, h4, by omega, ?_, ?_⟩
      · have : u'.natAbs * 1 ≤ u'.natAbs * (s p).natAbs := Nat.mul_le_mul_left _ (by omega)
        omega
      · -- the potential does not grow
        have hs : q.natAbs * (r p).natAbs + m.natAbs = (s p).natAbs := by
          have hq0 : 0 ≤ q := by
            rcases Int.lt_or_le q 0 with l | l
            · exfalso
              rcases hm with ⟨b0, m0, m1⟩ | ⟨b0, m0, m1⟩
              · have : r p * q ≤ r p * (-1) := Int.mul_le_mul_of_nonneg_left (by omega) (by omega)
                omega
              · have : r p * (-1) ≤ r p * q := Int.mul_le_mul_of_nonpos_left (by omega) (by omega)
                omega
            · exact l
          have hn : q.natAbs * (r p).natAbs = (r p * q).natAbs := by rw [Int.natAbs_mul, Nat.mul_comm]
          rw [hn]
          rcases hm with ⟨b0, m0, m1⟩ | ⟨b0, m0, m1⟩
          · have : 0 ≤ r p * q := Int.mul_nonneg (by omega) hq0
            omega
          · have : r p * q ≤ 0 := Int.mul_nonpos_of_nonpos_of_nonneg (by omega) hq0
            omega
        have t1 : (u - q * u').natAbs ≤ u.natAbs + q.natAbs * u'.natAbs := by
          have := Int.natAbs_sub_le u (q * u')
          rwa [Int.natAbs_mul] at this
        have t2 : (u - q * u').natAbs * (r p).natAbs ≤ (u.natAbs + q.natAbs * u'.natAbs) * (r p).natAbs := Nat.mul_le_mul_right _ t1
        have t3 : (u.natAbs + q.natAbs * u'.natAbs) * (r p).natAbs = u.natAbs * (r p).natAbs + u'.natAbs * (q.natAbs * (r p).natAbs) := by
          rw [Nat.add_mul, Nat.mul_comm q.natAbs, Nat.mul_assoc]
        have t4 : u'.natAbs * m.natAbs + u'.natAbs * (q.natAbs * (r p).natAbs) = u'.natAbs * (s p).natAbs := by rw [← Nat.mul_add, ← hs, Nat.add_comm]
        omega
  · rw [fr]
    exact l3.sub q l4
  · rw [er]
    exact dv.next hb em hm
/-- all that comes up is small -/
theorem Eu.bound {P p S R : Nat} {s0 r0 s r : Vc} (E : Eu P p s0 r0 s r) (hs : ∀ i, (s0 i).natAbs ≤ S) (hr : ∀ i, (r0 i).natAbs ≤ R) : ∀ i, (s i).natAbs ≤ S + R + R * S + (s0 p).natAbs * R ∧ (r i).natAbs ≤ S + R + R * S + (s0 p).natAbs * R := by
  intro i
  obtain ⟨⟨u, v, u', v', M, hc⟩, _⟩ := E
  have key : ∀ c d x : Int, x.natAbs ≤ (r0 p).natAbs → x = c * s0 p + d * r0 p → c.natAbs ≤ (r0 p).natAbs → r0 p ≠ 0 → (c * s0 i + d * r0 i).natAbs ≤ S + R + R * S + (s0 p).natAbs * R := by
    intro c d x hx e hcc h0
    have hd : d.natAbs ≤ 1 + (s0 p).natAbs := by
      have q1 : (d * r0 p).natAbs ≤ x.natAbs + (c * s0 p).natAbs := by omega
      rw [Int.natAbs_mul, Int.natAbs_mul] at q1
      have q2 : c.natAbs * (s0 p).natAbs ≤ (r0 p).natAbs * (s0 p).natAbs := Nat.mul_le_mul_right _ hcc
      have q3 : d.natAbs * (r0 p).natAbs ≤ (1 + (s0 p).natAbs) * (r0 p).natAbs := by
        rw [Nat.add_mul, Nat.one_mul, Nat.mul_comm (s0 p).natAbs]
        omega
      exact Nat.le_of_mul_le_mul_right q3 (Int.natAbs_pos.mpr h0)
    have q1 : (c * s0 i + d * r0 i).natAbs ≤ (c * s0 i).natAbs + (d * r0 i).natAbs := Int.natAbs_add_le _ _
    rw [Int.natAbs_mul, Int.natAbs_mul] at q1
    have q2 : c.natAbs * (s0 i).natAbs ≤ R * S := Nat.mul_le_mul (Nat.le_trans hcc (hr p)) (hs i)
    have q3 : d.natAbs * (r0 i).natAbs ≤ (1 + (s0 p).natAbs) * R := Nat.mul_le_mul hd (hr i)
    rw [Nat.add_mul, Nat.one_mul] at q3
    omega
  rcases hc with ⟨rfl, rfl, rfl, rfl⟩ | ⟨h0, h1, h2, h3, h4, h5, h6⟩
  · have e1 := M.s i
    have e2 := M.r i
    have b1 := hs i
    have b2 := hr i
    constructor <;> omega
  · rw [M.s i, M.r i]
    have hu' : u'.natAbs ≤ (r0 p).natAbs := by
      have : u'.natAbs * 1 ≤ u'.natAbs * (s p).natAbs := Nat.mul_le_mul_left _ (by omega)
      omega
    exact ⟨key u v (s p) h3 (M.s p) h5 h0, key u' v' (r p) h4 (M.r p) hu' h0⟩
end El
/-! Rows as lists. -/
namespace El
def co (is : List Int) : Vc := fun i => is.getD i 0
theorem co_out {is : List Int} {i : Nat} (h : is.length ≤ i) : co is i = 0 := by
  unfold co
  rw [List.getD_eq_getElem?_getD, List.getElem?_eq_none h]; rfl
theorem co_at {is : List Int} {i : Nat} (h : i < is.length) : co is i = is[i] := by
  unfold co
  rw [List.getD_eq_getElem?_getD, List.getElem?_eq_getElem h]; rfl
theorem co_mem {is : List Int} {i : Nat} (h : i < is.length) : co is i ∈ is := by rw [co_at h]; exact List.getElem_mem h
def takenL (xs ys : List Int) : List Int := List.zipWith (· - ·) xs ys
def timesL (xs : List Int) (k : Int) : List Int := xs.map (· * k)
theorem co_taken {xs ys : List Int} (h : xs.length = ys.length) (i : Nat) : co (takenL xs ys) i = co xs i - co ys i := by
  by_cases hi : i < xs.length
  · rw [co_at (by unfold takenL; rw [List.length_zipWith]; omega), co_at hi, co_at (h ▸ hi)]
    unfold takenL
    rw [List.getElem_zipWith]
  · rw [co_out (by unfold takenL; rw [List.length_zipWith]; omega), co_out (by omega), co_out (by omega)]; rfl
theorem co_times (xs : List Int) (k : Int) (i : Nat) : co (timesL xs k) i = co xs i * k := by
  by_cases hi : i < xs.length
  · rw [co_at (by unfold timesL; rw [List.length_map]; exact hi), co_at hi]
    unfold timesL
    rw [List.getElem_map]
  · rw [co_out (by unfold timesL; rw [List.length_map]; omega), co_out (by omega), Int.zero_mul]
theorem taken_len {xs ys : List Int} (h : xs.length = ys.length) : (takenL xs ys).length = xs.length := by unfold takenL; rw [List.length_zipWith]; omega
theorem times_len (xs : List Int) (k : Int) : (timesL xs k).length = xs.length := by unfold timesL; rw [List.length_map]
/-- all parts below 2 ^ e -/
def Sm (e : Nat) (xs : List Int) : Prop := ∀ i, (co xs i).natAbs < 2 ^ e
theorem Sm.up {e f : Nat} {xs : List Int} (h : Sm e xs) (l : e ≤ f) : Sm f xs := fun i => Nat.lt_of_lt_of_le (h i) (Nat.pow_le_pow_right (by decide) l)
theorem Sm.mem {e : Nat} {xs : List Int} (h : Sm e xs) {x : Int} (hx : x ∈ xs) : x.natAbs < 2 ^ e := by
  obtain ⟨i, hi, rfl⟩ := List.mem_iff_getElem.mp hx
  rw [← co_at hi]; exact h i
theorem Sm.of {e : Nat} {xs : List Int} (h : ∀ x ∈ xs, x.natAbs < 2 ^ e) : Sm e xs := fun i => by
  by_cases hi : i < xs.length
  · exact h _ (co_mem hi)
  · rw [co_out (by omega)]; exact Nat.pow_pos (by decide)
/-- the place of the first part that isn't nought -/
def fpL : List Int → Nat
  | [] => 0
  | x :: xs => if x = 0 then fpL xs + 1 else 0
theorem fpL_le : ∀ xs : List Int, fpL xs ≤ xs.length
  | [] => Nat.le_refl _
  | x :: xs => by
    have := fpL_le xs
    unfold fpL
    split <;> (rw [List.length_cons]; omega)
theorem fpL_zero : ∀ (xs : List Int) (i : Nat), i < fpL xs → co xs i = 0
  | [], i, h => absurd h (Nat.not_lt_zero _)
  | x :: xs, i, h => by
    unfold fpL at h
    split at h
    · rename_i hx
      cases i with
      | zero => exact hx
      | succ i => exact fpL_zero xs i (by omega)
    · exact absurd h (Nat.not_lt_zero _)
theorem fpL_nz : ∀ (xs : List Int), fpL xs < xs.length → co xs (fpL xs) ≠ 0
  | [], h => absurd h (Nat.not_lt_zero _)
  | x :: xs, h => by
    unfold fpL at h ⊢
    split
    · rename_i hx
      rw [if_pos hx, List.length_cons] at h
      exact fpL_nz xs (by omega)
    · rename_i hx
      exact hx
theorem fpL_fp {xs : List Int} (h : fpL xs < xs.length) : Fp (co xs) (fpL xs) := ⟨fpL_nz xs h, fpL_zero xs⟩
theorem fpL_of {xs : List Int} {q : Nat} (f : Fp (co xs) q) : fpL xs = q ∧ q < xs.length := by
  have hq : q < xs.length := by
    rcases Nat.lt_or_ge q xs.length with h | h
    · exact h
    · exact absurd (co_out h) f.nz
  have h1 : ¬ q < fpL xs := fun l => f.nz (fpL_zero xs q l)
  have h2 : fpL xs < xs.length := by omega
  exact ⟨(fpL_fp h2).uniq f, hq⟩
theorem fpL_all {xs : List Int} (h : ¬ fpL xs < xs.length) : ∀ i, co xs i = 0 := fun i => by
  have := fpL_le xs
  by_cases hi : i < xs.length
  · exact fpL_zero xs i (by omega)
  · exact co_out (by omega)
theorem co_ext {xs ys : List Int} (h : xs.length = ys.length) (e : co xs = co ys) : xs = ys := by
  refine List.ext_getElem h fun i h1 h2 => ?_
  rw [← co_at h1, ← co_at h2, e]
def lessL (xs ys : List Int) (p : Nat) : List Int := takenL xs (timesL ys ((co xs p).fdiv (co ys p)))
theorem less_len {xs ys : List Int} (h : xs.length = ys.length) (p : Nat) : (lessL xs ys p).length = xs.length := by
  unfold lessL
  rw [taken_len (by rw [times_len]; exact h)]
theorem co_less {xs ys : List Int} (h : xs.length = ys.length) (p i : Nat) : co (lessL xs ys p) i = co xs i - co ys i * (co xs p).fdiv (co ys p) := by
  unfold lessL
  rw [co_taken (by rw [times_len]; exact h), co_times]
end El
/-! Steps brought low. -/
namespace El
theorem Ech.snoc : ∀ {n : Nat} {xs : List Vc} {y : Vc} {q : Nat}, Ech n xs → (∀ x ∈ xs, ∃ p, Fp x p ∧ p < q) → Fp y q → n ≤ q → Ech n (xs ++ [y])
  | _, _, _, _, .nil, _, f, h => .cons f h .nil
  | _, _, _, _, .cons (s := s) f0 l e, hx, f, h => by
    obtain ⟨p, fp, hp⟩ := hx s List.mem_cons_self
    have := f0.uniq fp
    subst this
    exact .cons f0 l (Ech.snoc e (fun x hx' => hx x (List.mem_cons_of_mem _ hx')) f hp)
theorem Ech.has : ∀ {n : Nat} {xs : List Vc}, Ech n xs → ∀ x ∈ xs, ∃ p, Fp x p ∧ n ≤ p
  | _, _, .nil, _, h => nomatch h
  | _, _, .cons f0 l e, x, h => by
    rcases List.mem_cons.mp h with rfl | h
    · exact ⟨_, f0, l⟩
    · obtain ⟨p, h1, h2⟩ := Ech.has e x h
      exact ⟨p, h1, by omega⟩
theorem Ech.before : ∀ {n : Nat} {xs zs : List Vc} {y : Vc} {q : Nat}, Ech n (xs ++ y :: zs) → Fp y q → ∀ x ∈ xs, ∃ p, Fp x p ∧ p < q
  | _, [], _, _, _, _, _, _, h => nomatch h
  | n, x0 :: xs, zs, y, q, h, f, x, hx => by
    cases h with
    | cons f0 l e =>
      rcases List.mem_cons.mp hx with rfl | hx
      · obtain ⟨p, h1, h2⟩ := e.has y (List.mem_append_right _ List.mem_cons_self)
        have := h1.uniq f
        subst this
        exact ⟨_, f0, by omega⟩
      · exact Ech.before e f x hx
structure Low (m : Nat) (ss ms : List (List Int)) : Prop where
  len : ∀ x ∈ ms, x.length = m
  cnt : ms.length = ss.length
  ech : Ech 0 (ms.map co)
  l1 : ∀ x ∈ ms, Lat (ss.map co) (co x)
  l2 : ∀ x ∈ ss, Lat (ms.map co) (co x)
  pos : ∀ x ∈ ms, ∀ q, Fp (co x) q → 0 < co x q
  red : ms.Pairwise fun x y => ∀ q, Fp (co y) q → 0 ≤ co x q ∧ co x q < co y q
  pl : ∀ x ∈ ms, ∀ p, Fp (co x) p → ∃ s ∈ ss, Fp (co s) p
theorem Low.nil (m : Nat) : Low m [] [] := ⟨fun _ h => absurd h List.not_mem_nil, rfl, .nil, fun _ h => absurd h List.not_mem_nil, fun _ h => absurd h List.not_mem_nil, fun _ h => absurd h List.not_mem_nil, .nil, fun _ h => absurd h List.not_mem_nil⟩
structure IsStep (r s : List Int) (q : Nat) : Prop where
  len : s.length = r.length
  fp : Fp (co s) q
  pos : 0 < co s q
  l1 : Lat [co r] (co s)
  l2 : Lat [co s] (co r)
  abs : ∀ i, (co s i).natAbs = (co r i).natAbs
theorem Low.snoc {m : Nat} {ss ms : List (List Int)} {r s : List Int} {q : Nat} (L : Low m ss ms) (hr : r.length = m) (I : IsStep r s q) (f : Fp (co r) q) (hp : ∀ s ∈ ss, ∃ p, Fp (co s) p ∧ p < q) :
    Low m (ss ++ [r]) (ms.map (fun x => lessL x s q) ++ [s]) := by
  have ls : s.length = m := I.len.trans hr
  have before : ∀ x ∈ ms, ∀ i < q, co (lessL x s q) i = co x i := fun x hx i hi => by
    rw [co_less ((L.len x hx).trans ls.symm), I.fp.zs i hi]; simp
  have place : ∀ x ∈ ms, ∃ p, Fp (co x) p ∧ p < q := fun x hx => by
    obtain ⟨p, h1, _⟩ := L.ech.has (co x) (List.mem_map_of_mem hx)
    obtain ⟨t, ht, h2⟩ := L.pl x hx p h1
    obtain ⟨p', h3, h4⟩ := hp t ht
    have := h2.uniq h3
    subst this
    exact ⟨p, h1, h4⟩
  have keep : ∀ x ∈ ms, ∀ p, Fp (co x) p → Fp (co (lessL x s q)) p ∧ p < q := fun x hx p fx => by
    obtain ⟨p', h3, h4⟩ := place x hx
    have := fx.uniq h3
    subst this
    exact ⟨⟨by rw [before x hx p h4]; exact fx.nz, fun i hi => by rw [before x hx i (by omega)]; exact fx.zs i hi⟩, h4⟩
  have back : ∀ x ∈ ms, ∀ p, Fp (co (lessL x s q)) p → Fp (co x) p ∧ p < q := fun x hx p fx => by
    obtain ⟨p', h3, h4⟩ := place x hx
    obtain ⟨h5, _⟩ := keep x hx p' h3
    have := fx.uniq h5
    subst this
    exact ⟨h3, h4⟩
  refine ⟨?_, ?_, ?_, ?_, ?_, ?_, ?_, ?_⟩
  · intro y hy
    rcases List.mem_append.mp hy with h | h
    · obtain ⟨x, hx, rfl⟩ := List.mem_map.mp h
      rw [less_len ((L.len x hx).trans ls.symm)]; exact L.len x hx
    · rw [List.mem_singleton.mp h]; exact ls
  · rw [List.length_append, List.length_append, List.length_map, L.cnt]; rfl
  · rw [List.map_append, List.map_map]
    have e : Ech 0 (ms.map (co ∘ fun x => lessL x s q)) := by
      have aux : ∀ (n : Nat) (l : List (List Int)), Ech n (l.map co) → (∀ x ∈ l, x ∈ ms) → Ech n (l.map (co ∘ fun x => lessL x s q)) := by
        intro n l
        induction l generalizing n with
        | nil => intro _ _; exact .nil
        | cons x l ih =>
          intro h hm
          cases h with
          | cons f0 l0 e0 => exact .cons (keep x (hm x List.mem_cons_self) _ f0).1 l0 (ih _ e0 fun y hy => hm y (List.mem_cons_of_mem _ hy))
      exact aux 0 ms L.ech fun _ h => h
    refine e.snoc (fun x hx => ?_) I.fp (Nat.zero_le _)
    obtain ⟨y, hy, rfl⟩ := List.mem_map.mp hx
    obtain ⟨p, h1, _⟩ := place y hy
    exact ⟨p, (keep y hy p h1).1, (keep y hy p h1).2⟩
  · intro y hy
    have up : ∀ {x : Vc}, Lat (ss.map co) x → Lat ((ss ++ [r]).map co) x := fun h => h.sub_of fun g hg => by rw [List.map_append]; exact List.mem_append_left _ hg
    have us : Lat ((ss ++ [r]).map co) (co s) := I.l1.sub_of fun g hg => by rw [List.map_append]; exact List.mem_append_right _ hg
    rcases List.mem_append.mp hy with h | h
    · obtain ⟨x, hx, rfl⟩ := List.mem_map.mp h
      have z := (up (L.l1 x hx)).sub ((co x q).fdiv (co s q)) us
      have e : (fun i => co x i - co s i * (co x q).fdiv (co s q)) = co (lessL x s q) := funext fun i => (co_less ((L.len x hx).trans ls.symm) q i).symm
      rwa [e] at z
    · rw [List.mem_singleton.mp h]; exact us
  · intro y hy
    have us : Lat ((ms.map (fun x => lessL x s q) ++ [s]).map co) (co s) := .of (by rw [List.map_append]; exact List.mem_append_right _ List.mem_cons_self)
    have um : ∀ x ∈ ms, Lat ((ms.map (fun x => lessL x s q) ++ [s]).map co) (co x) := fun x hx => by
      have z : Lat ((ms.map (fun x => lessL x s q) ++ [s]).map co) (co (lessL x s q)) := .of (by rw [List.map_append]; exact List.mem_append_left _ (List.mem_map_of_mem (List.mem_map_of_mem hx)))
      have z2 := z.sub (-((co x q).fdiv (co s q))) us
      have e : (fun i => co (lessL x s q) i - co s i * (-((co x q).fdiv (co s q)))) = co x := funext fun i => by rw [co_less ((L.len x hx).trans ls.symm) q i, Int.mul_neg]; omega
      rwa [e] at z2
    rcases List.mem_append.mp hy with h | h
    · exact (L.l2 y h).mono fun g hg => by
        obtain ⟨x, hx, rfl⟩ := List.mem_map.mp hg
        exact um x hx
    · rw [List.mem_singleton.mp h]
      exact I.l2.mono fun g hg => by rw [List.mem_singleton.mp hg]; exact us
  · intro y hy p fy
    rcases List.mem_append.mp hy with h | h
    · obtain ⟨x, hx, rfl⟩ := List.mem_map.mp h
      obtain ⟨h1, h2⟩ := back x hx p fy
      rw [before x hx p h2]
      exact L.pos x hx p h1
    · rw [List.mem_singleton.mp h] at fy ⊢
      have := fy.uniq I.fp
      subst this
      exact I.pos
  · refine List.pairwise_append.mpr ⟨?_, List.pairwise_singleton _ _, fun y hy z hz => ?_⟩
    · refine List.pairwise_map.mpr (L.red.imp_of_mem fun {x y} hx hy h p fy => ?_)
      obtain ⟨h1, h2⟩ := back y hy p fy
      rw [before x hx p h2, before y hy p h2]
      exact h p h1
    · rw [List.mem_singleton.mp hz]
      intro p fs
      have := fs.uniq I.fp
      subst this
      obtain ⟨x, hx, rfl⟩ := List.mem_map.mp hy
      rw [co_less ((L.len x hx).trans ls.symm)]
      obtain ⟨k, e1, e2⟩ := fd (a := co x p) (b := co s p) (by have := I.pos; omega)
      have := I.pos
      omega
  · intro y hy p fy
    rcases List.mem_append.mp hy with h | h
    · obtain ⟨x, hx, rfl⟩ := List.mem_map.mp h
      obtain ⟨h1, _⟩ := back x hx p fy
      obtain ⟨t, ht, h2⟩ := L.pl x hx p h1
      exact ⟨t, List.mem_append_left _ ht, h2⟩
    · rw [List.mem_singleton.mp h] at fy
      have := fy.uniq I.fp
      subst this
      exact ⟨r, List.mem_append_right _ List.mem_cons_self, f⟩
end El
/-! A row put to steps. -/
namespace El
/-- the steps of G -/
structure Hnf (m : Nat) (G ms : List (List Int)) : Prop where
  len : ∀ x ∈ ms, x.length = m
  cnt : ms.length ≤ G.length
  ech : Ech 0 (ms.map co)
  l1 : ∀ x ∈ ms, Lat (G.map co) (co x)
  l2 : ∀ x ∈ G, Lat (ms.map co) (co x)
  pos : ∀ x ∈ ms, ∀ q, Fp (co x) q → 0 < co x q
  red : ms.Pairwise fun x y => ∀ q, Fp (co y) q → 0 ≤ co x q ∧ co x q < co y q
/-- few small rows -/
structure Few (m : Nat) (G : List (List Int)) : Prop where
  cnt : G.length ≤ 8
  len : ∀ g ∈ G, g.length = m
  sm : ∀ g ∈ G, ∀ i, (co g i).natAbs ≤ 30
theorem Few.gens {m : Nat} {G : List (List Int)} (F : Few m G) : ∀ g ∈ G.map co, (∀ i, m ≤ i → g i = 0) ∧ ∀ i, (g i).natAbs ≤ 30 := fun g hg => by
  obtain ⟨x, hx, rfl⟩ := List.mem_map.mp hg
  exact ⟨fun i hi => co_out (by rw [F.len x hx]; exact hi), F.sm x hx⟩
theorem wb8 : Wb 8 30 (Fb 8 30) < 2 ^ 3200 := by decide +kernel
theorem pivots {m : Nat} {G ss : List (List Int)} (F : Few m G) (e : Ech 0 (ss.map co)) (l1 : ∀ x ∈ ss, Lat (G.map co) (co x)) (l2 : ∀ x ∈ G, Lat (ss.map co) (co x)) {x : List Int} {q : Nat} (hx : x ∈ ss) (f : Fp (co x) q) : (co x q).natAbs ≤ Fb 8 30 :=
  pivot_small (m := m) (by rw [List.length_map]; exact F.cnt) F.gens e (fun s hs => by obtain ⟨y, hy, rfl⟩ := List.mem_map.mp hs; exact l1 y hy) (fun g hg => by obtain ⟨y, hy, rfl⟩ := List.mem_map.mp hg; exact l2 y hy) (List.mem_map_of_mem hx) f
theorem Hnf.small {m : Nat} {G ms : List (List Int)} (h : Hnf m G ms) (F : Few m G) : ∀ x ∈ ms, Sm 3200 x := fun x hx i => by
  refine Nat.lt_of_le_of_lt (part_small (G := G.map co) (made := ms.map co) (m := m) (n := 8) (B := 30) (P := Fb 8 30) (by rw [List.length_map]; exact F.cnt) F.gens h.ech (fun g hg => by obtain ⟨y, hy, rfl⟩ := List.mem_map.mp hg; exact h.l2 y hy) (h.l1 x hx) (fun s hs q f => ?_) i) wb8
  obtain ⟨y, hy, rfl⟩ := List.mem_map.mp hs
  have py := pivots F h.ech h.l1 h.l2 hy f
  obtain ⟨a, ha, rfl⟩ := List.mem_iff_getElem.mp hx
  obtain ⟨b, hb, rfl⟩ := List.mem_iff_getElem.mp hy
  rcases Nat.lt_trichotomy a b with l | e | l
  · have := List.pairwise_iff_getElem.mp h.red a b ha hb l q f
    omega
  · subst e
    exact py
  · obtain ⟨p, fp, _⟩ := h.ech.has (co ms[a]) (List.mem_map_of_mem (List.getElem_mem ha))
    have ed : ms.map co = (ms.take a).map co ++ co ms[a] :: (ms.drop (a + 1)).map co := by
      rw [← List.map_cons, ← List.drop_eq_getElem_cons ha, ← List.map_append, List.take_append_drop]
    have e2 := h.ech
    rw [ed] at e2
    obtain ⟨p', f', l'⟩ := e2.before fp (co ms[b]) (List.mem_map_of_mem (List.mem_iff_getElem.mpr ⟨b, by rw [List.length_take]; omega, by rw [List.getElem_take]⟩))
    have := f.uniq f'
    subst this
    rw [fp.zs q l']
    exact Nat.zero_le _
/-- while a row is put to steps -/
structure Put (m : Nat) (T : List Vc) (some : List (List Int)) (left : List Int) (post : List (List Int)) (N : Nat) : Prop where
  len : ∀ x ∈ some, x.length = m
  ll : left.length = m
  ech : Ech 0 (some.map co)
  bel : ∀ x ∈ some, ∃ p, Fp (co x) p ∧ p < N
  lz : ∀ i < N, co left i = 0
  pe : Ech N (post.map co)
  l1 : ∀ x ∈ some ++ left :: post, Lat T (co x)
  l2 : ∀ t ∈ T, Lat ((some ++ left :: post).map co) t
theorem Put.next {m P : Nat} {T : List Vc} {some post : List (List Int)} {left step u l : List Int} {N q : Nat} (h : Put m T some left (step :: post) N) (hst : step.length = m) (hu : u.length = m) (hl : l.length = m) (fq : Fp (co step) q) {p : Nat} (hp : p = if fpL left < q then fpL left else q)
    (eu : Eu P p (co step) (co left) (co u) (co l)) (l0 : co l p = 0) : Put m T (some ++ [u]) l post (p + 1) := by
  have pe := h.pe
  rw [List.map_cons] at pe
  obtain ⟨qn, pe2⟩ : N ≤ q ∧ Ech (q + 1) (post.map co) := by
    cases pe with
    | cons f0 l0 e0 =>
      have := f0.uniq fq
      subst this
      exact ⟨l0, e0⟩
  have qm : q < m := by have := (fpL_of fq).2; omega
  have hpq : p ≤ q := by rw [hp]; split <;> omega
  have sz : ∀ i < p, co step i = 0 := fun i hi => fq.zs i (by omega)
  have lz : ∀ i < p, co left i = 0 := fun i hi => fpL_zero left i (by rw [hp] at hi; split at hi <;> omega)
  have lnz : fpL left < q → co left (fpL left) ≠ 0 := fun c => fpL_nz left (by have := h.ll; omega)
  have Np : N ≤ p := by
    by_cases c : fpL left < q
    · rw [if_pos c] at hp
      rcases Nat.lt_or_ge p N with l2 | l2
      · rw [hp] at l2
        exact absurd (h.lz _ l2) (lnz c)
      · exact l2
    · rw [if_neg c] at hp
      omega
  obtain ⟨u1, v1, u2, v2, M, _⟩ := eu.mix
  have uz : ∀ i < p, co u i = 0 := fun i hi => by rw [M.s i, sz i hi, lz i hi]; simp
  have l0' : ∀ i < p + 1, co l i = 0 := fun i hi => by
    rcases Nat.lt_or_eq_of_le (Nat.le_of_lt_succ hi) with z | z
    · rw [M.r i, sz i z, lz i z]; simp
    · rw [z]; exact l0
  have unz : co u p ≠ 0 := fun z => by
    have zz : ∀ g ∈ [co u, co l], g p = 0 := fun g hg => by
      rcases List.mem_cons.mp hg with e | e
      · rw [e]; exact z
      · rw [List.mem_singleton.mp e]; exact l0
    have z1 := eu.l1.zeros zz
    have z2 := eu.l2.zeros zz
    by_cases c : fpL left < q
    · rw [if_pos c] at hp
      rw [hp] at z2
      exact lnz c z2
    · rw [if_neg c] at hp
      rw [hp] at z1
      exact fq.nz z1
  have fu : Fp (co u) p := ⟨unz, uz⟩
  have two : ∀ {G : List Vc}, Lat G (co step) → Lat G (co left) → Lat G (co u) ∧ Lat G (co l) := fun {G} h1 h2 => by
    have up : ∀ g ∈ [co step, co left], Lat G g := fun g hg => by
      rcases List.mem_cons.mp hg with e | e
      · rw [e]; exact h1
      · rw [List.mem_singleton.mp e]; exact h2
    exact ⟨eu.l3.mono up, eu.l4.mono up⟩
  have hs : Lat T (co step) := h.l1 step (List.mem_append_right _ (List.mem_cons_of_mem _ List.mem_cons_self))
  have hle : Lat T (co left) := h.l1 left (List.mem_append_right _ List.mem_cons_self)
  refine ⟨?_, hl, ?_, ?_, l0', pe2.down (by omega), ?_, ?_⟩
  · intro x hx
    rcases List.mem_append.mp hx with z | z
    · exact h.len x z
    · rw [List.mem_singleton.mp z]; exact hu
  · rw [List.map_append]
    refine h.ech.snoc (fun x hx => ?_) fu (Nat.zero_le _)
    obtain ⟨y, hy, rfl⟩ := List.mem_map.mp hx
    obtain ⟨p', f', l'⟩ := h.bel y hy
    exact ⟨p', f', by omega⟩
  · intro x hx
    rcases List.mem_append.mp hx with z | z
    · obtain ⟨p', f', l'⟩ := h.bel x z
      exact ⟨p', f', by omega⟩
    · rw [List.mem_singleton.mp z]; exact ⟨p, fu, Nat.lt_succ_self _⟩
  · intro x hx
    rcases List.mem_append.mp hx with z | z
    · rcases List.mem_append.mp z with z | z
      · exact h.l1 x (List.mem_append_left _ z)
      · rw [List.mem_singleton.mp z]; exact (two hs hle).1
    · rcases List.mem_cons.mp z with z | z
      · rw [z]; exact (two hs hle).2
      · exact h.l1 x (List.mem_append_right _ (List.mem_cons_of_mem _ (List.mem_cons_of_mem _ z)))
  · intro t ht
    refine (h.l2 t ht).mono fun g hg => ?_
    have inA : ∀ x ∈ some ++ [u] ++ l :: post, Lat ((some ++ [u] ++ l :: post).map co) (co x) := fun x hx => .of (List.mem_map_of_mem hx)
    have iu := inA u (List.mem_append_left _ (List.mem_append_right _ List.mem_cons_self))
    have il := inA l (List.mem_append_right _ List.mem_cons_self)
    have ul : ∀ g ∈ [co u, co l], Lat ((some ++ [u] ++ l :: post).map co) g := fun g hg => by
      rcases List.mem_cons.mp hg with e | e
      · rw [e]; exact iu
      · rw [List.mem_singleton.mp e]; exact il
    obtain ⟨x, hx, rfl⟩ := List.mem_map.mp hg
    rcases List.mem_append.mp hx with z | z
    · exact inA x (List.mem_append_left _ (List.mem_append_left _ z))
    · rcases List.mem_cons.mp z with z | z
      · rw [z]; exact eu.l2.mono ul
      · rcases List.mem_cons.mp z with z | z
        · rw [z]; exact eu.l1.mono ul
        · exact inA x (List.mem_append_right _ (List.mem_cons_of_mem _ z))
theorem Put.start {m : Nat} {G made : List (List Int)} {row : List Int} (h : Hnf m G made) (hr : row.length = m) : Put m ((G ++ [row]).map co) [] row made 0 := by
  refine ⟨fun _ h => absurd h List.not_mem_nil, hr, .nil, fun _ h => absurd h List.not_mem_nil, fun i h => absurd h (Nat.not_lt_zero _), h.ech, fun x hx => ?_, fun t ht => ?_⟩
  · rw [List.nil_append] at hx
    rcases List.mem_cons.mp hx with z | z
    · rw [z]; exact .of (List.mem_map_of_mem (List.mem_append_right _ List.mem_cons_self))
    · exact (h.l1 x z).sub_of fun g hg => by rw [List.map_append]; exact List.mem_append_left _ hg
  · obtain ⟨x, hx, rfl⟩ := List.mem_map.mp ht
    rw [List.nil_append]
    rcases List.mem_append.mp hx with z | z
    · exact (h.l2 x z).sub_of fun g hg => by rw [List.map_cons]; exact List.mem_cons_of_mem _ hg
    · rw [List.mem_singleton.mp z]; exact .of (by rw [List.map_cons]; exact List.mem_cons_self)
/-- the rows that are brought low in the end -/
structure Ready (m : Nat) (G ss : List (List Int)) : Prop where
  len : ∀ x ∈ ss, x.length = m
  ech : Ech 0 (ss.map co)
  l1 : ∀ x ∈ ss, Lat (G.map co) (co x)
  l2 : ∀ g ∈ G, Lat (ss.map co) (co g)
theorem Put.done {m : Nat} {G some : List (List Int)} {left : List Int} {N : Nat} (h : Put m (G.map co) some left [] N) : (fpL left < m → Ready m G (some ++ [left])) ∧ (¬ fpL left < m → Ready m G some) := by
  have hll := h.ll
  constructor
  · intro c
    have f := fpL_fp (xs := left) (by omega)
    have Nf : N ≤ fpL left := by
      rcases Nat.lt_or_ge (fpL left) N with z | z
      · exact absurd (h.lz _ z) f.nz
      · exact z
    refine ⟨fun x hx => ?_, ?_, fun x hx => h.l1 x hx, fun g hg => h.l2 _ (List.mem_map_of_mem hg)⟩
    · rcases List.mem_append.mp hx with z | z
      · exact h.len x z
      · rw [List.mem_singleton.mp z]; exact hll
    · rw [List.map_append]
      refine h.ech.snoc (fun x hx => ?_) f (Nat.zero_le _)
      obtain ⟨y, hy, rfl⟩ := List.mem_map.mp hx
      obtain ⟨p', f', l'⟩ := h.bel y hy
      exact ⟨p', f', by omega⟩
  · intro c
    have z := fpL_all (xs := left) (by omega)
    refine ⟨h.len, h.ech, fun x hx => h.l1 x (List.mem_append_left _ hx), fun g hg => (h.l2 _ (List.mem_map_of_mem hg)).mono fun y hy => ?_⟩
    obtain ⟨x, hx, rfl⟩ := List.mem_map.mp hy
    rcases List.mem_append.mp hx with w | w
    · exact .of (List.mem_map_of_mem w)
    · rw [List.mem_singleton.mp w]
      have e : co left = fun _ => 0 := funext z
      rw [e]; exact .zero
theorem Ready.low {m : Nat} {G ss ms : List (List Int)} (h : Ready m G ss) (hc : ss.length ≤ G.length) (L : Low m ss ms) : Hnf m G ms :=
  ⟨L.len, by rw [L.cnt]; exact hc, L.ech, fun x hx => (L.l1 x hx).mono fun g hg => by obtain ⟨y, hy, rfl⟩ := List.mem_map.mp hg; exact h.l1 y hy, fun x hx => (h.l2 x hx).mono fun g hg => by obtain ⟨y, hy, rfl⟩ := List.mem_map.mp hg; exact L.l2 y hy, L.pos, L.red⟩
theorem Hnf.nil (m : Nat) : Hnf m [] [] := ⟨fun _ h => absurd h List.not_mem_nil, Nat.le_refl _, .nil, fun _ h => absurd h List.not_mem_nil, fun _ h => absurd h List.not_mem_nil, fun _ h => absurd h List.not_mem_nil, .nil⟩
end El
/-! What a row leaves; multipliers. -/
namespace El
/-- what is left of row by the steps -/
structure Rest (m : Nat) (ms : List (List Int)) (row l : List Int) : Prop where
  len : l.length = m
  dif : Lat (ms.map co) (fun i => co row i - co l i)
  red : ∀ s ∈ ms, ∀ q, Fp (co s) q → 0 ≤ co l q ∧ co l q < co s q
theorem Rest.start {m : Nat} {row : List Int} (h : row.length = m) : Rest m [] row row :=
  ⟨h, by have e : (fun i => co row i - co row i) = fun _ => (0 : Int) := funext fun i => by omega
         rw [e]; exact .zero, fun _ h => absurd h List.not_mem_nil⟩
theorem Rest.snoc {m : Nat} {ms : List (List Int)} {row l s : List Int} {q : Nat} (h : Rest m ms row l) (hs : s.length = m) (f : Fp (co s) q) (hp : 0 < co s q) (hb : ∀ x ∈ ms, ∃ p, Fp (co x) p ∧ p < q) : Rest m (ms ++ [s]) row (lessL l s q) := by
  have ll : l.length = s.length := h.len.trans hs.symm
  refine ⟨by rw [less_len ll]; exact h.len, ?_, fun x hx p fx => ?_⟩
  · have z1 : Lat ((ms ++ [s]).map co) (fun i => co row i - co l i) := h.dif.sub_of fun g hg => by rw [List.map_append]; exact List.mem_append_left _ hg
    have z2 : Lat ((ms ++ [s]).map co) (co s) := .of (by rw [List.map_append]; exact List.mem_append_right _ List.mem_cons_self)
    have z := z1.sub (-((co l q).fdiv (co s q))) z2
    have e : (fun i => co row i - co l i - co s i * (-((co l q).fdiv (co s q)))) = fun i => co row i - co (lessL l s q) i := funext fun i => by rw [co_less ll, Int.mul_neg]; omega
    rwa [e] at z
  · rcases List.mem_append.mp hx with w | w
    · obtain ⟨p', f', l'⟩ := hb x w
      have := fx.uniq f'
      subst this
      rw [co_less ll, f.zs p l']
      have := h.red x w p fx
      simpa using this
    · rw [List.mem_singleton.mp w] at fx ⊢
      have := fx.uniq f
      subst this
      rw [co_less ll]
      obtain ⟨k, e1, e2⟩ := fd (a := co l p) (b := co s p) (by omega)
      omega
theorem Rest.nought {m : Nat} {G ms : List (List Int)} {row l : List Int} (H : Hnf m G ms) (h : Rest m ms row l) : (∀ i, co l i = 0) ↔ Lat (G.map co) (co row) := by
  have up : ∀ {x : Vc}, Lat (ms.map co) x → Lat (G.map co) x := fun hx => hx.mono fun g hg => by obtain ⟨y, hy, rfl⟩ := List.mem_map.mp hg; exact H.l1 y hy
  have dn : ∀ {x : Vc}, Lat (G.map co) x → Lat (ms.map co) x := fun hx => hx.mono fun g hg => by obtain ⟨y, hy, rfl⟩ := List.mem_map.mp hg; exact H.l2 y hy
  constructor
  · intro z
    have e : (fun i => co row i - co l i) = co row := funext fun i => by rw [z i]; omega
    have d := h.dif
    rw [e] at d
    exact up d
  · intro hr i
    have hl : Lat (ms.map co) (co l) := by
      have z := (dn hr).sub 1 h.dif
      have e : (fun i => co row i - (co row i - co l i) * 1) = co l := funext fun i => by omega
      rwa [e] at z
    by_cases c : fpL l < l.length
    · exfalso
      have f := fpL_fp c
      obtain ⟨s, hs, fs, dv⟩ := H.ech.fp hl f
      obtain ⟨y, hy, rfl⟩ := List.mem_map.mp hs
      have r := h.red y hy _ fs
      obtain ⟨k, hk⟩ := dv
      have pos := H.pos y hy _ fs
      have nz := f.nz
      have : co l (fpL l) = 0 := by
        have k0 : ¬ 1 ≤ k := fun l1 => by
          have : co y (fpL l) * 1 ≤ co y (fpL l) * k := Int.mul_le_mul_of_nonneg_left l1 (by omega)
          omega
        have k1 : ¬ k ≤ -1 := fun l1 => by
          have : co y (fpL l) * k ≤ co y (fpL l) * (-1) := Int.mul_le_mul_of_nonneg_left l1 (by omega)
          omega
        have : k = 0 := by omega
        rw [hk, this]; simp
      exact nz this
    · exact fpL_all c i
/-! ### multipliers -/
end El
/-! The multipliers that the units tell. -/
namespace El
end El
/-! Rows among which are rows of one number: what steps of them can be. -/
namespace El
/-- small steps of mixtures of G, and how great all parts are if those where steps begin are small -/
def Sml (j : Nat) (G : List Vc) (F : Nat) (W : Nat → Nat) : Prop :=
  ∃ E, Ech j E ∧ (∀ e ∈ E, Lat G e ∧ ∀ i, (e i).natAbs ≤ F) ∧ (∀ x, Lat G x → ∃ D : Int, D ≠ 0 ∧ Lat E (fun i => D * x i)) ∧
      ∀ (x : Vc) (P : Nat), (∃ D : Int, D ≠ 0 ∧ Lat G (fun i => D * x i)) → (∀ q, (∃ e ∈ E, Fp e q) → (x q).natAbs ≤ P) → ∀ i, (x i).natAbs ≤ W P
theorem Sml.small {d j n B : Nat} {G : List Vc} (hl : G.length ≤ n) (hG : ∀ g ∈ G, (∀ i < j, g i = 0) ∧ (∀ i, j + d ≤ i → g i = 0) ∧ ∀ i, (g i).natAbs ≤ B) : Sml j G (Fb n B) (Wb n B) := El.small d j n B G hl hG
theorem Sml.cons {j F B : Nat} {W : Nat → Nat} {R : List Vc} {a : Vc} (h : Sml (j + 1) R F W) (hR : ∀ g ∈ R, ∀ i < j + 1, g i = 0) (fa : Fp a j) (ba : ∀ i, (a i).natAbs ≤ B) (hB : B ≤ F) : Sml j (a :: R) F (fun P => W (2 * (B * P)) + P * B) := by
  obtain ⟨E, e1, e2, e3, e4⟩ := h
  have up : ∀ {x : Vc}, Lat R x → Lat (a :: R) x := fun h => h.sub_of fun g hg => List.mem_cons_of_mem _ hg
  have z0 : ∀ x, Lat R x → x j = 0 := fun x hx => hx.zeros fun g hg => hR g hg j (Nat.lt_succ_self _)
  refine ⟨a :: E, .cons fa (Nat.le_refl _) e1, fun e he => ?_, fun x hx => ?_, fun x P ⟨D, hD, hx⟩ hP i => ?_⟩
  · rcases List.mem_cons.mp he with rfl | he
    · exact ⟨.of List.mem_cons_self, fun i => Nat.le_trans (ba i) hB⟩
    · exact ⟨up (e2 e he).1, (e2 e he).2⟩
  · obtain ⟨k, y, hy, rfl⟩ := hx.head
    obtain ⟨D, hD, hy2⟩ := e3 y hy
    refine ⟨D, hD, ?_⟩
    have z := (Lat.mul (D * k) (Lat.of (List.mem_cons_self (a := a) (l := E)))).sum (hy2.sub_of fun e he => List.mem_cons_of_mem a he)
    have e : (fun i => D * k * a i + D * y i) = fun i => D * (k * a i + y i) := funext fun i => by rw [Int.mul_add, Int.mul_assoc]
    rwa [e] at z
  · obtain ⟨k, y, hy, e⟩ := hx.head
    have ek : D * x j = k * a j := by
      have z : D * x j = k * a j + y j := congrFun e j
      rw [z0 y hy, Int.add_zero] at z
      exact z
    have ey : (fun i => D * (a j * x i - x j * a i)) = fun i => a j * y i := funext fun i => by
      have z : D * x i = k * a i + y i := congrFun e i
      rw [Int.mul_sub, Int.mul_left_comm D (a j), z, ← Int.mul_assoc D, ek, Int.mul_add, Int.mul_assoc k, Int.mul_left_comm (a j) k]; omega
    have px : (x j).natAbs ≤ P := hP j ⟨a, List.mem_cons_self, fa⟩
    have bound : ∀ (a b : Int) (u v : Nat), a.natAbs ≤ u → b.natAbs ≤ v → (a * b).natAbs ≤ u * v := fun a b u v h1 h2 => by rw [Int.natAbs_mul]; exact Nat.mul_le_mul h1 h2
    have yi := e4 (fun i => a j * x i - x j * a i) (2 * (B * P)) ⟨D, hD, by rw [ey]; exact hy.mul _⟩ (fun q ⟨e, he, f⟩ => by
      have b1 := bound (a j) (x q) B P (ba j) (hP q ⟨e, List.mem_cons_of_mem _ he, f⟩)
      have b2 := bound (x j) (a q) P B px (ba q)
      rw [Nat.mul_comm P B] at b2
      show (a j * x q - x j * a q).natAbs ≤ _
      omega) i
    have b2 := bound (x j) (a i) P B px (ba i)
    have b3 : (x i).natAbs ≤ (a j * x i).natAbs := by
      rw [Int.natAbs_mul]
      exact Nat.le_mul_of_pos_left _ (Int.natAbs_pos.mpr fa.nz)
    have yi' : (a j * x i - x j * a i).natAbs ≤ W (2 * (B * P)) := yi
    show (x i).natAbs ≤ W (2 * (B * P)) + P * B
    omega
def Wc (B : Nat) (W : Nat → Nat) : Nat → Nat → Nat
  | 0, P => W P
  | n + 1, P => Wc B W n (2 * (B * P)) + P * B
/-- rows whose steps are small -/
structure Tame (G : List (List Int)) : Prop where
  pv : ∀ ss : List (List Int), Ech 0 (ss.map co) → (∀ x ∈ ss, Lat (G.map co) (co x)) → (∀ x ∈ G, Lat (ss.map co) (co x)) → ∀ x ∈ ss, ∀ q, Fp (co x) q → (co x q).natAbs ≤ 2 ^ 1536
  pt : ∀ ss : List (List Int), Ech 0 (ss.map co) → (∀ x ∈ G, Lat (ss.map co) (co x)) → ∀ x : List Int, Lat (G.map co) (co x) → (∀ s ∈ ss, ∀ q, Fp (co s) q → (co x q).natAbs ≤ 2 ^ 1536) → ∀ i, (co x i).natAbs < 2 ^ 3200
theorem Tame.of {G : List (List Int)} {H : List Vc} {F : Nat} {W : Nat → Nat} (s : Sml 0 H F W) {D : Int} (hD : D ≠ 0) (h1 : ∀ g ∈ H, Lat (G.map co) g) (h2 : ∀ g ∈ G, Lat H (fun i => D * co g i)) (hF : F ≤ 2 ^ 1536) (hW : W (2 ^ 1536) < 2 ^ 3200) : Tame G := by
  obtain ⟨E, e1, e2, e3, e4⟩ := s
  have all : ∀ x, Lat (G.map co) x → Lat H (fun i => D * x i) := fun x hx => by
    induction hx with
    | zero => rw [show (fun i => D * (fun _ : Nat => (0 : Int)) i) = (fun _ : Nat => (0 : Int)) from funext fun i => by simp]; exact .zero
    | @add y g k _ hg ih =>
      obtain ⟨g', hg', rfl⟩ := List.mem_map.mp hg
      have z := ih.sum ((h2 g' hg').mul k)
      have e : (fun i => D * y i + k * (D * co g' i)) = fun i => D * (y i + k * co g' i) := funext fun i => by rw [Int.mul_add, Int.mul_left_comm k D]
      rwa [e] at z
  have down : ∀ {ss : List (List Int)}, (∀ x ∈ G, Lat (ss.map co) (co x)) → ∀ g ∈ G.map co, Lat (ss.map co) g := fun h g hg => by
    obtain ⟨y, hy, rfl⟩ := List.mem_map.mp hg
    exact h y hy
  refine ⟨fun ss em l1 l2 x hx q f => ?_, fun ss em l2 x hx hP i => ?_⟩
  · obtain ⟨D2, hD2, hz⟩ := e3 _ (all _ (l1 x hx))
    have fz : Fp (fun i => D2 * (D * co x i)) q := (f.mul hD).mul hD2
    obtain ⟨e, he, fe, _⟩ := e1.fp hz fz
    obtain ⟨t, ht, ft, dv⟩ := em.fp (((e2 e he).1.mono h1).mono (down l2)) fe
    have := em.one (List.mem_map_of_mem hx) ht f ft
    subst this
    exact Nat.le_trans (Nat.le_trans (Nat.le_of_dvd (Int.natAbs_pos.mpr fe.nz) (Int.natAbs_dvd_natAbs.mpr dv)) ((e2 e he).2 q)) hF
  · refine Nat.lt_of_le_of_lt (e4 (co x) (2 ^ 1536) ⟨D, hD, all _ hx⟩ (fun q ⟨e, he, f⟩ => ?_) i) hW
    obtain ⟨t, ht, ft, _⟩ := em.fp (((e2 e he).1.mono h1).mono (down l2)) f
    obtain ⟨s, hs, rfl⟩ := List.mem_map.mp ht
    exact hP s hs q ft
/-- rows that are put to steps one by one -/
structure Mild (m : Nat) (G : List (List Int)) : Prop where
  cnt : G.length ≤ 10
  len : ∀ g ∈ G, g.length = m
  sm : ∀ g ∈ G, ∀ i, (co g i).natAbs ≤ 1000
  tame : ∀ i, Tame (G.take i)
theorem Mild.all {m : Nat} {G : List (List Int)} (F : Mild m G) : Tame G := by
  have := F.tame G.length
  rwa [List.take_length] at this
theorem Mild.take {m : Nat} {G : List (List Int)} (F : Mild m G) (i : Nat) : Mild m (G.take i) :=
  ⟨by have := F.cnt; rw [List.length_take]; omega, fun g hg => F.len g (List.mem_of_mem_take hg), fun g hg => F.sm g (List.mem_of_mem_take hg), fun j => by rw [List.take_take]; exact F.tame _⟩
theorem Mild.head {m : Nat} {G : List (List Int)} {row : List Int} (F : Mild m (G ++ [row])) : Mild m G := by
  have := F.take G.length
  rwa [List.take_left] at this
end El
/-! The rows of a clock, and rows beside them. -/
namespace El
/-- a few small rows -/
structure Pair (m : Nat) (s : Nat) (G : List (List Int)) : Prop where
  hm : m ≤ 6
  s1 : 1 ≤ s
  s2 : s ≤ 700
  cnt : G.length ≤ 4
  len : ∀ g ∈ G, g.length = m
  sm : ∀ g ∈ G, ∀ i, (co g i).natAbs ≤ 30
theorem Sml.none (j : Nat) : Sml j [] (Fb 4 700) (Wb 4 700) := Sml.small (d := 0) (by decide) fun g hg => absurd hg List.not_mem_nil
theorem Pair.abs {m s : Nat} {G : List (List Int)} (p : Pair m s G) : ((s : Int)).natAbs ≤ 700 := by have := p.s2; omega
end El
/-! Steps by the least first part of a column. -/
namespace El
/-- in column c -/
structure Col (m c : Nat) (T : List Vc) (found some rest : List (List Int)) : Prop where
  len : ∀ x ∈ found ++ some ++ rest, x.length = m
  ech : Ech 0 (found.map co)
  bel : ∀ x ∈ found, ∃ p, Fp (co x) p ∧ p < c
  sf : ∀ x ∈ some, Fp (co x) c
  rz : ∀ x ∈ rest, ∀ i < c + 1, co x i = 0
  l1 : ∀ x ∈ found ++ some ++ rest, Lat T (co x)
  l2 : ∀ t ∈ T, Lat ((found ++ some ++ rest).map co) t
structure Upto (m c : Nat) (T : List Vc) (found rest : List (List Int)) : Prop where
  len : ∀ x ∈ found ++ rest, x.length = m
  ech : Ech 0 (found.map co)
  bel : ∀ x ∈ found, ∃ p, Fp (co x) p ∧ p < c
  rz : ∀ x ∈ rest, ∀ i < c, co x i = 0
  l1 : ∀ x ∈ found ++ rest, Lat T (co x)
  l2 : ∀ t ∈ T, Lat ((found ++ rest).map co) t
def nzB (c : Nat) (x : List Int) : Bool := decide (co x c ≠ 0)
theorem Upto.start {m : Nat} {G : List (List Int)} (h : ∀ g ∈ G, g.length = m) : Upto m 0 (G.map co) [] G :=
  ⟨h, .nil, fun _ h => absurd h List.not_mem_nil, fun _ _ i hi => absurd hi (Nat.not_lt_zero _), fun x hx => .of (List.mem_map_of_mem hx), fun t ht => .of ht⟩
theorem Upto.col {m c : Nat} {T : List Vc} {found rest : List (List Int)} (h : Upto m c T found rest) : Col m c T found (rest.filter (nzB c)) (rest.filter fun x => !nzB c x) := by
  have sub : ∀ x, x ∈ found ++ rest.filter (nzB c) ++ rest.filter (fun x => !nzB c x) → x ∈ found ++ rest := fun x hx => by
    rcases List.mem_append.mp hx with z | z
    · rcases List.mem_append.mp z with z | z
      · exact List.mem_append_left _ z
      · exact List.mem_append_right _ (List.mem_filter.mp z).1
    · exact List.mem_append_right _ (List.mem_filter.mp z).1
  have sup : ∀ x, x ∈ found ++ rest → x ∈ found ++ rest.filter (nzB c) ++ rest.filter (fun x => !nzB c x) := fun x hx => by
    rcases List.mem_append.mp hx with z | z
    · exact List.mem_append_left _ (List.mem_append_left _ z)
    · cases e : nzB c x with
      | true => exact List.mem_append_left _ (List.mem_append_right _ (List.mem_filter.mpr ⟨z, e⟩))
      | false => exact List.mem_append_right _ (List.mem_filter.mpr ⟨z, by rw [e]; rfl⟩)
  refine ⟨fun x hx => h.len x (sub x hx), h.ech, h.bel, fun x hx => ?_, fun x hx i hi => ?_, fun x hx => h.l1 x (sub x hx), fun t ht => (h.l2 t ht).sub_of fun g hg => ?_⟩
  · obtain ⟨a, b⟩ := List.mem_filter.mp hx
    exact ⟨of_decide_eq_true b, h.rz x a⟩
  · obtain ⟨a, b⟩ := List.mem_filter.mp hx
    rcases Nat.lt_or_eq_of_le (Nat.le_of_lt_succ hi) with z | z
    · exact h.rz x a i z
    · rw [z]
      unfold nzB at b
      simpa using b
  · obtain ⟨x, hx, rfl⟩ := List.mem_map.mp hg
    exact List.mem_map_of_mem (sup x hx)
theorem Col.done {m c : Nat} {T : List Vc} {found some rest : List (List Int)} (h : Col m c T found some rest) (h1 : some.length ≤ 1) : Upto m (c + 1) T (found ++ some) rest := by
  refine ⟨h.len, ?_, fun x hx => ?_, h.rz, h.l1, h.l2⟩
  · match some, h1, h.sf with
    | [], _, _ => rw [List.append_nil]; exact h.ech
    | [s], _, sf =>
      rw [List.map_append]
      refine h.ech.snoc (fun x hx => ?_) (sf s List.mem_cons_self) (Nat.zero_le _)
      obtain ⟨y, hy, rfl⟩ := List.mem_map.mp hx
      exact h.bel y hy
  · rcases List.mem_append.mp hx with z | z
    · obtain ⟨p, f, l⟩ := h.bel x z
      exact ⟨p, f, by omega⟩
    · exact ⟨c, h.sf x z, Nat.lt_succ_self _⟩
theorem Col.turn {m c : Nat} {T : List Vc} {found A B rest : List (List Int)} {lead : List Int} (h : Col m c T found (A ++ lead :: B) rest) :
    Col m c T found (lead :: ((A ++ B).map fun x => lessL x lead c).filter (nzB c)) (rest ++ ((A ++ B).map fun x => lessL x lead c).filter fun x => !nzB c x) := by
  have inS : ∀ x, x ∈ A ++ B → x ∈ A ++ lead :: B := fun x hx => by
    rcases List.mem_append.mp hx with z | z
    · exact List.mem_append_left _ z
    · exact List.mem_append_right _ (List.mem_cons_of_mem _ z)
  have lS : lead ∈ A ++ lead :: B := List.mem_append_right _ List.mem_cons_self
  have all : ∀ x ∈ A ++ lead :: B, x ∈ found ++ (A ++ lead :: B) ++ rest := fun x hx => List.mem_append_left _ (List.mem_append_right _ hx)
  have ll := h.len lead (all lead lS)
  have lL := h.l1 lead (all lead lS)
  have fl := h.sf lead lS
  have ln : ∀ x ∈ A ++ B, x.length = lead.length := fun x hx => (h.len x (all x (inS x hx))).trans ll.symm
  have ltr : ∀ y ∈ (A ++ B).map (fun x => lessL x lead c), y.length = m ∧ Lat T (co y) ∧ ∀ i < c, co y i = 0 := fun y hy => by
    obtain ⟨x, hx, rfl⟩ := List.mem_map.mp hy
    refine ⟨by rw [less_len (ln x hx)]; exact h.len x (all x (inS x hx)), ?_, fun i hi => by rw [co_less (ln x hx), (h.sf x (inS x hx)).zs i hi, fl.zs i hi]; simp⟩
    have z := (h.l1 x (all x (inS x hx))).sub ((co x c).fdiv (co lead c)) lL
    have e : (fun i => co x i - co lead i * (co x c).fdiv (co lead c)) = co (lessL x lead c) := funext fun i => (co_less (ln x hx) c i).symm
    rwa [e] at z
  have part : ∀ x, x ∈ found ++ (lead :: ((A ++ B).map fun x => lessL x lead c).filter (nzB c)) ++ (rest ++ ((A ++ B).map fun x => lessL x lead c).filter fun x => !nzB c x) → x ∈ found ++ (A ++ lead :: B) ++ rest ∨ x ∈ (A ++ B).map fun x => lessL x lead c := fun x hx => by
    rcases List.mem_append.mp hx with z | z
    · rcases List.mem_append.mp z with z | z
      · exact .inl (List.mem_append_left _ (List.mem_append_left _ z))
      · rcases List.mem_cons.mp z with z | z
        · rw [z]; exact .inl (all lead lS)
        · exact .inr (List.mem_filter.mp z).1
    · rcases List.mem_append.mp z with z | z
      · exact .inl (List.mem_append_right _ z)
      · exact .inr (List.mem_filter.mp z).1
  refine ⟨fun x hx => (part x hx).elim (h.len x) fun z => (ltr x z).1, h.ech, h.bel, fun x hx => ?_, fun x hx i hi => ?_, fun x hx => (part x hx).elim (h.l1 x) fun z => (ltr x z).2.1, fun t ht => (h.l2 t ht).mono fun g hg => ?_⟩
  · rcases List.mem_cons.mp hx with z | z
    · rw [z]; exact fl
    · obtain ⟨a, b⟩ := List.mem_filter.mp z
      exact ⟨of_decide_eq_true b, (ltr x a).2.2⟩
  · rcases List.mem_append.mp hx with z | z
    · exact h.rz x z i hi
    · obtain ⟨a, b⟩ := List.mem_filter.mp z
      rcases Nat.lt_or_eq_of_le (Nat.le_of_lt_succ hi) with w | w
      · exact (ltr x a).2.2 i w
      · rw [w]
        unfold nzB at b
        simpa using b
  · obtain ⟨x, hx, rfl⟩ := List.mem_map.mp hg
    have here : ∀ y, y ∈ found ++ (lead :: ((A ++ B).map fun x => lessL x lead c).filter (nzB c)) ++ (rest ++ ((A ++ B).map fun x => lessL x lead c).filter fun x => !nzB c x) →
        Lat ((found ++ (lead :: ((A ++ B).map fun x => lessL x lead c).filter (nzB c)) ++ (rest ++ ((A ++ B).map fun x => lessL x lead c).filter fun x => !nzB c x)).map co) (co y) := fun y hy => .of (List.mem_map_of_mem hy)
    have hlead := here lead (List.mem_append_left _ (List.mem_append_right _ List.mem_cons_self))
    have hlater : ∀ y ∈ (A ++ B).map (fun x => lessL x lead c), Lat ((found ++ (lead :: ((A ++ B).map fun x => lessL x lead c).filter (nzB c)) ++ (rest ++ ((A ++ B).map fun x => lessL x lead c).filter fun x => !nzB c x)).map co) (co y) := fun y hy => by
      cases e : nzB c y with
      | true => exact here y (List.mem_append_left _ (List.mem_append_right _ (List.mem_cons_of_mem _ (List.mem_filter.mpr ⟨hy, e⟩))))
      | false => exact here y (List.mem_append_right _ (List.mem_append_right _ (List.mem_filter.mpr ⟨hy, by rw [e]; rfl⟩)))
    have old : ∀ y ∈ A ++ B, Lat ((found ++ (lead :: ((A ++ B).map fun x => lessL x lead c).filter (nzB c)) ++ (rest ++ ((A ++ B).map fun x => lessL x lead c).filter fun x => !nzB c x)).map co) (co y) := fun y hy => by
      have z := (hlater _ (List.mem_map_of_mem hy)).sub (-((co y c).fdiv (co lead c))) hlead
      have e : (fun i => co (lessL y lead c) i - co lead i * (-((co y c).fdiv (co lead c)))) = co y := funext fun i => by rw [co_less (ln y hy), Int.mul_neg]; omega
      rwa [e] at z
    rcases List.mem_append.mp hx with z | z
    · rcases List.mem_append.mp z with z | z
      · exact here x (List.mem_append_left _ (List.mem_append_left _ z))
      · rcases List.mem_append.mp z with z | z
        · exact old x (List.mem_append_left _ z)
        · rcases List.mem_cons.mp z with z | z
          · rw [z]; exact hlead
          · exact old x (List.mem_append_right _ z)
    · exact here x (List.mem_append_right _ (List.mem_append_left _ z))
theorem Upto.all {m : Nat} {T : List Vc} {found rest : List (List Int)} (h : Upto m m T found rest) : ∀ t ∈ T, Lat (found.map co) t := fun t ht => (h.l2 t ht).mono fun g hg => by
  obtain ⟨x, hx, rfl⟩ := List.mem_map.mp hg
  rcases List.mem_append.mp hx with z | z
  · exact .of (List.mem_map_of_mem z)
  · have e : co x = fun _ => 0 := funext fun i => by
      rcases Nat.lt_or_ge i m with w | w
      · exact h.rz x z i w
      · exact co_out (by rw [h.len x hx]; exact w)
    rw [e]; exact .zero
/-! ### how great the parts can be -/
/-- ahead of the first turn: all at most M; later: what the turns keep -/
structure St1 (c Pi : Nat) (some : List (List Int)) : Prop where
  ex : ∃ N A, (∀ x ∈ some, ∀ i, (co x i).natAbs ≤ N) ∧ (∀ x ∈ some, (co x c).natAbs ≤ A) ∧ ((∀ x ∈ some, 0 < co x c) ∨ (∀ x ∈ some, co x c < 0)) ∧ ∃ y ∈ some, N * A * A * (co y c).natAbs ≤ Pi
theorem later_bound {x lead : List Int} {c N A : Nat} (hl : x.length = lead.length) (hN : ∀ i, (co x i).natAbs ≤ N) (hL : ∀ i, (co lead i).natAbs ≤ N) (hn : co lead c ≠ 0) (k : Nat) (hk : ((co x c).fdiv (co lead c)).natAbs ≤ k) (i : Nat) : (co (lessL x lead c) i).natAbs ≤ N + N * k := by
  rw [co_less hl]
  have h1 := Int.natAbs_sub_le (co x i) (co lead i * (co x c).fdiv (co lead c))
  rw [Int.natAbs_mul] at h1
  have h2 : (co lead i).natAbs * ((co x c).fdiv (co lead c)).natAbs ≤ N * k := Nat.mul_le_mul (hL i) hk
  have := hN i
  omega
/-- a turn of rows of one sign -/
theorem St1.turn {c Pi : Nat} {A0 B : List (List Int)} {lead : List Int} (h : St1 c Pi (A0 ++ lead :: B)) (hl : ∀ x ∈ A0 ++ B, x.length = lead.length) (hmin : ∀ x ∈ A0 ++ lead :: B, (co lead c).natAbs ≤ (co x c).natAbs) (hnz : co lead c ≠ 0) :
    (∀ y ∈ (A0 ++ B).map fun x => lessL x lead c, ∀ i, (co y i).natAbs ≤ 2 * Pi) ∧ (∀ i, (co lead i).natAbs ≤ 2 * Pi) ∧ (((A0 ++ B).map fun x => lessL x lead c).filter (nzB c) ≠ [] → St1 c Pi (lead :: ((A0 ++ B).map fun x => lessL x lead c).filter (nzB c))) := by
  obtain ⟨N, A, hN, hA, hs, y0, hy0, hPi⟩ := h.ex
  have inS : ∀ x, x ∈ A0 ++ B → x ∈ A0 ++ lead :: B := fun x hx => by
    rcases List.mem_append.mp hx with z | z
    · exact List.mem_append_left _ z
    · exact List.mem_append_right _ (List.mem_cons_of_mem _ z)
  have lS : lead ∈ A0 ++ lead :: B := List.mem_append_right _ List.mem_cons_self
  generalize hmu : (co lead c).natAbs = mu at hmin
  have mu1 : 1 ≤ mu := by omega
  have muA : mu ≤ A := by have := hA lead lS; omega
  have A1 : 1 ≤ A := by omega
  -- quotients
  have quo : ∀ x ∈ A0 ++ B, ∃ q : Nat, ((co x c).fdiv (co lead c)).natAbs = q ∧ 1 ≤ q ∧ q * mu + (co (lessL x lead c) c).natAbs = (co x c).natAbs ∧ (co (lessL x lead c) c).natAbs < mu ∧ (co (lessL x lead c) c = 0 ∨ ((0 < co lead c → 0 < co (lessL x lead c) c) ∧ (co lead c < 0 → co (lessL x lead c) c < 0))) := fun x hx => by
    have e := co_less (hl x hx) c c
    obtain ⟨r, e1, e2⟩ := fd (a := co x c) hnz
    have er : co (lessL x lead c) c = r := by omega
    rw [er]
    have mn := hmin x (inS x hx)
    refine ⟨_, rfl, ?_, ?_, by omega, by omega⟩
    · -- at least one goes
      rcases Nat.eq_zero_or_pos ((co x c).fdiv (co lead c)).natAbs with z | z
      · have z0 : (co x c).fdiv (co lead c) = 0 := by omega
        rw [z0, Int.mul_zero] at e1
        omega
      · exact z
    · have hx' : (0 < co lead c ∧ 0 < co x c) ∨ (co lead c < 0 ∧ co x c < 0) := hs.elim (fun p => .inl ⟨p lead lS, p x (inS x hx)⟩) fun p => .inr ⟨p lead lS, p x (inS x hx)⟩
      have q0 : 0 ≤ (co x c).fdiv (co lead c) := by
        rcases Int.lt_or_le ((co x c).fdiv (co lead c)) 0 with w | w
        · exfalso
          rcases hx' with ⟨p1, p2⟩ | ⟨p1, p2⟩
          · have : co lead c * (co x c).fdiv (co lead c) ≤ co lead c * (-1) := Int.mul_le_mul_of_nonneg_left (by omega) (by omega)
            omega
          · have : co lead c * (-1) ≤ co lead c * (co x c).fdiv (co lead c) := Int.mul_le_mul_of_nonpos_left (by omega) (by omega)
            omega
        · exact w
      have hq : ((co x c).fdiv (co lead c)).natAbs * mu = (co lead c * (co x c).fdiv (co lead c)).natAbs := by rw [Int.natAbs_mul, hmu, Nat.mul_comm]
      rw [hq]
      rcases hx' with ⟨p1, p2⟩ | ⟨p1, p2⟩
      · have : 0 ≤ co lead c * (co x c).fdiv (co lead c) := Int.mul_nonneg (by omega) q0
        omega
      · have : co lead c * (co x c).fdiv (co lead c) ≤ 0 := Int.mul_nonpos_of_nonpos_of_nonneg (by omega) q0
        omega
  have quoA : ∀ x ∈ A0 ++ B, ((co x c).fdiv (co lead c)).natAbs * mu ≤ A := fun x hx => by
    obtain ⟨q, e, _, h2, _⟩ := quo x hx
    rw [e]
    have := hA x (inS x hx)
    omega
  -- the greatest quotient
  have quoD : ∀ x ∈ A0 ++ B, ((co x c).fdiv (co lead c)).natAbs ≤ A / mu := fun x hx => (Nat.le_div_iff_mul_le (by omega)).mpr (quoA x hx)
  have big : ∀ y ∈ (A0 ++ B).map (fun x => lessL x lead c), ∀ i, (co y i).natAbs ≤ N + N * (A / mu) := fun y hy i => by
    obtain ⟨x, hx, rfl⟩ := List.mem_map.mp hy
    exact later_bound (A := A) (hl x hx) (hN x (inS x hx)) (hN lead lS) hnz _ (quoD x hx) i
  have dm : A / mu * mu ≤ A := Nat.div_mul_le_self A mu
  have y1 : mu ≤ (co y0 c).natAbs := hmin y0 hy0
  have P0 : N * A * A * mu ≤ Pi := Nat.le_trans (Nat.mul_le_mul_left _ y1) hPi
  have P1 : N * A ≤ Pi := Nat.le_trans (Nat.le_trans (Nat.le_mul_of_pos_right _ (by omega : 0 < A)) (Nat.le_mul_of_pos_right _ (by omega : 0 < mu))) P0
  have P2 : N ≤ Pi := Nat.le_trans (Nat.le_mul_of_pos_right _ (by omega : 0 < A)) P1
  have P3 : N * (A / mu) ≤ N * A := Nat.mul_le_mul_left _ (Nat.div_le_self A mu)
  refine ⟨fun y hy i => by have := big y hy i; omega, fun i => by have := hN lead lS i; omega, fun hne => ?_⟩
  obtain ⟨y', hy'⟩ := List.exists_mem_of_ne_nil _ hne
  obtain ⟨hy1, hy2⟩ := List.mem_filter.mp hy'
  obtain ⟨x, hx, ex⟩ := List.mem_map.mp hy1
  obtain ⟨q, eq, q1, q2, q3, _⟩ := quo x hx
  refine ⟨N + N * (A / mu), mu, fun z hz i => ?_, fun z hz => ?_, ?_, y', List.mem_cons_of_mem _ hy', ?_⟩
  · rcases List.mem_cons.mp hz with w | w
    · rw [w]; have := hN lead lS i; omega
    · exact big z (List.mem_filter.mp w).1 i
  · rcases List.mem_cons.mp hz with w | w
    · rw [w, hmu]; exact Nat.le_refl _
    · obtain ⟨x2, hx2, rfl⟩ := List.mem_map.mp (List.mem_filter.mp w).1
      obtain ⟨_, _, _, _, r3, _⟩ := quo x2 hx2
      omega
  · have signs : ∀ z ∈ ((A0 ++ B).map fun x => lessL x lead c).filter (nzB c), (0 < co lead c → 0 < co z c) ∧ (co lead c < 0 → co z c < 0) := fun z hz => by
      obtain ⟨w1, w2⟩ := List.mem_filter.mp hz
      obtain ⟨x2, hx2, rfl⟩ := List.mem_map.mp w1
      obtain ⟨_, _, _, _, _, r4⟩ := quo x2 hx2
      rcases r4 with r4 | r4
      · exact absurd r4 (of_decide_eq_true w2)
      · exact r4
    rcases hs with p | p
    · refine .inl fun z hz => ?_
      rcases List.mem_cons.mp hz with w | w
      · rw [w]; exact p lead lS
      · exact (signs z w).1 (p lead lS)
    · refine .inr fun z hz => ?_
      rcases List.mem_cons.mp hz with w | w
      · rw [w]; exact p lead lS
      · exact (signs z w).2 (p lead lS)
  · -- the potential does not grow
    have half : 2 * (co y' c).natAbs ≤ A := by
      rw [← ex]
      have := hA x (inS x hx)
      have : 1 * mu ≤ q * mu := Nat.mul_le_mul_right _ q1
      omega
    have e1 : (N + N * (A / mu)) * mu ≤ N * (2 * A) := by
      rw [Nat.add_mul, Nat.mul_assoc N, show 2 * A = A + A by omega, Nat.mul_add]
      exact Nat.add_le_add (Nat.mul_le_mul_left _ muA) (Nat.mul_le_mul_left _ dm)
    have e2 : (N + N * (A / mu)) * mu * mu * (co y' c).natAbs ≤ N * (2 * A) * mu * (co y' c).natAbs := Nat.mul_le_mul_right _ (Nat.mul_le_mul_right _ e1)
    have e3 : N * (2 * A) * mu * (co y' c).natAbs = N * A * mu * (2 * (co y' c).natAbs) := by
      rw [show N * (2 * A) = N * A * 2 by rw [Nat.mul_assoc, Nat.mul_comm 2 A], Nat.mul_right_comm (N * A) 2 mu, Nat.mul_assoc (N * A * mu)]
    have e4 : N * A * mu * (2 * (co y' c).natAbs) ≤ N * A * mu * A := Nat.mul_le_mul_left _ half
    have e5 : N * A * mu * A = N * A * A * mu := Nat.mul_right_comm _ _ _
    omega
/-- the first turn -/
theorem first_turn {c M : Nat} {A0 B : List (List Int)} {lead : List Int} (hM : ∀ x ∈ A0 ++ lead :: B, ∀ i, (co x i).natAbs ≤ M) (hl : ∀ x ∈ A0 ++ B, x.length = lead.length) (hnz : co lead c ≠ 0) (hmin : ∀ x ∈ A0 ++ lead :: B, (co lead c).natAbs ≤ (co x c).natAbs) :
    (∀ y ∈ (A0 ++ B).map fun x => lessL x lead c, ∀ i, (co y i).natAbs ≤ 6 * M ^ 4) ∧ (∀ i, (co lead i).natAbs ≤ 6 * M ^ 4) ∧ (((A0 ++ B).map fun x => lessL x lead c).filter (nzB c) ≠ [] → St1 c (3 * M ^ 4) (lead :: ((A0 ++ B).map fun x => lessL x lead c).filter (nzB c))) := by
  have inS : ∀ x, x ∈ A0 ++ B → x ∈ A0 ++ lead :: B := fun x hx => by
    rcases List.mem_append.mp hx with z | z
    · exact List.mem_append_left _ z
    · exact List.mem_append_right _ (List.mem_cons_of_mem _ z)
  have lS : lead ∈ A0 ++ lead :: B := List.mem_append_right _ List.mem_cons_self
  generalize hmu : (co lead c).natAbs = mu at hmin
  have mu1 : 1 ≤ mu := by omega
  have muM : mu ≤ M := by have := hM lead lS c; omega
  have quo : ∀ x ∈ A0 ++ B, ((co x c).fdiv (co lead c)).natAbs * mu ≤ M + mu ∧ (co (lessL x lead c) c).natAbs < mu ∧ (co (lessL x lead c) c = 0 ∨ ((0 < co lead c → 0 < co (lessL x lead c) c) ∧ (co lead c < 0 → co (lessL x lead c) c < 0))) := fun x hx => by
    have e := co_less (hl x hx) c c
    obtain ⟨r, e1, e2⟩ := fd (a := co x c) hnz
    have er : co (lessL x lead c) c = r := by omega
    rw [er]
    have hq : ((co x c).fdiv (co lead c)).natAbs * mu = (co lead c * (co x c).fdiv (co lead c)).natAbs := by rw [Int.natAbs_mul, hmu, Nat.mul_comm]
    have := hM x (inS x hx) c
    refine ⟨by rw [hq]; omega, by omega, by omega⟩
  have quoD : ∀ x ∈ A0 ++ B, ((co x c).fdiv (co lead c)).natAbs ≤ (M + mu) / mu := fun x hx => (Nat.le_div_iff_mul_le (by omega)).mpr (quo x hx).1
  have big : ∀ y ∈ (A0 ++ B).map (fun x => lessL x lead c), ∀ i, (co y i).natAbs ≤ M + M * ((M + mu) / mu) := fun y hy i => by
    obtain ⟨x, hx, rfl⟩ := List.mem_map.mp hy
    exact later_bound (A := M) (hl x hx) (hM x (inS x hx)) (hM lead lS) hnz _ (quoD x hx) i
  have dm : (M + mu) / mu * mu ≤ M + mu := Nat.div_mul_le_self _ mu
  have kk : (M + mu) / mu ≤ M + mu := Nat.div_le_self _ _
  have M1 : 1 ≤ M := by omega
  have e4 : M ^ 4 = M * M * M * M := by rw [Nat.pow_succ, Nat.pow_succ, Nat.pow_succ, Nat.pow_one]
  have p1 : M ≤ M * M := Nat.le_mul_of_pos_right _ M1
  have p2 : M * M ≤ M * M * M := Nat.le_mul_of_pos_right _ M1
  have p3 : M * M * M ≤ M * M * M * M := Nat.le_mul_of_pos_right _ M1
  have b1 : M * ((M + mu) / mu) ≤ M * (M + mu) := Nat.mul_le_mul_left _ kk
  have b2 : M * (M + mu) ≤ M * M + M * M := by rw [Nat.mul_add]; exact Nat.add_le_add_left (Nat.mul_le_mul_left _ muM) _
  rw [e4]
  refine ⟨fun y hy i => by have := big y hy i; omega, fun i => by have := hM lead lS i; omega, fun hne => ?_⟩
  obtain ⟨y', hy'⟩ := List.exists_mem_of_ne_nil _ hne
  obtain ⟨hy1, hy2⟩ := List.mem_filter.mp hy'
  obtain ⟨x, hx, ex⟩ := List.mem_map.mp hy1
  refine ⟨M + M * ((M + mu) / mu), mu, fun z hz i => ?_, fun z hz => ?_, ?_, y', List.mem_cons_of_mem _ hy', ?_⟩
  · rcases List.mem_cons.mp hz with w | w
    · rw [w]; have := hM lead lS i; omega
    · exact big z (List.mem_filter.mp w).1 i
  · rcases List.mem_cons.mp hz with w | w
    · rw [w, hmu]; exact Nat.le_refl _
    · obtain ⟨x2, hx2, rfl⟩ := List.mem_map.mp (List.mem_filter.mp w).1
      exact Nat.le_of_lt (quo x2 hx2).2.1
  · have signs : ∀ z ∈ ((A0 ++ B).map fun x => lessL x lead c).filter (nzB c), (0 < co lead c → 0 < co z c) ∧ (co lead c < 0 → co z c < 0) := fun z hz => by
      obtain ⟨w1, w2⟩ := List.mem_filter.mp hz
      obtain ⟨x2, hx2, rfl⟩ := List.mem_map.mp w1
      rcases (quo x2 hx2).2.2 with r4 | r4
      · exact absurd r4 (of_decide_eq_true w2)
      · exact r4
    rcases Int.lt_trichotomy (co lead c) 0 with p | p | p
    · refine .inr fun z hz => ?_
      rcases List.mem_cons.mp hz with w | w
      · rw [w]; exact p
      · exact (signs z w).2 p
    · exact absurd p hnz
    · refine .inl fun z hz => ?_
      rcases List.mem_cons.mp hz with w | w
      · rw [w]; exact p
      · exact (signs z w).1 p
  · have hy3 : (co y' c).natAbs ≤ M := by rw [← ex]; have := (quo x hx).2.1; omega
    have e1 : (M + M * ((M + mu) / mu)) * mu ≤ 3 * (M * M) := by
      rw [Nat.add_mul, Nat.mul_assoc M]
      have a1 : M * mu ≤ M * M := Nat.mul_le_mul_left _ muM
      have a2 : M * ((M + mu) / mu * mu) ≤ M * (M + mu) := Nat.mul_le_mul_left _ dm
      omega
    have e2 : (M + M * ((M + mu) / mu)) * mu * mu * (co y' c).natAbs ≤ 3 * (M * M) * M * M := Nat.mul_le_mul (Nat.mul_le_mul e1 muM) hy3
    have e3 : 3 * (M * M) * M * M = 3 * (M * M * M * M) := by rw [Nat.mul_assoc 3, Nat.mul_assoc 3]
    omega
end El
/-! The law's own steps, column by column. -/
namespace El
def aB : Nat → Nat
  | 0 => 5
  | c + 1 => 4 * aB c + 3
theorem aB_up : ∀ (c d : Nat), c ≤ d → aB c ≤ aB d := fun c d h => by
  induction h with
  | refl => exact Nat.le_refl _
  | step _ ih => exact Nat.le_trans ih (by show _ ≤ 4 * aB _ + 3; omega)
theorem aB5 {c : Nat} (h : c < 6) : aB c ≤ 6143 := Nat.le_trans (aB_up c 5 (by omega)) (by decide)
theorem aB6 {c : Nat} (h : c ≤ 6) : aB c ≤ 24575 := Nat.le_trans (aB_up c 6 (by omega)) (by decide)
theorem M_next {c : Nat} {x : Nat} (h : x ≤ 6 * (2 ^ aB c) ^ 4) : x < 2 ^ aB (c + 1) := by
  have e : (2 ^ aB c) ^ 4 = 2 ^ (4 * aB c) := by rw [← Nat.pow_mul, Nat.mul_comm]
  have e2 : 2 ^ aB (c + 1) = 2 ^ (4 * aB c) * 8 := by show 2 ^ (4 * aB c + 3) = _; rw [Nat.pow_add]
  rw [e] at h
  rw [e2]
  have : 0 < 2 ^ (4 * aB c) := Nat.pow_pos (by decide)
  omega
theorem M_self (c : Nat) : 2 ^ aB c ≤ 6 * (2 ^ aB c) ^ 4 := by
  have h1 : 0 < 2 ^ aB c := Nat.pow_pos (by decide)
  generalize 2 ^ aB c = M at h1
  rw [Nat.pow_succ, Nat.pow_succ, Nat.pow_succ, Nat.pow_one]
  have p1 : M ≤ M * M := Nat.le_mul_of_pos_right _ h1
  have p2 : M * M ≤ M * M * M := Nat.le_mul_of_pos_right _ h1
  have p3 : M * M * M ≤ M * M * M * M := Nat.le_mul_of_pos_right _ h1
  omega
/-- while a column is worked on -/
structure Turn (m c : Nat) (T : List Vc) (found some rest : List (List Int)) : Prop where
  col : Col m c T found some rest
  how : (∀ x ∈ some, ∀ i, (co x i).natAbs ≤ 2 ^ aB c) ∨ St1 c (3 * (2 ^ aB c) ^ 4) some ∨ some.length ≤ 1
  ss : ∀ x ∈ some, ∀ i, (co x i).natAbs ≤ 6 * (2 ^ aB c) ^ 4
  sr : ∀ x ∈ rest, ∀ i, (co x i).natAbs ≤ 6 * (2 ^ aB c) ^ 4
  at_ : ∀ x ∈ some, (co x c).natAbs ≤ 2 ^ aB c
def szs (c : Nat) (some : List (List Int)) : Nat := (some.map fun x => (co x c).natAbs).sum
theorem szs_filter (c : Nat) (p : List Int → Bool) : ∀ L : List (List Int), szs c (L.filter p) ≤ szs c L
  | [] => Nat.le_refl _
  | x :: L => by
    have ih := szs_filter c p L
    unfold szs at ih ⊢
    rw [List.filter_cons]
    split
    · rw [List.map_cons, List.map_cons, List.sum_cons, List.sum_cons]; omega
    · rw [List.map_cons, List.sum_cons]; omega
theorem szs_less (c : Nat) (f : List Int → List Int) : ∀ L : List (List Int), (∀ x ∈ L, (co (f x) c).natAbs < (co x c).natAbs) → szs c (L.map f) + L.length ≤ szs c L
  | [], _ => Nat.le_refl _
  | x :: L, h => by
    have ih := szs_less c f L fun y hy => h y (List.mem_cons_of_mem _ hy)
    have := h x List.mem_cons_self
    unfold szs at ih ⊢
    rw [List.map_cons, List.map_cons, List.map_cons, List.sum_cons, List.sum_cons, List.length_cons]
    omega
theorem szs_app (c : Nat) (A B : List (List Int)) : szs c (A ++ B) = szs c A + szs c B := by
  unfold szs
  rw [List.map_append, List.sum_append]
theorem Turn.next {m c : Nat} {T : List Vc} {found A B rest : List (List Int)} {lead : List Int} (h : Turn m c T found (A ++ lead :: B) rest) (hmin : ∀ x ∈ A ++ lead :: B, (co lead c).natAbs ≤ (co x c).natAbs) (hne : A ++ B ≠ []) :
    Turn m c T found (lead :: ((A ++ B).map fun x => lessL x lead c).filter (nzB c)) (rest ++ ((A ++ B).map fun x => lessL x lead c).filter fun x => !nzB c x) ∧
      szs c (lead :: ((A ++ B).map fun x => lessL x lead c).filter (nzB c)) < szs c (A ++ lead :: B) := by
  have inS : ∀ x, x ∈ A ++ B → x ∈ A ++ lead :: B := fun x hx => by
    rcases List.mem_append.mp hx with z | z
    · exact List.mem_append_left _ z
    · exact List.mem_append_right _ (List.mem_cons_of_mem _ z)
  have lS : lead ∈ A ++ lead :: B := List.mem_append_right _ List.mem_cons_self
  have hnz : co lead c ≠ 0 := (h.col.sf lead lS).nz
  have all : ∀ x ∈ A ++ lead :: B, x ∈ found ++ (A ++ lead :: B) ++ rest := fun x hx => List.mem_append_left _ (List.mem_append_right _ hx)
  have hl : ∀ x ∈ A ++ B, x.length = lead.length := fun x hx => (h.col.len x (all x (inS x hx))).trans (h.col.len lead (all lead lS)).symm
  have small : ∀ x ∈ A ++ B, (co (lessL x lead c) c).natAbs < (co lead c).natAbs := fun x hx => by
    have e := co_less (hl x hx) c c
    obtain ⟨r, e1, e2⟩ := fd (a := co x c) hnz
    omega
  -- the three promises of a turn
  have key : (∀ y ∈ (A ++ B).map fun x => lessL x lead c, ∀ i, (co y i).natAbs ≤ 6 * (2 ^ aB c) ^ 4) ∧ (((A ++ B).map fun x => lessL x lead c).filter (nzB c) ≠ [] → St1 c (3 * (2 ^ aB c) ^ 4) (lead :: ((A ++ B).map fun x => lessL x lead c).filter (nzB c))) := by
    rcases h.how with w | w | w
    · obtain ⟨k1, _, k3⟩ := first_turn w hl hnz hmin
      exact ⟨k1, k3⟩
    · obtain ⟨k1, _, k3⟩ := w.turn hl hmin hnz
      exact ⟨fun y hy i => by have := k1 y hy i; omega, k3⟩
    · exfalso
      have : 0 < (A ++ B).length := List.length_pos_iff.mpr hne
      rw [List.length_append] at this w
      rw [List.length_cons] at w
      omega
  obtain ⟨k1, k3⟩ := key
  have atl : (co lead c).natAbs ≤ 2 ^ aB c := h.at_ lead lS
  refine ⟨⟨h.col.turn, ?_, ?_, ?_, ?_⟩, ?_⟩
  · by_cases e : ((A ++ B).map fun x => lessL x lead c).filter (nzB c) = []
    · rw [e]; exact .inr (.inr (Nat.le_refl _))
    · exact .inr (.inl (k3 e))
  · intro x hx
    rcases List.mem_cons.mp hx with w | w
    · rw [w]; exact h.ss lead lS
    · exact k1 x (List.mem_filter.mp w).1
  · intro x hx
    rcases List.mem_append.mp hx with w | w
    · exact h.sr x w
    · exact k1 x (List.mem_filter.mp w).1
  · intro x hx
    rcases List.mem_cons.mp hx with w | w
    · rw [w]; exact atl
    · obtain ⟨y, hy, rfl⟩ := List.mem_map.mp (List.mem_filter.mp w).1
      have := small y hy
      omega
  · have s1 := szs_filter c (nzB c) ((A ++ B).map fun x => lessL x lead c)
    have s2 := szs_less c (fun x => lessL x lead c) (A ++ B) fun x hx => Nat.lt_of_lt_of_le (small x hx) (hmin x (inS x hx))
    have s3 : szs c (A ++ lead :: B) = szs c A + ((co lead c).natAbs + szs c B) := by
      rw [szs_app]; unfold szs; rw [List.map_cons, List.sum_cons]
    have s4 : szs c (lead :: ((A ++ B).map fun x => lessL x lead c).filter (nzB c)) = (co lead c).natAbs + szs c (((A ++ B).map fun x => lessL x lead c).filter (nzB c)) := by
      unfold szs; rw [List.map_cons, List.sum_cons]
    have s5 : 0 < (A ++ B).length := List.length_pos_iff.mpr hne
    have s6 := szs_app c A B
    omega
theorem Turn.start {m c : Nat} {T : List Vc} {found rest : List (List Int)} (h : Upto m c T found rest) (sm : ∀ x ∈ rest, Sm (aB c) x) : Turn m c T found (rest.filter (nzB c)) (rest.filter fun x => !nzB c x) :=
  ⟨h.col, .inl fun x hx i => Nat.le_of_lt (sm x (List.mem_filter.mp hx).1 i), fun x hx i => Nat.le_trans (Nat.le_of_lt (sm x (List.mem_filter.mp hx).1 i)) (M_self c), fun x hx i => Nat.le_trans (Nat.le_of_lt (sm x (List.mem_filter.mp hx).1 i)) (M_self c), fun x hx => Nat.le_of_lt (sm x (List.mem_filter.mp hx).1 c)⟩
/-- what the law's steps are -/
structure LSt (m : Nat) (G ms : List (List Int)) : Prop where
  len : ∀ x ∈ ms, x.length = m
  ech : Ech 0 (ms.map co)
  l1 : ∀ x ∈ ms, Lat (G.map co) (co x)
  l2 : ∀ x ∈ G, Lat (ms.map co) (co x)
  sm : ∀ x ∈ ms, Sm 24575 x
  pv : ∀ x ∈ ms, ∀ q, Fp (co x) q → (co x q).natAbs ≤ 2 ^ 6143
/-- the columns done so far -/
structure Cols (m c : Nat) (G found rest : List (List Int)) : Prop where
  up : Upto m c (G.map co) found rest
  sf : ∀ x ∈ found, Sm (aB c) x
  sr : ∀ x ∈ rest, Sm (aB c) x
  pv : ∀ x ∈ found, ∀ q, Fp (co x) q → (co x q).natAbs ≤ 2 ^ 6143
theorem Cols.start {m : Nat} {G : List (List Int)} (h : ∀ g ∈ G, g.length = m) (hs : ∀ g ∈ G, ∀ i, (co g i).natAbs ≤ 30) : Cols m 0 G [] G :=
  ⟨Upto.start h, fun _ h => absurd h List.not_mem_nil, fun x hx i => Nat.lt_of_le_of_lt (hs x hx i) (by decide), fun _ h => absurd h List.not_mem_nil⟩
theorem Cols.next {m c : Nat} {G found some rest : List (List Int)} (h : ∀ x ∈ found, Sm (aB c) x) (hp : ∀ x ∈ found, ∀ q, Fp (co x) q → (co x q).natAbs ≤ 2 ^ 6143) (hc : c < 6) (t : Turn m c (G.map co) found some rest) (h1 : some.length ≤ 1) : Cols m (c + 1) G (found ++ some) rest := by
  refine ⟨t.col.done h1, fun x hx => ?_, fun x hx i => M_next (t.sr x hx i), fun x hx q f => ?_⟩
  · rcases List.mem_append.mp hx with z | z
    · exact (h x z).up (aB_up c (c + 1) (Nat.le_succ _))
    · exact fun i => M_next (t.ss x z i)
  · rcases List.mem_append.mp hx with z | z
    · exact hp x z q f
    · have := f.uniq (t.col.sf x z)
      subst this
      exact Nat.le_trans (t.at_ x z) (Nat.pow_le_pow_right (by decide) (aB5 hc))
theorem Cols.done {m : Nat} {G found rest : List (List Int)} (h : Cols m m G found rest) (hm : m ≤ 6) : LSt m G found :=
  ⟨fun x hx => h.up.len x (List.mem_append_left _ hx), h.up.ech, fun x hx => h.up.l1 x (List.mem_append_left _ hx), fun g hg => h.up.all _ (List.mem_map_of_mem hg), fun x hx => (h.sf x hx).up (aB6 hm), h.pv⟩
end El
/-! What a row leaves by the law's steps. -/
namespace El
structure RestZ (m : Nat) (ms : List (List Int)) (row l : List Int) : Prop where
  len : l.length = m
  dif : Lat (ms.map co) (fun i => co row i - co l i)
  red : ∀ s ∈ ms, ∀ q, Fp (co s) q → (co l q).natAbs < (co s q).natAbs
theorem RestZ.start {m : Nat} {row : List Int} (h : row.length = m) : RestZ m [] row row :=
  ⟨h, by have e : (fun i => co row i - co row i) = fun _ => (0 : Int) := funext fun i => by omega
         rw [e]; exact .zero, fun _ h => absurd h List.not_mem_nil⟩
theorem RestZ.snoc {m : Nat} {ms : List (List Int)} {row l s : List Int} {q : Nat} (h : RestZ m ms row l) (hs : s.length = m) (f : Fp (co s) q) (hb : ∀ x ∈ ms, ∃ p, Fp (co x) p ∧ p < q) : RestZ m (ms ++ [s]) row (lessL l s q) := by
  have ll : l.length = s.length := h.len.trans hs.symm
  refine ⟨by rw [less_len ll]; exact h.len, ?_, fun x hx p fx => ?_⟩
  · have z1 : Lat ((ms ++ [s]).map co) (fun i => co row i - co l i) := h.dif.sub_of fun g hg => by rw [List.map_append]; exact List.mem_append_left _ hg
    have z2 : Lat ((ms ++ [s]).map co) (co s) := .of (by rw [List.map_append]; exact List.mem_append_right _ List.mem_cons_self)
    have z := z1.sub (-((co l q).fdiv (co s q))) z2
    have e : (fun i => co row i - co l i - co s i * (-((co l q).fdiv (co s q)))) = fun i => co row i - co (lessL l s q) i := funext fun i => by rw [co_less ll, Int.mul_neg]; omega
    rwa [e] at z
  · rcases List.mem_append.mp hx with w | w
    · obtain ⟨p', f', l'⟩ := hb x w
      have := fx.uniq f'
      subst this
      rw [co_less ll, f.zs p l']
      have := h.red x w p fx
      simpa using this
    · rw [List.mem_singleton.mp w] at fx ⊢
      have := fx.uniq f
      subst this
      rw [co_less ll]
      obtain ⟨k, e1, e2⟩ := fd (a := co l p) (b := co s p) fx.nz
      omega
theorem RestZ.nought {m : Nat} {G ms : List (List Int)} {row l : List Int} (H : LSt m G ms) (h : RestZ m ms row l) : (∀ i, co l i = 0) ↔ Lat (G.map co) (co row) := by
  have up : ∀ {x : Vc}, Lat (ms.map co) x → Lat (G.map co) x := fun hx => hx.mono fun g hg => by obtain ⟨y, hy, rfl⟩ := List.mem_map.mp hg; exact H.l1 y hy
  have dn : ∀ {x : Vc}, Lat (G.map co) x → Lat (ms.map co) x := fun hx => hx.mono fun g hg => by obtain ⟨y, hy, rfl⟩ := List.mem_map.mp hg; exact H.l2 y hy
  constructor
  · intro z
    have e : (fun i => co row i - co l i) = co row := funext fun i => by rw [z i]; omega
    have d := h.dif
    rw [e] at d
    exact up d
  · intro hr i
    have hl : Lat (ms.map co) (co l) := by
      have z := (dn hr).sub 1 h.dif
      have e : (fun i => co row i - (co row i - co l i) * 1) = co l := funext fun i => by omega
      rwa [e] at z
    by_cases c : fpL l < l.length
    · exfalso
      have f := fpL_fp c
      obtain ⟨s, hs, fs, dv⟩ := H.ech.fp hl f
      obtain ⟨y, hy, rfl⟩ := List.mem_map.mp hs
      have r := h.red y hy _ fs
      have := Nat.le_of_dvd (Int.natAbs_pos.mpr f.nz) (Int.natAbs_dvd_natAbs.mpr dv)
      omega
    · exact fpL_all c i
/-- the first of the places where a row isn't nought -/
theorem places {x : List Int} {q : Nat} (f : Fp (co x) q) (hq : q < x.length) : ((List.range x.length).filter fun k => decide (co x k ≠ 0))[0]? = some q := by
  rw [← List.head?_eq_getElem?, List.head?_filter]
  refine List.find?_range_eq_some.mpr ⟨decide_eq_true f.nz, List.mem_range.mpr hq, fun j hj => ?_⟩
  rw [f.zs j hj]
  rfl
theorem ech_count : ∀ {n m : Nat} {ss : List Vc}, Ech n ss → (∀ s ∈ ss, ∀ i, m ≤ i → s i = 0) → n ≤ m → ss.length + n ≤ m
  | _, _, _, .nil, _, h => by rw [List.length_nil]; omega
  | n, m, _, .cons (q := q) (s := s) f l e, hz, h => by
    have qm : q < m := by
      rcases Nat.lt_or_ge q m with w | w
      · exact w
      · exact absurd (hz s List.mem_cons_self q w) f.nz
    have := ech_count e (fun x hx => hz x (List.mem_cons_of_mem _ hx)) qm
    rw [List.length_cons]
    omega
end El
/-! The law's own steps where the rows of a clock are among the rows. -/
namespace El
def aC : Nat → Nat
  | 0 => 10
  | c + 1 => 4 * aC c + 3
theorem aC_up : ∀ (c d : Nat), c ≤ d → aC c ≤ aC d := fun c d h => by
  induction h with
  | refl => exact Nat.le_refl _
  | step _ ih => exact Nat.le_trans ih (by show _ ≤ 4 * aC _ + 3; omega)
theorem aC6 {c : Nat} (h : c ≤ 6) : aC c ≤ 45055 := Nat.le_trans (aC_up c 6 (by omega)) (by decide)
theorem C_next {c : Nat} {x : Nat} (h : x ≤ 6 * (2 ^ aC c) ^ 4) : x < 2 ^ aC (c + 1) := by
  have e : (2 ^ aC c) ^ 4 = 2 ^ (4 * aC c) := by rw [← Nat.pow_mul, Nat.mul_comm]
  have e2 : 2 ^ aC (c + 1) = 2 ^ (4 * aC c) * 8 := by show 2 ^ (4 * aC c + 3) = _; rw [Nat.pow_add]
  rw [e] at h
  rw [e2]
  have : 0 < 2 ^ (4 * aC c) := Nat.pow_pos (by decide)
  omega
theorem C_self (c : Nat) : 2 ^ aC c ≤ 6 * (2 ^ aC c) ^ 4 := by
  have h1 : 0 < 2 ^ aC c := Nat.pow_pos (by decide)
  generalize 2 ^ aC c = M at h1
  rw [Nat.pow_succ, Nat.pow_succ, Nat.pow_succ, Nat.pow_one]
  have p1 : M ≤ M * M := Nat.le_mul_of_pos_right _ h1
  have p2 : M * M ≤ M * M * M := Nat.le_mul_of_pos_right _ h1
  have p3 : M * M * M ≤ M * M * M * M := Nat.le_mul_of_pos_right _ h1
  omega
/-- for each place from c on a row that is not nought there alone, and small -/
def Pris (m c : Nat) (rest : List (List Int)) : Prop := ∀ j, c ≤ j → j < m → ∃ x ∈ rest, (∀ i, i ≠ j → co x i = 0) ∧ co x j ≠ 0 ∧ (co x j).natAbs ≤ 1000
/-- while a column is worked on -/
structure TurnC (m c : Nat) (T : List Vc) (found some rest : List (List Int)) : Prop where
  col : Col m c T found some rest
  how : (∀ x ∈ some, ∀ i, (co x i).natAbs ≤ 2 ^ aC c) ∨ St1 c (3 * (2 ^ aC c) ^ 4) some ∨ some.length ≤ 1
  ss : ∀ x ∈ some, ∀ i, (co x i).natAbs ≤ 6 * (2 ^ aC c) ^ 4
  sr : ∀ x ∈ rest, ∀ i, (co x i).natAbs ≤ 6 * (2 ^ aC c) ^ 4
  at_ : ∀ x ∈ some, (co x c).natAbs ≤ 2 ^ aC c
  lo : ∃ x ∈ some, (co x c).natAbs ≤ 1000
  pris : Pris m (c + 1) rest
theorem TurnC.next {m c : Nat} {T : List Vc} {found A B rest : List (List Int)} {lead : List Int} (h : TurnC m c T found (A ++ lead :: B) rest) (hmin : ∀ x ∈ A ++ lead :: B, (co lead c).natAbs ≤ (co x c).natAbs) (hne : A ++ B ≠ []) :
    TurnC m c T found (lead :: ((A ++ B).map fun x => lessL x lead c).filter (nzB c)) (rest ++ ((A ++ B).map fun x => lessL x lead c).filter fun x => !nzB c x) ∧
      szs c (lead :: ((A ++ B).map fun x => lessL x lead c).filter (nzB c)) < szs c (A ++ lead :: B) := by
  have inS : ∀ x, x ∈ A ++ B → x ∈ A ++ lead :: B := fun x hx => by
    rcases List.mem_append.mp hx with z | z
    · exact List.mem_append_left _ z
    · exact List.mem_append_right _ (List.mem_cons_of_mem _ z)
  have lS : lead ∈ A ++ lead :: B := List.mem_append_right _ List.mem_cons_self
  have hnz : co lead c ≠ 0 := (h.col.sf lead lS).nz
  have all : ∀ x ∈ A ++ lead :: B, x ∈ found ++ (A ++ lead :: B) ++ rest := fun x hx => List.mem_append_left _ (List.mem_append_right _ hx)
  have hl : ∀ x ∈ A ++ B, x.length = lead.length := fun x hx => (h.col.len x (all x (inS x hx))).trans (h.col.len lead (all lead lS)).symm
  have small : ∀ x ∈ A ++ B, (co (lessL x lead c) c).natAbs < (co lead c).natAbs := fun x hx => by
    have e := co_less (hl x hx) c c
    obtain ⟨r, e1, e2⟩ := fd (a := co x c) hnz
    omega
  -- the three promises of a turn
  have key : (∀ y ∈ (A ++ B).map fun x => lessL x lead c, ∀ i, (co y i).natAbs ≤ 6 * (2 ^ aC c) ^ 4) ∧ (((A ++ B).map fun x => lessL x lead c).filter (nzB c) ≠ [] → St1 c (3 * (2 ^ aC c) ^ 4) (lead :: ((A ++ B).map fun x => lessL x lead c).filter (nzB c))) := by
    rcases h.how with w | w | w
    · obtain ⟨k1, _, k3⟩ := first_turn w hl hnz hmin
      exact ⟨k1, k3⟩
    · obtain ⟨k1, _, k3⟩ := w.turn hl hmin hnz
      exact ⟨fun y hy i => by have := k1 y hy i; omega, k3⟩
    · exfalso
      have : 0 < (A ++ B).length := List.length_pos_iff.mpr hne
      rw [List.length_append] at this w
      rw [List.length_cons] at w
      omega
  obtain ⟨k1, k3⟩ := key
  have atl : (co lead c).natAbs ≤ 2 ^ aC c := h.at_ lead lS
  have lo1 : (co lead c).natAbs ≤ 1000 := by
    obtain ⟨x, hx, lx⟩ := h.lo
    exact Nat.le_trans (hmin x hx) lx
  refine ⟨⟨h.col.turn, ?_, ?_, ?_, ?_, ⟨lead, List.mem_cons_self, lo1⟩, fun j h1 h2 => by
    obtain ⟨x, hx, w⟩ := h.pris j h1 h2
    exact ⟨x, List.mem_append_left _ hx, w⟩⟩, ?_⟩
  · by_cases e : ((A ++ B).map fun x => lessL x lead c).filter (nzB c) = []
    · rw [e]; exact .inr (.inr (Nat.le_refl _))
    · exact .inr (.inl (k3 e))
  · intro x hx
    rcases List.mem_cons.mp hx with w | w
    · rw [w]; exact h.ss lead lS
    · exact k1 x (List.mem_filter.mp w).1
  · intro x hx
    rcases List.mem_append.mp hx with w | w
    · exact h.sr x w
    · exact k1 x (List.mem_filter.mp w).1
  · intro x hx
    rcases List.mem_cons.mp hx with w | w
    · rw [w]; exact atl
    · obtain ⟨y, hy, rfl⟩ := List.mem_map.mp (List.mem_filter.mp w).1
      have := small y hy
      omega
  · have s1 := szs_filter c (nzB c) ((A ++ B).map fun x => lessL x lead c)
    have s2 := szs_less c (fun x => lessL x lead c) (A ++ B) fun x hx => Nat.lt_of_lt_of_le (small x hx) (hmin x (inS x hx))
    have s3 : szs c (A ++ lead :: B) = szs c A + ((co lead c).natAbs + szs c B) := by
      rw [szs_app]; unfold szs; rw [List.map_cons, List.sum_cons]
    have s4 : szs c (lead :: ((A ++ B).map fun x => lessL x lead c).filter (nzB c)) = (co lead c).natAbs + szs c (((A ++ B).map fun x => lessL x lead c).filter (nzB c)) := by
      unfold szs; rw [List.map_cons, List.sum_cons]
    have s5 : 0 < (A ++ B).length := List.length_pos_iff.mpr hne
    have s6 := szs_app c A B
    omega
theorem TurnC.start {m c : Nat} {T : List Vc} {found rest : List (List Int)} (h : Upto m c T found rest) (sm : ∀ x ∈ rest, Sm (aC c) x) (pr : Pris m c rest) (hc : c < m) : TurnC m c T found (rest.filter (nzB c)) (rest.filter fun x => !nzB c x) :=
  ⟨h.col, .inl fun x hx i => Nat.le_of_lt (sm x (List.mem_filter.mp hx).1 i), fun x hx i => Nat.le_trans (Nat.le_of_lt (sm x (List.mem_filter.mp hx).1 i)) (C_self c), fun x hx i => Nat.le_trans (Nat.le_of_lt (sm x (List.mem_filter.mp hx).1 i)) (C_self c), fun x hx => Nat.le_of_lt (sm x (List.mem_filter.mp hx).1 c), by
    obtain ⟨x, hx, _, w2, w3⟩ := pr c (Nat.le_refl _) hc
    exact ⟨x, List.mem_filter.mpr ⟨hx, decide_eq_true w2⟩, w3⟩, fun j h1 h2 => by
    obtain ⟨x, hx, w1, w2⟩ := pr j (by omega) h2
    exact ⟨x, List.mem_filter.mpr ⟨hx, by unfold nzB; rw [w1 c (by omega)]; decide⟩, w1, w2⟩⟩
/-- what the law's steps are -/
structure LStC (m : Nat) (G ms : List (List Int)) : Prop where
  len : ∀ x ∈ ms, x.length = m
  ech : Ech 0 (ms.map co)
  l1 : ∀ x ∈ ms, Lat (G.map co) (co x)
  l2 : ∀ x ∈ G, Lat (ms.map co) (co x)
  sm : ∀ x ∈ ms, Sm 45055 x
  pv : ∀ x ∈ ms, ∀ q, Fp (co x) q → (co x q).natAbs ≤ 1000
/-- the columns done so far -/
structure ColsC (m c : Nat) (G found rest : List (List Int)) : Prop where
  up : Upto m c (G.map co) found rest
  sf : ∀ x ∈ found, Sm (aC c) x
  sr : ∀ x ∈ rest, Sm (aC c) x
  pv : ∀ x ∈ found, ∀ q, Fp (co x) q → (co x q).natAbs ≤ 1000
  pris : Pris m c rest
theorem ColsC.start {m : Nat} {G : List (List Int)} (h : ∀ g ∈ G, g.length = m) (hs : ∀ g ∈ G, ∀ i, (co g i).natAbs ≤ 1000) (pr : Pris m 0 G) : ColsC m 0 G [] G :=
  ⟨Upto.start h, fun _ h => absurd h List.not_mem_nil, fun x hx i => Nat.lt_of_le_of_lt (hs x hx i) (by decide), fun _ h => absurd h List.not_mem_nil, pr⟩
theorem ColsC.next {m c : Nat} {G found some rest : List (List Int)} (h : ∀ x ∈ found, Sm (aC c) x) (hp : ∀ x ∈ found, ∀ q, Fp (co x) q → (co x q).natAbs ≤ 1000) (t : TurnC m c (G.map co) found some rest) (h1 : some.length ≤ 1) : ColsC m (c + 1) G (found ++ some) rest := by
  refine ⟨t.col.done h1, fun x hx => ?_, fun x hx i => C_next (t.sr x hx i), fun x hx q f => ?_, t.pris⟩
  · rcases List.mem_append.mp hx with z | z
    · exact (h x z).up (aC_up c (c + 1) (Nat.le_succ _))
    · exact fun i => C_next (t.ss x z i)
  · rcases List.mem_append.mp hx with z | z
    · exact hp x z q f
    · have := f.uniq (t.col.sf x z)
      subst this
      obtain ⟨y, hy, w⟩ := t.lo
      obtain ⟨a, rfl⟩ : ∃ a, some = [a] := by
        match some, h1, z with
        | [a], _, _ => exact ⟨a, rfl⟩
      rw [List.mem_singleton.mp z, ← List.mem_singleton.mp hy]
      exact w
theorem ColsC.done {m : Nat} {G found rest : List (List Int)} (h : ColsC m m G found rest) (hm : m ≤ 6) : LStC m G found :=
  ⟨fun x hx => h.up.len x (List.mem_append_left _ hx), h.up.ech, fun x hx => h.up.l1 x (List.mem_append_left _ hx), fun g hg => h.up.all _ (List.mem_map_of_mem hg), fun x hx => (h.sf x hx).up (aC6 hm), h.pv⟩
end El
/-! Steps are told by their mixtures; how many there are. -/
namespace El
theorem ech_eq : ∀ {n n' : Nat} {A B : List Vc}, Ech n A → Ech n' B → (∀ x, x ∈ A ↔ x ∈ B) → A = B
  | _, _, [], [], _, _, _ => rfl
  | _, _, [], b :: B, _, _, h => absurd ((h b).mpr List.mem_cons_self) List.not_mem_nil
  | _, _, a :: A, [], _, _, h => absurd ((h a).mp List.mem_cons_self) List.not_mem_nil
  | _, _, a :: A, b :: B, hA, hB, h => by
    cases hA with
    | @cons _ q _ _ fa la ea =>
    cases hB with
    | @cons _ p _ _ fb lb eb =>
    have ab : a = b := by
      rcases List.mem_cons.mp ((h a).mp List.mem_cons_self) with z | z
      · exact z
      · obtain ⟨p1, f1, l1⟩ := eb.has a z
        have e1 := fa.uniq f1
        rcases List.mem_cons.mp ((h b).mpr List.mem_cons_self) with y | y
        · exact y.symm
        · obtain ⟨p2, f2, l2⟩ := ea.has b y
          have e2 := fb.uniq f2
          omega
    subst ab
    have eq := fa.uniq fb
    subst eq
    have no : ∀ {L : List Vc}, Ech (q + 1) L → a ∉ L := fun e z => by
      obtain ⟨p1, f1, l1⟩ := e.has a z
      have := fa.uniq f1
      omega
    rw [ech_eq ea eb fun x => ⟨fun hx => (List.mem_cons.mp ((h x).mp (List.mem_cons_of_mem _ hx))).resolve_left fun z => no ea (z ▸ hx), fun hx => (List.mem_cons.mp ((h x).mpr (List.mem_cons_of_mem _ hx))).resolve_left fun z => no eb (z ▸ hx)⟩]
theorem Hnf.redAt {m : Nat} {G ms : List (List Int)} (h : Hnf m G ms) {x y : List Int} (hx : x ∈ ms) (hy : y ∈ ms) {q p : Nat} (fx : Fp (co x) q) (fy : Fp (co y) p) (l : q < p) : 0 ≤ co x p ∧ co x p < co y p := by
  obtain ⟨a, ha, rfl⟩ := List.mem_iff_getElem.mp hx
  obtain ⟨b, hb, rfl⟩ := List.mem_iff_getElem.mp hy
  rcases Nat.lt_trichotomy a b with c | c | c
  · exact List.pairwise_iff_getElem.mp h.red a b ha hb c p fy
  · subst c
    have := fx.uniq fy
    omega
  · have ed : ms.map co = (ms.take a).map co ++ co ms[a] :: (ms.drop (a + 1)).map co := by
      rw [← List.map_cons, ← List.drop_eq_getElem_cons ha, ← List.map_append, List.take_append_drop]
    have e2 := h.ech
    rw [ed] at e2
    obtain ⟨p', f', l'⟩ := e2.before fx (co ms[b]) (List.mem_map_of_mem (List.mem_iff_getElem.mpr ⟨b, by rw [List.length_take]; omega, by rw [List.getElem_take]⟩))
    have := fy.uniq f'
    omega
/-- the one is among the others -/
theorem Hnf.sub {m : Nat} {G G' ms ms' : List (List Int)} (h : Hnf m G ms) (h' : Hnf m G' ms') (e1 : ∀ x, Lat (G.map co) x → Lat (G'.map co) x) (e2 : ∀ x, Lat (G'.map co) x → Lat (G.map co) x) : ∀ a ∈ ms, a ∈ ms' := fun a ha => by
  have up : ∀ {G ms : List (List Int)}, Hnf m G ms → ∀ x, Lat (G.map co) x → Lat (ms.map co) x := fun h x hx => hx.mono fun g hg => by obtain ⟨y, hy, rfl⟩ := List.mem_map.mp hg; exact h.l2 y hy
  have dn : ∀ {G ms : List (List Int)}, Hnf m G ms → ∀ x, Lat (ms.map co) x → Lat (G.map co) x := fun h x hx => hx.mono fun g hg => by obtain ⟨y, hy, rfl⟩ := List.mem_map.mp hg; exact h.l1 y hy
  obtain ⟨q, fa, _⟩ := h.ech.has (co a) (List.mem_map_of_mem ha)
  have la := dn h _ (.of (List.mem_map_of_mem ha))
  obtain ⟨cb, hcb, fb, dv⟩ := h'.ech.fp (up h' _ (e1 _ la)) fa
  obtain ⟨b, hb, rfl⟩ := List.mem_map.mp hcb
  have lb := dn h' _ (.of (List.mem_map_of_mem hb))
  -- the first parts are the same at each place
  have same : ∀ {s s' : List Int} {p : Nat}, s ∈ ms → s' ∈ ms' → Fp (co s) p → Fp (co s') p → co s p = co s' p := fun {s s' p} hs hs' f f' => by
    obtain ⟨t', ht', ft', d1⟩ := h'.ech.fp (up h' _ (e1 _ (dn h _ (.of (List.mem_map_of_mem hs))))) f
    have z1 := h'.ech.one ht' (List.mem_map_of_mem hs') ft' f'
    obtain ⟨t, ht, ft, d2⟩ := h.ech.fp (up h _ (e2 _ (dn h' _ (.of (List.mem_map_of_mem hs'))))) f'
    have z2 := h.ech.one ht (List.mem_map_of_mem hs) ft f
    rw [z1] at d1
    rw [z2] at d2
    have p1 := h.pos s hs p f
    have p2 := h'.pos s' hs' p f'
    exact Int.le_antisymm (Int.le_of_dvd p2 d2) (Int.le_of_dvd p1 d1)
  have eab : co a = co b := by
    refine funext fun i => ?_
    by_cases c : (takenL a b).any (fun n => n != 0) = true
    · exfalso
      have hl : a.length = b.length := (h.len a ha).trans (h'.len b hb).symm
      have nz : fpL (takenL a b) < (takenL a b).length := by
        by_cases z : fpL (takenL a b) < (takenL a b).length
        · exact z
        · obtain ⟨x, hx, hn⟩ := List.any_eq_true.mp c
          obtain ⟨j, hj, rfl⟩ := List.mem_iff_getElem.mp hx
          have := fpL_all z j
          rw [co_at hj] at this
          rw [this] at hn
          exact absurd hn (by decide)
      have f := fpL_fp nz
      generalize fpL (takenL a b) = p at f nz
      have ld : Lat (ms.map co) (co (takenL a b)) := by
        have z := (up h _ la).sub 1 (up h _ (e2 _ lb))
        have e : (fun i => co a i - co b i * 1) = co (takenL a b) := funext fun i => by rw [co_taken hl]; omega
        rwa [e] at z
      obtain ⟨cs, hcs, fs, d⟩ := h.ech.fp ld f
      obtain ⟨s, hs, rfl⟩ := List.mem_map.mp hcs
      obtain ⟨cs', hcs', fs', _⟩ := h'.ech.fp (up h' _ (e1 _ (dn h _ (.of (List.mem_map_of_mem hs))))) fs
      obtain ⟨s', hs', rfl⟩ := List.mem_map.mp hcs'
      have lt : q < p := by
        rcases Nat.lt_trichotomy p q with z | z | z
        · exact absurd (by rw [co_taken hl, fa.zs p z, fb.zs p z]; rfl) f.nz
        · subst z
          exact absurd (by rw [co_taken hl, same ha hb fa fb]; omega) f.nz
        · exact z
      have r1 := h.redAt ha hs fa fs lt
      have r2 := h'.redAt hb hs' fb fs' lt
      have es := same hs hs' fs fs'
      rw [co_taken hl] at d
      have nzp := f.nz
      rw [co_taken hl] at nzp
      have := Nat.le_of_dvd (Int.natAbs_pos.mpr nzp) (Int.natAbs_dvd_natAbs.mpr d)
      omega
    · have hl : a.length = b.length := (h.len a ha).trans (h'.len b hb).symm
      by_cases hi : i < a.length
      · have z : co (takenL a b) i = 0 := by
          by_cases y : co (takenL a b) i = 0
          · exact y
          · exact absurd (List.any_eq_true.mpr ⟨co (takenL a b) i, co_mem (by rw [taken_len hl]; exact hi), by simpa using y⟩) c
        rw [co_taken hl] at z
        omega
      · rw [co_out (by omega), co_out (by omega)]
  rw [co_ext ((h.len a ha).trans (h'.len b hb).symm) eab]
  exact hb
/-- steps are told by their mixtures -/
theorem Hnf.uniq {m : Nat} {G G' ms ms' : List (List Int)} (h : Hnf m G ms) (h' : Hnf m G' ms') (e1 : ∀ x, Lat (G.map co) x → Lat (G'.map co) x) (e2 : ∀ x, Lat (G'.map co) x → Lat (G.map co) x) : ms = ms' := by
  have e := ech_eq h.ech h'.ech fun x => by
    constructor
    · intro hx
      obtain ⟨y, hy, rfl⟩ := List.mem_map.mp hx
      exact List.mem_map_of_mem (h.sub h' e1 e2 y hy)
    · intro hx
      obtain ⟨y, hy, rfl⟩ := List.mem_map.mp hx
      exact List.mem_map_of_mem (h'.sub h e2 e1 y hy)
  refine List.ext_getElem (by have := congrArg List.length e; rwa [List.length_map, List.length_map] at this) fun i h1 h2 => ?_
  refine co_ext ((h.len _ (List.getElem_mem h1)).trans (h'.len _ (List.getElem_mem h2)).symm) ?_
  have z : (ms.map co)[i]? = (ms'.map co)[i]? := by rw [e]
  rw [List.getElem?_map, List.getElem?_map, List.getElem?_eq_getElem h1, List.getElem?_eq_getElem h2] at z
  exact Option.some.inj z
end El
/-! Determinants: by a column, over a list of rows; what they bound. -/
namespace El
/-- the sum over the rows of a part by what the others come to, with signs in turn -/
def alt (c : Nat) : (List Vc → Int) → List Vc → Int
  | _, [] => 0
  | D, r :: rs => r c * D rs - alt c (fun L => D (r :: L)) rs
def one0 : List Vc → Int
  | [] => 1
  | _ => 0
def det : List Nat → List Vc → Int
  | [] => one0
  | c :: cs => alt c (det cs)
theorem alt_add (c : Nat) : ∀ (L : List Vc) (D E : List Vc → Int) (k : Int), alt c (fun M => D M + k * E M) L = alt c D L + k * alt c E L
  | [], D, E, k => by simp [alt]
  | r :: L, D, E, k => by
    show r c * (D L + k * E L) - alt c (fun M => D (r :: M) + k * E (r :: M)) L = (r c * D L - alt c (fun M => D (r :: M)) L) + k * (r c * E L - alt c (fun M => E (r :: M)) L)
    rw [alt_add c L (fun M => D (r :: M)) (fun M => E (r :: M)) k, Int.mul_add, Int.mul_sub, Int.mul_left_comm k]
    omega
theorem alt_zero (c : Nat) : ∀ (L : List Vc), alt c (fun _ => 0) L = 0
  | [] => rfl
  | r :: L => by show r c * 0 - alt c (fun _ => 0) L = 0; rw [alt_zero c L]; simp
theorem alt_neg (c : Nat) (L : List Vc) (D : List Vc → Int) : alt c (fun M => - D M) L = - alt c D L := by
  have z := alt_add c L (fun _ => 0) D (-1)
  rw [alt_zero] at z
  have e : (fun M => (0 : Int) + -1 * D M) = fun M => - D M := funext fun M => by omega
  rw [e] at z
  omega
/-- two columns change places -/
theorem alt_swap (c c' : Nat) : ∀ (L : List Vc) (D : List Vc → Int), alt c (fun M => alt c' D M) L = - alt c' (fun M => alt c D M) L
  | [], D => by simp [alt]
  | r :: L, D => by
    have e : ∀ a b : Nat, alt a (fun M => alt b D M) (r :: L) = r a * alt b D L - (r b * alt a D L - alt a (fun M => alt b (fun N => D (r :: N)) M) L) := fun a b => by
      show r a * alt b D L - alt a (fun M => r b * D M - alt b (fun N => D (r :: N)) M) L = _
      have z := alt_add a L (fun M => - alt b (fun N => D (r :: N)) M) D (r b)
      have f : (fun M => - alt b (fun N => D (r :: N)) M + r b * D M) = fun M => r b * D M - alt b (fun N => D (r :: N)) M := funext fun M => by omega
      have y : alt a (fun M => - alt b (fun N => D (r :: N)) M) L = - alt a (fun M => alt b (fun N => D (r :: N)) M) L := alt_neg a L fun M => alt b (fun N => D (r :: N)) M
      rw [f, y] at z
      rw [z]; omega
    rw [e, e, alt_swap c c' L fun N => D (r :: N)]
    omega
theorem alt_twice (c : Nat) (L : List Vc) (D : List Vc → Int) : alt c (fun M => alt c D M) L = 0 := by
  have := alt_swap c c L D
  omega
/-- a column stands twice -/
theorem det_dup {j : Nat} : ∀ {cs : List Nat}, j ∈ cs → ∀ L, alt j (det cs) L = 0
  | c :: cs, h, L => by
    by_cases e : j = c
    · subst e; exact alt_twice j L (det cs)
    · have hj := (List.mem_cons.mp h).resolve_left e
      have z := alt_swap j c L (det cs)
      have f : (fun M => alt j (det cs) M) = fun _ => 0 := funext fun M => det_dup hj M
      rw [f, alt_zero] at z
      have : alt j (det (c :: cs)) L = - 0 := z
      omega
/-- linear in each row -/
def Lin (D : List Vc → Int) : Prop := ∀ (pre post : List Vc) (x y : Vc) (k : Int), D (pre ++ (fun i => x i + k * y i) :: post) = D (pre ++ x :: post) + k * D (pre ++ y :: post)
theorem Lin.alt {c : Nat} : ∀ {D : List Vc → Int}, Lin D → Lin (alt c D) := fun {D} h pre => by
  induction pre generalizing D with
  | nil =>
    intro post x y k
    show (x c + k * y c) * D post - El.alt c (fun L => D ((fun i => x i + k * y i) :: L)) post = (x c * D post - El.alt c (fun L => D (x :: L)) post) + k * (y c * D post - El.alt c (fun L => D (y :: L)) post)
    have e : (fun L => D ((fun i => x i + k * y i) :: L)) = fun L => D (x :: L) + k * D (y :: L) := funext fun L => h [] L x y k
    rw [e, alt_add, Int.add_mul, Int.mul_sub, Int.mul_assoc]
    omega
  | cons r pre ih =>
    intro post x y k
    show r c * D (pre ++ (fun i => x i + k * y i) :: post) - El.alt c (fun L => D (r :: L)) (pre ++ (fun i => x i + k * y i) :: post) = (r c * D (pre ++ x :: post) - El.alt c (fun L => D (r :: L)) (pre ++ x :: post)) + k * (r c * D (pre ++ y :: post) - El.alt c (fun L => D (r :: L)) (pre ++ y :: post))
    rw [h pre post x y k, ih (D := fun L => D (r :: L)) (fun p q u v j => h (r :: p) q u v j) post x y k, Int.mul_add, Int.mul_sub, Int.mul_left_comm k]
    omega
theorem Lin.one0 : Lin one0 := fun pre post x y k => by
  cases pre <;> simp [El.one0]
theorem det_lin : ∀ cs : List Nat, Lin (det cs)
  | [] => Lin.one0
  | c :: cs => (det_lin cs).alt
theorem Lin.zero {D : List Vc → Int} (h : Lin D) (pre post : List Vc) : D (pre ++ (fun _ => 0) :: post) = 0 := by
  have z := h pre post (fun _ => 0) (fun _ => 0) (-1)
  have e : (fun i : Nat => (fun _ : Nat => (0 : Int)) i + -1 * (fun _ : Nat => (0 : Int)) i) = fun _ => 0 := funext fun i => by simp
  rw [e] at z
  omega
/-- nought with all of G: nought with its mixtures -/
theorem Lin.lat {D : List Vc → Int} (h : Lin D) {G : List Vc} {pre post : List Vc} (hG : ∀ g ∈ G, D (pre ++ g :: post) = 0) {x : Vc} (hx : Lat G x) : D (pre ++ x :: post) = 0 := by
  induction hx with
  | zero => exact h.zero pre post
  | @add y g k _ hg ih => rw [h pre post y g k, ih, hG g hg]; simp
theorem Lin.some {D : List Vc → Int} (h : Lin D) {G : List Vc} : ∀ (hs pre : List Vc), (∀ x ∈ hs, Lat G x) → D (pre ++ hs) ≠ 0 → ∃ gs, gs.length = hs.length ∧ (∀ g ∈ gs, g ∈ G) ∧ D (pre ++ gs) ≠ 0
  | [], pre, _, z => ⟨[], rfl, fun _ h => absurd h List.not_mem_nil, z⟩
  | x :: hs, pre, hl, z => by
    have hx := hl x List.mem_cons_self
    obtain ⟨g, hg, hz⟩ : ∃ g ∈ G, D (pre ++ g :: hs) ≠ 0 := Classical.byContradiction fun n => z (h.lat (fun g hg => Classical.byContradiction fun w => n ⟨g, hg, w⟩) hx)
    have e : pre ++ g :: hs = (pre ++ [g]) ++ hs := by simp
    rw [e] at hz
    obtain ⟨gs, h1, h2, h3⟩ := h.some hs (pre ++ [g]) (fun y hy => hl y (List.mem_cons_of_mem _ hy)) hz
    refine ⟨g :: gs, by rw [List.length_cons, h1, List.length_cons], fun y hy => ?_, by rw [List.append_assoc] at h3; exact h3⟩
    rcases List.mem_cons.mp hy with e | e
    · rw [e]; exact hg
    · exact h2 y e
/-- two rows change places -/
def Alt (D : List Vc → Int) : Prop := ∀ (pre post : List Vc) (x y : Vc), D (pre ++ x :: y :: post) = - D (pre ++ y :: x :: post)
theorem Alt.alt {c : Nat} {D : List Vc → Int} (h : Alt D) : Alt (alt c D) := fun pre => by
  induction pre generalizing D with
  | nil =>
    intro post x y
    show x c * D (y :: post) - (y c * D (x :: post) - El.alt c (fun L => D (x :: y :: L)) post) = -(y c * D (x :: post) - (x c * D (y :: post) - El.alt c (fun L => D (y :: x :: L)) post))
    have e : (fun L => D (x :: y :: L)) = fun L => - D (y :: x :: L) := funext fun L => h [] L x y
    rw [e, alt_neg]; omega
  | cons r pre ih =>
    intro post x y
    show r c * D (pre ++ x :: y :: post) - El.alt c (fun L => D (r :: L)) (pre ++ x :: y :: post) = -(r c * D (pre ++ y :: x :: post) - El.alt c (fun L => D (r :: L)) (pre ++ y :: x :: post))
    rw [h pre post x y, ih (D := fun L => D (r :: L)) (fun p q u v => h (r :: p) q u v) post x y, Int.mul_neg]
    omega
theorem Alt.one0 : Alt one0 := fun pre post x y => by cases pre <;> simp [El.one0]
theorem det_alt : ∀ cs : List Nat, Alt (det cs)
  | [] => Alt.one0
  | c :: cs => (det_alt cs).alt
theorem Alt.dup {D : List Vc → Int} (h : Alt D) {x : Vc} : ∀ (mid pre post : List Vc), D (pre ++ x :: (mid ++ x :: post)) = 0
  | [], pre, post => by have := h pre post x x; simp only [List.nil_append]; omega
  | y :: mid, pre, post => by
    rw [List.cons_append, h pre (mid ++ x :: post) x y]
    have z := h.dup (x := x) mid (pre ++ [y]) post
    have e : pre ++ y :: x :: (mid ++ x :: post) = (pre ++ [y]) ++ x :: (mid ++ x :: post) := by simp
    rw [e, z]; rfl
/-- of rows with a determinant, none stands twice -/
theorem Alt.nodup {D : List Vc → Int} (h : Alt D) : ∀ (L pre : List Vc), D (pre ++ L) ≠ 0 → L.Nodup
  | [], _, _ => .nil
  | x :: L, pre, z => by
    refine List.nodup_cons.mpr ⟨fun hx => ?_, ?_⟩
    · obtain ⟨s, t, rfl⟩ := List.append_of_mem hx
      exact z (h.dup s pre t)
    · refine h.nodup L (pre ++ [x]) ?_
      rw [List.append_assoc]; exact z
/-! ### how great -/
theorem alt_le {c B b : Nat} : ∀ (L : List Vc) (D : List Vc → Int), (∀ x ∈ L, (x c).natAbs ≤ B) → (∀ M, (∀ x ∈ M, x ∈ L) → M.length + 1 = L.length → (D M).natAbs ≤ b) → (alt c D L).natAbs ≤ L.length * (B * b)
  | [], _, _, _ => by simp [alt]
  | r :: L, D, h1, h2 => by
    have b1 : (r c * D L).natAbs ≤ B * b := by
      rw [Int.natAbs_mul]
      exact Nat.mul_le_mul (h1 r List.mem_cons_self) (h2 L (fun x hx => List.mem_cons_of_mem _ hx) rfl)
    have b2 := alt_le (c := c) (B := B) (b := b) L (fun M => D (r :: M)) (fun x hx => h1 x (List.mem_cons_of_mem _ hx)) fun M m1 m2 => h2 (r :: M) (fun x hx => by
      rcases List.mem_cons.mp hx with e | e
      · rw [e]; exact List.mem_cons_self
      · exact List.mem_cons_of_mem _ (m1 x e)) (by rw [List.length_cons, List.length_cons, m2])
    show (r c * D L - alt c (fun M => D (r :: M)) L).natAbs ≤ (L.length + 1) * (B * b)
    rw [Nat.succ_mul]
    omega
def fac : Nat → Nat
  | 0 => 1
  | n + 1 => (n + 1) * fac n
theorem fac_up : ∀ {n m : Nat}, n ≤ m → fac n ≤ fac m := fun {n m} h => by
  induction h with
  | refl => exact Nat.le_refl _
  | @step m _ ih => exact Nat.le_trans ih (Nat.le_mul_of_pos_left _ (Nat.succ_pos _))
theorem det_le {B : Nat} : ∀ (cs : List Nat) (L : List Vc), L.length = cs.length → (∀ x ∈ L, ∀ c ∈ cs, (x c).natAbs ≤ B) → (det cs L).natAbs ≤ fac cs.length * B ^ cs.length
  | [], L, h, _ => by
    have : L = [] := List.length_eq_zero_iff.mp h
    subst this
    exact Nat.le_of_eq (by simp [det, one0, fac])
  | c :: cs, L, h, hb => by
    have z := alt_le (c := c) (B := B) (b := fac cs.length * B ^ cs.length) L (det cs) (fun x hx => hb x hx c List.mem_cons_self) fun M m1 m2 => det_le cs M (by rw [h, List.length_cons] at m2; omega) fun x hx d hd => hb x (m1 x hx) d (List.mem_cons_of_mem _ hd)
    refine Nat.le_trans z ?_
    rw [h, List.length_cons]
    show (cs.length + 1) * (B * (fac cs.length * B ^ cs.length)) ≤ (cs.length + 1) * fac cs.length * B ^ (cs.length + 1)
    rw [Nat.pow_succ, Nat.mul_left_comm B, ← Nat.mul_assoc (cs.length + 1), Nat.mul_comm B]
    exact Nat.le_refl _
/-- one row with parts of its own -/
theorem det_le1 {B P : Nat} (y : Vc) : ∀ (cs : List Nat) (pre post : List Vc), (pre ++ y :: post).length = cs.length → (∀ x ∈ pre ++ post, ∀ c ∈ cs, (x c).natAbs ≤ B) → (∀ c ∈ cs, (y c).natAbs ≤ P) → (det cs (pre ++ y :: post)).natAbs ≤ fac cs.length * (P * B ^ (cs.length - 1))
  | [], pre, post, h, _, _ => by simp at h
  | c :: cs, pre, post, h, hb, hp => by
    have hl : pre.length + post.length = cs.length := by
      rw [List.length_append, List.length_cons, List.length_cons] at h; omega
    have key : ∀ (pre' : List Vc) (D : List Vc → Int), (∀ x ∈ pre', (x c).natAbs ≤ B) → (∀ x ∈ post, (x c).natAbs ≤ B) → (D (pre' ++ post)).natAbs ≤ fac cs.length * B ^ cs.length → (∀ M N, (∀ x ∈ M ++ N, x ∈ pre' ++ post) → M.length + N.length + 1 = pre'.length + post.length → (D (M ++ y :: N)).natAbs ≤ fac cs.length * (P * B ^ (cs.length - 1))) →
        (alt c D (pre' ++ y :: post)).natAbs ≤ P * (fac cs.length * B ^ cs.length) + (pre'.length + post.length) * (B * (fac cs.length * (P * B ^ (cs.length - 1)))) := fun pre' => by
      induction pre' with
      | nil =>
        intro D h1 h2 h3 h4
        show (y c * D post - alt c (fun M => D (y :: M)) post).natAbs ≤ _
        have b1 : (y c * D post).natAbs ≤ P * (fac cs.length * B ^ cs.length) := by
          rw [Int.natAbs_mul]; exact Nat.mul_le_mul (hp c List.mem_cons_self) h3
        have b2 := alt_le (c := c) (B := B) (b := fac cs.length * (P * B ^ (cs.length - 1))) post (fun M => D (y :: M)) h2 fun M m1 m2 => h4 [] M (fun x hx => m1 x (by simpa using hx)) (by simpa using m2)
        simp only [List.length_nil, Nat.zero_add]
        omega
      | cons r pre' ih =>
        intro D h1 h2 h3 h4
        show (r c * D (pre' ++ y :: post) - alt c (fun M => D (r :: M)) (pre' ++ y :: post)).natAbs ≤ _
        have b1 : (r c * D (pre' ++ y :: post)).natAbs ≤ B * (fac cs.length * (P * B ^ (cs.length - 1))) := by
          rw [Int.natAbs_mul]
          refine Nat.mul_le_mul (h1 r List.mem_cons_self) (h4 pre' post (fun x hx => List.mem_cons_of_mem _ hx) ?_)
          rw [List.length_cons]; omega
        have b2 := ih (fun M => D (r :: M)) (fun x hx => h1 x (List.mem_cons_of_mem _ hx)) h2 h3 fun M N m1 m2 => h4 (r :: M) N (fun x hx => by
          rw [List.cons_append] at hx
          rcases List.mem_cons.mp hx with e | e
          · rw [e]; exact List.mem_cons_self
          · exact List.mem_cons_of_mem _ (m1 x e)) (by rw [List.length_cons, List.length_cons]; omega)
        have e1 : ((r :: pre').length + post.length) * (B * (fac cs.length * (P * B ^ (cs.length - 1)))) = (pre'.length + post.length) * (B * (fac cs.length * (P * B ^ (cs.length - 1)))) + B * (fac cs.length * (P * B ^ (cs.length - 1))) := by
          rw [← Nat.succ_mul, List.length_cons]; congr 1; omega
        rw [e1]
        omega
    have h3 : (det cs (pre ++ post)).natAbs ≤ fac cs.length * B ^ cs.length := det_le cs _ (by rw [List.length_append]; exact hl) fun x hx d hd => hb x hx d (List.mem_cons_of_mem _ hd)
    have z := key pre (det cs) (fun x hx => hb x (List.mem_append_left _ hx) c List.mem_cons_self) (fun x hx => hb x (List.mem_append_right _ hx) c List.mem_cons_self) h3 fun M N m1 m2 => by
      refine det_le1 y cs M N (by rw [List.length_append, List.length_cons]; omega) (fun x hx d hd => hb x (m1 x hx) d (List.mem_cons_of_mem _ hd)) fun d hd => hp d (List.mem_cons_of_mem _ hd)
    refine Nat.le_trans z ?_
    rw [hl]
    show _ ≤ (cs.length + 1) * fac cs.length * (P * B ^ (cs.length + 1 - 1))
    rw [Nat.add_sub_cancel, Nat.succ_mul, Nat.add_mul]
    cases hn : cs.length with
    | zero => simp; rw [Nat.mul_comm]; exact Nat.le_refl _
    | succ n =>
      rw [Nat.add_sub_cancel, Nat.add_comm]
      refine Nat.add_le_add ?_ ?_
      · rw [Nat.pow_succ, Nat.mul_assoc, Nat.mul_left_comm B, Nat.mul_left_comm B, Nat.mul_comm B]
        exact Nat.le_refl _
      · rw [Nat.mul_left_comm]; exact Nat.le_refl _
end El
/-! What determinants bound: the first parts of steps, and all their parts. -/
namespace El
theorem exists_fp {x : Vc} : ∀ {i : Nat}, x i ≠ 0 → ∃ q, q ≤ i ∧ Fp x q := fun {i} => by
  induction i using Nat.strongRecOn with
  | _ i ih =>
    intro h
    by_cases z : ∀ j < i, x j = 0
    · exact ⟨i, Nat.le_refl _, h, z⟩
    · simp only [Classical.not_forall] at z
      obtain ⟨j, hj, n⟩ := z
      obtain ⟨q, hq, f⟩ := ih j hj n
      exact ⟨q, by omega, f⟩
theorem alt_nil {c : Nat} : ∀ {L : List Vc} {D : List Vc → Int}, (∀ r ∈ L, r c = 0) → alt c D L = 0
  | [], _, _ => rfl
  | r :: L, D, h => by
    show r c * D L - alt c (fun M => D (r :: M)) L = 0
    rw [h r List.mem_cons_self, alt_nil fun s hs => h s (List.mem_cons_of_mem _ hs)]; simp
theorem alt_lat : ∀ (L : List Vc) (D : List Vc → Int), Lat L (fun c => alt c D L)
  | [], D => .zero
  | r :: L, D => by
    have z := ((alt_lat L fun M => D (r :: M)).sub_of fun g hg => List.mem_cons_of_mem r hg)
    have y := ((Lat.of (List.mem_cons_self (a := r) (l := L))).mul (D L)).sub 1 z
    have e : (fun i => D L * r i - (fun c => alt c (fun M => D (r :: M)) L) i * 1) = fun c => alt c D (r :: L) := funext fun c => by
      show D L * r c - alt c (fun M => D (r :: M)) L * 1 = r c * D L - alt c (fun M => D (r :: M)) L
      rw [Int.mul_one, Int.mul_comm]
    rwa [e] at y
/-- the places of steps -/
theorem Ech.places : ∀ {n : Nat} {ss : List Vc}, Ech n ss → ∃ ps : List Nat, ps.length = ss.length ∧ (∀ p ∈ ps, ∃ x ∈ ss, Fp x p) ∧ (∀ x ∈ ss, ∃ p ∈ ps, Fp x p) ∧ det ps ss ≠ 0 ∧
    ∀ (s : Vc) (q : Nat), (∀ i < q, s i = 0) → s q ≠ 0 → (∀ p ∈ ps, p < q) → det (q :: ps) (ss ++ [s]) ≠ 0
  | _, [], _ => ⟨[], rfl, fun _ h => absurd h List.not_mem_nil, fun _ h => absurd h List.not_mem_nil, by decide, fun s q _ h _ => by
      show s q * 1 - 0 ≠ 0
      omega⟩
  | _, x :: ss, h => by
    cases h with
    | @cons _ p _ _ f l e =>
    obtain ⟨ps, h1, h2, h3, h4, h5⟩ := Ech.places e
    refine ⟨p :: ps, by rw [List.length_cons, h1, List.length_cons], fun r hr => ?_, fun y hy => ?_, ?_, fun s q hz hq hp => ?_⟩
    · rcases List.mem_cons.mp hr with c | c
      · exact ⟨x, List.mem_cons_self, by rw [c]; exact f⟩
      · obtain ⟨y, hy, fy⟩ := h2 r c
        exact ⟨y, List.mem_cons_of_mem _ hy, fy⟩
    · rcases List.mem_cons.mp hy with c | c
      · exact ⟨p, List.mem_cons_self, by rw [c]; exact f⟩
      · obtain ⟨r, hr, fr⟩ := h3 y c
        exact ⟨r, List.mem_cons_of_mem _ hr, fr⟩
    · show x p * det ps ss - alt p (fun M => det ps (x :: M)) ss ≠ 0
      rw [alt_nil fun r hr => e.zero r hr p (Nat.lt_succ_self _), Int.sub_zero]
      exact fun z => (Int.mul_eq_zero.mp z).elim f.nz h4
    · have sw := alt_swap q p (x :: (ss ++ [s])) (det ps)
      have e1 : alt p (fun M => alt q (det ps) M) (x :: (ss ++ [s])) = x p * det (q :: ps) (ss ++ [s]) := by
        show x p * det (q :: ps) (ss ++ [s]) - alt p (fun M => alt q (det ps) (x :: M)) (ss ++ [s]) = _
        rw [alt_nil (L := ss ++ [s]) fun r hr => ?_, Int.sub_zero]
        rcases List.mem_append.mp hr with c | c
        · exact e.zero r c p (Nat.lt_succ_self _)
        · rw [List.mem_singleton.mp c]; exact hz p (hp p List.mem_cons_self)
      have n := h5 s q hz hq fun r hr => hp r (List.mem_cons_of_mem _ hr)
      show alt q (fun M => alt p (det ps) M) (x :: (ss ++ [s])) ≠ 0
      rw [sw, e1]
      intro z
      have z2 : x p * det (q :: ps) (ss ++ [s]) = 0 := by omega
      exact (Int.mul_eq_zero.mp z2).elim f.nz n
theorem Ech.front : ∀ {n : Nat} {A B : List Vc}, Ech n (A ++ B) → Ech n A
  | _, [], _, _ => .nil
  | _, a :: A, B, h => by
    cases h with
    | cons f l e => exact .cons f l (Ech.front e)
theorem nodup_le {α : Type} : ∀ {l l' : List α}, l.Nodup → (∀ x ∈ l, x ∈ l') → l.length ≤ l'.length
  | [], _, _, _ => Nat.zero_le _
  | x :: l, l', h, s => by
    obtain ⟨h1, h2⟩ := List.nodup_cons.mp h
    obtain ⟨a, b, rfl⟩ := List.append_of_mem (s x List.mem_cons_self)
    have z := nodup_le (l' := a ++ b) h2 fun y hy => by
      rcases List.mem_append.mp (s y (List.mem_cons_of_mem _ hy)) with c | c
      · exact List.mem_append_left _ c
      · rcases List.mem_cons.mp c with d | d
        · rw [d] at hy; exact absurd hy h1
        · exact List.mem_append_right _ d
    rw [List.length_append] at z
    rw [List.length_append, List.length_cons, List.length_cons]
    omega
/-- some whole multiples of rows among the mixtures: a determinant of rows themselves -/
theorem Lin.someQ {D : List Vc → Int} (h : Lin D) {G : List Vc} : ∀ (hs pre : List Vc), (∀ s ∈ hs, ∃ E : Int, E ≠ 0 ∧ Lat G (fun i => E * s i)) → D (pre ++ hs) ≠ 0 → ∃ gs, gs.length = hs.length ∧ (∀ g ∈ gs, g ∈ G) ∧ D (pre ++ gs) ≠ 0
  | [], pre, _, z => ⟨[], rfl, fun _ h => absurd h List.not_mem_nil, z⟩
  | s :: ss, pre, hs, z => by
    obtain ⟨E, hE, hl⟩ := hs s List.mem_cons_self
    have nz : D (pre ++ (fun i => E * s i) :: ss) ≠ 0 := by
      have y := h pre ss (fun _ => 0) s E
      have e : (fun i : Nat => (fun _ : Nat => (0 : Int)) i + E * s i) = fun i => E * s i := funext fun i => by simp
      rw [e, h.zero] at y
      rw [y, Int.zero_add]
      exact fun w => (Int.mul_eq_zero.mp w).elim hE z
    obtain ⟨g, hg, hz⟩ : ∃ g ∈ G, D (pre ++ g :: ss) ≠ 0 := Classical.byContradiction fun n => nz (h.lat (fun g hg => Classical.byContradiction fun w => n ⟨g, hg, w⟩) hl)
    have e : pre ++ g :: ss = (pre ++ [g]) ++ ss := by simp
    rw [e] at hz
    obtain ⟨gs, k1, k2, k3⟩ := h.someQ ss (pre ++ [g]) (fun y hy => hs y (List.mem_cons_of_mem _ hy)) hz
    refine ⟨g :: gs, by rw [List.length_cons, k1, List.length_cons], fun y hy => ?_, by rw [List.append_assoc] at k3; exact k3⟩
    rcases List.mem_cons.mp hy with c | c
    · rw [c]; exact hg
    · exact k2 y c
/-- rows of which each has a place at which the later ones have 0 -/
inductive Tri : List Nat → List Vc → Prop
  | nil : Tri [] []
  | cons {p : Nat} {ps : List Nat} {x : Vc} {xs : List Vc} : x p ≠ 0 → (∀ y ∈ xs, y p = 0) → Tri ps xs → Tri (p :: ps) (x :: xs)
theorem Tri.det : ∀ {ps : List Nat} {xs : List Vc}, Tri ps xs → det ps xs ≠ 0
  | _, _, .nil => by decide
  | _, _, .cons (p := p) (ps := ps) (x := x) (xs := xs) h1 h2 t => by
    show x p * El.det ps xs - alt p (fun M => El.det ps (x :: M)) xs ≠ 0
    rw [alt_nil h2, Int.sub_zero]
    exact fun z => (Int.mul_eq_zero.mp z).elim h1 t.det
/-- they are at most as many as the rows that they are mixtures of -/
theorem Tri.le {ps : List Nat} {G ss : List Vc} (t : Tri ps ss) (h : ∀ s ∈ ss, ∃ D : Int, D ≠ 0 ∧ Lat G (fun i => D * s i)) : ss.length ≤ G.length := by
  obtain ⟨gs, k1, k2, k3⟩ := (det_lin ps).someQ ss [] h t.det
  rw [← k1]
  exact nodup_le ((det_alt ps).nodup gs [] k3) k2
theorem Ech.tri : ∀ {n : Nat} {ss : List Vc}, Ech n ss → ∃ ps, Tri ps ss ∧ (∀ p ∈ ps, ∃ x ∈ ss, Fp x p) ∧ ∀ x ∈ ss, ∃ p ∈ ps, Fp x p
  | _, [], _ => ⟨[], .nil, fun _ h => absurd h List.not_mem_nil, fun _ h => absurd h List.not_mem_nil⟩
  | _, x :: ss, h => by
    cases h with
    | @cons _ p _ _ f l e =>
    obtain ⟨ps, t, h2, h3⟩ := e.tri
    refine ⟨p :: ps, .cons f.nz (fun y hy => e.zero y hy p (Nat.lt_succ_self _)) t, fun r hr => ?_, fun y hy => ?_⟩
    · rcases List.mem_cons.mp hr with c | c
      · exact ⟨x, List.mem_cons_self, by rw [c]; exact f⟩
      · obtain ⟨y, hy, fy⟩ := h2 r c
        exact ⟨y, List.mem_cons_of_mem _ hy, fy⟩
    · rcases List.mem_cons.mp hy with c | c
      · exact ⟨p, List.mem_cons_self, by rw [c]; exact f⟩
      · obtain ⟨r, hr, fr⟩ := h3 y c
        exact ⟨r, List.mem_cons_of_mem _ hr, fr⟩
theorem Tri.len : ∀ {ps : List Nat} {xs : List Vc}, Tri ps xs → ps.length = xs.length
  | _, _, .nil => rfl
  | _, _, .cons _ _ t => by rw [List.length_cons, List.length_cons, t.len]
/-- steps of mixtures are at most as many as the rows -/
theorem Ech.le {n : Nat} {G ss : List Vc} (e : Ech n ss) (h : ∀ s ∈ ss, ∃ D : Int, D ≠ 0 ∧ Lat G (fun i => D * s i)) : ss.length ≤ G.length := by
  obtain ⟨ps, t, _⟩ := e.tri
  exact t.le h
theorem pow_up {B a b : Nat} (h : 1 ≤ B) (l : a ≤ b) : B ^ a ≤ B ^ b := Nat.pow_le_pow_right h l
/-- the first part of a step is below the determinants -/
theorem pivot_det {G made : List Vc} {n B : Nat} (hn : made.length ≤ n) (b1 : 1 ≤ B) (hB : ∀ g ∈ G, ∀ i, (g i).natAbs ≤ B) (em : Ech 0 made) (h1 : ∀ s ∈ made, ∃ D : Int, D ≠ 0 ∧ Lat G (fun i => D * s i)) (h2 : ∀ g ∈ G, Lat made g)
    {s : Vc} {q : Nat} (hs : s ∈ made) (f : Fp s q) : (s q).natAbs ≤ fac n * B ^ n := by
  obtain ⟨pre, post, rfl⟩ := List.append_of_mem hs
  obtain ⟨ps, k1, k2, k3, k4, k5⟩ := em.front.places
  have bel : ∀ p ∈ ps, p < q := fun p hp => by
    obtain ⟨x, hx, fx⟩ := k2 p hp
    obtain ⟨p', f', l⟩ := em.before f x hx
    have := fx.uniq f'
    omega
  have nz := k5 s q f.zs f.nz bel
  obtain ⟨gs, g1, g2, g3⟩ := (det_lin (q :: ps)).someQ (G := G) (pre ++ [s]) [] (fun x hx => h1 x (by
    rcases List.mem_append.mp hx with c | c
    · exact List.mem_append_left _ c
    · rw [List.mem_singleton.mp c]; exact hs)) nz
  have lx : Lat G (fun j => det (j :: ps) gs) := (alt_lat gs (det ps)).sub_of g2
  have lm : Lat (pre ++ s :: post) (fun j => det (j :: ps) gs) := lx.mono h2
  have fx : Fp (fun j => det (j :: ps) gs) q := by
    refine ⟨g3, fun i hi => Classical.byContradiction fun n => ?_⟩
    obtain ⟨i0, l0, f0⟩ := exists_fp (x := fun j => det (j :: ps) gs) n
    obtain ⟨t, ht, ft, _⟩ := em.fp lm f0
    refine f0.nz (det_dup ?_ gs)
    rcases List.mem_append.mp ht with c | c
    · obtain ⟨p, hp, fp⟩ := k3 t c
      rw [ft.uniq fp]; exact hp
    · rcases List.mem_cons.mp c with d | d
      · rw [d] at ft
        have := ft.uniq f
        omega
      · obtain ⟨a, b, rfl⟩ := List.append_of_mem d
        have e : pre ++ s :: (a ++ t :: b) = (pre ++ s :: a) ++ t :: b := by simp
        rw [e] at em
        obtain ⟨p', f', l'⟩ := em.before ft s (List.mem_append_right _ List.mem_cons_self)
        have := f.uniq f'
        omega
  obtain ⟨t, ht, ft, dv⟩ := em.fp lm fx
  have := em.one hs ht f ft
  subst this
  have hlen : gs.length = (q :: ps).length := by rw [g1, List.length_append, List.length_singleton, List.length_cons, k1]
  have le := det_le (B := B) (q :: ps) gs hlen fun x hx c _ => hB x (g2 x hx) c
  refine Nat.le_trans (Nat.le_of_dvd (Int.natAbs_pos.mpr fx.nz) (Int.natAbs_dvd_natAbs.mpr dv)) (Nat.le_trans le ?_)
  have ln : (q :: ps).length ≤ n := by
    rw [List.length_cons, k1]
    rw [List.length_append, List.length_cons] at hn
    omega
  exact Nat.mul_le_mul (fac_up ln) (pow_up b1 ln)
/-- all of a row is small whose parts where steps begin are -/
theorem part_det {G made : List Vc} {n B P : Nat} (hn : made.length ≤ n) (b1 : 1 ≤ B) (hB : ∀ g ∈ G, ∀ i, (g i).natAbs ≤ B) (em : Ech 0 made) (h1 : ∀ s ∈ made, ∃ D : Int, D ≠ 0 ∧ Lat G (fun i => D * s i)) (h2 : ∀ g ∈ G, Lat made g)
    {x : Vc} (hx : ∃ D : Int, D ≠ 0 ∧ Lat G (fun i => D * x i)) (hP : ∀ s ∈ made, ∀ q, Fp s q → (x q).natAbs ≤ P) (i : Nat) : (x i).natAbs ≤ n * (B * (fac n * (P * B ^ (n - 1)))) := by
  obtain ⟨D, hD, hl⟩ := hx
  obtain ⟨ps, k1, k2, k3, k4, _⟩ := em.places
  obtain ⟨gs, g1, g2, g3⟩ := (det_lin ps).someQ (G := G) made [] h1 (by rw [List.nil_append]; exact k4)
  rw [List.nil_append] at g3
  have z0 : det (i :: ps) (x :: gs) = 0 := by
    have lz : Lat (x :: gs) (fun j => det (j :: ps) (x :: gs)) := alt_lat (x :: gs) (det ps)
    obtain ⟨k, y, hy, e⟩ := lz.head
    have lm : Lat made (fun j => D * det (j :: ps) (x :: gs)) := by
      have z := ((hl.mono h2).mul k).sum (((hy.sub_of g2).mono h2).mul D)
      have e2 : (fun i => k * (D * x i) + D * y i) = fun j => D * det (j :: ps) (x :: gs) := funext fun j => by
        have := congrFun e j
        rw [this, Int.mul_add, Int.mul_left_comm]
      rwa [e2] at z
    refine Classical.byContradiction fun n => ?_
    obtain ⟨i0, l0, f0⟩ := exists_fp (x := fun j => D * det (j :: ps) (x :: gs)) (i := i) fun w => (Int.mul_eq_zero.mp w).elim hD n
    obtain ⟨t, ht, ft, _⟩ := em.fp lm f0
    obtain ⟨p, hp, fp⟩ := k3 t ht
    refine f0.nz ?_
    show D * det (i0 :: ps) (x :: gs) = 0
    rw [ft.uniq fp, show det (p :: ps) (x :: gs) = 0 from det_dup hp _, Int.mul_zero]
  have ex : x i * det ps gs = alt i (fun M => det ps (x :: M)) gs := by
    have : x i * det ps gs - alt i (fun M => det ps (x :: M)) gs = 0 := z0
    omega
  have b2 := alt_le (c := i) (B := B) (b := fac ps.length * (P * B ^ (ps.length - 1))) gs (fun M => det ps (x :: M)) (fun y hy => hB y (g2 y hy) i) fun M m1 m2 => by
    refine det_le1 x ps [] M (by rw [List.nil_append, List.length_cons, m2, g1, k1]) (fun y hy c _ => hB y (g2 y (m1 y hy)) c) fun c hc => ?_
    obtain ⟨s, hs, fs⟩ := k2 c hc
    exact hP s hs c fs
  rw [← ex, Int.natAbs_mul, g1, k1] at b2
  refine Nat.le_trans (Nat.le_mul_of_pos_right _ (Int.natAbs_pos.mpr g3)) (Nat.le_trans b2 ?_)
  exact Nat.mul_le_mul hn (Nat.mul_le_mul_left _ (Nat.mul_le_mul (fac_up hn) (Nat.mul_le_mul_left _ (pow_up b1 (by omega)))))
end El
/-! Rows that come to nought with others: how many steps, and what comes to nought with these. -/
namespace El
/-- the parts of two rows below m multiplied, added up -/
def dotN : Nat → Vc → Vc → Int
  | 0, _, _ => 0
  | m + 1, x, y => dotN m x y + x m * y m
theorem dotN_add : ∀ (m : Nat) (x y z : Vc) (k : Int), dotN m x (fun i => y i + k * z i) = dotN m x y + k * dotN m x z
  | 0, _, _, _, _ => by simp [dotN]
  | m + 1, x, y, z, k => by
    show dotN m x (fun i => y i + k * z i) + x m * (y m + k * z m) = dotN m x y + x m * y m + k * (dotN m x z + x m * z m)
    rw [dotN_add m x y z k, Int.mul_add, Int.mul_add, Int.mul_left_comm k]; omega
theorem dotN_nil : ∀ (m : Nat) {x y : Vc}, (∀ i < m, x i * y i = 0) → dotN m x y = 0
  | 0, _, _, _ => rfl
  | m + 1, x, y, h => by
    show dotN m x y + x m * y m = 0
    rw [dotN_nil m fun i hi => h i (by omega), h m (by omega)]; rfl
theorem dotN_zero (m : Nat) (x : Vc) : dotN m x (fun _ => 0) = 0 := dotN_nil m fun i _ => by simp
theorem dotN_mul (m : Nat) (x y : Vc) (k : Int) : dotN m x (fun i => k * y i) = k * dotN m x y := by
  have z := dotN_add m x (fun _ => 0) y k
  have e : (fun i => (fun _ : Nat => (0 : Int)) i + k * y i) = fun i => k * y i := funext fun i => by simp
  rw [e, dotN_zero] at z
  omega
/-- one place alone -/
theorem dotN_one : ∀ (m : Nat) {x y : Vc} {q : Nat}, q < m → (∀ i < m, i ≠ q → x i * y i = 0) → dotN m x y = x q * y q
  | 0, _, _, _, h, _ => absurd h (Nat.not_lt_zero _)
  | m + 1, x, y, q, h, z => by
    show dotN m x y + x m * y m = x q * y q
    by_cases e : q = m
    · subst e
      rw [dotN_nil q fun i hi => z i (by omega) (by omega)]; omega
    · rw [dotN_one m (by omega) fun i hi n => z i (by omega) n, z m (by omega) (Ne.symm e)]; omega
/-- within the first m places -/
def In (m : Nat) (x : Vc) : Prop := ∀ i, m ≤ i → x i = 0
theorem Lat.inM {m : Nat} {G : List Vc} {y : Vc} (h : ∀ g ∈ G, In m g) (hy : Lat G y) : In m y := fun i hi => hy.zeros fun g hg => h g hg i hi
/-- to nought with all of E -/
def Orth (m : Nat) (E : List Vc) (x : Vc) : Prop := In m x ∧ ∀ e ∈ E, dotN m e x = 0
theorem Orth.zero {m : Nat} {E : List Vc} : Orth m E (fun _ => 0) := ⟨fun _ _ => rfl, fun e _ => dotN_zero m e⟩
theorem Orth.add {m : Nat} {E : List Vc} {x y : Vc} (hx : Orth m E x) (hy : Orth m E y) (k : Int) : Orth m E (fun i => x i + k * y i) :=
  ⟨fun i hi => by show x i + k * y i = 0; rw [hx.1 i hi, hy.1 i hi]; simp, fun e he => by rw [dotN_add, hx.2 e he, hy.2 e he]; simp⟩
theorem Orth.mul {m : Nat} {E : List Vc} {y : Vc} (hy : Orth m E y) (k : Int) : Orth m E (fun i => k * y i) :=
  ⟨fun i hi => by show k * y i = 0; rw [hy.1 i hi]; simp, fun e he => by rw [dotN_mul, hy.2 e he]; simp⟩
theorem Orth.lat {m : Nat} {E : List Vc} {F : List Vc} {x : Vc} (h : ∀ f ∈ F, Orth m E f) (hx : Lat F x) : Orth m E x := by
  induction hx with
  | zero => exact .zero
  | @add y g k _ hg ih => exact ih.add (h g hg) k
/-- for each place at which no step begins a row that ends there, with parts there and where steps begin alone -/
theorem Ech.solve {m q : Nat} (hq : q < m) : ∀ {n : Nat} {E : List Vc}, Ech n E → (∀ e ∈ E, In m e) → (∀ e ∈ E, ¬ Fp e q) → ∃ y, y q ≠ 0 ∧ (∀ i, q < i → y i = 0) ∧ (∀ i < n, i ≠ q → y i = 0) ∧ (∀ i, i ≠ q → (∀ e ∈ E, ¬ Fp e i) → y i = 0) ∧ ∀ e ∈ E, dotN m e y = 0
  | _, [], _, _, _ => ⟨fun i => if i = q then 1 else 0, by simp, fun i hi => if_neg (by omega), fun i _ hn => if_neg hn, fun i hn _ => if_neg hn, fun _ h => absurd h List.not_mem_nil⟩
  | n, e :: E, h, hm, hn => by
    cases h with
    | @cons _ p _ _ f l h' =>
    have pq : p ≠ q := fun z => hn e List.mem_cons_self (z ▸ f)
    have pm : p < m := by
      rcases Nat.lt_or_ge p m with c | c
      · exact c
      · exact absurd (hm e List.mem_cons_self p c) f.nz
    rcases Nat.lt_or_gt_of_ne pq with c | c
    · obtain ⟨y, y1, y2, y3, y4, y5⟩ := Ech.solve hq h' (fun x hx => hm x (List.mem_cons_of_mem _ hx)) fun x hx => hn x (List.mem_cons_of_mem _ hx)
      have yp : y p = 0 := y3 p (Nat.lt_succ_self _) pq
      have dl : ∀ x : Vc, dotN m x (fun i => if i = p then (1 : Int) else 0) = x p := fun x => by
        rw [dotN_one m pm fun i _ hi => by rw [if_neg hi]; simp]; simp
      have ey : (fun i => e p * y i + -(dotN m e y) * (if i = p then 1 else 0)) = fun i => (fun i => e p * y i) i + -(dotN m e y) * (fun i => if i = p then (1 : Int) else 0) i := rfl
      refine ⟨fun i => e p * y i + -(dotN m e y) * (if i = p then 1 else 0), ?_, fun i hi => ?_, fun i hi hne => ?_, fun i hne hE => ?_, fun x hx => ?_⟩
      · show e p * y q + -(dotN m e y) * (if q = p then 1 else 0) ≠ 0
        rw [if_neg (Ne.symm pq), Int.mul_zero, Int.add_zero]
        exact fun z => (Int.mul_eq_zero.mp z).elim f.nz y1
      · show e p * y i + -(dotN m e y) * (if i = p then 1 else 0) = 0
        rw [y2 i hi, if_neg (by omega)]; simp
      · show e p * y i + -(dotN m e y) * (if i = p then 1 else 0) = 0
        rw [y3 i (by omega) hne, if_neg (by omega)]; simp
      · show e p * y i + -(dotN m e y) * (if i = p then 1 else 0) = 0
        have ip : i ≠ p := fun z => hE e List.mem_cons_self (z ▸ f)
        rw [y4 i hne fun x hx => hE x (List.mem_cons_of_mem _ hx), if_neg ip]; simp
      · rw [ey, dotN_add, dotN_mul, dl]
        rcases List.mem_cons.mp hx with z | z
        · rw [z, Int.mul_comm, Int.neg_mul]; omega
        · rw [y5 x z, h'.zero x z p (Nat.lt_succ_self _)]; simp
    · refine ⟨fun i => if i = q then 1 else 0, by simp, fun i hi => if_neg (by omega), fun i _ hn => if_neg hn, fun i hn _ => if_neg hn, fun x hx => ?_⟩
      rw [dotN_one m hq fun i _ hi => by rw [if_neg hi]; simp]
      have : x q = 0 := by
        rcases List.mem_cons.mp hx with z | z
        · rw [z]; exact f.zs q c
        · exact h'.zero x z q (by omega)
      rw [this]; simp
/-- rows that come to nought with steps, one for each place where none begins -/
theorem Ech.kernel {m : Nat} {E : List Vc} (h : Ech 0 E) (hm : ∀ e ∈ E, In m e) : ∃ (qs : List Nat) (Y : List Vc), Tri qs Y ∧ Y.length + E.length = m ∧ (∀ y ∈ Y, Orth m E y) ∧ (∀ x, Orth m E x → ∃ D : Int, D ≠ 0 ∧ Lat Y (fun i => D * x i)) ∧
    ∀ q < m, (∀ e ∈ E, ¬ Fp e q) → ∃ y ∈ Y, y q ≠ 0 ∧ ∀ i, i ≠ q → (∀ e ∈ E, ¬ Fp e i) → y i = 0 := by
  obtain ⟨ps, t, p1, p2⟩ := h.tri
  have pnd : ps.Nodup := by
    have : ∀ {n : Nat} {E : List Vc} {ps : List Nat}, Ech n E → Tri ps E → (∀ x ∈ E, ∃ p ∈ ps, Fp x p) → (∀ p ∈ ps, ∃ x ∈ E, Fp x p) → True := fun _ _ _ _ => trivial
    clear p1 p2 this
    induction t with
    | nil => exact .nil
    | @cons p ps x xs a b t ih =>
      cases h with
      | cons f l e =>
      refine List.nodup_cons.mpr ⟨fun hp => ?_, ih (e.down (Nat.zero_le _)) fun y hy => hm y (List.mem_cons_of_mem _ hy)⟩
      clear ih
      have : ∀ {ps : List Nat} {xs : List Vc}, Tri ps xs → p ∈ ps → (∀ y ∈ xs, y p = 0) → False := fun {ps xs} t => by
        induction t with
        | nil => intro h; exact absurd h List.not_mem_nil
        | @cons q qs y ys c d t ih2 =>
          intro hp hz
          rcases List.mem_cons.mp hp with z | z
          · exact c (z ▸ hz y List.mem_cons_self)
          · exact ih2 z fun u hu => hz u (List.mem_cons_of_mem _ hu)
      exact this t hp b
  have pm : ∀ p ∈ ps, p < m := fun p hp => by
    obtain ⟨x, hx, fx⟩ := p1 p hp
    rcases Nat.lt_or_ge p m with c | c
    · exact c
    · exact absurd (hm x hx p c) fx.nz
  have noP : ∀ q, q ∉ ps → ∀ e ∈ E, ¬ Fp e q := fun q hq e he f => by
    obtain ⟨p, hp, fp⟩ := p2 e he
    exact hq (f.uniq fp ▸ hp)
  have yes : ∀ q, (∀ e ∈ E, ¬ Fp e q) → q ∉ ps := fun q hE hq => by
    obtain ⟨x, hx, fx⟩ := p1 q hq
    exact hE x hx fx
  -- by places from behind
  have key : ∀ k, k ≤ m → ∃ (qs : List Nat) (Y : List Vc), Tri qs Y ∧ (∀ q, q ∈ qs ↔ q < k ∧ q ∉ ps) ∧ qs.Nodup ∧ (∀ y ∈ Y, Orth m E y) ∧ (∀ y ∈ Y, ∀ i, k ≤ i → y i = 0) ∧ (∀ x, Orth m E x → (∀ i, k ≤ i → x i = 0) → ∃ D : Int, D ≠ 0 ∧ Lat Y (fun i => D * x i)) ∧
      ∀ q < k, q ∉ ps → ∃ y ∈ Y, y q ≠ 0 ∧ ∀ i, i ≠ q → (∀ e ∈ E, ¬ Fp e i) → y i = 0 := fun k => by
    induction k with
    | zero =>
      intro _
      refine ⟨[], [], .nil, fun q => ⟨fun h => absurd h List.not_mem_nil, fun h => absurd h.1 (Nat.not_lt_zero _)⟩, .nil, fun _ h => absurd h List.not_mem_nil, fun _ h => absurd h List.not_mem_nil, fun x _ hz => ⟨1, by decide, ?_⟩, fun q h => absurd h (Nat.not_lt_zero _)⟩
      have e : (fun i => 1 * x i) = fun _ : Nat => (0 : Int) := funext fun i => by rw [hz i (Nat.zero_le _)]; simp
      rw [e]; exact .zero
    | succ k ih =>
      intro hk
      obtain ⟨qs, Y, t1, t2, t3, t4, t5, t6, t7⟩ := ih (by omega)
      by_cases c : k ∈ ps
      · refine ⟨qs, Y, t1, fun q => ?_, t3, t4, fun y hy i hi => t5 y hy i (by omega), fun x ox hz => t6 x ox fun i hi => ?_, fun q hq hn => t7 q ?_ hn⟩
        · rw [t2 q]
          constructor
          · rintro ⟨a, b⟩; exact ⟨by omega, b⟩
          · rintro ⟨a, b⟩
            refine ⟨?_, b⟩
            rcases Nat.lt_or_eq_of_le (Nat.le_of_lt_succ a) with z | z
            · exact z
            · exact absurd (z ▸ c) b
        · rcases Nat.lt_or_eq_of_le hi with z | z
          · exact hz i z
          · subst z
            obtain ⟨e, he, fe⟩ := p1 k c
            have o := ox.2 e he
            rw [dotN_one m (q := k) (by omega) fun i hi hne => ?_] at o
            · exact (Int.mul_eq_zero.mp o).resolve_left fe.nz
            · rcases Nat.lt_or_gt_of_ne hne with w | w
              · rw [fe.zs i w]; simp
              · rw [hz i w]; simp
        · rcases Nat.lt_or_eq_of_le (Nat.le_of_lt_succ hq) with z | z
          · exact z
          · exact absurd (z ▸ c) hn
      · obtain ⟨y, y1, y2, y3, y4, y5⟩ := h.solve (m := m) (q := k) (by omega) hm (noP k c)
        have oy : Orth m E y := ⟨fun i hi => y2 i (by omega), y5⟩
        refine ⟨k :: qs, y :: Y, .cons y1 (fun u hu => t5 u hu k (Nat.le_refl _)) t1, fun q => ?_, List.nodup_cons.mpr ⟨fun z => by have := ((t2 k).mp z).1; omega, t3⟩, fun u hu => ?_, fun u hu i hi => ?_, fun x ox hz => ?_, fun q hq hn => ?_⟩
        · rw [List.mem_cons, t2 q]
          constructor
          · rintro (z | ⟨a, b⟩)
            · exact ⟨by omega, z ▸ c⟩
            · exact ⟨by omega, b⟩
          · rintro ⟨a, b⟩
            rcases Nat.lt_or_eq_of_le (Nat.le_of_lt_succ a) with z | z
            · exact .inr ⟨z, b⟩
            · exact .inl z
        · rcases List.mem_cons.mp hu with z | z
          · rw [z]; exact oy
          · exact t4 u z
        · rcases List.mem_cons.mp hu with z | z
          · rw [z]; exact y2 i (by omega)
          · exact t5 u z i (by omega)
        · obtain ⟨D, hD, hl⟩ := t6 (fun i => y k * x i + -(x k) * y i) ((ox.mul (y k)).add oy (-(x k))) fun i hi => by
            show y k * x i + -(x k) * y i = 0
            rcases Nat.lt_or_eq_of_le hi with z | z
            · rw [hz i z, y2 i z]; simp
            · rw [← z, Int.mul_comm (y k), Int.neg_mul]; omega
          refine ⟨D * y k, fun z => (Int.mul_eq_zero.mp z).elim hD y1, ?_⟩
          have z := (hl.sub_of fun g hg => List.mem_cons_of_mem y hg).sum ((Lat.of (List.mem_cons_self (a := y) (l := Y))).mul (D * x k))
          have e : (fun i => D * (y k * x i + -(x k) * y i) + D * x k * y i) = fun i => D * y k * x i := funext fun i => by
            rw [Int.mul_add, Int.neg_mul, Int.mul_neg, Int.mul_assoc, Int.mul_assoc]; omega
          rwa [e] at z
        · rcases Nat.lt_or_eq_of_le (Nat.le_of_lt_succ hq) with z | z
          · obtain ⟨u, hu, w⟩ := t7 q z hn
            exact ⟨u, List.mem_cons_of_mem _ hu, w⟩
          · exact ⟨y, List.mem_cons_self, z ▸ y1, fun i hi hE => y4 i (z ▸ hi) hE⟩
  obtain ⟨qs, Y, t1, t2, t3, t4, _, t6, t7⟩ := key m (Nat.le_refl _)
  refine ⟨qs, Y, t1, ?_, t4, fun x ox => t6 x ox ox.1, fun q hq hE => t7 q hq (yes q hE)⟩
  rw [← t1.len, ← t.len]
  have nd : (qs ++ ps).Nodup := by
    rw [List.nodup_append]
    exact ⟨t3, pnd, fun a ha b hb e => ((t2 a).mp ha).2 (e ▸ hb)⟩
  have a1 := nodup_le nd (l' := List.range m) fun x hx => by
    rw [List.mem_range]
    rcases List.mem_append.mp hx with z | z
    · exact ((t2 x).mp z).1
    · exact pm x z
  have a2 := nodup_le (List.nodup_range (n := m)) (l' := qs ++ ps) fun x hx => by
    rw [List.mem_range] at hx
    by_cases c : x ∈ ps
    · exact List.mem_append_right _ c
    · exact List.mem_append_left _ ((t2 x).mpr ⟨hx, c⟩)
  rw [List.length_append, List.length_range] at a1 a2
  omega
end El
/-! Rows whose steps are put together one by one, bounded by determinants; frames. -/
namespace El
def bdP (n B : Nat) : Nat := fac n * B ^ n
def bdW (n B P : Nat) : Nat := n * (B * (fac n * (P * B ^ (n - 1))))
def bd (n B : Nat) : Nat := bdW n B (bdP n B)
/-- steps are small that some small rows make, whole times -/
theorem Hnf.boundQ {m n B : Nat} {G ms : List (List Int)} {V : List Vc} (h : Hnf m G ms) (hn : ms.length ≤ n) (b1 : 1 ≤ B) (hB : ∀ g ∈ V, ∀ i, (g i).natAbs ≤ B) (h1 : ∀ s ∈ ms, ∃ D : Int, D ≠ 0 ∧ Lat V (fun i => D * co s i)) (h2 : ∀ g ∈ V, Lat (ms.map co) g) :
    (∀ x ∈ ms, ∀ q, Fp (co x) q → (co x q).natAbs ≤ bdP n B) ∧ ∀ x ∈ ms, ∀ i, (co x i).natAbs ≤ bd n B := by
  have h1' : ∀ s ∈ ms.map co, ∃ D : Int, D ≠ 0 ∧ Lat V (fun i => D * s i) := fun s hs => by obtain ⟨y, hy, rfl⟩ := List.mem_map.mp hs; exact h1 y hy
  have pv : ∀ x ∈ ms, ∀ q, Fp (co x) q → (co x q).natAbs ≤ bdP n B := fun x hx q f => pivot_det (by rw [List.length_map]; exact hn) b1 hB h.ech h1' h2 (List.mem_map_of_mem hx) f
  refine ⟨pv, fun x hx i => part_det (P := bdP n B) (by rw [List.length_map]; exact hn) b1 hB h.ech h1' h2 (h1 x hx) (fun s hs q f => ?_) i⟩
  obtain ⟨y, hy, rfl⟩ := List.mem_map.mp hs
  obtain ⟨p, fx, _⟩ := h.ech.has (co x) (List.mem_map_of_mem hx)
  rcases Nat.lt_trichotomy p q with l | l | l
  · have := h.redAt hx hy fx f l
    have := pv y hy q f
    omega
  · subst l
    exact pv x hx p fx
  · rw [fx.zs q l]
    exact Nat.zero_le _
theorem Hnf.bound {m n B : Nat} {G ms : List (List Int)} (h : Hnf m G ms) (hn : ms.length ≤ n) (b1 : 1 ≤ B) (hB : ∀ g ∈ G, ∀ i, (co g i).natAbs ≤ B) :
    (∀ x ∈ ms, ∀ q, Fp (co x) q → (co x q).natAbs ≤ bdP n B) ∧ ∀ x ∈ ms, ∀ i, (co x i).natAbs ≤ bd n B :=
  h.boundQ (V := G.map co) hn b1 (fun g hg i => by obtain ⟨y, hy, rfl⟩ := List.mem_map.mp hg; exact hB y hy i) (fun s hs => ⟨1, by decide, (h.l1 s hs).mul 1⟩) fun g hg => by obtain ⟨y, hy, rfl⟩ := List.mem_map.mp hg; exact h.l2 y hy
/-- rows whose steps are small -/
structure Calm (G : List (List Int)) : Prop where
  pv : ∀ ss : List (List Int), Ech 0 (ss.map co) → (∀ x ∈ ss, Lat (G.map co) (co x)) → (∀ x ∈ G, Lat (ss.map co) (co x)) → ∀ x ∈ ss, ∀ q, Fp (co x) q → (co x q).natAbs ≤ 2 ^ 600
  pt : ∀ ss : List (List Int), Ech 0 (ss.map co) → (∀ x ∈ ss, Lat (G.map co) (co x)) → (∀ x ∈ G, Lat (ss.map co) (co x)) → ∀ x : List Int, Lat (G.map co) (co x) → (∀ s ∈ ss, ∀ q, Fp (co s) q → (co x q).natAbs ≤ 2 ^ 600) → ∀ i, (co x i).natAbs < 2 ^ 1200
/-- rows that are put to steps one by one -/
structure Fine (m : Nat) (G : List (List Int)) : Prop where
  cnt : G.length ≤ 20
  len : ∀ g ∈ G, g.length = m
  sm : ∀ g ∈ G, Sm 100 g
  calm : ∀ i, Calm (G.take i)
theorem Fine.all {m : Nat} {G : List (List Int)} (F : Fine m G) : Calm G := by
  have := F.calm G.length
  rwa [List.take_length] at this
theorem Fine.take {m : Nat} {G : List (List Int)} (F : Fine m G) (i : Nat) : Fine m (G.take i) :=
  ⟨by have := F.cnt; rw [List.length_take]; omega, fun g hg => F.len g (List.mem_of_mem_take hg), fun g hg => F.sm g (List.mem_of_mem_take hg), fun j => by rw [List.take_take]; exact F.calm _⟩
theorem Fine.head {m : Nat} {G : List (List Int)} {row : List Int} (F : Fine m (G ++ [row])) : Fine m G := by
  have := F.take G.length
  rwa [List.take_left] at this
theorem co_in {x : List Int} {m : Nat} (h : x.length = m) : In m (co x) := fun i hi => co_out (by omega)
/-- by determinants -/
theorem Fine.of {m n B : Nat} {G : List (List Int)} (hc : G.length ≤ 20) (hl : ∀ g ∈ G, g.length = m) (b1 : 1 ≤ B) (hB : ∀ g ∈ G, ∀ i, (co g i).natAbs ≤ B) (hb : B < 2 ^ 100) (hn : m ≤ n ∨ G.length ≤ n) (hp : bdP n B ≤ 2 ^ 600) (hw : bdW n B (2 ^ 600) < 2 ^ 1200) : Fine m G := by
  refine ⟨hc, hl, fun g hg i => Nat.lt_of_le_of_lt (hB g hg i) hb, fun i => ?_⟩
  have hB' : ∀ g ∈ (G.take i).map co, ∀ j, (g j).natAbs ≤ B := fun g hg j => by
    obtain ⟨y, hy, rfl⟩ := List.mem_map.mp hg
    exact hB y (List.mem_of_mem_take hy) j
  have inM : ∀ g ∈ (G.take i).map co, In m g := fun g hg => by
    obtain ⟨y, hy, rfl⟩ := List.mem_map.mp hg
    exact co_in (hl y (List.mem_of_mem_take hy))
  have h2 : ∀ {ss : List (List Int)}, (∀ x ∈ G.take i, Lat (ss.map co) (co x)) → ∀ g ∈ (G.take i).map co, Lat (ss.map co) g := fun h g hg => by
    obtain ⟨y, hy, rfl⟩ := List.mem_map.mp hg
    exact h y hy
  have h1 : ∀ {ss : List (List Int)}, (∀ x ∈ ss, Lat ((G.take i).map co) (co x)) → ∀ s ∈ ss.map co, ∃ D : Int, D ≠ 0 ∧ Lat ((G.take i).map co) (fun j => D * s j) := fun h s hs => by
    obtain ⟨y, hy, rfl⟩ := List.mem_map.mp hs
    exact ⟨1, by decide, (h y hy).mul 1⟩
  have cn : ∀ {ss : List (List Int)}, Ech 0 (ss.map co) → (∀ x ∈ ss, Lat ((G.take i).map co) (co x)) → (ss.map co).length ≤ n := fun {ss} e l1 => by
    rcases hn with c | c
    · have z := ech_count (m := m) e (fun s hs => by obtain ⟨y, hy, rfl⟩ := List.mem_map.mp hs; exact (l1 y hy).inM inM) (Nat.zero_le _)
      omega
    · have z := e.le (h1 l1)
      rw [List.length_map, List.length_map, List.length_take] at z
      rw [List.length_map]
      omega
  refine ⟨fun ss e l1 l2 x hx q f => ?_, fun ss e l1 l2 x lx hP j => ?_⟩
  · exact Nat.le_trans (pivot_det (cn e l1) b1 hB' e (h1 l1) (h2 l2) (List.mem_map_of_mem hx) f) hp
  · refine Nat.lt_of_le_of_lt (part_det (P := 2 ^ 600) (cn e l1) b1 hB' e (h1 l1) (h2 l2) ⟨1, by decide, lx.mul 1⟩ (fun s hs q f => ?_) j) hw
    obtain ⟨y, hy, rfl⟩ := List.mem_map.mp hs
    exact hP y hy q f
/-! ### frames -/
/-- mixtures with 0 ahead are mixtures of the steps with 0 ahead -/
theorem Ech.behind {R : Nat} : ∀ {n : Nat} {ss : List Vc}, Ech n ss → ∀ (p : Vc → Bool), (∀ s ∈ ss, p s = true ↔ ∀ i < R, s i = 0) → ∀ {v : Vc}, Lat ss v → (∀ i < R, v i = 0) → Lat (ss.filter p) v
  | _, [], _, p, _, v, hv, _ => hv
  | _, s :: ss, h, p, hp, v, hv, hz => by
    cases h with
    | @cons _ q _ _ f l e =>
    by_cases c : p s = true
    · have all : (s :: ss).filter p = s :: ss := List.filter_eq_self.mpr fun t ht => by
        rcases List.mem_cons.mp ht with z | z
        · rw [z]; exact c
        · refine (hp t (List.mem_cons_of_mem _ z)).mpr fun i hi => ?_
          have : R ≤ q := by
            rcases Nat.lt_or_ge q R with w | w
            · exact absurd ((hp s List.mem_cons_self).mp c q w) f.nz
            · exact w
          exact e.zero t z i (by omega)
      rw [all]; exact hv
    · rw [List.filter_cons_of_neg c]
      have qR : q < R := by
        rcases Nat.lt_or_ge q R with w | w
        · exact w
        · exact absurd ((hp s List.mem_cons_self).mpr fun i hi => f.zs i (by omega)) c
      obtain ⟨k, y, hy, rfl⟩ := hv.head
      have k0 : k = 0 := by
        have z := hz q qR
        have yq : y q = 0 := hy.zeros fun t ht => e.zero t ht q (Nat.lt_succ_self _)
        show k = 0
        have z : k * s q + y q = 0 := z
        rw [yq, Int.add_zero] at z
        exact (Int.mul_eq_zero.mp z).resolve_right f.nz
      have ey : (fun i => k * s i + y i) = y := funext fun i => by rw [k0]; simp
      rw [ey] at hz ⊢
      exact e.behind p (fun t ht => hp t (List.mem_cons_of_mem _ ht)) hy hz
theorem Ech.filter {n : Nat} {ss : List Vc} (h : Ech n ss) (p : Vc → Bool) : Ech n (ss.filter p) := by
  induction h with
  | nil => exact .nil
  | @cons n q s ss f l e ih =>
    by_cases c : p s = true
    · rw [List.filter_cons_of_pos c]; exact .cons f l ih
    · rw [List.filter_cons_of_neg c]; exact ih.down (by omega)
/-- F is the frame of G -/
structure Frm (m : Nat) (G F : List (List Int)) : Prop where
  h : Hnf m F F
  ker : ∀ x, Lat (F.map co) x ↔ Orth m (G.map co) x
theorem Hnf.up {m : Nat} {G ms : List (List Int)} (h : Hnf m G ms) : ∀ g ∈ G.map co, Lat (ms.map co) g := fun g hg => by obtain ⟨y, hy, rfl⟩ := List.mem_map.mp hg; exact h.l2 y hy
theorem Hnf.dn {m : Nat} {G ms : List (List Int)} (h : Hnf m G ms) : ∀ g ∈ ms.map co, Lat (G.map co) g := fun g hg => by obtain ⟨y, hy, rfl⟩ := List.mem_map.mp hg; exact h.l1 y hy
theorem Hnf.inM {m : Nat} {G ms : List (List Int)} (h : Hnf m G ms) : ∀ g ∈ ms.map co, In m g := fun g hg => by obtain ⟨y, hy, rfl⟩ := List.mem_map.mp hg; exact co_in (h.len y hy)
end El
/-! What is said of the defs on rows, whatever the law. -/
namespace Rw
open PySem PySem.Spec PyProof.Rows L2 Pd El
end Rw
/-! Three names at once. -/
namespace Pd
open PySem PySem.Spec PyProof.Rows L2
section
variable {X : Cx} {w : Wd} {a b c : Expr} {pos : Pos}
end
end Pd
/-! A list of one's own walked over by a for, where other lists of one's own stand beside it. -/
namespace Pd
open PySem PySem.Spec PyProof.Rows L2
section
variable {K : PySem.W.Frag} {w : Wd} {W W' : Addr → Bool} {own own' : Ow} {r r' : En} {σ σ' : L2.St} {H H' : Hp}
end
section
variable {X : Cx} {w : Wd}
/-- at the end of a turn: what stood there stands there -/
def AtR (f : Nat → Addr) : Nat → En → En → Prop
  | k, .own _ :: r, s :: r' => s = .dat (isAt (f k)) ∧ AtR f (k + 1) r r'
  | k, _ :: r, _ :: r' => AtR f (k + 1) r r'
  | _, [], [] => True
  | _, _, _ => False
theorem AtR.len {f : Nat → Addr} : ∀ {k : Nat} {r r' : En}, AtR f k r r' → r'.length = r.length
  | _, [], [], _ => rfl
  | k, [], _ :: _, h => h.elim
  | k, s :: r, [], h => by cases s <;> exact h.elim
  | k, s :: r, t :: r', h => by
    cases s with
    | own ds => exact congrArg (· + 1) (AtR.len h.2)
    | no => exact congrArg (· + 1) (AtR.len (k := k + 1) h)
    | dat d => exact congrArg (· + 1) (AtR.len (k := k + 1) h)
    | reg d => exact congrArg (· + 1) (AtR.len (k := k + 1) h)
theorem AtR.at {f : Nat → Addr} : ∀ {k : Nat} {r r' : En}, AtR f k r r' → ∀ (j : Nat) (es : List Da), r[j]? = some (Sl.own es) → r'[j]? = some (Sl.dat (isAt (f (k + j))))
  | _, [], _, _, _, _, h => by cases h
  | k, s :: r, [], h, _, _, _ => by cases s <;> exact h.elim
  | k, s :: r, t :: r', h, 0, es, e => by
    cases e
    rw [h.1]; rfl
  | k, s :: r, t :: r', h, j + 1, es, e => by
    rw [show k + (j + 1) = k + 1 + j by omega]
    have h' : AtR f (k + 1) r r' := by
      cases s with
      | own ds => exact h.2
      | _ => exact h
    exact AtR.at h' j es e
end
end Pd
/-! A for whose body only looks and returns where something is wrong: it never does. -/
namespace Pd
open PySem PySem.Spec PyProof.Rows L2
section
variable {X : Cx} {w : Wd}
/-- looks alone, none of which fires -/
structure PCk (X : Cx) (w : Wd) (st : List Stmt) (t : En → Prop) : Prop where
  run : PSs X st (fun D σ H => ∃ W own r, Stt X.K w W own r σ H ∧ t r ∧ ∀ H', Ext w.g H H' → OkW X.K w.g W H' → D.nx σ H')
end
end Pd
/-! math.gcd; a new list walked; tuples of whole numbers compared. -/
namespace Pd
open PySem PySem.Spec PyProof.Rows L2
section
variable {X : Cx} {w : Wd} {e : Expr} {es : List Expr} {p pos : Pos} {t : TDA}
end
end Pd
/-! Contracts that know the state at the call; values that are functions; a lambda as such a value. -/
namespace Pd
open PySem PySem.Spec PyProof.Rows L2

abbrev SpS := List Env → Shared → Sp
/-- as FnG, the promise knowing the frames and the state at the call -/
structure FnS (P : Program) (wd : World) (K : PySem.W.Frag) (mg : Str → Option Value) (base : Heap) (CX : CXT) (k : Nat) (f : Addr) (fd : FuncData) (ps : List Str) (sp : SpS) : Prop where
  many : ∀ o s vs H Q E, sp o s vs H Q E → vs.length = ps.length
  goes : ∀ (A : Around) (outer : List Env) (s0 : Shared) (H : Hp) (args : Args) (us : List Value) (vs : List V) (Q : VK) (E : XK),
    Room k A → A.guards = some [] → Env0 P wd K mg base A outer s0 H → BindsTo s0 fd args (ps.zip us) → Vals vs us → sp outer s0 vs H Q E →
      codeAny (model P wd) A (.call (.ref f) args) (CR CX outer P wd H s0 Q E) s0
theorem FnS.up {P : Program} {wd : World} {K : PySem.W.Frag} {mg : Str → Option Value} {base : Heap} {CX : CXT} {j k : Nat} {f : Addr} {fd : FuncData} {ps : List Str} {sp : SpS}
    (F : FnS P wd K mg base CX j f fd ps sp) (h : j ≤ k) : FnS P wd K mg base CX k f fd ps sp :=
  ⟨F.many, fun A outer s0 H args us vs Q E room => F.goes A outer s0 H args us vs Q E (room.mono h)⟩
/-! ### values that are functions -/
/-- v is a function of n arguments that keeps the promise p, from the state (s, H) on -/
structure FnV (P : Program) (wd : World) (K : PySem.W.Frag) (mg : Str → Option Value) (base : Heap) (g : Gd) (W : Addr → Bool) (outer : List Env) (s : Shared) (H : Hp) (k : Nat) (v : V) (n : Nat) (p : DSpX) : Prop where
  fn : ∃ f o, v = .ref f ∧ s.heap.get? f = some o ∧ H f = none ∧ f ∉ frs outer ∧ ∀ h : Heap, h.get? f = some o → PySem.W.FnAt f h
  mp : MoPX p
  goes : ∀ (f : Addr), v = .ref f → ∀ (A : Around) (outer1 : List Env) (s1 : Shared) (H1 : Hp) (W1 : Addr → Bool) (us : List Value) (vs : List V) (ds : List Da) (Q : VK) (E : XK),
    Room k A → A.guards = some [] → Env0 P wd K mg base A outer1 s1 H1 → Un (frs outer) [] H H1 s.heap s1.heap → Ext g H H1 → OkW K g W1 H1 → (∀ a, W a = true → W1 a = true) → (∀ a, W1 a = true → W a = true ∨ H a = none) →
    Vals vs us → vs.length = n → DvAll K g (hid W1 H1) vs ds → p ds (Aft K g W1 H1 Q) (AftX K g W1 H1 E) →
      codeAny (model P wd) A (.call (.ref f) ⟨us, []⟩) (CR (L2.CX P wd) outer1 P wd H1 s1 Q E) s1
/-- a slot's whole that may be looked at elsewhere -/
def plainS : Sl → Sl
  | .dat d => .dat d
  | _ => .no
def plainR (r : En) : En := r.map plainS
section
variable {K : PySem.W.Frag} {w : Wd} {W W1 : Addr → Bool} {own : Ow} {r : En} {σ : L2.St} {H H1 : Hp}
theorem hid_grow {g : Gd} (gW : ∀ a, Bd g a → W a = true) (e : Ext g H H1) (wN : ∀ a, W1 a = true → W a = true ∨ H a = none) : Sm (hid W H) (hid W1 H1) := fun a o z => by
  obtain ⟨z1, z2⟩ := hid_some z
  rw [hid_no]
  · exact e a o (fun b => by rw [gW a b] at z1; cases z1) z2
  · cases q : W1 a with
    | false => rfl
    | true =>
      rcases wN a q with y | y
      · rw [z1] at y; cases y
      · rw [z2] at y; cases y
/-- later, elsewhere: what is data still holds -/
theorem Stt.plain (S : Stt K w W own r σ H) (e : Ext w.g H H1) (k : OkW K w.g W1 H1) (wN : ∀ a, W1 a = true → W a = true ∨ H a = none) : Stt K ⟨H1, w.g, W1⟩ W1 (fun _ _ => False) (plainR r) σ H1 := by
  refine ⟨k, Ext.refl, fun _ h => h, k.gW, (fun _ h => .inl h), (fun i a h => h.elim), (fun i j a h => h.elim), by unfold plainR; rw [List.length_map]; exact S.len, fun i d h n => ?_⟩
  unfold plainR at h
  rw [List.getElem?_map] at h
  cases q : r[i]? with
  | none => rw [q] at h; cases h
  | some x =>
    rw [q] at h
    cases h
    cases x with
    | dat x =>
      obtain ⟨v, h1, h2⟩ := S.sl i _ q (fun z => by cases z)
      exact ⟨v, h1, Dv.mono (hid_grow S.ok.gW e wN) _ _ h2⟩
    | _ => exact absurd rfl n
end
/-! ### a lambda without parameters -/
def pLam (r : En) (tb : (Xn → En → Prop) → TDE) : DSpX := fun ds Q R => ds = [] ∧ tb (fun x _ => R x) (plainR r) Q
section
variable {X : Cx} {w : Wd} {pins : List (Addr × Obj)} {W : Addr → Bool} {own : Ow} {r : En} {σ : L2.St} {H : Hp} {s : Shared}
end
end Pd
/-! Contracts of defs that are handed functions, said of data; a call of such a value; a call with a lambda as its last argument. -/
namespace Pd
open PySem PySem.Spec PyProof.Rows L2

abbrev FvR := V → Nat → DSpX → Prop
abbrev DSpG := FvR → DSpX
def MoPG (p : DSpG) : Prop := ∀ fv : FvR, (∀ v n q, fv v n q → MoPX q) → MoPX (p fv)
def liPS (P : Program) (wd : World) (K : PySem.W.Frag) (mg : Str → Option Value) (base : Heap) (T : List (Addr × Str)) (kf : Nat) (p : DSpG) : SpS := fun outer s vs H Q E =>
  ∃ g W ds, OkW K g W H ∧ g.tab = T ∧ DvAll K g (hid W H) vs ds ∧ p (fun v n q => FnV P wd K mg base g W outer s H kf v n q) ds (Aft K g W H Q) (AftX K g W H E)
structure CalldG (P : Program) (wd : World) (K : PySem.W.Frag) (mg : Str → Option Value) (base : Heap) (T : List (Addr × Str)) (kf k : Nat) (x : Str) (ps : List Str) (p : DSpG) : Prop where
  ex : ∃ f fd, FnS P wd K mg base (L2.CX P wd) k f fd ps (liPS P wd K mg base T kf p) ∧ mg x = some (.ref f) ∧ PySem.W.keepIn K (.ref f) = true ∧ Binds K fd ps []
  mp : MoPG p
theorem CalldG.up {P : Program} {wd : World} {K : PySem.W.Frag} {mg : Str → Option Value} {base : Heap} {T : List (Addr × Str)} {kf j k : Nat} {x : Str} {ps : List Str} {p : DSpG} (c : CalldG P wd K mg base T kf j x ps p) (h : j ≤ k) : CalldG P wd K mg base T kf k x ps p := by
  obtain ⟨⟨f, fd, F, a, b, d⟩, mp⟩ := c
  exact ⟨⟨f, fd, F.up h, a, b, d⟩, mp⟩

/-! ### worlds later than others -/
structure WdSub (w w' : Wd) : Prop where
  g : w'.g = w.g
  ext : Ext w.g w.H0 w'.H0
  sub : ∀ a, w.W0 a = true → w'.W0 a = true
  new : ∀ a, w'.W0 a = true → w.W0 a = true ∨ w.H0 a = none
theorem WdSub.refl {w : Wd} : WdSub w w := ⟨rfl, Ext.refl, fun _ h => h, fun _ h => .inl h⟩
theorem Stt.sub {K : PySem.W.Frag} {w : Wd} {W : Addr → Bool} {own : Ow} {r : En} {σ : L2.St} {H : Hp} (S : Stt K w W own r σ H) : WdSub w ⟨H, w.g, W⟩ := ⟨rfl, S.base, S.w0, S.wN⟩
/-- the functions that the def was handed keep their promises -/
structure FvAt (X : Cx) (w : Wd) (kf : Nat) (fv : FvR) : Prop where
  ex : X.ex = []
  fs : ∃ W, (∀ a, Bd w.g a → W a = true) ∧ (∀ v n q, fv v n q → FnV X.prog X.w X.K X.mg X.base w.g W X.outer X.s_0 X.H_0 kf v n q) ∧ WdSub ⟨X.H_0, w.g, W⟩ w
theorem FvAt.tr {X : Cx} {w : Wd} {kf : Nat} {fv : FvR} (h : FvAt X w kf fv) (pn : List (Addr × Obj)) (xe : Value → Shared → Prop) : FvAt (X.tr pn xe) w kf fv := ⟨h.ex, h.fs⟩
theorem FvAt.sub {X : Cx} {w w' : Wd} {kf : Nat} {fv : FvR} (h : FvAt X w kf fv) (s : WdSub w w') : FvAt X w' kf fv := by
  refine ⟨h.ex, ?_⟩
  obtain ⟨W, gW, f, u⟩ := h.fs
  obtain ⟨H0', g', W0'⟩ := w'
  obtain ⟨e1, e2, e3, e4⟩ := s
  dsimp only at e1 e2 e3 e4
  subst e1
  refine ⟨W, gW, f, rfl, u.ext.trans e2, fun a h => e3 a (u.sub a h), fun a h => ?_⟩
  rcases e4 a h with z | z
  · exact u.new a z
  · by_cases b : Bd w.g a
    · exact .inl (gW a b)
    · refine .inr ?_
      show X.H_0 a = none
      cases q : X.H_0 a with
      | none => rfl
      | some o =>
        rw [u.ext a o b q] at z
        cases z
theorem FvAt.mp {X : Cx} {w : Wd} {kf : Nat} {fv : FvR} (h : FvAt X w kf fv) : ∀ v n q, fv v n q → MoPX q := fun v n q z => by
  obtain ⟨W, _, f, _⟩ := h.fs
  exact (f v n q z).mp
/-! ### what is kept, with other frames -/
section
variable {X : Cx} {w : Wd} {pins : List (Addr × Obj)} {W : Addr → Bool} {own : Ow} {r : En} {σ : L2.St} {H : Hp} {s : Shared} {kf : Nat} {fv : FvR}
end
/-! ### a call of a function that was handed over -/
section
variable {X : Cx} {w : Wd} {kf : Nat} {fv : FvR}
end
end Pd
/-! A lambda is made; a call with a lambda as its last argument. -/
namespace Pd
open PySem PySem.Spec PyProof.Rows L2

/-- the code of a def, and where it keeps its own codes -/
structure Maker (base : Heap) (mg : Str → Option Value) (T : List (Addr × Str)) (cd : Value) (q : Str) : Prop where
  ex : ∃ c P, cd = .ref c ∧ LamX.TabB base mg c P ∧ (P, q) ∈ T ∧ ∀ p ∈ T, p.1 = P → p.2 = q
section
variable {X : Cx} {w : Wd} {pins : List (Addr × Obj)} {W : Addr → Bool} {own : Ow} {r : En} {σ : L2.St} {H : Hp} {s : Shared}
theorem lam_make {params : Arguments} {body : Expr} {scope : Scope} {pos : Pos} {E Q : Value → Shared → Prop} (I : Inv X pins σ H s) (k : OkW X.K w.g W H)
    (M : Maker X.base X.mg w.g.tab X.env.code (X.env.qual ++ "<lambda>")) (hdef : defaultsOf params X.env = ([], []))
    (hfree : ∀ y ∈ scope.names, y.2 = .free → ∃ c, X.env.cells.lookup y.1 = some c)
    (h : ∀ (f c' : Addr) (pm ctv : Value) (H1 : Hp) (s' : Shared), Inv X pins σ H1 s' → Ext w.g H H1 → OkW X.K w.g W H1 →
      s'.heap.get? f = some (PySem.W.kla_obj "<lambda>" (X.env.qual ++ "<lambda>") params body scope (cloFrom X.env.cells scope.names []) pm c' ctv) → H1 f = none → f ∉ frs X.stack → H1 c' = some (LamX.CodeO c' (X.env.qual ++ "<lambda>")) → ¬ Bd w.g c' → Q (.ref f) s') :
    wpAny (model X.prog X.w) X.A (eval (.Lambda params body scope pos) X.env) Q E s := by
  obtain ⟨c, P, hcode, TB, hm, hu⟩ := M.ex
  obtain ⟨ps, hP, ht, ha⟩ := k.bag.tabs _ hm
  refine PySem.W.kla_eval hdef ?_
  have bP := TB.bm.keeps I.bk
  have hP' := I.hok P _ hP
  have BP : Bd w.g P := .inr ⟨_, hm⟩
  have nofr : ∀ f, s.heap.objs.size ≤ f → f ∉ frs X.stack := fun f hf z => by
    rcases List.mem_cons.mp (I.stkSub f z) with e | e
    · have h1 := I.lt
      rw [e] at hf
      exact absurd h1 (Nat.not_lt.mpr hf)
    · exact I.nofs hf e
  have nc : ∀ c q, H c = some (LamX.CodeO c q) → ¬ Bd w.g c := fun c q e b => by
    rcases b with b | ⟨q2, b⟩
    · obtain ⟨x, y, z, c0, cs, h1, _⟩ := k.bag.bag c b
      rw [h1] at e
      cases e
    · obtain ⟨ps, h1, _⟩ := k.bag.tabs _ b
      rw [show H c = some (.tbl ps) from h1] at e
      cases e
  cases hc : codeAmong pos ps.toList with
  | some cv =>
    obtain ⟨c', rfl, hc'⟩ := ha pos cv hc
    refine PySem.W.kla_makeFunctionHit (closure_ok hfree) I.ok.glob (I.mod.glob.keeps I.bk) hcode (TB.code.keeps I.bk) hP' ht hc bP fun ctv h' tk hk hsz => ?_
    refine h h'.objs.size c' _ ctv H _ (I.kept fun b u e => Heap.get?_push_of_some _ (hk b u e)) Ext.refl k (Heap.get?_push_size _ rfl) (I.hok.fresh hsz) (nofr _ hsz) hc' (nc _ _ hc')
  | none =>
    refine PySem.W.kla_makeFunction (closure_ok hfree) I.ok.glob (I.mod.glob.keeps I.bk) hcode (TB.code.keeps I.bk) hP' ht hc TB.gP bP fun c' ctv h' tk hx hge hlt hrec htb => ?_
    obtain ⟨c2, oc, vs, t, e2, hoc, hd, hv⟩ := hrec
    cases e2
    have hsz := Nat.le_trans hge (Nat.le_of_lt hlt)
    have nC := I.hok.fresh hge
    have nePc : P ≠ c' := ne_of_none hP nC
    have I1 := LamX.inv_table (t' := tk) I hP (fun b o hb e => Heap.get?_push_of_some (PySem.W.kla_obj "<lambda>" (X.env.qual ++ "<lambda>") params body scope (cloFrom X.env.cells scope.names []) ((X.mg "__name__").getD Value.none) c' ctv) (hx b o hb e))
      (Heap.get?_push_of_some _ htb) hge ⟨oc, vs, t, Heap.get?_push_of_some _ hoc, hd, hv⟩
    have up : ∀ b o, H b = some o → b ≠ P → upd (upd H P (.tbl (ps ++ #[rawInt pos.line, rawInt pos.col, .ref c']))) c' (LamX.CodeO c' (X.env.qual ++ "<lambda>")) b = some o := fun b o e n => by
      rw [upd_ne (ne_of_none e nC), upd_ne n]
      exact e
    have atP : upd (upd H P (.tbl (ps ++ #[rawInt pos.line, rawInt pos.col, .ref c']))) c' (LamX.CodeO c' (X.env.qual ++ "<lambda>")) P = some (.tbl (ps ++ #[rawInt pos.line, rawInt pos.col, .ref c'])) := by
      rw [upd_ne nePc, upd_same]
    have e1 : Ext w.g H (upd (upd H P (.tbl (ps ++ #[rawInt pos.line, rawInt pos.col, .ref c']))) c' (LamX.CodeO c' (X.env.qual ++ "<lambda>"))) :=
      ⟨fun b o nb e => up b o e fun z => nb (z ▸ BP), fun a xs _ e => ⟨xs, up a _ e (fun z => by rw [z, hP] at e; cases e), rfl⟩⟩
    have codes : ∀ b q, H b = some (LamX.CodeO b q) → upd (upd H P (.tbl (ps ++ #[rawInt pos.line, rawInt pos.col, .ref c']))) c' (LamX.CodeO c' (X.env.qual ++ "<lambda>")) b = some (LamX.CodeO b q) := fun b q e => up b _ e (fun z => by rw [z, hP] at e; cases e)
    have k1 : OkW X.K w.g W (upd (upd H P (.tbl (ps ++ #[rawInt pos.line, rawInt pos.col, .ref c']))) c' (LamX.CodeO c' (X.env.qual ++ "<lambda>"))) := by
      refine ⟨⟨fun a hg => ?_, fun p hp => ?_⟩, k.gW, fun a hW => ?_⟩
      · obtain ⟨x, y, z, c0, cs, h1, h2⟩ := k.bag.bag a hg
        obtain ⟨q1, q2⟩ := hid_some h2
        exact ⟨x, y, z, c0, cs, up a _ h1 (fun z => by rw [z, hP] at h1; cases h1), by rw [hid_no q1]; exact up c0 _ q2 (fun z => by rw [z, hP] at q2; cases q2)⟩
      · by_cases hb : p.1 = P
        · rw [hu p hp hb, hb]
          refine ⟨_, atP, ?_, fun pos' cv' hcv => ?_⟩
          · rw [Array.toList_append]
            exact TriplesOk_snoc _ _ _ _ ht
          · rw [Array.toList_append] at hcv
            rcases LamX.among_app _ ht hcv with z | z
            · obtain ⟨c3, e3, h3⟩ := ha pos' cv' z
              exact ⟨c3, e3, codes _ _ h3⟩
            · exact ⟨c', z, upd_same⟩
        · obtain ⟨ps', h1, h2, h3⟩ := k.bag.tabs p hp
          refine ⟨ps', up _ _ h1 hb, h2, fun pos' cv' hcv => ?_⟩
          obtain ⟨c3, e3, h4⟩ := h3 pos' cv' hcv
          exact ⟨c3, e3, codes _ _ h4⟩
      · obtain ⟨o, e⟩ := k.al a hW
        by_cases z : a = P
        · exact ⟨_, by rw [z]; exact atP⟩
        · exact ⟨o, up a o e z⟩
    refine h h'.objs.size c' _ ctv _ _ I1 e1 k1 (Heap.get?_push_size _ rfl) ?_ (nofr _ hsz) upd_same ?_
    · have n1 : h'.objs.size ≠ c' := Nat.ne_of_gt hlt
      have n2 : h'.objs.size ≠ P := Nat.ne_of_gt (Heap.lt_size htb)
      rw [upd_ne n1, upd_ne n2]
      exact I.hok.fresh hsz
    · intro b
      obtain ⟨o, z⟩ := k.bag.al b
      rw [nC] at z; cases z

/-! ### arguments that end in a lambda -/
structure PLd (X : Cx) (w : Wd) (kf : Nat) (tb : (Xn → En → Prop) → TDE) (es : List Expr) (t : TDA) : Prop where
  run : ∀ (pos : Pos) (pins : List (Addr × Obj)) (s : Shared) (σ : L2.St) (H : Hp) (W : Addr → Bool) (own : Ow) (r : En) (P : List Da → Prop) (Q : List Value → Shared → Prop), Inv X pins σ H s → Stt X.K w W own r σ H → t r P →
    (∀ (vs : List V) (us : List Value) (ds : List Da) (f : Addr) (H1 : Hp) (s1 : Shared), Inv X pins σ H1 s1 → Ext w.g H H1 → OkW X.K w.g W H1 → DvAll X.K w.g (hid W H1) vs ds → Vals vs us → P ds → FnV X.prog X.w X.K X.mg X.base w.g W X.stack s1 H1 kf (.ref f) 0 (pLam r tb) → Q (us ++ [.ref f]) s1) →
    wpAny (model X.prog X.w) X.A (spliced (backTo pos (starEach es X.env))) Q X.xe s
  mo : ∀ r Q Q', (∀ ds, Q ds → Q' ds) → t r Q → t r Q'
/-- what is asked of a lambda without parameters -/
structure Lam0 (X : Cx) (w : Wd) (params : Arguments) (body : Expr) (scope : Scope) (k : Nat) (tb : (Xn → En → Prop) → TDE) : Prop where
  M : Maker X.base X.mg w.g.tab X.env.code (X.env.qual ++ "<lambda>")
  dflt : defaultsOf params X.env = ([], [])
  L : LamX.LamS X.env.scope scope
  bind : ∀ (q : Str) (cl : List (Str × Addr)) (pm cv ctv : Value), bindArgs (PySem.W.kla_fn "<lambda>" q params body scope cl pm cv ctv) {} = pure []
  mt : ∀ R R' : Xn → En → Prop, (∀ x r, R x r → R' x r) → ∀ r Q, tb R r Q → tb R' r Q
  mo : ∀ (R : Xn → En → Prop) r Q Q', (∀ d, Q d → Q' d) → tb R r Q → tb R r Q'
  body_ok : ∀ (A : Around) (outer : List Env) (s1 : Shared) (H1 : Hp) (E : XK) (f c' : Addr) (w1 : Wd) (R : Xn → En → Prop), w1.g = w.g → Room k (A.deeper (LamX.lamEnv X scope s1.heap.objs.size f c')) → A.guards = some [] →
      TkD (LamX.lamCx X A outer s1 H1 E scope f c') w1 R → PEd (LamX.lamCx X A outer s1 H1 E scope f c') w1 body (tb R)
end
end Pd
/-! Calls of defs that are handed functions; such defs by their bodies; a try in them. -/
namespace Pd
open PySem PySem.Spec PyProof.Rows L2
section
variable {X : Cx} {w : Wd}
theorem DvAll.snoc {K : PySem.W.Frag} {g : Gd} {H : Hp} {vs : List V} {ds : List Da} {v : V} (h : DvAll K g H vs ds) : DvAll K g H (vs ++ [v]) (ds ++ [.raw v]) := h.app (.cons .raw .nil)
end
section
variable {X : Cx} {w : Wd} {x n : Str} {c : Value} {i : Nat} {body suite : List Stmt} {b₀ : Stmt} {np pos pos' : Pos} {tb : (Xn → En → Prop) → TDS} {ts : Addr → Option Addr → Xn → TDS}
end
end Pd
/-! The head of a law whose defs make lambdas: the tables of their codes are tracked, too. -/
namespace Pd
open PySem PySem.Spec PyProof.Rows L2
section
variable {P : Program} {wd : World} {K : PySem.W.Frag} {mg mb : Str → Option Value} {k : Nat} {fa a : Addr} {fd : FuncData} {x : Str} {sp : Sp} {s1 : Shared} {us : List Value} {ns : List Int} {cs : List (Addr × Addr)}
theorem top_inT (inK : K.In s1.heap) (gl : s1.heap.Ns mainGlobals mg) (bu : s1.heap.Ns builtinsNs mb) (bo : ∀ y : Str, y ≠ "__name__" → mb y = bootBuiltins y) (nl : s1.heap.NoLimit) (g0 : s1.gens = #[])
    (tab : ∀ p ∈ cs, s1.heap.get? p.2 = some (PySem.W.tabObj #[])) (noK : ∀ p ∈ cs, K.lookup p.2 = none) (cod : ∀ p ∈ cs, PySem.W.CodeHd s1.heap p.1 p.2)
    (bmain : ∃ bm ob, mg "__builtins__" = some (.ref bm) ∧ bm ≠ builtinsNs ∧ s1.heap.get? bm = some ob ∧ ob.cls = .type "module" ∧ ob.dict = some builtinsNs ∧ ob.data = .plain)
    (at_a : s1.heap.get? a = some { cls := .type "list", data := .seq us.toArray }) (room : Room k callerA)
    (sy : ∃ mm, s1.heap.Ns sysModules mm) (F : ∀ base : Heap, K.In base → base.Ns mainGlobals mg → (∃ o, base.get? sysModules = some o) → (∀ p ∈ cs, LamX.TabB base mg p.1 p.2) → FnG P wd K mg base CX0 k fa fd [x] sp) (bd : ∀ (s : Shared) (u : Value), BindsTo s fd ⟨[u], []⟩ [(x, u)])
    (pre : ∀ H : Hp, (∀ p ∈ cs, H p.2 = some (.tbl #[])) → SqL K H a (ns.map V.int) → sp [.ref a] H (fun v _ => v = .bl true) fun _ _ _ => False)
    (H : Hp) (script : SqL K H a (ns.map V.int)) (tbs : ∀ p ∈ cs, H p.2 = some (.tbl #[])) (fits : HOk P wd H s1.heap) (sole : ∀ b u, H b = some u → (b = a ∧ K.lookup a = none ∧ ∃ o xs, u = .frz o (.lst xs)) ∨ (u = .tbl #[] ∧ ∃ c, (c, b) ∈ cs)) :
    codeAny (model P wd) callerA (.call (.ref fa) ⟨[.ref a], []⟩) (Told s1) s1 := by
  have plain : ∀ {b : Addr} {o : Obj}, s1.heap.get? b = some o → (∀ us : List Value, o ≠ { cls := .type "list", data := .seq us.toArray }) → o ≠ PySem.W.tabObj #[] → H b = none := fun {b o} at_b n1 n2 => by
    cases e : H b with
    | none => rfl
    | some u =>
      exfalso
      rcases sole b u e with ⟨z, _⟩ | ⟨_, c, z⟩
      · rw [z, at_a] at at_b
        exact n1 us (Option.some.inj at_b).symm
      · have t := tab _ z
        rw [show s1.heap.get? b = some (PySem.W.tabObj #[]) from t] at at_b
        exact n2 (Option.some.inj at_b).symm
  have seen : ∀ {b : Addr} {m : Str → Option Value}, s1.heap.Ns b m → (hidT s1.heap H).Ns b m := by
    rintro b m ⟨o, es, ep, at_b, isd, rest⟩
    refine ⟨o, es, ep, hidT_get at_b (plain at_b (fun us z => ?_) fun z => ?_), isd, rest⟩
    · rw [z] at isd
      cases isd
    · rw [z] at isd
      cases isd
  have inB : K.In (hidT s1.heap H) := fun b o at_b => by
    refine hidT_get (inK b o at_b) ?_
    cases e : H b with
    | none => rfl
    | some u =>
      rcases sole b u e with ⟨z1, z2, _⟩ | ⟨_, c, z⟩
      · rw [z1, z2] at at_b
        cases at_b
      · rw [show K.lookup b = none from noK _ z] at at_b
        cases at_b
  have lim : (hidT s1.heap H).NoLimit := by
    obtain ⟨mc, q1, q2⟩ := nl
    exact ⟨mc, seen q1, q2⟩
  have start0 : Env0 P wd K mg (hidT s1.heap H) callerA [] s1 H :=
    ⟨rfl, ⟨inB, seen gl, ⟨mb, seen bu, bo⟩, lim⟩, fun b o e => of_hidT e, Nat.le_of_eq (hidT_size _ _), trivial, fun b z => absurd (show b ∈ ([] : List Addr) from z) List.not_mem_nil, fits, .of_eq g0⟩
  have has : ∃ o, (hidT s1.heap H).get? sysModules = some o := by
    obtain ⟨mm, q⟩ := sy
    obtain ⟨o, es, ep, z, _⟩ := seen q
    exact ⟨o, z⟩
  have tbB : ∀ p ∈ cs, LamX.TabB (hidT s1.heap H) mg p.1 p.2 := fun p hp => by
    have nG : mainGlobals ≠ p.2 := fun z => by
      obtain ⟨o, es, ep, at_b, isd, _⟩ := gl
      rw [z, tab p hp] at at_b
      rw [← Option.some.inj at_b] at isd
      cases isd
    refine ⟨?_, ?_, nG⟩
    · obtain ⟨o, vs, file, tf, flags, tg, inF, text, tt, h1, h2, h3⟩ := cod p hp
      refine ⟨o, vs, file, tf, flags, tg, inF, text, tt, hidT_get h1 (plain h1 (fun us z => ?_) fun z => ?_), h2, h3⟩
      · rw [z] at h2
        exact absurd (Value.type.inj h2) (by decide)
      · rw [z] at h2
        cases h2
    · obtain ⟨bm, ob, b1, b2, b3, b4, b5, b6⟩ := bmain
      refine ⟨bm, ob, b1, b2, fun z => ?_, fun z => ?_, hidT_get b3 (plain b3 (fun us z => ?_) fun z => ?_), b4, b5, b6⟩
      · obtain ⟨o, es, ep, at_b, isd, _⟩ := gl
        rw [← z, b3] at at_b
        rw [← Option.some.inj at_b, b6] at isd
        cases isd
      · rw [z, tab p hp] at b3
        rw [← Option.some.inj b3] at b4
        cases b4
      · rw [z] at b4
        exact absurd (Value.type.inj b4) (by decide)
      · rw [z] at b4
        cases b4
  have all := (F _ inB (seen gl) has tbB).goes callerA [] s1 H ⟨[.ref a], []⟩ [.ref a] [.ref a] _ _ room rfl start0 (bd s1 (.ref a)) (.cons rfl .nil) (pre H tbs script)
  refine codeAny_mono all ?_
  rintro (e | fl) s2 out
  · exact False.elim out
  · match fl, out with
    | .next, out => exact out.elim
    | .brk, out => exact out.elim
    | .cont, out => exact out.elim
    | .ret u, out =>
      obtain ⟨v, H2, sameOs, bare, un, fits2, rel, yes⟩ := out
      have yes' : v = .bl true := yes
      subst yes'
      have eu : u = Value.bool true := rel
      subst eu
      refine ⟨rfl, ⟨?_, ?_⟩, sameOs, bare⟩
      · intro b o at_b
        cases e : H b with
        | none => exact .inl (un.keep b o at_b e (fun z => List.not_mem_nil (show b ∈ ([] : List Addr) from z)) (by simp))
        | some u =>
          rcases sole b u e with ⟨_, _, o', xs, z⟩ | ⟨z, c, hc⟩
          · rw [z] at e
            have t1 := (fits b _ e).1
            have t2 := (fits2 b _ (un.frzs b o' _ e)).1
            rw [at_b] at t1
            rw [Option.some.inj t1]
            exact .inl t2
          · rw [z] at e
            obtain ⟨more, e2⟩ := un.tbls b _ e
            have t1 : s1.heap.get? b = some (PySem.W.tabObj #[]) := fits b _ e
            have t2 : s2.heap.get? b = some (PySem.W.tabObj (#[] ++ more)) := fits2 b _ e2
            rw [at_b] at t1
            have eo := Option.some.inj t1
            subst eo
            exact .inr (.inl ⟨((cod _ hc).tab at_b).isCodeTable, rfl, #[], more, rfl, t2⟩)
      · intro b o at_b
        exact un.there b o at_b (by simp)
theorem top_callT (inK : K.In s1.heap) (gl : s1.heap.Ns mainGlobals mg) (bu : s1.heap.Ns builtinsNs mb) (bo : ∀ y : Str, y ≠ "__name__" → mb y = bootBuiltins y) (nl : s1.heap.NoLimit) (g0 : s1.gens = #[])
    (tab : ∀ p ∈ cs, s1.heap.get? p.2 = some (PySem.W.tabObj #[])) (noK : ∀ p ∈ cs, K.lookup p.2 = none) (cod : ∀ p ∈ cs, PySem.W.CodeHd s1.heap p.1 p.2)
    (bmain : ∃ bm ob, mg "__builtins__" = some (.ref bm) ∧ bm ≠ builtinsNs ∧ s1.heap.get? bm = some ob ∧ ob.cls = .type "module" ∧ ob.dict = some builtinsNs ∧ ob.data = .plain)
    (at_a : s1.heap.get? a = some { cls := .type "list", data := .seq us.toArray }) (iv : IntsAre us ns) (le : ns.length ≤ sizeLine) (room : Room k callerA)
    (sy : ∃ mm, s1.heap.Ns sysModules mm) (F : ∀ base : Heap, K.In base → base.Ns mainGlobals mg → (∃ o, base.get? sysModules = some o) → (∀ p ∈ cs, LamX.TabB base mg p.1 p.2) → FnG P wd K mg base CX0 k fa fd [x] sp) (bd : ∀ (s : Shared) (u : Value), BindsTo s fd ⟨[u], []⟩ [(x, u)])
    (pre : ∀ H : Hp, (∀ p ∈ cs, H p.2 = some (.tbl #[])) → SqL K H a (ns.map V.int) → sp [.ref a] H (fun v _ => v = .bl true) fun _ _ _ => False) :
    codeAny (model P wd) callerA (.call (.ref fa) ⟨[.ref a], []⟩) (Told s1) s1 := by
  have rel := ints_vals iv
  have hl := iv.length
  have anT : ∀ p ∈ cs, p.2 ≠ a := fun p hp z => by
    have t := tab p hp
    rw [z, at_a] at t
    cases t
  let tb : Hp := fun b => if cs.any (fun p => decide (p.2 = b)) = true then some (.tbl #[]) else none
  have tb_at : ∀ p ∈ cs, tb p.2 = some (.tbl #[]) := fun p hp => if_pos (List.any_eq_true.mpr ⟨p, hp, decide_eq_true rfl⟩)
  have tb_of : ∀ b u, tb b = some u → u = .tbl #[] ∧ ∃ c, (c, b) ∈ cs := fun b u z => by
    have z' : (if cs.any (fun p => decide (p.2 = b)) = true then some (HO.tbl #[]) else none) = some u := z
    split at z'
    · rename_i q
      obtain ⟨p, h1, h2⟩ := List.any_eq_true.mp q
      exact ⟨(Option.some.inj z').symm, p.1, by rw [← of_decide_eq_true h2]; exact h1⟩
    · cases z'
  cases e : K.lookup a with
  | some o =>
    have t := inK a o e
    rw [at_a] at t
    cases t
    refine top_inT inK gl bu bo nl g0 tab noK cod bmain at_a room sy F bd pre tb (.inr ⟨_, us.toArray, _, e, rfl, rfl, rfl, ?_, ?_⟩) tb_at (fun b u z => ?_) (fun b u z => .inr (tb_of b u z))
    · rw [List.size_toArray, hl]
      exact le
    · simpa using rel
    · obtain ⟨rfl, c, hc⟩ := tb_of b u z
      exact tab _ hc
  | none =>
    have only : ∀ b u, (if b = a then some (HO.frz { cls := .type "list", data := .seq us.toArray } (.lst (ns.map V.int))) else tb b) = some u → (b = a ∧ u = HO.frz { cls := .type "list", data := .seq us.toArray } (.lst (ns.map V.int))) ∨ tb b = some u := fun b u z => by
      by_cases q : b = a
      · rw [if_pos q] at z
        exact .inl ⟨q, (Option.some.inj z).symm⟩
      · rw [if_neg q] at z
        exact .inr z
    refine top_inT inK gl bu bo nl g0 tab noK cod bmain at_a room sy F bd pre (fun b => if b = a then some (.frz { cls := .type "list", data := .seq us.toArray } (.lst (ns.map V.int))) else tb b) (.inl (.inr ⟨_, if_pos rfl⟩)) (fun p hp => by rw [if_neg (anT p hp)]; exact tb_at p hp) (fun b u z => ?_) (fun b u z => ?_)
    · rcases only b u z with ⟨q1, q2⟩ | q
      · subst q1 q2
        exact ⟨at_a, by rw [List.length_map]; exact le, us, _, rel, at_a⟩
      · obtain ⟨rfl, c, hc⟩ := tb_of b u q
        exact tab _ hc
    · rcases only b u z with ⟨q1, q2⟩ | q
      · exact .inl ⟨q1, e, _, _, q2⟩
      · exact .inr (tb_of b u q)
end
/-- the goal that is left for the law's promise -/
theorem top_walkT {l : PySem.W.OpenLaw} {n k : Nat} {q : Program} {loose : List Str} {XP : (Str → Option Value) → Heap → Prop} {YP : World → Heap → Prop} {d : DefRec} {K : Params → PySem.W.Frag} {x : Str}
    (imp : importsNone q = true) (most : l.most = some n) (le : n ≤ sizeLine) (h63 : n ≤ 63) (nodef : d.params.defaults = []) (room : Room k callerA) (inY : ∀ (w : World) (h : Heap), YP w h → (K w.params).In h)
    (F : ∀ (w : World) (mg : Str → Option Value) (fa : Addr) (h : Heap), YP w h → (K w.params).In h → h.Ns mainGlobals mg → mg d.name = some (.ref fa) →
      ∃ (fd : FuncData) (cs : List (Addr × Addr)) (T : List (Addr × Str)), (∀ (s : Shared) (u : Value), BindsTo s fd ⟨[u], []⟩ [(x, u)]) ∧ (∀ p ∈ cs, h.get? p.2 = some (PySem.W.tabObj #[])) ∧ (∀ p ∈ cs, (K w.params).lookup p.2 = none) ∧ (∀ p ∈ cs, PySem.W.CodeHd h p.1 p.2) ∧ (∀ p ∈ T, ∃ c, (c, p.1) ∈ cs) ∧
        ∀ base : Heap, (K w.params).In base → base.Ns mainGlobals mg → (∃ o, base.get? sysModules = some o) → (∀ p ∈ cs, LamX.TabB base mg p.1 p.2) → FnG l.prog w (K w.params) mg base CX0 k fa fd [x] (spLawT (K w.params) T)) :
    PySem.W.WalkO q loose XP YP l.row.toRowW d [] (fun f vs => PySem.call f vs) := by
  apply Att.attach_call most nodef
  intro w s0 s1 mg mb fa o pm cd doc a us ns G Y at_f isf hc at_x at_a iv hl g0
  obtain ⟨fd, cs, T, bd, tab, noK, cod, hT, prom⟩ := F w mg fa s1.heap Y (inY w _ Y) G.T.g at_x
  refine top_callT (inY w _ Y) G.T.g G.T.b G.T.builtins G.T.nolimit g0 tab noK cod G.T.bmain at_a iv (Nat.le_trans hl le) room (G.T.seer imp).mods' prom bd fun H tbs script => ⟨fun p hp => ?_, a, ns, rfl, script, Nat.le_trans hl h63, fun _ => rfl⟩
  obtain ⟨c, hc⟩ := hT p hp
  exact tbs _ hc
end Pd
/-! raise C(), C an own error class without __init__. -/
namespace Pd
open PySem PySem.Spec PyProof.Rows L2
def veTail : List Value := [.type "ValueError", .type "Exception", .type "BaseException", .type "object"]
structure ErrZ (K : PySem.W.Frag) (mg : Str → Option Value) (x : Str) (C : Addr) : Prop where
  gC : mg x = some (.ref C)
  q : PySem.W.excIn K C veTail "ValueError.__new__" = true
  kC : PySem.W.keepIn K (.ref C) = true
  sub : PySem.W.subIn K (.ref C) (.type "BaseException") = some true
  ty : PySem.W.typeIn K (.ref C) = some (.type "type")
section
variable {X : Cx} {w : Wd}
end
end Pd
/-! min(d.values(), default=n). -/
namespace Pd
open PySem PySem.Spec PyProof.Rows L2
section
variable {prog : Program} {w : World} {A : Around} {R : Result → Shared → Prop} {I : Addr} {fp wr : List Addr} {n : Nat} {P : Nat → Value → Prop} {St : Nat → Heap → Prop}
end
/-! ### as data -/
section
variable {X : Cx} {w : Wd} {e : PySem.Expr} {te : TDE}
end
end Pd
/-! list(d.values()), list(d), max(a dict of texts), int(a bool). -/
namespace Pd
open PySem PySem.Spec PyProof.Rows L2
section
variable {X : Cx} {w : Wd} {e : PySem.Expr} {es : List PySem.Expr} {te : TDE} {t : TDA} {pos p : Pos}
end
end Pd
/-! max(a dict of texts), int(a bool). -/
namespace Pd
open PySem PySem.Spec PyProof.Rows L2
section
variable {X : Cx} {w : Wd} {e : PySem.Expr} {es : List PySem.Expr} {te : TDE} {t : TDA} {pos p : Pos}
def intBD : DB := fun ds Q => ∃ b : Bool, ds = [.bl b] ∧ Q (.int (if b then 1 else 0))
theorem ped_intB (hm : X.mg "int" = none) (args : PAd X w (e :: es) t) (hg : Gl X "int" := by rfl) (he : starEach (e :: es) X.env = (false, eval e X.env) :: starEach es X.env := by rfl) (hpl : (backTo pos (starEach es X.env)).any (·.1) = false := by rfl) :
    PEd X w (.Call (.Name "int" p) (e :: es) [] pos) (dCall intBD t) := by
  refine ped_callTy call_int1 (fun ds Q Q' q ⟨x, a, h⟩ => ⟨x, a, q _ h⟩) ?_ hm (by decide +kernel) args hg (by decide) (by decide) he hpl
  rintro g W H vs ds Q k dv ⟨b, rfl, h⟩
  obtain ⟨v, rfl, dx⟩ := dv.one
  cases dx
  exact .inr ⟨b, rfl, h.now k (.int _)⟩
end
end Pd
/-! dict(zip(a list of numbers and texts, a tuple)). -/
namespace Pd
open PySem PySem.Spec PySem.Calls PyProof.Rows L2
/-- a new zip of the tuple at l1 and the list at l2 -/
structure ZOkL (z TI TO i1 i2 l1 l2 : Addr) (xs ys : Array Value) (h : Heap) : Prop where
  z : IsZip h z TI TO .none
  ti : IsPair h TI (.ref i1) (.ref i2)
  to : ∃ a b, IsPair h TO a b
  one : h.IsListIter i1 l1 0 ∧ h.IsList l1 xs
  two : h.IsTupleIter i2 l2 0 ∧ h.IsTuple l2 ys
/-! ### zip of a tuple and a list -/
section
variable {prog : Program} {w : World} {A : Around} {E : Value → Shared → Prop} {s : Shared}
end
section
variable {X : Cx} {e f : Expr} {ta : TA} {p p2 pos pos2 : Pos}
end

/-! ### as data -/
section
variable {X : Cx} {w : Wd} {e f : Expr} {t : TDA} {p p2 pos pos2 : Pos}
end
end Pd
/-! text in dict, text not in dict; xs.index(b) and b in xs, xs a list of bools; a is b of bools. -/
namespace Pd
open PySem PySem.Spec PyProof.Rows L2
section
variable {X : Cx} {w : Wd} {o e a b : Expr} {to te ta tb : TDE} {pos apos cpos : Pos}
/-! ### bools -/
end
end Pd
/-! x[0][k], x[1][k] = (a, b): x a list of one's own with two dicts, forgotten afterwards. -/
namespace Pd
open PySem PySem.Spec PyProof.Rows L2
section
variable {X : Cx} {w : Wd}
end
end Pd
/-! == and != of any two dicts of numbers; dict(zip(a list, a tuple)) as a new thing. -/
namespace Pd
open PySem PySem.Spec PyProof.Rows L2
theorem KV.len {kvs : List (Key × V)} {vs : List (Key × Value)} (h : KV kvs vs) : kvs.length = vs.length := Paired.length h
section
variable {X : Cx} {w : Wd} {a b : Expr} {ta tb : TDE} {pos : Pos}
end
section
variable {X : Cx} {w : Wd} {e f : Expr} {t : TDA} {p p2 pos pos2 : Pos}
end
end Pd
/-! max(i, j); contexts that let no exception out. -/
namespace Pd
open PySem PySem.Spec PyProof.Rows L2
section
variable {X : Cx} {w : Wd} {e : PySem.Expr} {es : List PySem.Expr} {t : TDA} {pos q : Pos}
end
end Pd
/-! A dict is locked for one expression; numbers and texts in the other slots are kept. -/
namespace Pd
open PySem PySem.Spec PyProof.Rows L2
section
variable {X : Cx} {w : Wd} {e : Expr} {t : TDE} {i : Nat}
end
end Pd
/-! sorted(e, key=lambda x: (len(x), x)), e a list of tuples of texts; sorted of a list of one tuple. -/
namespace Pd
open PySem PySem.Spec PyProof.Rows L2

theorem reads_strs {h : Heap} : ∀ {a : List Str} {its : List Value}, Vals (a.map V.str) its → ReadsAll h its (a.map PyData.str) []
  | [], _, r => by cases r; exact .nil
  | x :: a, _, r => by
    cases r with
    | cons r1 r2 =>
      obtain ⟨t, rfl⟩ := r1
      exact ReadsAll.cons (as := []) (bs := []) (.str x t) (reads_strs r2)
def keyL (a : List Str) : PyData := .tuple [.int a.length, .tuple (a.map .str)]
def lenB (x : Str) (k : Nat) (p1 p2 p3 p4 p5 : Pos) : Expr := .Tuple [.Call (.Name "len" p1) [.Name x p2] [] p3, .Name x p4] k p5
/-- what is asked of a lambda of one parameter that neither keeps nor takes names -/
structure Lam1 (params : Arguments) (scope : Scope) (x : Str) : Prop where
  co : scope.isCoroutine = false
  gen : scope.isGenerator = false
  kind : scope.kind = .function
  own : ∀ y ∈ scope.names, y.2 ≠ .cell ∧ y.2 ≠ .free
  at_x : scope.names.lookup x = some .local
  bind : ∀ (body : Expr) (q : Str) (pm cv ctv v : Value), bindArgs (PySem.W.kla_fn "<lambda>" q params body scope [] pm cv ctv) ⟨[v], []⟩ = pure [(x, v)]
section
variable {prog : Program} {wd : World} {K : PySem.W.Frag} {mg : Str → Option Value} {base : Heap}
theorem key_lam {A : Around} {s1 : Shared} {f c' a : Addr} {its : List Value} {x q : Str} {xs : List Str} {k : Nat} {p1 p2 p3 p4 p5 : Pos} {params : Arguments} {scope : Scope} {pm ctv : Value}
    (mod : Mod K mg base) (bk : ∀ b o, base.get? b = some o → s1.heap.get? b = some o) (ml : mg "len" = none) (hd : A.depth < recursionLimit) (L : Lam1 params scope x) (gl : scope.names.lookup ("len" : Str) = some .globalImplicit)
    (hf : s1.heap.get? f = some (PySem.W.kla_obj "<lambda>" q params (lenB x k p1 p2 p3 p4 p5) scope [] pm c' ctv)) (cr : s1.heap.CodeRec (.ref c') q)
    (ha : IsTup s1.heap a its.toArray) (rv : Vals (xs.map V.str) its) (hl : xs.length ≤ sizeLine) (xd : (x == ("__debug__" : Str)) = false := by decide) :
    wpAny (model prog wd) A (call (.ref f) [.ref a]) (PySem.W.KeyPure (keyL xs) s1) (fun _ _ => False) s1 := by
  have nolim : s1.heap.NoLimit := mod.nolimit.keeps bk
  have e63 := line63
  have hs : sizeLine = 16777216 := sizeLine_eq
  have len := rv.length
  rw [List.length_map] at len
  have all : codeAny (model prog wd) A (.call (.ref f) ⟨[.ref a], []⟩) (fun r s' => ∃ v, r = .ok (.ret v) ∧ PySem.W.KeyPure (keyL xs) s1 v s') s1 := by
    refine PySem.W.kla_callFunE hd hf rfl L.co L.gen rfl cr ?_
    rw [L.bind]
    refine wpAny_pure ?_
    refine wpAny_newFunctionEnv (fun y hy => (L.own y hy).1) (fun y hy => ?_) (fun h' n' sb => ⟨nolim.fresh _ sb, PySem.W.kla_codeExpr ?_⟩) L.kind
    · rw [List.mem_singleton.mp hy]
      exact L.at_x
    have keep : ∀ b o, s1.heap.get? b = some o → h'.get? b = some o := fun b o e => sb.extBut b _ (Nat.ne_of_lt (Heap.lt_size e)) (Heap.get?_push_of_some _ e)
    have bk' : ∀ b o, base.get? b = some o → h'.get? b = some o := fun b o e => keep b o (bk b o e)
    obtain ⟨mb, hb1, hb2⟩ := mod.blt
    have n0 : [(x, Value.ref a)].reverse.lookup x = some (.ref a) := by simp [List.lookup]
    refine wpAny_Tuple_spliced (Calls.spliced_cons ?_)
    refine wpAny_Call_Name_kw (Calls.Name_function_global L.kind gl (Calls.loadGlobal_builtin (mod.glob.keeps bk') ml (hb1.keeps bk') ((hb2 "len" (by decide)).trans boot_len) ?_) (by decide))
    refine PyProof.Rows.callWith_builtin1 (Calls.spliced_cons ?_) rfl rfl
    refine wpAny_Name (wpAny_loadName_local L.kind L.at_x n' n0 ?_) xd
    refine Calls.spliced_nil ?_
    refine PyProof.Rows.len_tuple (ha.keeps keep) (by rw [List.size_toArray]; omega) ?_
    refine Calls.spliced_cons ?_
    refine wpAny_Name (wpAny_loadName_local L.kind L.at_x n' n0 ?_) xd
    refine Calls.spliced_nil ⟨by show 2 ≤ sizeLine; omega, ?_⟩
    refine ⟨_, rfl, _, _, rfl, fun b o e => Heap.get?_push_of_some _ (keep b o e), ?_⟩
    obtain ⟨o, ho, oc, n, od⟩ := ha
    refine Reads.tuple (Heap.get?_push_size _ rfl) rfl rfl ?_
    refine ReadsAll.cons (as := []) (bs := []) ?_ (ReadsAll.cons (as := []) (bs := []) (Reads.tuple (Heap.get?_push_of_some _ (keep _ _ ho)) oc od (reads_strs rv)) .nil)
    rw [List.size_toArray, ← len]
    exact Reads.int _ _
  refine wpAny_call (codeAny_mono all ?_)
  rintro r s' ⟨v, rfl, z⟩
  exact z
end

section
variable {X : Cx} {w : Wd} {e : Expr} {te : TDE}
def dSrtL (te : TDE) : TDA := fun r Q => te r fun d => ∃ as : List (List Str), d = .lst (as.map strsD) ∧ as.length ≤ sizeLine ∧ Q ((as.mergeSort (PySem.W.dataLe false keyL)).map strsD)
theorem tups_vals {K : PySem.W.Frag} {g : Gd} {H : Hp} {v : V} {a : List Str} (h : Dv K g H v (strsD a)) : ∃ p, v = .ref p ∧ SqT K H p (a.map V.str) := by
  unfold strsD at h
  cases h with
  | tup h1 h2 =>
    rw [DvAll.strs h2] at h1
    exact ⟨_, rfl, h1.sq⟩
theorem each_map' {α β γ : Type} {R : α → γ → Prop} (f : β → γ) : ∀ {as : List α} {bs : List β}, PySem.W.EachIs (fun a b => R a (f b)) as bs → PySem.W.EachIs R as (bs.map f)
  | _, _, .nil => .nil
  | _, _, .cons h t => .cons h (each_map' f t)
theorem pfd_sortedLen {x : Str} {k kk : Nat} {p p1 p2 p3 p4 p5 lpos kpos pos : Pos} {params : Arguments} {scope : Scope} (hr : Room kk X.A) (h2 : 2 ≤ kk) (hm : X.mg "sorted" = none) (ml : X.mg "len" = none)
    (M : Maker X.base X.mg w.g.tab X.env.code (X.env.qual ++ "<lambda>")) (L : Lam1 params scope x) (he : PEd X w e te) (hdef : defaultsOf params X.env = ([], []) := by rfl) (nofree : cloFrom X.env.cells scope.names [] = [] := by rfl)
    (glS : Gl X "sorted" := by rfl) (gl : scope.names.lookup ("len" : Str) = some .globalImplicit := by rfl) (xd : (x == ("__debug__" : Str)) = false := by decide) (st : starEach (e :: []) X.env = (false, eval e X.env) :: starEach [] X.env := by rfl)
    (bt : backTo pos (starEach (e :: []) X.env) = (false, eval e X.env) :: backTo pos (starEach [] X.env) := by rfl) (hpl : (backTo pos (starEach (e :: []) X.env)).any (·.1) = false := by rfl) :
    PFd X w (.Call (.Name "sorted" p) [e] [⟨some "key", .Lambda params (lenB x k p1 p2 p3 p4 p5) scope lpos, kpos⟩] pos) (dSrtL te) := by
  refine ⟨⟨?_⟩, fun r Q Q' q h => he.mo _ _ _ (fun d ⟨as, e, l, z⟩ => ⟨as, e, l, q _ z⟩) h⟩
  rintro pins s σ H Q I ⟨W, own, r, S, h⟩
  refine wpAny_Call_Name_kw (ld_blt (u := .builtin "sorted") I glS hm (by decide +kernel) ?_)
  refine PyProof.Rows.callWith_kw ?_ bt hpl rfl rfl
  rw [bt]
  refine Calls.spliced_cons (thn (he.pe.run pins s σ H (fun v H1 => ∃ d, Ext w.g H H1 ∧ OkW X.K w.g W H1 ∧ Dv X.K w.g (hid W H1) v d ∧ ∃ as : List (List Str), d = .lst (as.map strsD) ∧ as.length ≤ sizeLine ∧
    (fun bs => ∀ p xs H1, Ext w.g H H1 → OkW X.K w.g W H1 → H1 p = none → DvAll X.K w.g (hid W H1) xs bs → Q (.ref p) (upd H1 p (.lst xs))) ((as.mergeSort (PySem.W.dataLe false keyL)).map strsD)) I ⟨W, own, r, S, he.mo _ _ _ (fun d z v H1 e1 k1 d1 => ⟨d, e1, k1, d1, z⟩) h⟩) ?_)
  rintro u s1 ⟨v, H1, I1, rv, d, e1, k1, d1, as, rfl, hl, q⟩
  refine Calls.spliced_nil ?_
  refine PyProof.Rows.kws_cons (lam_make I1 k1 M hdef (fun y hy z => absurd z (L.own y hy).2) ?_)
  intro f c' pm ctv H2 s2 I2 e2 k2 hf nf ns hc nb
  refine PyProof.Rows.kws_nil ?_
  have d2 : Dv X.K w.g (hid W H2) v (.lst (as.map strsD)) := Dv.mono (e2.hid k1.gW) _ _ d1
  cases d2 with
  | @lst l xs _ hlst dv =>
    cases rv
    obtain ⟨its, rvs, pl, hz⟩ := I2.list (SqL.of (hid_some hlst).2)
    rw [nofree] at hf
    have cr : s2.heap.CodeRec (.ref c') (X.env.qual ++ "<lambda>") := by
      obtain ⟨⟨oc, vs, t, q1, q2, q3⟩, _⟩ := I2.hok c' _ hc
      exact ⟨c', oc, vs, t, rfl, q1, q2, q3⟩
    have al : ∀ a b : List Str, PySem.W.alike (keyL a) (keyL b) = true := fun a b => by
      have z : ∀ a b : List Str, PySem.W.alikeAll (a.map .str) (b.map .str) = true := by
        intro a
        induction a with
        | nil => intro b; simp [PySem.W.alikeAll]
        | cons x a ih =>
          intro b
          cases b with
          | nil => simp [PySem.W.alikeAll]
          | cons y b => simp [PySem.W.alikeAll, PySem.W.alike, ih b]
      simp [keyL, PySem.W.alike, PySem.W.alikeAll, z a b]
    have dp : ∀ a : List Str, (keyL a).depth ≤ 2 := fun a => by
      have z : ∀ a : List Str, PyData.depthAll (a.map .str) ≤ 0 := by
        intro a
        induction a with
        | nil => simp [PyData.depthAll]
        | cons x a ih => simp [PyData.depthAll, PyData.depth] at ih ⊢; omega
      have := z a
      simp only [keyL, PyData.depth, PyData.depthAll]
      omega
    have ev : PySem.W.EachIs (fun u a => ∃ v, RelV v u ∧ Dv X.K w.g (hid W H2) v (strsD a)) its as := PySem.W.each_of_map strsD (each_dv dv rvs)
    have roomy := hr.mono h2
    refine PySem.W.sorted_key_data (b := false) (β := List Str) (R := fun u a => ∃ v, RelV v u ∧ Dv X.K w.g (hid W H2) v (strsD a)) keyL pl.isList ev (PySem.W.AllAlike.of al) (PySem.W.Sortable.tuples fun a => ⟨_, _, rfl⟩) hl (fun a _ => ?_) (PyProof.Rows.ksk_s1 _ _) (fun _ => PyProof.Rows.ksk_l1 _ _) (fun _ => PyProof.Rows.ksk_t1 _ _) ?_ ?_
    · have := roomy.un
      have := dp a
      omega
    · rintro u a ⟨v, rv, dva⟩ _ h tk kp
      obtain ⟨pa, rfl, sq⟩ := tups_vals dva
      cases rv
      obtain ⟨its2, rv2, pl2, hz2⟩ := I2.tuple (sqt_mono hid_sub sq)
      have cr' : h.CodeRec (.ref c') (X.env.qual ++ "<lambda>") := by
        obtain ⟨c2, oc, vs, t, q0, q1, q2, q3⟩ := cr
        exact ⟨c2, oc, vs, t, q0, kp _ _ q1, q2, q3⟩
      rw [List.length_map] at hz2
      exact key_lam (s1 := { s2 with heap := h, toks := tk }) I2.ok.mod (fun b o e => kp b o (I2.bk b o e)) ml ((roomy.in1).in1).depth L gl (kp _ _ hf) cr' (pl2.keeps kp) rv2 hz2 xd
    · intro out c h' tk kp fr at_p len each
      obtain ⟨ys, y1, y2⟩ := dv_each (each_map' strsD each)
      have hlen : ys.length ≤ sizeLine := by rw [y1.length, len]; exact hl
      have new : ObjOk X.prog X.w (upd H2 (s2.heap.objs.size + 1) (.lst ys)) h' (s2.heap.objs.size + 1) (.lst ys) := ⟨hlen, out, c, y1, at_p⟩
      exact ⟨.ref _, _, I2.laid (t' := tk) kp (Nat.le_succ _) new, rfl, q _ _ _ (e1.trans e2) k2 (I2.hok.fresh (Nat.le_succ _)) y2⟩
end
end Pd
/-! sorted of a list that may be of one empty tuple. -/
namespace Pd
open PySem PySem.Spec PyProof.Rows L2
open PySem.W in
theorem sortsAt_unit {prog : Program} {w : World} {A : Around} {s : Shared} {v : Value} {as : List Addr} (r : Reads s.heap v (.tuple []) as) (hu : A.units + 1 < cLine) : SortsAt prog w A s (dataKind s.heap [.tuple []]) [v] := by
  have hal : AllAlike [PyData.tuple []] := fun d hd d' hd' => by
    rw [List.mem_singleton.mp hd, List.mem_singleton.mp hd']
    simp [alike, alikeAll]
  refine ⟨fun u hu => ?_, tuples' false, ?_, fun h2 => absurd h2 (by simp)⟩
  · rw [List.mem_singleton.mp hu]
    exact ⟨_, dataKind_some hal List.mem_cons_self r⟩
  · intro E x y a b Q ha hb hq
    obtain ⟨d, as, hd, ra, rfl⟩ := dataKind_inv ha
    obtain ⟨d', as', hd', rb, rfl⟩ := dataKind_inv hb
    rw [List.mem_singleton] at hd hd'
    subst hd
    subst hd'
    have hq' : Q (dataLt (.tuple []) (.tuple [])) s := hq
    rw [dataLt_tuple] at hq'
    cases ra with
    | @tuple l o xs n _ _ h1 h2 h3 h4 =>
      cases rb with
      | @tuple l' o' xs' n' _ _ k1 k2 k3 k4 =>
        have n1 : xs.size = 0 := by simpa using SeqAt.ReadsAll.length _ _ _ h4
        have n2 : xs'.size = 0 := by simpa using SeqAt.ReadsAll.length _ _ _ k4
        exact kat_lt h1 h3 k1 k3 (katLex_alike [] [] 0 _ _ _ _ h4 k4 (by simp [alikeAll]) (by simp [PyData.depthAll]; omega) (fun hb _ x r t ex => by cases ex) (by rw [n1, n2]; rfl) hq')
def srt1 (ds : List Da) : Prop := srtOk ds ∨ ds = [.tup []]
def sortD1 : DB := fun ds Q => ∃ x xs, ds = [x] ∧ x = .lst xs ∧ srt1 xs ∧ Q (.lst (srt xs))
def rSortD1 (K : PySem.W.Frag) : List V → Hp → VK → Prop := fun vs H Q => ∃ (g : Gd) (Hh : Hp) (a : Addr) (xs : List V) (ds : List Da), vs = [.ref a] ∧ Sm Hh H ∧ H a = some (.lst xs) ∧ DvAll K g Hh xs ds ∧ srt1 ds ∧ ∀ ys p, DvAll K g Hh ys (srt ds) → H p = none → Q (.ref p) (upd H p (.lst ys))
section
variable {X : Cx} {w : Wd} {e : Expr} {es : List Expr} {t : TDA} {p pos : Pos}
theorem cr_sortD1 {k : Nat} (hr : Room k X.A) : CallR X (.builtin "sorted") (rSortD1 X.K) := by
  intro pins s σ H vs us Q I r h
  obtain ⟨g, Hh, a, xs, ds, rfl, sm, ha, dv, ok | rfl, q⟩ := h
  · exact cr_sortD hr pins s σ H [.ref a] us Q I r ⟨g, Hh, a, xs, ds, rfl, sm, ha, dv, ok, q⟩
  · obtain ⟨its, rv, hl, hz⟩ := I.list (SqL.of ha)
    rw [Vals.ref1 r]
    have dvH : DvAll X.K g H xs [.tup []] := DvAll.mono sm _ _ dv
    obtain ⟨as, ra⟩ := Dp.readsAll I (toPs [.tup []]) xs its (DvAll.dp [.tup []] xs dvH (by simp [canPs, canP])) rv
    have er := readsAll_toP ra
    cases rv with
    | nil => cases dv
    | @cons v u vs us rv1 rv2 =>
      cases rv2 with
      | cons _ _ => cases dv with | cons _ d2 => cases d2
      | nil =>
        cases er with
        | cons r1 _ =>
          obtain ⟨as1, r1⟩ := r1
          have e0 : toP (.tup []) = .tuple [] := by simp [toP, toPs]
          rw [e0] at r1
          have un := hr.un
          have e : PySem.W.EachIs (fun u d => ∃ v, RelV v u ∧ Dv X.K g Hh v d) [u] [Da.tup []] := each_dv dv (.cons rv1 .nil)
          have er' : PySem.W.EachIs (fun v b => ∃ as, Reads (PySem.W.sortingHeap (PySem.W.copyHeap s.heap [u]) (s.heap.objs.size + 1) [u]) v (toP b) as) [u] [Da.tup []] := .cons ⟨as1, by rw [e0]; exact PyProof.Rows.Reads.keeps (fun _ _ => PySem.W.sorting_copy_old) r1⟩ .nil
          have hal : PySem.W.AllAlike ([Da.tup []].map toP) := fun d hd d' hd' => by
            rw [List.map_cons, List.map_nil, e0] at hd hd'
            rw [List.mem_singleton.mp hd, List.mem_singleton.mp hd']
            simp [PySem.W.alike, PySem.W.alikeAll]
          have SA := sortsAt_unit (prog := X.prog) (w := X.w) (A := X.A.in1.in1) (s := { s with heap := PySem.W.sortingHeap (PySem.W.copyHeap s.heap [u]) (s.heap.objs.size + 1) [u] }) (v := u) (as := as1) (PyProof.Rows.Reads.keeps (fun _ _ => PySem.W.sorting_copy_old) r1) (by show X.A.units + 1 + 1 + 1 < _; omega)
          have em : [Da.tup []].map toP = [PyData.tuple []] := by rw [List.map_cons, List.map_nil, e0]
          rw [← em] at SA
          refine PySem.W.sorted_vals hl.isList SA (by show 1 ≤ sizeLine; decide) ?_
          have h2 := PySem.W.sortVals_data false e er' hal
          obtain ⟨ys, y1, y2⟩ := dv_each h2
          obtain ⟨ep, he'⟩ := PyProof.Rows.sortedAll_at s.heap [u] (PySem.W.sortVals (PySem.W.dataKind (PySem.W.sortingHeap (PySem.W.copyHeap s.heap [u]) (s.heap.objs.size + 1) [u]) ([Da.tup []].map toP)) false [u] [u]).toArray
          have hlen : ys.length ≤ sizeLine := by rw [y2.len, List.length_mergeSort]; show 1 ≤ sizeLine; decide
          have new : ObjOk X.prog X.w (upd H (s.heap.objs.size + 1) (.lst ys)) (sortedAll s.heap [u] _) (s.heap.objs.size + 1) (.lst ys) := ⟨hlen, _, ep, y1, he'⟩
          exact ⟨.ref _, _, I.laid (t' := s.toks) (fun _ _ => PyProof.Rows.sortedAll_old) (Nat.le_succ _) new, rfl, q ys _ y2 (I.hok.fresh (Nat.le_succ _))⟩
theorem ped_sorted1 {k : Nat} (hr : Room k X.A) (hm : X.mg "sorted" = none) (args : PAd X w (e :: es) t) (hg : Gl X "sorted" := by rfl) (he : starEach (e :: es) X.env = (false, eval e X.env) :: starEach es X.env := by rfl) (hpl : (backTo pos (starEach es X.env)).any (·.1) = false := by rfl) :
    PEd X w (.Call (.Name "sorted" p) (e :: es) [] pos) (dCall sortD1 t) := by
  refine ped_callB (cr_sortD1 hr) (fun ds Q Q' q ⟨x, xs, a, b, c, h⟩ => ⟨x, xs, a, b, c, q _ h⟩) ?_ hm (by decide +kernel) args hg (by decide) (by decide) he hpl
  rintro g W H vs ds Q k dv ⟨x, xs, rfl, rfl, c, h⟩
  obtain ⟨v, rfl, dx⟩ := dv.one
  cases dx with
  | lst a1 a2 =>
    exact ⟨g, hid W H, _, _, xs, rfl, hid_sub, (hid_some a1).2, a2, c, fun ys p dy np => h.newL k np dy⟩
end
end Pd
/-! Defs that return a new list, where the tables of codes are told. -/
namespace Pd
open PySem PySem.Spec PyProof.Rows L2
/-- the code of a def, by the def's name -/
structure CodeAt (K : PySem.W.Frag) (mg : Str → Option Value) (x : Str) (cd : Value) : Prop where
  ex : ∃ f o fd, mg x = some (.ref f) ∧ K.lookup f = some o ∧ o.data = .func fd ∧ fd.code = cd
def liFT (K : PySem.W.Frag) (T : List (Addr × Str)) (p : DSpF) : Sp := fun vs H Q _ => ∃ g W ds, OkW K g W H ∧ g.tab = T ∧ DvAll K g (hid W H) vs ds ∧ p ds (NewL K g W H Q)
structure CalldFT (P : Program) (wd : World) (K : PySem.W.Frag) (mg : Str → Option Value) (base : Heap) (T : List (Addr × Str)) (k : Nat) (x : Str) (ps : List Str) (p : DSpF) : Prop where
  ex : ∃ f fd, FnG P wd K mg base CX0 k f fd ps (liFT K T p) ∧ mg x = some (.ref f) ∧ PySem.W.keepIn K (.ref f) = true ∧ Binds K fd ps []
  mp : MoPF p
section
variable {P : Program} {wd : World} {K : PySem.W.Frag} {mg : Str → Option Value} {base : Heap} {T : List (Addr × Str)}
theorem CalldFT.up {j k : Nat} {x : Str} {ps : List Str} {p : DSpF} (c : CalldFT P wd K mg base T j x ps p) (h : j ≤ k) : CalldFT P wd K mg base T k x ps p := by
  obtain ⟨⟨f, fd, F, a, b, d⟩, mp⟩ := c
  exact ⟨⟨f, fd, F.up h, a, b, d⟩, mp⟩
end
section
variable {X : Cx} {w : Wd}
theorem pfd_fT {T : List (Addr × Str)} {x : Str} {p pos : Pos} {k : Nat} {ps : List Str} {sp : DSpF} {t : TDA} {e : Expr} {es : List Expr} (hT : w.g.tab = T) (c : CalldFT X.prog X.w X.K X.mg X.base T k x ps sp) (room : Room k X.A) (hG : X.A.guards = some []) (args : PAd X w (e :: es) t) (gl : Gl X x := by rfl) (nd : (x == ("__debug__" : Str)) = false := by decide)
    (st : starEach (e :: es) X.env = (false, eval e X.env) :: starEach es X.env := by rfl) (bk : (backTo pos (starEach es X.env)).any (·.1) = false := by rfl) : PFd X w (.Call (.Name x p) (e :: es) [] pos) (dCallF sp t) := by
  obtain ⟨⟨f, fd, F, a, b, d⟩, mp⟩ := c
  refine ⟨weE (pe_callG (E := E0) F room hG gl a b d .nil pass0 args.pa nd st bk) ?_, fun r Q Q' q h => args.mo _ _ _ (fun ds z => mp _ _ _ q z) h⟩
  rintro σ H Q ⟨W, own, r, S, h⟩
  refine goA args S h fun xs vs H1 e1 k1 d1 p => ?_
  rw [List.append_nil]
  exact ⟨w.g, W, xs, k1, hT, d1, mp _ _ _ (fun d q => NewL.then q e1) p⟩
end
theorem defFT {P : Program} {wd : World} {K : PySem.W.Frag} {mg : Str → Option Value} {base : Heap} {T : List (Addr × Str)} {x : Str} {st : Stmt} {N ps : List Str} {k : Nat} {p : DSpF} {cd : Value} (At : DefAt K mg x st ps) (C : CodeAt K mg x cd)
    (S : FnScope N ps (defScope st)) (len : ∀ ds Q, p ds Q → ds.length = ps.length) (mp : MoPF p)
    (inside : ∀ (f : Addr) (A : Around) (outer : List Env) (s0 : Shared) (H : Hp) (E : XK) (w : Wd) (ds : List Da) (Q : List Da → Prop), Room k (A.deeper (envOfC x (defScope st) s0.heap.objs.size f cd)) → A.guards = some [] → WOk w → w.g.tab = T → p ds Q →
      ∃ t, PSsF (cxOf CX0 P wd K mg base N x (defScope st) f cd A outer s0 H E).nox w (defBody st) t ∧ t { nx := fun _ => False, rt := fun _ => False, bk := fun _ => False, ct := fun _ => False, rf := Q } (startD N ds)) :
    CalldFT P wd K mg base T (k + 1) x ps p := by
  obtain ⟨f, fd, F, a, b⟩ := At.ex
  have ecd : fd.code = cd := by
    obtain ⟨f2, o2, fd2, h1, h2, h3, h4⟩ := C.ex
    rw [a] at h1
    cases h1
    obtain ⟨oc, od, kV, doc, pm, an, cdv, ct, osl, rfl, at_f, at_c⟩ := F.ex
    rw [at_f] at h2
    cases h2
    cases h3
    exact h4
  refine ⟨⟨f, fd, FunG.okC F S ?_ ?_, a, F.kp, b⟩, mp⟩
  · rintro vs H Q E ⟨g, W, ds, k1, _, dv, h⟩
    rw [dv.len]
    exact len _ _ h
  · rintro cdv A outer s0 H vs Q E hcd room hG ⟨g, W, ds, k1, hT, dv, h⟩
    have e2 : cdv = cd := hcd.symm.trans ecd
    subst e2
    obtain ⟨t, ht, hq⟩ := inside f A outer s0 H E ⟨H, g, W⟩ ds _ room hG (fun a ha => k1.al a ha) hT h
    refine ⟨_, ht.ps, W, fun _ _ => False, startD N ds, start_stt k1 dv, ht.mo { nx := fun _ => False, rt := fun _ => False, bk := fun _ => False, ct := fun _ => False, rf := NewL K g W H Q } _ _ ⟨⟨fun _ (q : False) => q.elim, fun _ (q : False) => q.elim, fun _ (q : False) => q.elim, fun _ (q : False) => q.elim⟩, fun ds q => q⟩ hq⟩
end Pd
/-! name = [.. for x in .. for y in ..], name one's own list (it may be walked, too). -/
namespace Pd
open PySem PySem.Spec PyProof.Rows L2
section
variable {X : Cx} {w : Wd} {pos : Pos}
theorem psd_setLc2O {i : Nat} {y : Str} {py spos : Pos} {elt tg iter tg1 iter1 : Expr} {ifs ifs1 : List Expr} {scope : Scope} {own : List (Str × Nat)} {vs1 : List Nat} {g g1 : TG} {gd gd1 : TDG} {gvs gvs1 : List Nat} {wd wd1 : TDI} {tt tt1 : TDT} {te : TDE} (hN : X.N.Nodup) (hi : ∀ w, PId X w tg iter wd) (ok : BlkOk X.N X.env.scope scope own) (hv : ∀ i ∈ vs1, i ∈ own.map (·.2))
    (G : GDs X.K g gd gvs) (gmo : ∀ v σ H Q Q', (∀ a b, Q a b → Q' a b) → g v σ H Q → g v σ H Q') (sub : ∀ i ∈ gvs, i ∈ own.map (·.2))
    (G1 : GDs X.K g1 gd1 gvs1) (gmo1 : ∀ v σ H Q Q', (∀ a b, Q a b → Q' a b) → g1 v σ H Q → g1 v σ H Q') (sub1 : ∀ i ∈ gvs1, i ∈ vs1)
    (hg : ∀ (s : Shared) (H : Hp) (C : Addr) (cl : List (Str × Addr)) (fp : List Addr), PG (X.blk s H scope (compEnvC scope cl C X.env) fp) tg g)
    (ht : ∀ w (s : Shared) (H : Hp) (C : Addr) (cl : List (Str × Addr)) (fp : List Addr), PTsd (X.blk s H scope (compEnvC scope cl C X.env) fp) w ifs tt)
    (hi1 : ∀ w (s : Shared) (H : Hp) (C : Addr) (cl : List (Str × Addr)) (fp : List Addr), PId (X.blk s H scope (compEnvC scope cl C X.env) fp) w tg1 iter1 wd1)
    (hg1 : ∀ (s : Shared) (H : Hp) (C : Addr) (cl : List (Str × Addr)) (fp : List Addr), PG (X.blk s H scope (compEnvC scope cl C X.env) fp) tg1 g1)
    (ht1 : ∀ w (s : Shared) (H : Hp) (C : Addr) (cl : List (Str × Addr)) (fp : List Addr), PTsd (X.blk s H scope (compEnvC scope cl C X.env) fp) w ifs1 tt1)
    (he : ∀ w (s : Shared) (H : Hp) (C : Addr) (cl : List (Str × Addr)) (fp : List Addr), PEd (X.blk s H scope (compEnvC scope cl C X.env) fp) w elt te)
    (s0 : Shared) (hsw : swapsWith (.ListComp elt [⟨tg, iter, ifs, 0⟩, ⟨tg1, iter1, ifs1, 0⟩] scope pos) (some (.Name y py)) spos.line X.env = pure true) (hy : X.N[i]? = some y := by rfl) (hyl : X.env.scope.names.lookup y = some .local := by rfl) (hc : X.calm = true := by rfl) (hs : ∀ x, foldedSetIterable iter X.env x = pure x := by intro _; rfl) (hs1 : ∀ env x, foldedSetIterable iter1 env x = pure x := by intro _ _; rfl) :
    PSd X w (.Assign [.Name y py] (.ListComp elt [⟨tg, iter, ifs, 0⟩, ⟨tg1, iter1, ifs1, 0⟩] scope pos) spos) (fun E r => dLcN wd gd tt wd1 gd1 tt1 te (own.map (·.2)) vs1 (openE r) fun ds => noLs ds = true ∧ E.nx (r.set i (.own ds))) := by
  have mt := (ht w s0 (fun _ => none) 0 [] []).mo
  have mt1 := (ht1 w s0 (fun _ => none) 0 [] []).mo
  have mw1 := (hi1 w s0 (fun _ => none) 0 [] []).mo
  have me := (he w s0 (fun _ => none) 0 [] []).mo
  have mi := (hi w).mo
  refine ⟨⟨fun pins s σ H D I q => ?_⟩, fun E E' r l h => mi _ _ _ (fun ds => lcN_mo G.mo mt mw1 G1.mo mt1 me (fun d z => ⟨z.1, l.nx _ z.2⟩) ds []) h⟩
  obtain ⟨W, own', r, S, z⟩ := q
  refine (ps_setLc2 (i := i) (wi := liI X.K ⟨H, w.g, shut W own' r⟩ wd) (tt := liT X.K ⟨H, w.g, shut W own' r⟩ tt) (tt1 := liT X.K ⟨H, w.g, shut W own' r⟩ tt1) (wi1 := liI X.K ⟨H, w.g, shut W own' r⟩ wd1) (te := liE X.K ⟨H, w.g, shut W own' r⟩ te) hc hN hy hyl hsw (hi _).pi ok hv hg (fun s H C cl fp => (ht _ s H C cl fp).pt) (fun s H C cl fp => (hi1 _ s H C cl fp).pi) hg1 (fun s H C cl fp => (ht1 _ s H C cl fp).pt) (fun s H C cl fp => (he _ s H C cl fp).pe) hs hs1).run pins s σ H D I ?_
  refine lcF2_in (w := ⟨H, w.g, shut W own' r⟩) G gmo sub G1 gmo1 sub1 mt mt1 me mi mw1 S.opened (mi _ _ _ (fun ds => lcN_mo G.mo mt mw1 G1.mo mt1 me (fun es z p xs H1 e1 k1 np dv => ?_) ds []) z)
  have S1 := S.ext e1 (S.shutOk e1 k1)
  obtain ⟨⟨own2, S2⟩, gr⟩ := S1.newOwn i np (DvAll.sees (S.seesBack e1) _ _ z.1 dv)
  exact z.2 _ own2 _ _ ((Grow.of (S.shutOk e1 k1) e1).trans gr) S2
end
end Pd
namespace K12
open PySem PySem.Spec PyProof.Rows L2 Pd
def topS (i : Nat) : Stmt := PySem.Challenge.pw_asmuchas_k12_sums_listed.main.body.getD i (.Pass ⟨0, 0, 0, 0⟩)
abbrev s_bag : Stmt := topS 6
abbrev s_take : Stmt := topS 7
abbrev N_take : List Str := ["_law_bag_here", "_law_many", "_law_cell", "_law_mixed", "_law_value", "_law_begin", "_law_second"]
theorem sc_take : FnScope N_take ["_law_bag_here", "_law_many"] (defScope s_take) := ⟨rfl, rfl, rfl, by decide +kernel, rfl, by decide +kernel, by decide +kernel⟩
abbrev sp_sum_of : Stmt := topS 1
abbrev Np_sum_of : List Str := ["names"]
theorem scp_sum_of : FnScope Np_sum_of ["names"] (defScope sp_sum_of) := ⟨rfl, rfl, rfl, by decide +kernel, rfl, by decide +kernel, by decide +kernel⟩

abbrev sp_sums : Stmt := topS 2
abbrev Np_sums : List Str := ["things", "many", "found", "_", "one", "name"]
theorem scp_sums : FnScope Np_sums ["things", "many"] (defScope sp_sums) := ⟨rfl, rfl, rfl, by decide +kernel, rfl, by decide +kernel, by decide +kernel⟩

abbrev sp_in_order : Stmt := topS 3
abbrev Np_in_order : List Str := ["some"]
theorem scp_in_order : FnScope Np_in_order ["some"] (defScope sp_in_order) := ⟨rfl, rfl, rfl, by decide +kernel, rfl, by decide +kernel, by decide +kernel⟩

abbrev sp_pairs : Stmt := topS 4
abbrev Np_pairs : List Str := ["things", "many", "some", "place", "one", "other"]
theorem scp_pairs : FnScope Np_pairs ["things", "many"] (defScope sp_pairs) := ⟨rfl, rfl, rfl, by decide +kernel, rfl, by decide +kernel, by decide +kernel⟩

abbrev s_alike : Stmt := topS 8
abbrev N_alike : List Str := ["_law_found", "_law_due"]
theorem sc_alike : FnScope N_alike ["_law_found", "_law_due"] (defScope s_alike) := ⟨rfl, rfl, rfl, by decide +kernel, rfl, by decide +kernel, by decide +kernel⟩

abbrev s_one : Stmt := topS 9
abbrev N_one : List Str := ["_law_bag_here", "_law_things_here"]
theorem sc_one : FnScope N_one ["_law_bag_here", "_law_things_here"] (defScope s_one) := ⟨rfl, rfl, rfl, by decide +kernel, rfl, by decide +kernel, by decide +kernel⟩

abbrev s_things : Stmt := topS 10
abbrev N_things : List Str := ["_law_bag_here", "_law_many", "_law_menu", "_law_way", "_law_turn", "_law_letters", "_law_stem", "_law_k"]
theorem sc_things : FnScope N_things ["_law_bag_here", "_law_many"] (defScope s_things) := ⟨rfl, rfl, rfl, by decide +kernel, rfl, by decide +kernel, by decide +kernel⟩

abbrev s_sum : Stmt := topS 11
abbrev N_sum : List Str := ["_law_bag_here", "_law_things_here", "_law_many", "_law_k"]
theorem sc_sum : FnScope N_sum ["_law_bag_here", "_law_things_here", "_law_many"] (defScope s_sum) := ⟨rfl, rfl, rfl, by decide +kernel, rfl, by decide +kernel, by decide +kernel⟩

abbrev s_all_sums : Stmt := topS 12
abbrev N_all_sums : List Str := ["_law_things_here", "_law_many", "_law_found", "_law_turn", "_law_longer", "_law_row", "_law_name"]
theorem sc_all_sums : FnScope N_all_sums ["_law_things_here", "_law_many"] (defScope s_all_sums) := ⟨rfl, rfl, rfl, by decide +kernel, rfl, by decide +kernel, by decide +kernel⟩

abbrev s_right : Stmt := topS 13
abbrev N_right : List Str := ["_law_things_here", "_law_many", "_law_due", "_law_both", "_law_at", "_law_again", "_law_found", "_law_told", "_law_other"]
theorem sc_right : FnScope N_right ["_law_things_here", "_law_many"] (defScope s_right) := ⟨rfl, rfl, rfl, by decide +kernel, rfl, by decide +kernel, by decide +kernel⟩

structure Txt (K : PySem.W.Frag) (mg : Str → Option Value) : Prop where
  d_take : DefAt K mg "_law_take" s_take ["_law_bag_here", "_law_many"]
  dp_sum_of : DefAt K mg "sum_of" sp_sum_of ["names"]
  dp_sums : DefAt K mg "sums" sp_sums ["things", "many"]
  dp_in_order : DefAt K mg "in_order" sp_in_order ["some"]
  dp_pairs : DefAt K mg "pairs" sp_pairs ["things", "many"]
  d_alike : DefAt K mg "_law_alike" s_alike ["_law_found", "_law_due"]
  d_one : DefAt K mg "_law_one" s_one ["_law_bag_here", "_law_things_here"]
  d_things : DefAt K mg "_law_things" s_things ["_law_bag_here", "_law_many"]
  d_sum : DefAt K mg "_law_sum" s_sum ["_law_bag_here", "_law_things_here", "_law_many"]
  d_all_sums : DefAt K mg "_law_all_sums" s_all_sums ["_law_things_here", "_law_many"]
  d_right : DefAt K mg "_law_right" s_right ["_law_things_here", "_law_many"]

  m_abs : mg "abs" = none
  m_enumerate : mg "enumerate" = none
  m_int : mg "int" = none
  m_len : mg "len" = none
  m_list : mg "list" = none
  m_range : mg "range" = none
  m_repr : mg "repr" = none
  m_sorted : mg "sorted" = none
  m_tuple : mg "tuple" = none
section
variable {P : Program} {wd : World} {K : PySem.W.Frag} {mg : Str → Option Value} {base : Heap}
theorem at0 {a b c d : V} : atI [a, b, c, d] 0 = some a := atI_nat (j := 0) rfl
theorem at1 {a b c d : V} : atI [a, b, c, d] 1 = some b := atI_nat (j := 1) rfl
theorem at2 {a b c d : V} : atI [a, b, c, d] 2 = some c := atI_nat (j := 2) rfl
theorem at3 {a b c d : V} : atI [a, b, c, d] 3 = some d := atI_nat (j := 3) rfl
theorem seq_via {t u : TS} {D : Ends} {σ : L2.St} {H : Hp} (I : L2.St → Hp → Prop) (h2 : ∀ σ' H', I σ' H' → u D σ' H') (h1 : (∀ σ' H', I σ' H' → u D σ' H') → t { D with nx := u D } σ H) : tSeq t u D σ H := h1 h2
theorem seq_c {v : V} {i : Nat} {u : TS} {D : Ends} {σ : L2.St} {H : Hp} (h : u D (σ.set i (some v)) H) : tSeq (tAsg (tC v) (gName i)) u D σ H := h
/-- in a draw: the slots and the heap -/
structure TkI (K : PySem.W.Frag) (H0 : Hp) (g c : Addr) (cs : List Int) (n : Int) (σ : L2.St) (H : Hp) : Prop where
  ex : ∃ x y z u2 u3 u4 u5 u6, σ = [some (.ref g), some (.int n), u2, u3, u4, u5, u6] ∧ BagT K H0 g c cs H x y z
theorem ok_take (T : Txt K mg) : Calld P wd K mg base 1 "_law_take" ["_law_bag_here", "_law_many"] pTake := by
  obtain ⟨f, fd, F, at_f, bd⟩ := T.d_take.ex
  refine ⟨⟨f, fd, FunG.ok F sc_take ?_ ?_, at_f, F.kp, bd⟩, pTake_mo⟩
  · rintro vs H Q E ⟨g, W, ds, k, dv, n, rfl, _⟩
    exact dv.len
  · rintro cdv A outer s0 H vs Q E hr hG ⟨gg, W, ds, k, dv, n, rfl, hn, hn9, h⟩
    obtain ⟨v1, v2, rfl, d1, d2⟩ := dv.two
    cases d2
    cases d1 with
    | @bag g eg =>
    obtain ⟨x0, y0, z0, c, cs, b1, b2⟩ := k.bag.bag g eg
    obtain ⟨b3, b4⟩ := hid_some b2
    have neg : c ≠ g := fun z => by rw [z, k.gW g (.inl eg)] at b3; cases b3
    have B0 : BagT K H g c cs H x0 y0 z0 := ⟨fun _ _ _ h => h, b1, b4, neg⟩
    -- what is told at the end
    have fin : ∀ (r : Int) (H' : Hp) (x y : Int) (z : Nat), 0 ≤ r → r < n → BagT K H g c cs H' x y z → Q (.int r) H' := by
      intro r H' x y z r0 r1 B
      have e : Ext gg H H' := ⟨fun b o nb hb => B.keep b o (fun z => nb (.inl (by rw [z]; exact eg))) hb, fun a xs ha hx => by
        have : a = g := Option.some.inj (ha.symm.trans eg)
        subst this
        cases b1.symm.trans hx
        exact ⟨_, B.at_g, rfl⟩⟩
      refine h r r0 r1 _ H' e ⟨⟨fun a ha => ?_, tabs_at k.bag.tabs (fun p hp ps q => B.keep p.1 _ (fun z => by rw [z, b1] at q; cases q) q) (fun c2 n2 q => B.keep c2 _ (fun z => by rw [z, b1] at q; cases q) q)⟩, k.gW, fun a ha => ?_⟩ (.int r)
      · have : a = g := Option.some.inj (ha.symm.trans eg)
        subst this
        exact ⟨x, y, z, c, cs, B.at_g, by rw [hid_no b3]; exact B.at_c⟩
      · by_cases z' : a = g
        · exact ⟨_, by rw [z']; exact B.at_g⟩
        · obtain ⟨o, q⟩ := k.al a ha
          exact ⟨o, B.keep a o z' q⟩
    refine ⟨_, pss_cons (ps_if (pt_cmp (pc_eqI (pe_ix ix_list (pv 0) pe_int (fun _ _ => rfl)) pe_int))
        (pss_cons (ps_set (i := 2) sc_take.nd rfl (.inl rfl) pe_int)
        (pss_cons (ps_if (pt_cmp (pc_lt (pe_ix ix_list (pv 0) pe_int (fun _ _ => rfl)) (pe_callB call_len_seq (by rfl) T.m_len PySem.boot_len (pa_cons (pe_ix ix_list (pv 0) pe_int (fun _ _ => rfl)) pa_nil))))
            (pss_one (ps_set (i := 2) sc_take.nd rfl (.inl rfl) (pe_ix ix_list (pe_ix ix_list (pv 0) pe_int (fun _ _ => rfl)) (pe_ix ix_list (pv 0) pe_int (fun _ _ => rfl)) (fun _ _ => rfl)))) pss_nil)
        (pss_cons (ps_augS (pv 0) pe_int pget_list pe_int ip_add set_list)
        (pss_cons (ps_if (pt_cmp (pc_ge (pv 2) pe_int)) (pss_one (ps_asg (pv 2) (pg_sub (pv 0) pe_int set_list))) pss_nil)
        (pss_cons (ps_set (i := 3) sc_take.nd rfl (.inl rfl) (pe_op op_add (pe_op op_add (pe_op op_mul (pe_ix ix_list (pv 0) pe_int (fun _ _ => rfl)) pe_int)
            (pe_op op_mod (pe_callTy call_int1 (by rfl) T.m_int (by decide +kernel) (pa_cons (pv 2) pa_nil)) pe_int)) (pe_op op_mul pe_int (pe_ix ix_list (pv 0) pe_int (fun _ _ => rfl)))))
        (pss_one (ps_asg (pe_op op_mod (pe_callTy call_int1 (by rfl) T.m_int (by decide +kernel) (pa_cons (pv 3) pa_nil)) pe_int) (pg_sub (pv 0) pe_int set_list)))))))) pss_nil)
      (pss_cons (ps_if (pt_cmp (pc_gt (pe_ix ix_list (pv 0) pe_int (fun _ _ => rfl)) pe_int))
        (pss_cons (ps_set (i := 4) sc_take.nd rfl (.inl rfl) (pe_op op_mod (pe_callTy call_int1 (by rfl) T.m_int (by decide +kernel) (pa_cons (pe_ix ix_list (pv 0) pe_int (fun _ _ => rfl)) pa_nil)) (pv 1)))
        (pss_cons (ps_asg (pe_op op_fdivW (pe_ix ix_list (pv 0) pe_int (fun _ _ => rfl)) (pv 1)) (pg_sub (pv 0) pe_int set_list))
        (pss_one (ps_ret (pv 4))))) pss_nil)
      (pss_cons (ps_set (i := 5) sc_take.nd rfl (.inl rfl) (pe_op op_mod (pe_callTy call_int1 (by rfl) T.m_int (by decide +kernel) (pa_cons (pe_op op_mul (pe_op op_add (pe_ix ix_list (pv 0) pe_int (fun _ _ => rfl)) pe_int) pe_int) pa_nil)) pe_int))
      (pss_cons (ps_set (i := 6) sc_take.nd rfl (.inl rfl) (pe_op op_mod (pe_callTy call_int1 (by rfl) T.m_int (by decide +kernel) (pa_cons (pe_op op_mul (pe_op op_mod (pe_callTy call_int1 (by rfl) T.m_int (by decide +kernel) (pa_cons (pe_op op_mul (pv 5) (pv 5)) pa_nil)) pe_int) pe_int) pa_nil)) pe_int))
      (pss_cons (ps_if (pt_cmp (pc_gt (pv 1) pe_int)) (pss_one (ps_ret (pe_op op_mod (pe_callTy call_int1 (by rfl) T.m_int (by decide +kernel) (pa_cons (pe_op op_add (pe_op op_mul (pv 6) pe_int) (pv 5)) pa_nil)) (pv 1)))) pss_nil)
      (pss_one (ps_ret (pe_op op_mod (pe_callTy call_int1 (by rfl) T.m_int (by decide +kernel) (pa_cons (pe_op op_fdiv (pv 6) pe_int) pa_nil)) (pv 1)))))))), ?_⟩
    refine seq_via (fun σ' H' => TkI K H g c cs n σ' H') (fun σ' H' I => ?_) (fun rest => ?_)
    · obtain ⟨x, y, z, u2, u3, u4, u5, u6, rfl, B⟩ := I.ex
      -- if bag[0] > 0
      refine ⟨.ref g, rfl, g, _, 0, _, rfl, rfl, SqL.of B.at_g, at0, x, 0, rfl, rfl, _, rfl, ite2 (fun hx => ?_) (fun hx => ?_)⟩
      · -- value, the bag's first place, return
        refine ⟨.ref g, rfl, g, _, 0, _, rfl, rfl, SqL.of B.at_g, at0, .inl ⟨x, rfl, .int n, rfl, x, n, rfl, rfl, hn, ?_⟩⟩
        refine ⟨.ref g, rfl, g, _, 0, _, rfl, rfl, SqL.of B.at_g, at0, .int n, rfl, x, n, rfl, rfl, ⟨hn, hn9⟩, ?_⟩
        refine ⟨.ref g, rfl, g, _, 0, 0, rfl, rfl, B.at_g, ix4 (n := 4) (k := 0) (j := 0) rfl (by decide), ?_⟩
        refine ⟨.int (x % n), rfl, ?_⟩
        have m := mod_lt (i := x) hn
        exact fin _ _ _ _ _ m.1 m.2 B.put
      · -- begin, second
        refine ⟨.ref g, rfl, g, _, 1, _, rfl, rfl, SqL.of B.at_g, at1, y, 1, rfl, rfl, y + 1, 39373, rfl, rfl, mul_ok (by decide) (by decide), .inl ⟨_, rfl, _, 1000000007, rfl, rfl, (by decide : (0 : Int) < 1000000007), ?_⟩⟩
        have m1 := mod_lt (i := (y + 1) * 39373) (n := 1000000007) (by decide)
        refine ⟨_, rfl, _, rfl, (y + 1) * 39373 % 1000000007, (y + 1) * 39373 % 1000000007, rfl, rfl, mul_ok m1.1 (by omega), .inl ⟨_, rfl, _, 998244353, rfl, rfl, (by decide : (0 : Int) < 998244353), ?_⟩⟩
        refine ⟨_, 30011, rfl, rfl, mul_ok (by decide) (by decide), .inl ⟨_, rfl, _, 998244353, rfl, rfl, (by decide : (0 : Int) < 998244353), ?_⟩⟩
        refine ⟨.int n, rfl, n, 1000000, rfl, rfl, _, rfl, ite2 (fun hx => ?_) (fun hx => ?_)⟩
        · refine ⟨_, rfl, _, 1000000007, rfl, rfl, mul_ok (by decide) (by decide), _, rfl, _, _, rfl, rfl, .inl ⟨_, rfl, .int n, rfl, _, n, rfl, rfl, hn, ?_⟩⟩
          exact fin _ _ _ _ _ (mod_lt hn).1 (mod_lt hn).2 B
        · refine ⟨_, rfl, _, 7, rfl, rfl, ⟨by decide, by decide⟩, .inl ⟨_, rfl, .int n, rfl, _, n, rfl, rfl, hn, ?_⟩⟩
          exact fin _ _ _ _ _ (mod_lt hn).1 (mod_lt hn).2 B
    · refine ⟨.ref g, rfl, g, _, 0, _, rfl, rfl, SqL.of B0.at_g, at0, x0, 0, rfl, rfl, _, rfl, ite2 (fun hx => ?_) (fun hx => ?_)⟩
      · -- a new cell
        refine seq_c ?_
        refine seq_via (fun σ' H' => ∃ cell : Int, σ' = [some (.ref g), some (.int n), some (.int cell), none, none, none, none] ∧ H' = H) (fun σ' H' I => ?_) (fun rest1 => ?_)
        · obtain ⟨cell, rfl, rfl⟩ := I
          -- bag[2] += 1
          refine ⟨.ref g, rfl, g, _, 2, _, rfl, rfl, SqL.of B0.at_g, at2, (z0 : Int), 1, rfl, rfl, ?_⟩
          refine ⟨g, _, 2, 2, rfl, rfl, B0.at_g, ix4 (n := 4) (k := 2) (j := 2) rfl (by decide), ?_⟩
          have B1 : BagT K H' g c cs (upd H' g (bagL x0 y0 (z0 + 1) c)) x0 y0 (z0 + 1) := B0.put
          dsimp only
          refine seq_via (fun σ'' H'' => ∃ x1 : Int, σ'' = [some (.ref g), some (.int n), some (.int cell), none, none, none, none] ∧ BagT K H' g c cs H'' x1 y0 (z0 + 1)) (fun σ'' H'' I => ?_) (fun rest2 => ?_)
          · obtain ⟨x1, rfl, B2⟩ := I
            refine ⟨.ref g, rfl, g, _, 1, _, rfl, rfl, SqL.of B2.at_g, at1, y0, 48271, rfl, rfl, mul_ok (by decide) (by decide), .int cell, rfl, .inl ⟨cell, rfl, cell, 2147483647, rfl, rfl, (by decide : (0 : Int) < 2147483647), ?_⟩⟩
            refine ⟨_, _, rfl, rfl, .ref g, rfl, g, _, 2, _, rfl, rfl, SqL.of B2.at_g, at2, 7919, _, rfl, rfl, .inl ⟨by decide, by decide⟩, _, _, rfl, rfl, ?_⟩
            refine ⟨_, rfl, .inl ⟨_, rfl, _, 2147483647, rfl, rfl, (by decide : (0 : Int) < 2147483647), ?_⟩⟩
            refine ⟨.ref g, rfl, g, _, 1, 1, rfl, rfl, B2.at_g, ix4 (n := 4) (k := 1) (j := 1) rfl (by decide), ?_⟩
            exact rest _ _ ⟨⟨x1, _, z0 + 1, _, _, _, _, _, rfl, B2.put⟩⟩
          · refine ⟨.int cell, rfl, cell, 1000000000000000000, rfl, rfl, _, rfl, ite2 (fun hx => ?_) (fun hx => ?_)⟩
            · refine ⟨.int cell, rfl, .ref g, rfl, g, _, 0, 0, rfl, rfl, B1.at_g, ix4 (n := 4) (k := 0) (j := 0) rfl (by decide), ?_⟩
              exact rest2 _ _ ⟨cell, rfl, B1.put⟩
            · exact rest2 _ _ ⟨x0, rfl, B1⟩
        · -- if bag[2] < len(bag[3])
          refine ⟨.ref g, rfl, g, _, 2, _, rfl, rfl, SqL.of B0.at_g, at2, .ref g, rfl, g, _, 3, _, rfl, rfl, SqL.of B0.at_g, at3, c, _, rfl, .inl (SqL.of b4), (z0 : Int), _, rfl, rfl, _, rfl, ite2 (fun hx => ?_) (fun hx => ?_)⟩
          · have hl : z0 < cs.length := by
              have q := of_decide_eq_true hx
              rw [List.length_map] at q
              omega
            have hc : (cs.map V.int)[z0]? = some (.int cs[z0]) := by rw [List.getElem?_map, List.getElem?_eq_getElem hl]; rfl
            refine ⟨.ref g, rfl, g, _, 3, _, rfl, rfl, SqL.of B0.at_g, at3, .ref g, rfl, g, _, 2, _, rfl, rfl, SqL.of B0.at_g, at2, c, _, _, _, rfl, rfl, SqL.of b4, atI_nat hc, ?_⟩
            exact rest1 _ _ ⟨_, rfl, rfl⟩
          · exact rest1 _ _ ⟨0, rfl, rfl⟩
      · exact rest _ _ ⟨⟨x0, y0, z0, _, _, _, _, _, rfl, B0⟩⟩
end
end K12
namespace K12
open PySem in
def abc : Str := "abcdefghijklmnopqrstuvwxyz"
open PySem PySem.Spec PyProof.Rows L2 Pd
section
variable {P : Program} {wd : World} {K : PySem.W.Frag} {mg : Str → Option Value} {base : Heap}
/-! ### what is drawn -/
theorem log_small {n : Int} (h : 0 < n) (h2 : n ≤ 1000000000000) : n.natAbs.log2 < 9000 := Nat.lt_trans (log2_of (k := 40) (by omega) (by decide)) (by decide)
def ixOf : Da → Bool
  | .lst _ => true
  | .tup _ => true
  | _ => false
/-- texts of plain letters -/
def Asc (ts : List Str) : Prop := ∀ t ∈ ts, ∀ c ∈ t.cps.toList, c < 128
theorem Asc.shp {ts : List Str} (h : Asc ts) : shp (strsD ts) = true := by
  have z : ∀ ts : List Str, Asc ts → PyData.canLayAll0 (toPs (ts.map .str)) = true := by
    intro ts
    induction ts with
    | nil => intro _; rw [List.map_nil, toPs, PyData.canLayAll0]
    | cons x xs ih =>
      intro h
      have hx := (sz_str (h x List.mem_cons_self)).lay
      rw [List.map_cons, toPs, PyData.canLayAll0, hx, ih fun t ht => h t (List.mem_cons_of_mem _ ht)]
      rfl
  have d := dep_strs ts
  unfold Pd.shp SeqAt.shaped
  rw [canP, canP_strs, toP, PyData.canLay0, z ts h, PyData.depth, decide_eq_true (show _ ≤ _ from by omega)]
  rfl
theorem atD {xs : List Da} {r : Int} (h1 : 0 ≤ r) (h2 : r.toNat < xs.length) : L2.atI xs r = some xs[r.toNat] := by
  have e : r = ((r.toNat : Nat) : Int) := by omega
  have z := at_da h2
  rw [← e] at z
  exact z
def pOne : DSp := fun ds Q => ∃ x xs, ds = [.bag, x] ∧ seqOf x = some xs ∧ ixOf x = true ∧ xs ≠ [] ∧ xs.length ≤ 63 ∧ ∀ d ∈ xs, Q d
theorem pOne_mo : MoP pOne := fun _ _ _ q ⟨x, xs, e, a, b, c, d, z⟩ => ⟨x, xs, e, a, b, c, d, fun t h => q _ (z t h)⟩
theorem ok_one (T : Txt K mg) : Calld P wd K mg base 2 "_law_one" ["_law_bag_here", "_law_things_here"] pOne := by
  refine defC T.d_one sc_one ?_ pOne_mo ?_
  · rintro ds Q ⟨x, xs, rfl, _⟩
    rfl
  · rintro f cdv A outer s0 H E w ds Q hr hG ⟨x, xs, rfl, hs, hi, ne, hl, q⟩
    refine ⟨_, (psd_one (psd_ret (ped_at (fun _ _ => rfl) (ped_var 1) (ped_f ((ok_take T).up (by decide)) hr hG (pad_cons (ped_var 0) (pad_cons (ped_len T.m_len (pad_cons (ped_var 1) pad_nil)) pad_nil)))))), ?_⟩
    have hp : 0 < xs.length := List.length_pos_iff.mpr ne
    refine ⟨_, rfl, _, rfl, _, rfl, _, rfl, .inl ⟨xs, hs, _, rfl, by omega, log_small (by omega) (by omega), fun r h1 h2 => ?_⟩⟩
    have h3 : r.toNat < xs.length := by omega
    have z := atD (xs := xs) h1 h3
    have m := q _ (List.getElem_mem h3)
    cases x with
    | lst ys => cases hs; exact ⟨_, z, m⟩
    | tup ys => cases hs; exact ⟨_, z, m⟩
    | _ => cases hi
theorem all_strs {F : Str → Prop} : ∀ {ys : List Da}, (∀ y ∈ ys, ∃ t, y = .str t ∧ F t) → ∃ b : List Str, ys = b.map .str ∧ ∀ t ∈ b, F t
  | [], _ => ⟨[], rfl, fun _ h => by cases h⟩
  | y :: ys, h => by
    obtain ⟨b, rfl, hb⟩ := all_strs (ys := ys) fun z hz => h z (List.mem_cons_of_mem _ hz)
    obtain ⟨t, rfl, ht⟩ := h y List.mem_cons_self
    refine ⟨t :: b, rfl, fun s hs => ?_⟩
    rcases List.mem_cons.mp hs with e | e
    · rw [e]; exact ht
    · exact hb s e
/-- a sum of some of the texts -/
structure SumOf (ts a : List Str) : Prop where
  mem : ∀ t ∈ a, t ∈ ts
  len : a.length ≤ 3
  srt : sortedS a = true
/-- some of the texts -/
def pSum : DSp := fun ds Q => ∃ (ts : List Str) (m : Int), ds = [.bag, strsD ts, .int m] ∧ Asc ts ∧ ts.length ≤ 63 ∧ 0 ≤ m ∧ m ≤ 3 ∧ ∀ a : List Str, SumOf ts a → Q (strsD a)
theorem pSum_mo : MoP pSum := fun _ _ _ q ⟨ts, m, e, a, b, c, d, z⟩ => ⟨ts, m, e, a, b, c, d, fun t h => q _ (z t h)⟩
theorem ok_sum (T : Txt K mg) : Calld P wd K mg base 3 "_law_sum" ["_law_bag_here", "_law_things_here", "_law_many"] pSum := by
  refine defC T.d_sum sc_sum ?_ pSum_mo ?_
  · rintro ds Q ⟨ts, m, rfl, _⟩
    rfl
  · rintro f cdv A outer s0 H E w ds Q hr hG ⟨ts, m, rfl, ha, hl, m0, m1, q⟩
    refine ⟨_, (psd_cons (psd_if (ptd_eq hr (ped_var 1) (ped_tup pad_nil)) (psd_one (psd_ret (ped_tup pad_nil))) psd_nil)
    (psd_one (psd_ret (ped_tupF T.m_tuple (pad_cons (ped_sorted hr T.m_sorted (pad_cons (ped_lc (own := [("_law_k", 3)]) sc_sum.nd (pid_range T.m_range (ped_var 2)) (blkOk_by (own := [("_law_k", 3)]) (N := N_sum) (sc := defScope s_sum) (by decide +kernel)) (gd_name 3) (gName_mo 3) (by decide) (fun _ _ _ _ _ => (pg_name (i := 3) sc_sum.nd rfl (Or.inl rfl))) (fun _ _ _ _ _ => ptsd_nil) (fun _ _ _ _ _ => (ped_f ((ok_one T).up (by decide)) hr hG (pad_cons (ped_var 0) (pad_cons (ped_var 1) pad_nil)))) s0) pad_nil)) pad_nil))))), ?_⟩
    refine ⟨_, rfl, by decide, ha.shp, shp_unit, _, rfl, ?_⟩
    rw [eqd_tupNil]
    cases ts with
    | nil => exact (if_pos rfl).mpr ⟨by decide, q [] ⟨(fun _ h => nomatch h), (by decide), rfl⟩⟩
    | cons t0 tr =>
      refine (if_neg Bool.false_ne_true).mpr ?_
      refine ⟨_, rfl, m, rfl, by omega, by omega, ?_⟩
      refine lcD_all (fun d y => ∃ t, y = .str t ∧ t ∈ t0 :: tr) _ [] (by rw [rngD_len]; simp; omega) (fun d hd R hR => ?_) fun ys hy => ?_
      · exact ⟨_, rfl, _, rfl, _, _, rfl, rfl, rfl, by simp, by rw [List.length_map]; exact hl, fun d hd => by
          obtain ⟨t, ht, rfl⟩ := List.mem_map.mp hd
          exact hR _ ⟨t, rfl, ht⟩⟩
      · have lb := paired_len hy
        rw [rngD_len] at lb
        obtain ⟨b, rfl, hb⟩ := all_strs (F := fun t => t ∈ t0 :: tr) fun y hy' => by
          obtain ⟨x, _, z⟩ := paired_mem hy hy'
          exact z
        rw [List.length_map] at lb
        obtain ⟨c, e, p, so⟩ := srt_strsS (a := b)
        refine ⟨_, _, rfl, rfl, srtOk_strs (by omega), _, rfl, .inl ⟨_, rfl, ?_⟩⟩
        rw [List.nil_append, e]
        exact q c ⟨fun t ht => hb t (p.mem_iff.mp ht), by rw [p.length_eq]; omega, so⟩
end
def nameS (t : Str) : Bool := t.cps.toList.all (fun c => decide (c < 128)) && decide (t.length ≤ 8)
theorem nameS_ok {t : Str} (h : nameS t = true) : (∀ c ∈ t.cps.toList, c < 128) ∧ t.length ≤ 8 := by
  unfold nameS at h
  rw [Bool.and_eq_true] at h
  exact ⟨fun c hc => of_decide_eq_true (List.all_eq_true.mp h.1 c hc), of_decide_eq_true h.2⟩
/-- ascending different names -/
structure Good (ts : List Str) : Prop where
  nd : ts.Nodup
  srt : sortedS ts = true
  nm : ∀ t ∈ ts, nameS t = true
def menu : List Str := ["alike", "heavier", "unlike", "strike", "undo", "redo", "word", "why", "so", "ab", "abc", "a", "z", "zzzzzzzz", "things", "on"]
theorem menu_split : Txt.split "alike heavier unlike strike undo redo word why so ab abc a z zzzzzzzz things on" " " = menu := by decide +kernel
def aas (m : Nat) : List Str := (List.range m).map fun k : Nat => cutS ("aaaaaaaa" : Str) none (some (((k : Nat) : Int) + 1))
def ltr (j : Nat) : Str := ⟨#[abc.cps.toList.getD j 0]⟩
def stemOf (w t : Nat) : Str := if w = 3 then ltr t else if w = 4 then "zzzzzzz" else ""
def lets (w t m : Nat) : List Str := (List.range m).map fun k => stemOf w t ++ ltr ((t + 3 * k) % 26)
theorem stem_len (w t : Nat) : (stemOf w t).length ≤ 7 := by
  unfold stemOf
  split
  · exact (by decide : 1 ≤ 7)
  · split
    · decide
    · decide
theorem menu_nd : menu.Nodup := by decide +kernel
theorem menu_asc : ∀ t ∈ menu, nameS t = true := by decide +kernel
theorem aas_ok : ∀ m < 7, (aas m).Nodup ∧ sortedS (aas m) = true ∧ ∀ t ∈ aas m, nameS t = true := by decide +kernel
theorem lets_ok : ∀ w < 5, ∀ t < 16, ∀ m < 7, (lets w t m).Nodup ∧ ∀ s ∈ lets w t m, nameS s = true := by decide +kernel
section
variable {P : Program} {wd : World} {K : PySem.W.Frag} {mg : Str → Option Value} {base : Heap}
theorem rot_nd (t m : Nat) : ((menu.drop t ++ menu.take t).take m).Nodup := by
  have p : (menu.drop t ++ menu.take t).Perm menu := List.perm_append_comm.trans (by rw [List.take_append_drop])
  exact (p.nodup_iff.mpr menu_nd).sublist (List.take_sublist _ _)
theorem rot_mem {t m : Nat} {x : Str} (h : x ∈ (menu.drop t ++ menu.take t).take m) : x ∈ menu := by
  have p : (menu.drop t ++ menu.take t).Perm menu := List.perm_append_comm.trans (by rw [List.take_append_drop])
  exact p.mem_iff.mp (List.mem_of_mem_take h)
theorem letAt {j : Nat} (h : j < 26) : L2.atI abc.cps.toList ((j : Nat) : Int) = some (abc.cps.toList.getD j 0) := by
  refine L2.atI_nat ?_
  have l : abc.cps.toList.length = 26 := by decide +kernel
  rw [List.getElem?_eq_getElem (by omega)]
  exact congrArg some (List.getElem_eq_getD 0)
/-- up to six things -/
def pThings : DSp := fun ds Q => ∃ m : Nat, ds = [.bag, .int (m : Nat)] ∧ m ≤ 6 ∧ ∀ ts : List Str, Good ts → ts.length ≤ m → Q (strsD ts)
theorem pThings_mo : MoP pThings := fun _ _ _ q ⟨m, e, h, z⟩ => ⟨m, e, h, fun ts h1 h2 => q _ (z ts h1 h2)⟩
theorem ok_things (T : Txt K mg) : Calld P wd K mg base 2 "_law_things" ["_law_bag_here", "_law_many"] pThings := by
  refine defC T.d_things sc_things ?_ pThings_mo ?_
  · rintro ds Q ⟨m, rfl, _⟩
    rfl
  · rintro f cdv A outer s0 H E w ds Q hr hG ⟨m, rfl, hm, q⟩
    refine ⟨_, (psd_cons (psd_set (i := 2) (ped_split ped_str ped_str) sc_things.nd)
    (psd_cons (psd_asg (ped_tup (pad_cons (ped_f ((ok_take T).up (by decide)) hr hG (pad_cons (ped_var 0) (pad_cons ped_int pad_nil))) (pad_cons (ped_f ((ok_take T).up (by decide)) hr hG (pad_cons (ped_var 0) (pad_cons ped_int pad_nil))) pad_nil))) (pg_tup rfl (pgs_cons (pg_name (i := 3) sc_things.nd rfl (Or.inl rfl)) (pgs_cons (pg_name (i := 4) sc_things.nd rfl (Or.inr rfl)) pgs_nil))) (gd_tup2 3 4) (gTup_mo (gCons_mo (gName_mo 3) (gCons_mo (gName_mo 4) gNil_mo))))
    (psd_cons (psd_if (ptd_eq hr (ped_var 3) ped_int) (psd_one (psd_ret (ped_tupF T.m_tuple (pad_cons (ped_sorted hr T.m_sorted (pad_cons (ped_slice (ped_add (ped_slice (ped_var 2) (pod_some (ped_var 4)) pod_none) (ped_slice (ped_var 2) pod_none (pod_some (ped_var 4)))) pod_none (pod_some (ped_var 1))) pad_nil)) pad_nil)))) psd_nil)
    (psd_cons (psd_if (ptd_eq hr (ped_var 3) ped_int) (psd_one (psd_ret (ped_tupF T.m_tuple (pad_cons (ped_lc (own := [("_law_k", 7)]) sc_things.nd (pid_range T.m_range (ped_var 1)) (blkOk_by (own := [("_law_k", 7)]) (N := N_things) (sc := defScope s_things) (by decide +kernel)) (gd_name 7) (gName_mo 7) (by decide) (fun _ _ _ _ _ => (pg_name (i := 7) sc_things.nd rfl (Or.inl rfl))) (fun _ _ _ _ _ => ptsd_nil) (fun _ _ _ _ _ => (ped_slice ped_str pod_none (pod_some (ped_add (ped_var 7) ped_int)))) s0) pad_nil)))) psd_nil)
    (psd_cons (psd_set (i := 5) ped_str sc_things.nd)
    (psd_cons (psd_set (i := 6) (ped_at (fun _ _ => rfl) (ped_lst (pad_cons ped_str (pad_cons ped_str (pad_cons (ped_at (fun _ _ => rfl) (ped_var 5) (ped_var 4)) (pad_cons ped_str pad_nil))))) (ped_sub (ped_var 3) ped_int)) sc_things.nd)
    (psd_one (psd_ret (ped_tupF T.m_tuple (pad_cons (ped_sorted hr T.m_sorted (pad_cons (ped_lc (own := [("_law_k", 7)]) sc_things.nd (pid_range T.m_range (ped_var 1)) (blkOk_by (own := [("_law_k", 7)]) (N := N_things) (sc := defScope s_things) (by decide +kernel)) (gd_name 7) (gName_mo 7) (by decide) (fun _ _ _ _ _ => (pg_name (i := 7) sc_things.nd rfl (Or.inl rfl))) (fun _ _ _ _ _ => ptsd_nil) (fun _ _ _ _ _ => (ped_add (ped_var 6) (ped_at (fun _ _ => rfl) (ped_var 5) (ped_mod (ped_intF T.m_int (pad_cons (ped_add (ped_var 4) (ped_mul ped_int (ped_var 7))) pad_nil)) ped_int)))) s0) pad_nil)) pad_nil)))))))))), ?_⟩
    refine ⟨_, rfl, _, rfl, by decide +kernel, by decide +kernel, ?_⟩
    rw [menu_split]
    have srted : ∀ a : List Str, a.Nodup → (∀ t ∈ a, nameS t = true) → a.length ≤ m → srtOk (a.map .str) ∧ ∃ b : List Str, srt (a.map .str) = b.map .str ∧ Good b ∧ b.length ≤ m := fun a h1 h2 h3 => by
      obtain ⟨b, e, p, so⟩ := srt_strsS (a := a)
      exact ⟨srtOk_strs (by omega), b, e, ⟨p.nodup_iff.mpr h1, so, fun t ht => h2 t (p.mem_iff.mp ht)⟩, by rw [p.length_eq]; exact h3⟩
    refine ⟨_, rfl, _, rfl, by decide, by decide, fun r1 a1 a2 => ⟨_, rfl, _, rfl, by decide, by decide, fun r2 b1 b2 => ⟨show 2 ≤ sizeLine by decide, _, _, rfl, ?_⟩⟩⟩
    obtain ⟨w', rfl⟩ := Int.eq_ofNat_of_zero_le a1
    obtain ⟨t, rfl⟩ := Int.eq_ofNat_of_zero_le b1
    have hw : w' < 5 := by omega
    have ht : t < 16 := by omega
    refine ⟨_, rfl, shp_int _, shp_int _, _, rfl, ite2 (fun h => ?_) (fun h => ?_)⟩
    · -- some of the menu
      have l1 : ((menu.drop t ++ menu.take t).take m).length ≤ m := by rw [List.length_take]; omega
      obtain ⟨s1, b, e, n1, n3⟩ := srted _ (rot_nd t m) (fun x hx => menu_asc x (rot_mem hx)) l1
      have e1 : cutD (menu.map .str) (some (t : Int)) none = (menu.drop t).map .str := by
        rw [cutD_from _ (by rw [List.length_map]; exact Nat.le_of_lt ht), List.map_drop]
      have e2 : cutD (menu.map .str) none (some (t : Int)) = (menu.take t).map .str := by rw [cutD_to, List.map_take]
      have e3 : cutD ((menu.drop t).map .str ++ (menu.take t).map .str) none (some (m : Int)) = ((menu.drop t ++ menu.take t).take m).map .str := by rw [cutD_to, ← List.map_append, List.map_take]
      refine ⟨_, rfl, _, rfl, _, rfl, _, rfl, _, rfl, _, rfl, ?_⟩
      dsimp only [slD]
      rw [e1, e2]
      refine ⟨?_, _, rfl, _, rfl, ?_⟩
      · rw [List.length_map, List.length_map, List.length_drop, List.length_take, sizeLine_eq]
        have : menu.length = 16 := rfl
        omega
      · dsimp only [slD]
        rw [e3]
        refine ⟨_, _, rfl, rfl, s1, _, rfl, .inl ⟨_, rfl, ?_⟩⟩
        rw [e]
        exact q b n1 n3
    · refine ⟨_, rfl, shp_int _, shp_int _, _, rfl, ite2 (fun h => ?_) (fun h => ?_)⟩
      · -- letters alone
        have ok := aas_ok m (by omega)
        refine ⟨_, rfl, _, rfl, by omega, by omega, ?_⟩
        rw [Int.toNat_natCast]
        refine lcD_ix _ ((aas m).map .str) [] (by rw [rngD_len]; simp [aas]) (by rw [rngD_len]; simp; omega) (fun k h1 h2 R hR => ?_) ⟨_, rfl, .inl ⟨_, rfl, q _ ⟨ok.1, ok.2.1, ok.2.2⟩ (by simp [aas])⟩⟩
        rw [rngD_get]
        simp only [List.getElem_map, aas, List.getElem_range] at hR
        exact ⟨_, rfl, _, rfl, by decide, hR⟩
      · have hw2 : 2 ≤ w' := by
          rw [eqd_int] at *
          have n0 : w' ≠ 0 := fun z => by subst z; simp_all
          have n1 : w' ≠ 1 := fun z => by subst z; simp_all
          omega
        have ok := lets_ok w' hw t ht m (by omega)
        obtain ⟨s1, b, e, n1, n3⟩ := srted _ ok.1 ok.2 (by simp [lets])
        have hs : L2.atI [Da.str "", .str "", .str (ltr t), .str "zzzzzzz"] ((fun i j => i - j) (w' : Int) 1) = some (.str (stemOf w' t)) := by
          have : w' = 2 ∨ w' = 3 ∨ w' = 4 := by omega
          rcases this with z | z | z
          · subst z; rfl
          · subst z; rfl
          · subst z; rfl
        refine ⟨_, rfl, _, rfl, by decide, _, letAt (by omega), show 4 ≤ sizeLine by decide, _, rfl, True.intro, _, hs, ?_⟩
        refine ⟨_, rfl, _, rfl, by omega, by omega, ?_⟩
        rw [Int.toNat_natCast]
        refine lcD_ix _ ((lets w' t m).map .str) [] (by rw [rngD_len]; simp [lets]) (by rw [rngD_len]; simp; omega) (fun k h1 h2 R hR => ?_) ?_
        · rw [rngD_len] at h1
          rw [rngD_get]
          simp only [List.getElem_map, lets, List.getElem_range] at hR
          have e2 : (fun i j => i % j) ((t : Int) + (fun i j => i * j) 3 ((k : Nat) : Int)) 26 = (((t + 3 * k) % 26 : Nat) : Int) := by
            show ((t : Int) + 3 * (k : Int)) % 26 = _
            omega
          refine ⟨_, rfl, _, rfl, _, rfl, _, rfl, cmul_small' ⟨by omega, by omega⟩, .inl ⟨_, rfl, show (0 : Int) < 26 by decide, ?_⟩⟩
          rw [e2]
          refine ⟨by decide, _, letAt (Nat.mod_lt _ (by decide)), ?_, hR⟩
          have l1 := stem_len w' t
          have l2 : (ltr ((t + 3 * k) % 26)).length = 1 := rfl
          have l3 : (stemOf w' t).length + (ltr ((t + 3 * k) % 26)).length ≤ sizeLine := by rw [sizeLine_eq]; omega
          exact l3
        · refine ⟨_, _, rfl, rfl, s1, _, rfl, .inl ⟨_, rfl, ?_⟩⟩
          rw [List.nil_append, e]
          exact q b n1 n3
end
end K12
namespace K12
open PySem PySem.Spec PyProof.Rows L2 Pd
/-! ### all sums -/
def okN (one : List Str) (x : Str) : Bool := match one.getLast? with | some l => !ltS x l | none => true
def nextS (ts : List Str) (one : List Str) : List (List Str) := (ts.filter (okN one)).map fun x => one ++ [x]
def sumsF (ts : List Str) : Nat → List (List Str)
  | 0 => [[]]
  | n + 1 => (sumsF ts n).flatMap (nextS ts)
def strOf : Da → Str
  | .str x => x
  | _ => ""
theorem strOf_map (a : List Str) : (a.map Da.str).map strOf = a := by
  rw [List.map_map]
  exact (List.map_congr_left fun x _ => rfl).trans (List.map_id a)
def oneOf : Da → List Str
  | .tup xs => xs.map strOf
  | _ => []
theorem oneOf_strs (a : List Str) : oneOf (strsD a) = a := strOf_map a
theorem sumsF_mem {ts : List Str} : ∀ {n : Nat} {one : List Str}, one ∈ sumsF ts n → one.length = n ∧ ∀ x ∈ one, x ∈ ts
  | 0, one, h => by
    have e : one = [] := by simpa [sumsF] using h
    subst e
    exact ⟨rfl, fun x h => by cases h⟩
  | n + 1, one, h => by
    obtain ⟨p, hp, hq⟩ := List.mem_flatMap.mp h
    obtain ⟨l, m⟩ := sumsF_mem hp
    unfold nextS at hq
    obtain ⟨x, hx, rfl⟩ := List.mem_map.mp hq
    refine ⟨by rw [List.length_append, l]; rfl, fun y hy => ?_⟩
    rcases List.mem_append.mp hy with z | z
    · exact m y z
    · rw [List.mem_singleton.mp z]
      exact (List.mem_filter.mp hx).1
theorem sumsF_len (ts : List Str) : ∀ n, (sumsF ts n).length ≤ ts.length ^ n
  | 0 => Nat.le_refl _
  | n + 1 => by
    have ih := sumsF_len ts n
    have z : ∀ ones : List (List Str), (ones.flatMap (nextS ts)).length ≤ ones.length * ts.length := by
      intro ones
      induction ones with
      | nil => simp
      | cons o ones ih =>
        rw [List.flatMap_cons, List.length_append, List.length_cons, Nat.add_mul, Nat.one_mul]
        have : (nextS ts o).length ≤ ts.length := by
          unfold nextS
          rw [List.length_map]
          exact List.length_filter_le _ _
        omega
    refine Nat.le_trans (z _) ?_
    rw [Nat.pow_succ]
    exact Nat.mul_le_mul_right _ ih
theorem pow_room {n m : Nat} (h : n ≤ 7) (hm : m ≤ 3) : n ^ m ≤ 343 := Nat.le_trans (Nat.pow_le_pow_left h m) (Nat.le_trans (Nat.pow_le_pow_right (by decide) hm) (by decide))
def fN (one : List Str) : Da → Option Da
  | .str x => if okN one x = true then some (strsD (one ++ [x])) else none
  | _ => none
theorem fN_map (ts one : List Str) : (ts.map Da.str).filterMap (fN one) = (nextS ts one).map strsD := by
  unfold nextS
  induction ts with
  | nil => rfl
  | cons t ts ih =>
    rw [List.map_cons]
    by_cases h : okN one t = true
    · rw [List.filter_cons_of_pos h, List.map_cons, List.map_cons, ← ih]
      exact List.filterMap_cons_some (if_pos h)
    · rw [List.filter_cons_of_neg h, ← ih]
      exact List.filterMap_cons_none (if_neg h)
theorem flat_strs (ts : List Str) (ones : List (List Str)) : (ones.map strsD).flatMap (fun d => (nextS ts (oneOf d)).map strsD) = (ones.flatMap (nextS ts)).map strsD := by
  rw [List.map_flatMap, List.flatMap_map]
  have e : (fun a => List.map strsD (nextS ts (oneOf (strsD a)))) = fun a => List.map strsD (nextS ts a) := by
    funext a
    rw [oneOf_strs]
  rw [e]
theorem lastAt {one : List Str} {l : Str} (h : one.getLast? = some l) : L2.atI (one.map Da.str) (-1) = some (.str l) := by
  obtain ⟨ys, rfl⟩ : ∃ ys, one = ys ++ [l] := List.getLast?_eq_some_iff.mp h
  rw [List.map_append]
  exact L2.atI_last _ _
theorem noLs_sums (l : List (List Str)) : noLs (l.map strsD) = true := by
  rw [noLs_all, List.all_map, List.all_eq_true]
  intro a _
  show noL (strsD a) = true
  rw [strsD, noL]
  exact noL_strs a
section
variable {P : Program} {wd : World} {K : PySem.W.Frag} {mg : Str → Option Value} {base : Heap}
def pSumsP : DSpF := fun ds Q => ∃ (ts : List Str) (m : Nat), ds = [strsD ts, .int (m : Nat)] ∧ Asc ts ∧ ts.length ≤ 7 ∧ m ≤ 3 ∧ Q ((sumsF ts m).map strsD)
theorem pSumsP_mo : MoPF pSumsP := fun _ _ _ q ⟨ts, m, e, a, b, c, z⟩ => ⟨ts, m, e, a, b, c, q _ z⟩
theorem yes {A B : Prop} (h : A) : if true = true then A else B := (if_pos rfl).mpr h
theorem asc_sub {ts one : List Str} (h : Asc ts) (m : ∀ x ∈ one, x ∈ ts) : Asc one := fun x hx => h x (m x hx)
theorem okp_sumsF (T : Txt K mg) : CalldF P wd K mg base 1 "sums" ["things", "many"] pSumsP := by
  refine defF T.dp_sums scp_sums ?_ pSumsP_mo ?_
  · rintro ds Q ⟨ts, m, rfl, _⟩
    rfl
  · rintro f cdv A outer s0 H E w ds Q hr hG hw ⟨ts, m, rfl, asc, hl, hm, q⟩
    refine ⟨_, (psf_cons (psd_setF (i := 2) (pfd_lst (pad_cons (ped_tup pad_nil) pad_nil)) scp_sums.nd)
    (psf_cons (psd_for (pid_range T.m_range (ped_var 1)) (pg_name (i := 3) scp_sums.nd rfl (Or.inl rfl)) (gd_name 3) (gName_mo 3)
    (psd_one (psd_setLc2O (i := 2) (own := [("one", 4), ("name", 5)]) (vs1 := [5]) scp_sums.nd (fun _ => (pid_list (ped_var 2))) (blkOk_by (own := [("one", 4), ("name", 5)]) (N := Np_sums) (sc := defScope sp_sums) (by decide +kernel)) (by decide) (gds_name 4) (gName_mo 4) (by decide) (gds_name 5) (gName_mo 5) (by decide) (fun _ _ _ _ _ => (pg_name (i := 4) scp_sums.nd rfl (Or.inl rfl))) (fun _ _ _ _ _ _ => ptsd_nil) (fun _ _ _ _ _ _ => (pid_tup (ped_var 0))) (fun _ _ _ _ _ => (pg_name (i := 5) scp_sums.nd rfl (Or.inl rfl))) (fun _ _ _ _ _ _ => (ptsd_one (PWd.pt (pwd_or (ptd_eq hr (ped_var 4) (ped_tup pad_nil)) (pwd_or1 (ptd_le (ped_at (fun _ _ => rfl) (ped_var 4) (ped_neg ped_int)) (ped_var 5))))))) (fun _ _ _ _ _ _ => (ped_add (ped_var 4) (ped_tup (pad_cons (ped_var 5) pad_nil)))) s0 (sw_true rfl rfl rfl (by decide +kernel)))))
    (psf_retOwn 2 hw))), ?_⟩
    refine ⟨show 0 ≤ sizeLine by decide, show 1 ≤ sizeLine by decide, _, rfl, _, rfl, by omega, by omega, ?_⟩
    rw [Int.toNat_natCast]
    refine forD_run (fun i r => ∃ s3 s4 s5, r = [.dat (strsD ts), .dat (.int (m : Nat)), .own ((sumsF ts i).map strsD), s3, s4, s5]) ⟨_, _, _, rfl⟩ ?_ ?_
    · rintro r ⟨s3, s4, s5, rfl⟩
      rw [rngD_len] at *
      exact ⟨_, rfl, q⟩
    · rintro i d r nx hd ⟨s3, s4, s5, rfl⟩ k
      have hi : i < m := by
        have := (List.getElem?_eq_some_iff.mp hd).1
        rwa [rngD_len] at this
      have room : (sumsF ts (i + 1)).length ≤ 343 := Nat.le_trans (sumsF_len ts (i + 1)) (pow_room hl (by omega))
      refine ⟨_, rfl, _, rfl, ?_⟩
      refine lcN_run (fun d => (nextS ts (oneOf d)).map strsD) 343 _ [] (by rw [flat_strs, List.length_map, List.length_nil]; show 0 + (sumsF ts (i + 1)).length ≤ _; omega) (fun e he acc k' hl2 hk => ?_) ?_
      · obtain ⟨one, ho, rfl⟩ := List.mem_map.mp he
        rw [oneOf_strs] at hl2 hk
        obtain ⟨lo, mo⟩ := sumsF_mem ho
        refine ⟨_, rfl, ts.map Da.str, rfl, ?_⟩
        rw [← fN_map] at hk
        refine lcK_run (fN one) _ acc (by rw [List.length_map, sizeLine_eq]; omega) (fun d hd Y Z hY hZ => ?_) hk
        obtain ⟨x, hx, rfl⟩ := List.mem_map.mp hd
        have a1 : shp (strsD one) = true := (asc_sub asc mo).shp
        have fin : okN one x = true → one.length + 1 ≤ sizeLine ∧ Y (strsD (one ++ [x])) := fun h => ⟨by rw [sizeLine_eq]; omega, hY _ (if_pos h)⟩
        refine ⟨_, rfl, by decide, a1, shp_unit, _, rfl, ?_⟩
        rw [eqd_tupNil]
        cases e : one.getLast? with
        | none =>
          have eo : one = [] := List.getLast?_eq_none_iff.mp e
          subst eo
          have ok : okN [] x = true := rfl
          exact ⟨_, rfl, _, rfl, (show 1 ≤ sizeLine by decide), (fin ok)⟩
        | some l =>
          have hz : one.isEmpty = false := by
            cases one with
            | nil => cases e
            | cons _ _ => rfl
          have eq : okN one x = !ltS x l := by unfold okN; rw [e]
          have he : (one.map Da.str).isEmpty = false := by
            cases one with
            | nil => cases e
            | cons _ _ => rfl
          refine ite2 (fun h => absurd h (by rw [if_neg Bool.false_ne_true, he]; exact Bool.false_ne_true)) (fun _ => ?_)
          refine ⟨_, rfl, _, lastAt e, _, rfl, _, rfl, ?_⟩
          have ap : (one.length + 1 ≤ sizeLine ∧ Y (strsD (one ++ [x]))) → addD (strsD one) (.tup [.str x]) Y := fun h => by
            have e2 : strsD (one ++ [x]) = .tup (one.map Da.str ++ [Da.str x]) := by
              show Da.tup ((one ++ [x]).map Da.str) = _
              rw [List.map_append]
              rfl
            rw [e2] at h
            exact ⟨by rw [List.length_map]; exact h.1, h.2⟩
          show (if (!ltS x l) = true then _ else _)
          rw [← eq]
          cases h : okN one x with
          | true => exact (if_pos rfl).mpr ⟨_, rfl, _, rfl, (show 1 ≤ sizeLine by decide), ap (fin h)⟩
          | false => exact (if_neg Bool.false_ne_true).mpr (hZ (if_neg (by rw [h]; exact Bool.false_ne_true)))
      · rw [List.nil_append, flat_strs]
        exact ⟨noLs_sums _, k _ ⟨_, _, _, rfl⟩⟩
theorem okp_sums (T : Txt K mg) : Calld P wd K mg base 1 "sums" ["things", "many"] (fun ds Q => pSumsP ds fun xs => Q (.lst xs)) := (okp_sumsF T).dat
end
end K12
namespace K12
open PySem PySem.Spec PyProof.Rows L2 Pd
/-- each with each one behind it -/
def pairsF (S : List (List Str)) : List (List Str × List Str) := S.zipIdx.flatMap fun p => (S.drop (p.2 + 1)).map fun o => (p.1, o)
def pairD (p : List Str × List Str) : Da := .tup [strsD p.1, strsD p.2]
def pF (S : List (List Str)) : Da → List Da
  | .tpw [.int k, x] => (S.drop (k.toNat + 1)).map fun o => .tup [x, strsD o]
  | _ => []
theorem cut_from {xs : List Da} {i : Nat} (h : i + 1 ≤ xs.length) : Pd.cutD xs (some (((i : Nat) : Int) + 1)) none = xs.drop (i + 1) := by
  have e : HT.sIx xs.length 0 (some (((i : Nat) : Int) + 1)) = i + 1 := by
    have z := HT.sIx_nat xs.length 0 (i + 1)
    rw [Nat.min_eq_left h] at z
    exact z
  have e2 : HT.sIx xs.length xs.length none = xs.length := rfl
  unfold Pd.cutD
  rw [e, e2]
  exact List.take_of_length_le (by rw [List.length_drop]; omega)
theorem pF_all (S : List (List Str)) : (enumD (S.map strsD)).flatMap (pF S) = (pairsF S).map pairD := by
  rw [enumD_map, List.flatMap_map]
  unfold pairsF
  rw [List.map_flatMap]
  congr 1
  funext p
  show (S.drop (((p.2 : Nat) : Int).toNat + 1)).map _ = _
  rw [List.map_map, Int.toNat_natCast]
  rfl
theorem flat_few {α β : Type} (F : α → List β) (n : Nat) : ∀ l : List α, (∀ x ∈ l, (F x).length ≤ n) → (l.flatMap F).length ≤ l.length * n
  | [], _ => by simp
  | x :: l, h => by
    rw [List.flatMap_cons, List.length_append, List.length_cons, Nat.succ_mul]
    have a := h x List.mem_cons_self
    have b := flat_few F n l fun y hy => h y (List.mem_cons_of_mem _ hy)
    omega
theorem pairs_few {S : List (List Str)} {n : Nat} (h : S.length ≤ n) : (pairsF S).length ≤ n * n := by
  refine Nat.le_trans (flat_few _ S.length _ fun p _ => by rw [List.length_map, List.length_drop]; omega) ?_
  rw [List.length_zipIdx]
  exact Nat.mul_le_mul h h
section
variable {P : Program} {wd : World} {K : PySem.W.Frag} {mg : Str → Option Value} {base : Heap}
def pPairs : DSpF := fun ds Q => ∃ (ts : List Str) (m : Nat), ds = [strsD ts, .int (m : Nat)] ∧ Asc ts ∧ ts.length ≤ 7 ∧ m ≤ 3 ∧ Q ((pairsF (sumsF ts m)).map pairD)
theorem pPairs_mo : MoPF pPairs := fun _ _ _ q ⟨ts, m, e, a, b, c, z⟩ => ⟨ts, m, e, a, b, c, q _ z⟩
theorem okp_pairsF (T : Txt K mg) : CalldF P wd K mg base 2 "pairs" ["things", "many"] pPairs := by
  refine defF T.dp_pairs scp_pairs ?_ pPairs_mo ?_
  · rintro ds Q ⟨ts, m, rfl, _⟩
    rfl
  · rintro f cdv A outer s0 H E w ds Q hr hG hw ⟨ts, m, rfl, asc, hl, hm, q⟩
    refine ⟨_, (psf_cons (psd_set (i := 2) (ped_f ((okp_sums T).up (by decide)) hr hG (pad_cons (ped_var 0) (pad_cons (ped_var 1) pad_nil))) scp_pairs.nd)
    (psf_retF (pfd_lc2 (own := [("place", 3), ("one", 4), ("other", 5)]) (vs1 := [5]) scp_pairs.nd (pid_enum T.m_enumerate (ped_var 2)) (blkOk_by (own := [("place", 3), ("one", 4), ("other", 5)]) (N := Np_pairs) (sc := defScope sp_pairs) (by decide +kernel)) (by decide) (gds_tup2 3 4) (gTup_mo (gCons_mo (gName_mo 3) (gCons_mo (gName_mo 4) gNil_mo))) (by decide) (gds_name 5) (gName_mo 5) (by decide) (fun _ _ _ _ _ => (pg_tup rfl (pgs_cons (pg_name (i := 3) scp_pairs.nd rfl (Or.inl rfl)) (pgs_cons (pg_name (i := 4) scp_pairs.nd rfl (Or.inl rfl)) pgs_nil)))) (fun _ _ _ _ _ => ptsd_nil) (fun _ _ _ _ _ => (pid_list (ped_slice (ped_var 2) (pod_some (ped_add (ped_var 3) ped_int)) pod_none))) (fun _ _ _ _ _ => (pg_name (i := 5) scp_pairs.nd rfl (Or.inl rfl))) (fun _ _ _ _ _ => ptsd_nil) (fun _ _ _ _ _ => (ped_tup (pad_cons (ped_var 4) (pad_cons (ped_var 5) pad_nil)))) s0))), ?_⟩
    refine ⟨_, rfl, _, rfl, ts, m, rfl, asc, hl, by omega, ?_⟩
    have few : (sumsF ts m).length ≤ 343 := Nat.le_trans (sumsF_len ts m) (pow_room hl (by omega))
    refine ⟨_, rfl, _, rfl, ?_⟩
    refine lcN_run (pF (sumsF ts m)) 117649 _ [] (by rw [pF_all, List.length_map, List.length_nil]; have := pairs_few few; omega) (fun d hd acc k' h2 hk => ?_) (by rw [List.nil_append, pF_all]; exact q)
    rw [enumD_map] at hd
    obtain ⟨⟨one, i⟩, hp, rfl⟩ := List.mem_map.mp hd
    refine ⟨_, _, rfl, ?_⟩
    show dItL (dSl (dVar 2) (dPart (dOp addD (dVar 3) (dC (.int 1)))) dNoP) _ _
    refine ⟨_, rfl, _, rfl, _, rfl, _, rfl, ?_⟩
    have hi : i < (sumsF ts m).length := (List.mem_zipIdx hp).2.1 |> fun h => by simpa using h
    have e : Pd.cutD ((sumsF ts m).map strsD) (some (((i : Nat) : Int) + 1)) none = ((sumsF ts m).drop (i + 1)).map strsD := by
      rw [List.map_drop]
      exact cut_from (by rw [List.length_map]; omega)
    show lcK _ _ _ _ _ _ (Pd.cutD ((sumsF ts m).map strsD) (some (((i : Nat) : Int) + 1)) none) _
    rw [e]
    have eF : pF (sumsF ts m) (.tpw [.int ((i : Nat) : Int), strsD one]) = (((sumsF ts m).drop (i + 1)).map strsD).filterMap fun d => some (.tup [strsD one, d]) := by
      rw [List.filterMap_eq_map', List.map_map]
      show ((sumsF ts m).drop (((i : Nat) : Int).toNat + 1)).map _ = _
      rw [Int.toNat_natCast]
      rfl
    have h3 : acc.length + (pF (sumsF ts m) (.tpw [.int ((i : Nat) : Int), strsD one])).length ≤ 117649 := h2
    have hk' : k' (acc ++ pF (sumsF ts m) (.tpw [.int ((i : Nat) : Int), strsD one])) := hk
    rw [eF, List.filterMap_eq_map', List.length_map] at h3
    rw [eF] at hk'
    refine lcK_run _ _ acc (by rw [sizeLine_eq]; omega) (fun d hd Y Z hY _ => ?_) hk'
    exact ⟨_, rfl, _, rfl, (show 2 ≤ sizeLine by decide), hY _ rfl⟩
end
end K12
namespace K12
open PySem PySem.Spec PyProof.Rows L2 Pd
section
variable {P : Program} {wd : World} {K : PySem.W.Frag} {mg : Str → Option Value} {base : Heap}

def pSumO : DSp := fun ds Q => ∃ b : List Str, ds = [.lst (b.map .str)] ∧ b.length ≤ 63 ∧ ∀ c : List Str, c.Perm b → sortedS c = true → Q (strsD c)
theorem pSumO_mo : MoP pSumO := fun _ _ _ q ⟨b, e, h, z⟩ => ⟨b, e, h, fun c h1 h2 => q _ (z c h1 h2)⟩
theorem okp_sum_of (T : Txt K mg) : Calld P wd K mg base 1 "sum_of" ["names"] pSumO := by
  refine defC T.dp_sum_of scp_sum_of ?_ pSumO_mo ?_
  · rintro ds Q ⟨b, rfl, _⟩
    rfl
  · rintro f cdv A outer s0 H E w ds Q hr hG ⟨b, rfl, hl, q⟩
    refine ⟨_, (psd_one (psd_ret (ped_tupF T.m_tuple (pad_cons (ped_sorted hr T.m_sorted (pad_cons (ped_var 0) pad_nil)) pad_nil)))), ?_⟩
    obtain ⟨c, e, p, so⟩ := srt_strsS (a := b)
    refine ⟨_, rfl, _, _, rfl, rfl, srtOk_strs (by omega), _, rfl, .inl ⟨_, rfl, ?_⟩⟩
    rw [e]
    exact q c p so

def pAlike : DSp := fun ds Q => ∃ (x : Da) (n c : Nat), ds = [x, x] ∧ Sz x n c ∧ n ≤ 60 ∧ c ≤ 16777216 ∧ Q (.bl true)
theorem pAlike_mo : MoP pAlike := fun _ _ _ q ⟨x, n, c, e, a, b, d, z⟩ => ⟨x, n, c, e, a, b, d, q _ z⟩
theorem ok_alike (T : Txt K mg) : Calld P wd K mg base 1 "_law_alike" ["_law_found", "_law_due"] pAlike := by
  refine defC T.d_alike sc_alike ?_ pAlike_mo ?_
  · rintro ds Q ⟨x, n, c, rfl, _⟩
    rfl
  · rintro f cdv A outer s0 H E w ds Q hr hG ⟨x, n, c, rfl, z, hn, hc, q⟩
    refine ⟨_, (psd_one (psd_ret (ped_and (ped_eq hr (ped_var 0) (ped_var 1)) (ped_one (ped_eqS (ped_repr hr hG T.m_repr (pad_cons (ped_var 0) pad_nil)) (ped_repr hr hG T.m_repr (pad_cons (ped_var 1) pad_nil))))))), ?_⟩
    refine ⟨_, rfl, _, rfl, z.shp hn, z.shp hn, _, rfl, ?_⟩
    rw [eqd_refl z]
    refine (if_pos rfl).mpr ?_
    refine ⟨_, rfl, _, rfl, z.ok hn hc, _, rfl, _, rfl, z.ok hn hc, _, _, rfl, rfl, ?_⟩
    rw [beq_self_eq_true]
    exact q
/-! ### by length, then by name -/
def ordF (as : List (List Str)) : List (List Str) := as.mergeSort (PySem.W.dataLe false keyL)
def pOrd : DSpF := fun ds Q => ∃ as : List (List Str), ds = [.lst (as.map strsD)] ∧ as.length ≤ sizeLine ∧ Q ((ordF as).map strsD)
theorem pOrd_mo : MoPF pOrd := fun _ _ _ q ⟨as, e, l, z⟩ => ⟨as, e, l, q _ z⟩
theorem lam_ok : Lam1 { posonlyargs := [], args := [{ arg := "one", annotation := none, pos := ⟨10, 35, 10, 38⟩ : Arg }], vararg := none, kwonlyargs := [], kw_defaults := [], kwarg := none, defaults := [] : Arguments }
    { kind := ScopeKind.function, names := [(Str.ofString "one", NameKind.local), (Str.ofString "len", NameKind.globalImplicit)], isGenerator := false, isCoroutine := false, more := [] : Scope } "one" :=
  ⟨rfl, rfl, rfl, by decide, rfl, fun _ _ _ _ _ _ => rfl⟩
theorem okp_in_order {tb : List (Addr × Str)} {cd : Value} (T : Txt K mg) (C : CodeAt K mg "in_order" cd) (M : Maker base mg tb cd "in_order.<locals>.<lambda>") : CalldFT P wd K mg base tb 4 "in_order" ["some"] pOrd := by
  refine defFT T.dp_in_order C scp_in_order ?_ pOrd_mo ?_
  · rintro ds Q ⟨as, rfl, _⟩
    rfl
  · rintro f A outer s0 H E w ds Q hr hG hw hT ⟨as, rfl, hl, q⟩
    refine ⟨_, psf_retF (pfd_sortedLen hr (by decide) T.m_sorted T.m_len (by rw [hT]; exact M) lam_ok (ped_var 0)), ?_⟩
    exact ⟨_, rfl, as, rfl, hl, q⟩
end
end K12
namespace K12
open PySem PySem.Spec PyProof.Rows L2 Pd
/-! ### rows of texts in their order -/
def rowP (a : List Str) : List PyData := a.map .str
def ltR (a b : List Str) : Bool := PySem.W.rowLt (rowP a) (rowP b)
theorem ltR_cons (x y : Str) (a b : List Str) : ltR (x :: a) (y :: b) = if x = y then ltR a b else ltS x y := by
  unfold ltR PySem.W.rowLt rowP
  rw [List.map_cons, List.map_cons, PySem.W.dataLt_cons (by simp [PySem.W.alike]), PySem.W.dataLt_str]
  simp only [PyData.eqv, beq_iff_eq]
  rfl
theorem ltR_nil : ltR [] [] = false := PyProof.Rows.lex_irrefl _
theorem ltR_app : ∀ {a b : List Str}, a.length = b.length → ltR a b = true → ∀ x y, ltR (a ++ [x]) (b ++ [y]) = true
  | [], [], _, h, _, _ => by rw [ltR_nil] at h; cases h
  | x :: a, y :: b, hl, h, u, v => by
    rw [ltR_cons] at h
    rw [List.cons_append, List.cons_append, ltR_cons]
    by_cases e : x = y
    · rw [if_pos e] at h ⊢
      exact ltR_app (by simpa using hl) h u v
    · rw [if_neg e] at h ⊢
      exact h
theorem ltR_last {x y : Str} (h : ltS x y = true) (n : x ≠ y) : ∀ a : List Str, ltR (a ++ [x]) (a ++ [y]) = true
  | [] => by
    rw [List.nil_append, List.nil_append, ltR_cons, if_neg n]
    exact h
  | z :: a => by
    rw [List.cons_append, List.cons_append, ltR_cons, if_pos rfl]
    exact ltR_last h n a
theorem toP_strs (a : List Str) : toP (strsD a) = .tuple (rowP a) := by
  unfold strsD rowP
  rw [toP, toPs_map, List.map_map]
  congr 1
theorem le_of_ltR {a b : List Str} (h : ltR a b = true) : PySem.W.dataLe false toP (strsD a) (strsD b) = true := by
  have t := (PySem.W.sortLe_total (PyProof.Rows.listOrd PyProof.Rows.itemOrd) false fun d : Da => PySem.W.keyToks (toP d)).total (strsD a) (strsD b)
  rcases t with t | t
  · exact t
  · exfalso
    have z : (!PySem.W.dataLt (toP (strsD a)) (toP (strsD b))) = true := t
    rw [toP_strs, toP_strs, PySem.W.dataLt_tuple] at z
    have h' : PyProof.Rows.lexLt PyProof.Rows.itemOrd (PySem.W.keyToksAll (rowP a)) (PySem.W.keyToksAll (rowP b)) = true := h
    rw [h'] at z
    cases z
/-! ### all sums, in their order -/
theorem sums_pw {ts : List Str} (h : ts.Pairwise fun x y => ltS x y = true ∧ x ≠ y) : ∀ n, (sumsF ts n).Pairwise fun a b => ltR a b = true
  | 0 => List.pairwise_singleton _ _
  | n + 1 => by
    show ((sumsF ts n).flatMap (nextS ts)).Pairwise _
    rw [List.pairwise_flatMap]
    refine ⟨fun a _ => ?_, ?_⟩
    · unfold nextS
      rw [List.pairwise_map]
      exact (h.filter _).imp fun z => ltR_last z.1 z.2 a
    · have lens : ∀ a ∈ sumsF ts n, a.length = n := fun a ha => (sumsF_mem ha).1
      refine List.Pairwise.imp_of_mem (fun {a b} ha hb z => ?_) (sums_pw h n)
      intro x hx y hy
      unfold nextS at hx hy
      obtain ⟨u, _, rfl⟩ := List.mem_map.mp hx
      obtain ⟨v, _, rfl⟩ := List.mem_map.mp hy
      exact ltR_app (by rw [lens a ha, lens b hb]) z u v
theorem srt_sums {ts : List Str} (h : ts.Pairwise fun x y => ltS x y = true ∧ x ≠ y) (n : Nat) : srt ((sumsF ts n).map strsD) = (sumsF ts n).map strsD := by
  unfold srt
  refine List.mergeSort_of_pairwise ?_
  rw [List.pairwise_map]
  exact (sums_pw h n).imp fun z => le_of_ltR z
def allF (ts : List Str) : Nat → List (List Str)
  | 0 => [[]]
  | n + 1 => (allF ts n).flatMap fun row => ts.map fun x => row ++ [x]
theorem sorted_snoc {row : List Str} (h : sortedS row = true) (x : Str) : sortedS (row ++ [x]) = okN row x := by
  have pw := sorted_pw h
  unfold okN
  cases e : row.getLast? with
  | none =>
    have eo : row = [] := List.getLast?_eq_none_iff.mp e
    subst eo
    rfl
  | some l =>
    obtain ⟨ys, rfl⟩ : ∃ ys, row = ys ++ [l] := List.getLast?_eq_some_iff.mp e
    show sortedS _ = !ltS x l
    cases hx : ltS x l with
    | true =>
      cases q : sortedS (ys ++ [l] ++ [x]) with
      | false => rfl
      | true =>
        exfalso
        have z := (List.pairwise_append.mp (sorted_pw q)).2.2 l (List.mem_append_right _ List.mem_cons_self) x List.mem_cons_self
        exact z (of_decide_eq_true hx)
    | false =>
      have lx : leS l x := fun z => by
        have : ltS x l = true := decide_eq_true z
        rw [hx] at this
        cases this
      refine sorted_of (List.pairwise_append.mpr ⟨pw, List.pairwise_singleton _ _, fun y hy z hz => ?_⟩)
      rw [List.mem_singleton.mp hz]
      rcases List.mem_append.mp hy with q | q
      · exact leS_trans ((List.pairwise_append.mp pw).2.2 y q l List.mem_cons_self) lx
      · rw [List.mem_singleton.mp q]
        exact lx
theorem sorted_front {row : List Str} {x : Str} (h : sortedS (row ++ [x]) = true) : sortedS row = true := sorted_of (List.pairwise_append.mp (sorted_pw h)).1
theorem all_sums (ts : List Str) : ∀ n, (allF ts n).filter sortedS = sumsF ts n
  | 0 => rfl
  | n + 1 => by
    show ((allF ts n).flatMap _).filter sortedS = (sumsF ts n).flatMap (nextS ts)
    rw [← all_sums ts n]
    generalize allF ts n = l
    induction l with
    | nil => rfl
    | cons row l ih =>
      rw [List.flatMap_cons, List.filter_append, ih]
      cases h : sortedS row with
      | true =>
        rw [List.filter_cons_of_pos h, List.flatMap_cons]
        congr 1
        unfold nextS
        rw [List.filter_map]
        congr 1
        refine List.filter_congr fun x _ => ?_
        exact sorted_snoc h x
      | false =>
        rw [List.filter_cons_of_neg (by rw [h]; exact Bool.false_ne_true)]
        have e : (ts.map fun x => row ++ [x]).filter sortedS = [] := by
          rw [List.filter_eq_nil_iff]
          intro a ha z
          obtain ⟨x, _, rfl⟩ := List.mem_map.mp ha
          rw [sorted_front z] at h
          cases h
        rw [e, List.nil_append]
theorem all_mem {ts : List Str} : ∀ {n : Nat} {a : List Str}, a ∈ allF ts n → a.length = n ∧ ∀ x ∈ a, x ∈ ts
  | 0, a, h => by
    have e : a = [] := by simpa [allF] using h
    subst e
    exact ⟨rfl, fun x h => by cases h⟩
  | n + 1, a, h => by
    obtain ⟨p, hp, hq⟩ := List.mem_flatMap.mp h
    obtain ⟨l, m⟩ := all_mem hp
    obtain ⟨x, hx, rfl⟩ := List.mem_map.mp hq
    refine ⟨by rw [List.length_append, l]; rfl, fun y hy => ?_⟩
    rcases List.mem_append.mp hy with z | z
    · exact m y z
    · rw [List.mem_singleton.mp z]
      exact hx
theorem all_len (ts : List Str) : ∀ n, (allF ts n).length = ts.length ^ n
  | 0 => rfl
  | n + 1 => by
    show ((allF ts n).flatMap _).length = _
    have z : ∀ l : List (List Str), (l.flatMap fun row => ts.map fun x => row ++ [x]).length = l.length * ts.length := by
      intro l
      induction l with
      | nil => simp
      | cons o l ih => rw [List.flatMap_cons, List.length_append, List.length_cons, Nat.add_mul, Nat.one_mul, ih, List.length_map]; omega
    rw [z, all_len ts n, Nat.pow_succ]
theorem good_pw {ts : List Str} (h : Good ts) : ts.Pairwise fun x y => ltS x y = true ∧ x ≠ y := by
  have a := sorted_pw h.srt
  have b : ts.Pairwise (· ≠ ·) := h.nd
  refine (a.and b).imp fun {x y} z => ⟨?_, z.2⟩
  unfold ltS
  refine decide_eq_true ?_
  have nl : ¬ y.cps.toList < x.cps.toList := z.1
  by_cases q : x.cps.toList < y.cps.toList
  · exact q
  · exact absurd (leS_anti z.1 q) z.2
end K12
namespace K12
open PySem PySem.Spec PyProof.Rows L2 Pd
section
variable {P : Program} {wd : World} {K : PySem.W.Frag} {mg : Str → Option Value} {base : Heap}
theorem Good.asc {ts : List Str} (h : Good ts) : Asc ts := fun t ht => (nameS_ok (h.nm t ht)).1
def rowL (a : List Str) : Da := .lst (a.map .str)
def pAllS : DSp := fun ds Q => ∃ (ts : List Str) (m : Nat), ds = [strsD ts, .int (m : Nat)] ∧ Good ts ∧ ts.length ≤ 6 ∧ m ≤ 3 ∧ Q (.lst ((sumsF ts m).map strsD))
theorem pAllS_mo : MoP pAllS := fun _ _ _ q ⟨ts, m, e, a, b, c, z⟩ => ⟨ts, m, e, a, b, c, q _ z⟩
theorem sz_nm {t : Str} (h : nameS t = true) : Sz (.str t) 0 82 := (sz_str (nameS_ok h).1).up (Nat.le_refl _) (by have := (nameS_ok h).2; omega)
theorem row_shp {ts a : List Str} (h : Good ts) (m : ∀ x ∈ a, x ∈ ts) : shp (rowL a) = true := (sz_lst (n := 0) (c := 82) fun d hd => by
  obtain ⟨x, hx, rfl⟩ := List.mem_map.mp hd
  exact sz_nm (h.nm x (m x hx))).shp (by decide)
theorem canPs_sums : ∀ l : List (List Str), canPs (l.map strsD) = true
  | [] => by rw [List.map_nil, canPs]
  | a :: l => by rw [List.map_cons, canPs, canPs_sums l, strsD, canP, canP_strs]; rfl
theorem row_al : ∀ a b : List Str, PySem.W.alikeAll (rowP a) (rowP b) = true
  | [], b => by simp [rowP, PySem.W.alikeAll]
  | x :: a, [] => by simp [rowP, PySem.W.alikeAll]
  | x :: a, y :: b => by
    have z := row_al a b
    unfold rowP at z ⊢
    rw [List.map_cons, List.map_cons, PySem.W.alikeAll, z]
    rfl
theorem row_dep : ∀ a : List Str, PyData.depthAll (rowP a) = 0
  | [] => by simp [rowP, PyData.depthAll]
  | x :: a => by
    have z := row_dep a
    unfold rowP at z ⊢
    rw [List.map_cons, PyData.depthAll, z, PyData.depth]
    rfl
theorem srt1_of {l : List (List Str)} (hl : l.length ≤ 16777216) (h : ∀ a ∈ l, a ≠ []) : srtOk (l.map strsD) := by
  refine ⟨canPs_sums l, ?_, .inl ?_, ?_, by rw [List.length_map, sizeLine_eq]; exact hl⟩
  · intro d hd d' hd'
    rw [List.map_map] at hd hd'
    obtain ⟨a, _, rfl⟩ := List.mem_map.mp hd
    obtain ⟨b, _, rfl⟩ := List.mem_map.mp hd'
    show PySem.W.alike (toP (strsD a)) (toP (strsD b)) = true
    rw [toP_strs, toP_strs, PySem.W.alike]
    exact row_al a b
  · intro d hd
    rw [List.map_map] at hd
    obtain ⟨a, ha, rfl⟩ := List.mem_map.mp hd
    cases a with
    | nil => exact absurd rfl (h _ ha)
    | cons x a =>
      refine ⟨.str x, rowP a, ?_⟩
      show toP (strsD (x :: a)) = _
      rw [toP_strs]
      rfl
  · intro d hd
    obtain ⟨a, _, rfl⟩ := List.mem_map.mp hd
    rw [toP_strs, PyData.depth, row_dep]
    decide
theorem srt1_sums (ts : List Str) (m : Nat) (hl : ts.length ≤ 7) (hm : m ≤ 3) : srt1 ((sumsF ts m).map strsD) := by
  cases m with
  | zero => exact .inr rfl
  | succ m =>
    refine .inl (srt1_of (Nat.le_trans (sumsF_len ts (m + 1)) (Nat.le_trans (pow_room hl hm) (by decide))) fun a ha => ?_)
    have z := (sumsF_mem ha).1
    intro e
    rw [e] at z
    cases z
theorem ok_all_sums (T : Txt K mg) : Calld P wd K mg base 3 "_law_all_sums" ["_law_things_here", "_law_many"] pAllS := by
  refine defC T.d_all_sums sc_all_sums ?_ pAllS_mo ?_
  · rintro ds Q ⟨ts, m, rfl, _⟩
    rfl
  · rintro f cdv A outer s0 H E w ds Q hr hG ⟨ts, m, rfl, good, hl, hm, q⟩
    refine ⟨_, (psd_cons (psd_set (i := 2) (ped_lst (pad_cons (ped_lst pad_nil) pad_nil)) sc_all_sums.nd)
    (psd_cons (psd_for (pid_range T.m_range (ped_var 1)) (pg_name (i := 3) sc_all_sums.nd rfl (Or.inl rfl)) (gd_name 3) (gName_mo 3)
    (psd_cons (psd_set (i := 4) (ped_lst pad_nil) sc_all_sums.nd)
    (psd_cons (psd_for (pid_list (ped_var 2)) (pg_name (i := 5) sc_all_sums.nd rfl (Or.inr rfl)) (gd_name 5) (gName_mo 5)
    (psd_one (psd_set (i := 4) (ped_add (ped_var 4) (ped_lc (own := [("_law_name", 6)]) sc_all_sums.nd (pid_tup (ped_var 0)) (blkOk_by (own := [("_law_name", 6)]) (N := N_all_sums) (sc := defScope s_all_sums) (by decide +kernel)) (gd_name 6) (gName_mo 6) (by decide) (fun _ _ _ _ _ => (pg_name (i := 6) sc_all_sums.nd rfl (Or.inl rfl))) (fun _ _ _ _ _ => ptsd_nil) (fun _ _ _ _ _ => (ped_add (ped_var 5) (ped_lst (pad_cons (ped_var 6) pad_nil)))) s0)) sc_all_sums.nd)))
    (psd_one (psd_set (i := 2) (ped_var 4) sc_all_sums.nd)))))
    (psd_one (psd_ret (ped_sorted1 hr T.m_sorted (pad_cons (ped_lc (own := [("_law_row", 5)]) sc_all_sums.nd (pid_list (ped_var 2)) (blkOk_by (own := [("_law_row", 5)]) (N := N_all_sums) (sc := defScope s_all_sums) (by decide +kernel)) (gd_name 5) (gName_mo 5) (by decide) (fun _ _ _ _ _ => (pg_name (i := 5) sc_all_sums.nd rfl (Or.inl rfl))) (fun _ _ _ _ _ => (ptsd_one (ptd_eq hr (ped_var 5) (ped_sorted hr T.m_sorted (pad_cons (ped_var 5) pad_nil))))) (fun _ _ _ _ _ => (ped_tupF T.m_tuple (pad_cons (ped_var 5) pad_nil))) s0) pad_nil)))))), ?_⟩
    have few : ∀ i ≤ 3, (allF ts i).length ≤ 343 := fun i hi => by rw [all_len]; exact pow_room (by omega) hi
    refine ⟨show 0 ≤ sizeLine by decide, show 1 ≤ sizeLine by decide, _, rfl, _, rfl, by omega, by omega, ?_⟩
    rw [Int.toNat_natCast]
    refine forD_run (fun i r => ∃ s3 s4 s5 s6, r = [.dat (strsD ts), .dat (.int (m : Nat)), .dat (.lst ((allF ts i).map rowL)), s3, s4, s5, s6]) ⟨_, _, _, _, rfl⟩ ?_ ?_
    · rintro r ⟨s3, s4, s5, s6, rfl⟩
      rw [rngD_len] at *
      have asc := good.asc
      refine ⟨_, rfl, _, rfl, ?_⟩
      refine lcD_selM rowL sortedS strsD (allF ts m) (Nat.le_trans (few m hm) (by decide)) (fun a ha Z hy hn => ?_) ?_
      · obtain ⟨la, ma⟩ := all_mem ha
        obtain ⟨b, e, p, so⟩ := srt_strsS (a := a)
        have mb : ∀ x ∈ b, x ∈ ts := fun x hx => ma x (p.mem_iff.mp hx)
        refine ⟨_, rfl, _, rfl, _, _, rfl, rfl, srtOk_strs (by omega), ?_⟩
        rw [e]
        refine ⟨row_shp good ma, row_shp good mb, _, rfl, ?_⟩
        rw [if_neg Bool.false_ne_true, show eqd (rowL a) (.lst (b.map .str)) = decide (a = b) from eqd_lstrs]
        show if decide (a = b) = true then _ else _
        by_cases h : a = b
        · have hs : sortedS a = true := by rw [h]; exact so
          refine (if_pos (decide_eq_true h)).mpr ⟨_, rfl, _, rfl, .inl ⟨_, rfl, hy hs⟩⟩
        · have hs : sortedS a = false := by
            cases q2 : sortedS a with
            | false => rfl
            | true => exact absurd (sorted_uniq q2 so p.symm) h
          exact (if_neg (fun z => h (of_decide_eq_true z))).mpr (hn hs)
      · rw [all_sums]
        have sq := srt_sums (good_pw good) m
        refine ⟨_, _, rfl, rfl, ?_, ?_⟩
        · exact srt1_sums ts m (by omega) hm
        · rw [sq]
          exact q
    · rintro i d r nx hd ⟨s3, s4, s5, s6, rfl⟩ k
      have hi : i < m := by
        have := (List.getElem?_eq_some_iff.mp hd).1
        rwa [rngD_len] at this
      refine ⟨show 0 ≤ sizeLine by decide, _, rfl, _, rfl, ?_⟩
      refine forD_run (fun j r => ∃ s5 s6, r = [.dat (strsD ts), .dat (.int (m : Nat)), .dat (.lst ((allF ts i).map rowL)), .dat d, .dat (.lst ((((allF ts i).take j).flatMap fun row => ts.map fun x => row ++ [x]).map rowL)), s5, s6]) ⟨_, _, rfl⟩ ?_ ?_
      · rintro r ⟨s5, s6, rfl⟩
        rw [List.length_map, List.take_length]
        exact ⟨_, rfl, k _ ⟨_, _, _, _, rfl⟩⟩
      · rintro j d2 r nx2 hd2 ⟨s5, s6, rfl⟩ k2
        rw [List.getElem?_map] at hd2
        obtain ⟨a, ha, rfl⟩ := Option.map_eq_some_iff.mp hd2
        have hj := (List.getElem?_eq_some_iff.mp ha).1
        have ham := List.mem_of_getElem? ha
        obtain ⟨la, ma⟩ := all_mem ham
        have tk : ((allF ts i).take (j + 1)).flatMap (fun row => ts.map fun x => row ++ [x]) = ((allF ts i).take j).flatMap (fun row => ts.map fun x => row ++ [x]) ++ ts.map fun x => a ++ [x] := by
          rw [List.take_add_one, ha, List.flatMap_append]
          simp
        have room : (((allF ts i).take j).flatMap (fun row => ts.map fun x => row ++ [x])).length ≤ 3000 := by
          refine Nat.le_trans (flat_few _ 6 _ fun x _ => by rw [List.length_map]; exact hl) ?_
          have := few i (by omega)
          rw [List.length_take]
          omega
        refine ⟨_, rfl, _, rfl, _, rfl, ?_⟩
        refine lcD_mapM Da.str (fun x => rowL (a ++ [x])) ts (by omega) (fun x hx R hR => ?_) ?_
        · refine ⟨_, rfl, _, rfl, ?_⟩
          have e2 : rowL (a ++ [x]) = .lst (a.map Da.str ++ [Da.str x]) := by
            show Da.lst ((a ++ [x]).map Da.str) = _
            rw [List.map_append]
            rfl
          rw [e2] at hR
          exact ⟨show 1 ≤ sizeLine by decide, by rw [List.length_map, sizeLine_eq]; show a.length + 1 ≤ _; omega, hR⟩
        · refine ⟨by rw [List.length_map, List.length_map, sizeLine_eq]; omega, ?_⟩
          rw [tk, List.map_append, List.map_map] at k2
          exact k2 _ ⟨_, _, rfl⟩
end
end K12
namespace K12
open PySem PySem.Spec PyProof.Rows L2 Pd
theorem sz_two {x y : Da} {n c c' : Nat} (hx : Sz x n c) (hy : Sz y n c') : Sz (.lst [x, y]) (n + 1) (c + c' + 7) := by
  have h : ∀ d ∈ [x, y], Sz d n (c + c') := fun d hd => by
    rcases List.mem_cons.mp hd with e | e
    · rw [e]; exact hx.up (Nat.le_refl _) (by omega)
    · rw [List.mem_singleton.mp e]; exact hy.up (Nat.le_refl _) (by omega)
  obtain ⟨a1, a2, a3, a4, a5, a6⟩ := szs h
  refine ⟨by rw [canP]; exact a1, by rw [toP, PyData.canLay0]; exact a2, by rw [toP, PyData.showable]; exact a3, by rw [toP, PyData.depth]; omega, ?_⟩
  rw [toP, PyData.shown]
  have q := listText_len_le (PyData.shownAll (toPs [x, y]))
  rw [a6] at q
  have s : ((PyData.shownAll (toPs [x, y])).map (·.length)).sum ≤ c + c' := by
    have := hx.len
    have := hy.len
    simp only [toPs, PyData.shownAll, List.map_cons, List.map_nil, List.sum_cons, List.sum_nil]
    omega
  have e : [x, y].length = 2 := rfl
  rw [e] at q
  omega
/-! ### the pairs, one row after another -/
def upTo (S : List (List Str)) (i : Nat) : List (List Str × List Str) := (S.zipIdx.take i).flatMap fun p => (S.drop (p.2 + 1)).map fun o => (p.1, o)
theorem upTo_all (S : List (List Str)) : upTo S S.length = pairsF S := by
  unfold upTo pairsF
  rw [List.take_of_length_le (by rw [List.length_zipIdx]; exact Nat.le_refl _)]
theorem upTo_step {S : List (List Str)} {i : Nat} {a : List Str} (h : S[i]? = some a) : upTo S (i + 1) = upTo S i ++ (S.drop (i + 1)).map fun o => (a, o) := by
  unfold upTo
  have z : S.zipIdx[i]? = some (a, i) := by
    rw [List.getElem?_zipIdx, h]
    simp
  rw [List.take_add_one, z, List.flatMap_append]
  simp
theorem upTo_len (S : List (List Str)) : ∀ i ≤ S.length, 2 * (upTo S i).length + i * i ≤ 2 * (i * S.length)
  | 0, _ => by simp [upTo]
  | i + 1, h => by
    have ih := upTo_len S i (by omega)
    have hi : i < S.length := by omega
    rw [upTo_step (List.getElem?_eq_getElem hi), List.length_append, List.length_map, List.length_drop]
    have e1 : (i + 1) * (i + 1) = i * i + 2 * i + 1 := by rw [Nat.add_mul, Nat.mul_add]; omega
    have e2 : (i + 1) * S.length = i * S.length + S.length := by rw [Nat.add_mul, Nat.one_mul]
    rw [e1, e2]
    omega
theorem pairs_len {S : List (List Str)} {n : Nat} (h : S.length ≤ n) : 2 * (pairsF S).length ≤ n * n := by
  have z := upTo_len S S.length (Nat.le_refl _)
  rw [upTo_all] at z
  have : S.length * S.length ≤ n * n := Nat.mul_le_mul h h
  omega
theorem upTo_le (S : List (List Str)) (i : Nat) (h : i ≤ S.length) : (upTo S i).length ≤ i * S.length := by
  have := upTo_len S i h
  omega
theorem sz_sum {ts a : List Str} (g : Good ts) (m : ∀ x ∈ a, x ∈ ts) (l : a.length ≤ 3) : Sz (strsD a) 1 255 := (sz_tup (n := 0) (c := 82) fun d hd => by
  obtain ⟨x, hx, rfl⟩ := List.mem_map.mp hd
  exact sz_nm (g.nm x (m x hx))).up (Nat.le_refl _) (by rw [List.length_map]; omega)
theorem sz_right {ts : List Str} (g : Good ts) {m : Nat} (hl : ts.length ≤ 6) (hm : m ≤ 3) : Sz (.lst [.lst ((sumsF ts m).map strsD), .lst ((pairsF (sumsF ts m)).map pairD)]) 4 16777216 := by
  have few : (sumsF ts m).length ≤ 216 := Nat.le_trans (sumsF_len ts m) (Nat.le_trans (Nat.pow_le_pow_left hl m) (Nat.le_trans (Nat.pow_le_pow_right (by decide) hm) (by decide)))
  have pl := pairs_len few
  have s1 : Sz (.lst ((sumsF ts m).map strsD)) 3 100000 := (sz_lst (n := 1) (c := 255) fun d hd => by
    obtain ⟨a, ha, rfl⟩ := List.mem_map.mp hd
    exact sz_sum g (sumsF_mem ha).2 (by rw [(sumsF_mem ha).1]; exact hm)).up (by decide) (by rw [List.length_map]; omega)
  have s2 : Sz (.lst ((pairsF (sumsF ts m)).map pairD)) 3 13000000 := (sz_lst (n := 2) (c := 517) fun d hd => by
    obtain ⟨p, hp, rfl⟩ := List.mem_map.mp hd
    have mem : p.1 ∈ sumsF ts m ∧ p.2 ∈ sumsF ts m := by
      unfold pairsF at hp
      obtain ⟨q, hq, hq2⟩ := List.mem_flatMap.mp hp
      obtain ⟨o, ho, rfl⟩ := List.mem_map.mp hq2
      exact ⟨List.fst_mem_of_mem_zipIdx hq, List.mem_of_mem_drop ho⟩
    exact sz_tup (n := 1) (c := 255) fun e he => by
      rcases List.mem_cons.mp he with q | q
      · rw [q]; exact sz_sum g (sumsF_mem mem.1).2 (by rw [(sumsF_mem mem.1).1]; exact hm)
      · rw [List.mem_singleton.mp q]; exact sz_sum g (sumsF_mem mem.2).2 (by rw [(sumsF_mem mem.2).1]; exact hm)).up (by decide) (by rw [List.length_map]; omega)
  exact (sz_two s1 s2).up (by decide) (by decide)
section
variable {P : Program} {wd : World} {K : PySem.W.Frag} {mg : Str → Option Value} {base : Heap}
def pRight : DSp := fun ds Q => ∃ (ts : List Str) (m : Nat), ds = [strsD ts, .int (m : Nat)] ∧ Good ts ∧ ts.length ≤ 6 ∧ m ≤ 3 ∧ Q (.bl true)
theorem pRight_mo : MoP pRight := fun _ _ _ q ⟨ts, m, e, a, b, c, z⟩ => ⟨ts, m, e, a, b, c, q _ z⟩
theorem ok_right (T : Txt K mg) : Calld P wd K mg base 4 "_law_right" ["_law_things_here", "_law_many"] pRight := by
  refine defC T.d_right sc_right ?_ pRight_mo ?_
  · rintro ds Q ⟨ts, m, rfl, _⟩
    rfl
  · rintro f cdv A outer s0 H E w ds Q hr hG ⟨ts, m, rfl, good, hl, hm, q⟩
    refine ⟨_, (psd_cons (psd_set (i := 2) (ped_f ((ok_all_sums T).up (by decide)) hr hG (pad_cons (ped_var 0) (pad_cons (ped_var 1) pad_nil))) sc_right.nd)
    (psd_cons (psd_set (i := 3) (ped_lst pad_nil) sc_right.nd)
    (psd_cons (psd_for (pid_range T.m_range (ped_len T.m_len (pad_cons (ped_var 2) pad_nil))) (pg_name (i := 4) sc_right.nd rfl (Or.inr rfl)) (gd_name 4) (gName_mo 4)
    (psd_one (psd_set (i := 3) (ped_add (ped_var 3) (ped_lc (own := [("_law_other", 8)]) sc_right.nd (pid_list (ped_slice (ped_var 2) (pod_some (ped_add (ped_var 4) ped_int)) pod_none)) (blkOk_by (own := [("_law_other", 8)]) (N := N_right) (sc := defScope s_right) (by decide +kernel)) (gd_name 8) (gName_mo 8) (by decide) (fun _ _ _ _ _ => (pg_name (i := 8) sc_right.nd rfl (Or.inl rfl))) (fun _ _ _ _ _ => ptsd_nil) (fun _ _ _ _ _ => (ped_tup (pad_cons (ped_at (fun _ _ => rfl) (ped_var 2) (ped_var 4)) (pad_cons (ped_var 8) pad_nil)))) s0)) sc_right.nd)))
    (psd_cons (psd_for (pid_range T.m_range ped_int) (pg_name (i := 5) sc_right.nd rfl (Or.inl rfl)) (gd_name 5) (gName_mo 5)
    (psd_cons (psd_parF (i := 6) (j := 7) (pfd_f ((okp_sumsF T).up (by decide)) hr hG (pad_cons (ped_var 0) (pad_cons (ped_var 1) pad_nil))) (pfd_f ((okp_pairsF T).up (by decide)) hr hG (pad_cons (ped_var 0) (pad_cons (ped_var 1) pad_nil))) sc_right.nd)
    (psd_cons (psd_if (ptd_open fun _ => (ptd_not (ptd_val (ped_f ((ok_alike T).up (by decide)) hr hG (pad_cons (ped_lst (pad_cons (ped_var 6) (pad_cons (ped_var 7) pad_nil))) (pad_cons (ped_lst (pad_cons (ped_var 2) (pad_cons (ped_var 3) pad_nil))) pad_nil)))))) (psd_one (psd_ret ped_bl)) psd_nil)
    (psd_cons (psd_app (i := 6) ped_non)
    (psd_one (psd_clear (i := 7)))))))
    (psd_one (psd_ret ped_bl)))))), ?_⟩
    have few : (sumsF ts m).length ≤ 343 := Nat.le_trans (sumsF_len ts m) (pow_room (by omega) hm)
    refine ⟨_, rfl, _, rfl, ts, m, rfl, good, hl, hm, show 0 ≤ sizeLine by decide, ?_⟩
    generalize hS : sumsF ts m = S at *
    have lS : ((S.map strsD).length : Int) = (S.length : Nat) := by rw [List.length_map]
    refine ⟨_, rfl, _, rfl, .inl ⟨_, rfl, _, rfl, by omega, by omega, ?_⟩⟩
    rw [Int.toNat_natCast, List.length_map]
    refine forD_run (fun i r => ∃ s4 s5 s6 s7 s8, r = [.dat (strsD ts), .dat (.int (m : Nat)), .dat (.lst (S.map strsD)), .dat (.lst ((upTo S i).map pairD)), s4, s5, s6, s7, s8]) ⟨_, _, _, _, _, rfl⟩ ?_ ?_
    · rintro r ⟨s4, s5, s6, s7, s8, rfl⟩
      rw [rngD_len, upTo_all]
      refine ⟨_, rfl, by decide, by decide, ?_⟩
      refine forD_run (fun i r => ∃ s4 s5 s6 s7 s8, r = [.dat (strsD ts), .dat (.int (m : Nat)), .dat (.lst (S.map strsD)), .dat (.lst ((pairsF S).map pairD)), s4, s5, s6, s7, s8]) ⟨_, _, _, _, _, rfl⟩ ?_ ?_
      · rintro r ⟨s4, s5, s6, s7, s8, rfl⟩
        exact q
      · rintro i d r nx hd ⟨s4, s5, s6, s7, s8, rfl⟩ k
        refine ⟨_, rfl, _, rfl, ts, m, rfl, good.asc, by omega, hm, ?_⟩
        refine ⟨_, rfl, _, rfl, ts, m, rfl, good.asc, by omega, hm, ?_⟩
        rw [hS]
        have two : 2 ≤ sizeLine := by decide
        have zS := sz_right good hl hm
        rw [hS] at zS
        refine ⟨_, rfl, _, rfl, two, _, rfl, _, rfl, two, _, 4, 16777216, rfl, zS, by decide, by decide, ?_⟩
        refine ⟨_, rfl, (if_neg Bool.false_ne_true).mpr ?_⟩
        exact ⟨_, rfl, by rw [List.length_map, sizeLine_eq]; omega, _, rfl, k _ ⟨_, _, _, _, _, rfl⟩⟩
    · rintro i d r nx hd ⟨s4, s5, s6, s7, s8, rfl⟩ k
      have hi : i < S.length := by
        have := (List.getElem?_eq_some_iff.mp hd).1
        rwa [rngD_len] at this
      rw [rngD_at hi] at hd
      cases hd
      have at_i : S[i]? = some S[i] := List.getElem?_eq_getElem hi
      have e : Pd.cutD (S.map strsD) (some (((i : Nat) : Int) + 1)) none = (S.drop (i + 1)).map strsD := by
        rw [List.map_drop]
        exact cut_from (by rw [List.length_map]; omega)
      refine ⟨_, rfl, _, rfl, _, rfl, _, rfl, _, rfl, ?_⟩
      show lcD _ _ _ _ _ _ (Pd.cutD (S.map strsD) (some (((i : Nat) : Int) + 1)) none) []
      rw [e]
      refine lcD_mapM strsD (fun o => pairD (S[i], o)) (S.drop (i + 1)) (by rw [List.length_drop]; omega) (fun o ho R hR => ?_) ?_
      · refine ⟨_, rfl, _, rfl, strsD S[i], ?_, _, rfl, show 2 ≤ sizeLine by decide, hR⟩
        have z := at_da (is := S.map strsD) (k := i) (by rw [List.length_map]; exact hi)
        rw [List.getElem_map] at z
        exact z
      · have le := upTo_le S i (by omega)
        have l2 : i * S.length ≤ 343 * 343 := Nat.mul_le_mul (by omega) few
        refine ⟨by rw [List.length_map, List.length_map, List.length_drop, sizeLine_eq]; omega, ?_⟩
        rw [upTo_step at_i, List.map_append, List.map_map] at k
        exact k _ ⟨_, _, _, _, _, rfl⟩
end
end K12
namespace K12
open PySem PySem.Spec PyProof.Rows L2 Pd
section
variable {P : Program} {wd : World} {K : PySem.W.Frag} {mg : Str → Option Value} {base : Heap}
abbrev N_bag : List Str := ["_law_script", "_law_cell"]
theorem sc_bag : FnScope N_bag ["_law_script"] (defScope s_bag) := ⟨rfl, rfl, rfl, by decide +kernel, rfl, by decide +kernel, by decide +kernel⟩
abbrev sp_law : Stmt := topS 14
abbrev Np_law : List Str := ["_law_script", "_law_bag_here", "_law_turn", "_law_things_here", "_law_k", "_law_names", "_law_handed", "_law_some", "_law_due", "_law_again", "_law_found", "_law_j", "_law_pair", "_law_one_here"]
theorem scp_law : FnScope Np_law ["_law_script"] (defScope sp_law) := ⟨rfl, rfl, rfl, by decide +kernel, rfl, by decide +kernel, by decide +kernel⟩
def lenD2 (a : List Str) : Da := .tup [.int ((a.map Da.str).length : Nat), strsD a]
theorem toP_len (a : List Str) : toP (lenD2 a) = keyL a := by
  unfold lenD2 keyL
  rw [toP, toPs, toPs, toPs, toP_strs, toP, List.length_map]
  rfl
theorem srt_len (as : List (List Str)) : srt (as.map lenD2) = (ordF as).map lenD2 := by
  unfold srt ordF
  refine (List.map_mergeSort fun a _ b _ => ?_).symm
  show (!PySem.W.dataLt (keyL b) (keyL a)) = (!PySem.W.dataLt (toP (lenD2 b)) (toP (lenD2 a)))
  rw [toP_len, toP_len]
theorem canPs_len : ∀ l : List (List Str), canPs (l.map lenD2) = true
  | [] => by rw [List.map_nil, canPs]
  | a :: l => by
    rw [List.map_cons, canPs, canPs_len l, lenD2, canP, canPs, canPs, canPs, canP, strsD, canP, canP_strs]
    rfl
theorem srtOk_len {l : List (List Str)} (hl : l.length ≤ 16777216) : srtOk (l.map lenD2) := by
  refine ⟨canPs_len l, ?_, .inl ?_, ?_, by rw [List.length_map, sizeLine_eq]; exact hl⟩
  · intro d hd d' hd'
    rw [List.map_map] at hd hd'
    obtain ⟨a, _, rfl⟩ := List.mem_map.mp hd
    obtain ⟨b, _, rfl⟩ := List.mem_map.mp hd'
    show PySem.W.alike (toP (lenD2 a)) (toP (lenD2 b)) = true
    rw [toP_len, toP_len]
    have z := row_al a b
    unfold rowP at z
    simp [keyL, PySem.W.alike, PySem.W.alikeAll, z]
  · intro d hd
    rw [List.map_map] at hd
    obtain ⟨a, ha, rfl⟩ := List.mem_map.mp hd
    exact ⟨.int a.length, [.tuple (rowP a)], toP_len a⟩
  · intro d hd
    obtain ⟨a, _, rfl⟩ := List.mem_map.mp hd
    rw [toP_len]
    have z := row_dep a
    unfold rowP at z
    simp [keyL, PyData.depth, PyData.depthAll, z]
theorem ok_bag {f : Addr} {fd : FuncData} (F : Fun K "_law_bag" "_law_bag" s_bag f fd) (ma : mg "abs" = none) : FnG P wd K mg base CX0 1 f fd ["_law_script"] (spBag K) := by
  refine FunG.ok F sc_bag ?_ ?_
  · rintro vs H Q E ⟨a, ns, rfl, _⟩
    rfl
  · rintro cdv A outer s0 H vs Q E hr hG pre
    exact ⟨_, pss_one (ps_ret (pe_lst (pa_cons pe_int (pa_cons pe_int (pa_cons pe_int (pa_cons
      (pe_lc (own := [("_law_cell", 1)]) (g := gName 1) (tt := tYes) rfl sc_bag.nd (pi_list (pe_slice sl_list (pv 0) po_none (po_some pe_int))) (blkOk_by (own := [("_law_cell", 1)]) (N := N_bag) (sc := defScope s_bag) (by decide +kernel))
        (fun _ _ _ _ _ => pg_name (i := 1) sc_bag.nd rfl (Or.inl rfl)) (fun _ _ _ _ _ => pts_nil) (fun _ _ _ _ _ => pe_callB call_abs (by rfl) ma (by decide +kernel) (pa_cons (pv 1) pa_nil)))
      pa_nil)))))), bag_read K vs H Q E pre _ rfl⟩
theorem ok_law {tb : List (Addr × Str)} {cI : Value} (CI : CodeAt K mg "in_order" cI) (MI : Maker base mg tb cI "in_order.<locals>.<lambda>") {f fB : Addr} {fd fdB : FuncData} (F : Fun K "law" "law" sp_law f fd) (FB : Fun K "_law_bag" "_law_bag" s_bag fB fdB) (gB : mg "_law_bag" = some (.ref fB)) (bB : Binds K fdB ["_law_script"] []) (ma : mg "abs" = none) (T : Txt K mg) :
    FnG P wd K mg base CX0 8 f fd ["_law_script"] (spLawT K tb) := by
  refine lawGT (n := 12) (names := ["_law_turn", "_law_things_here", "_law_k", "_law_names", "_law_handed", "_law_some", "_law_due", "_law_again", "_law_found", "_law_j", "_law_pair", "_law_one_here"]) tb F scp_law rfl rfl ?_
  intro cdv A outer s0 H E _ hr hG
  refine ⟨_, ps_set (i := 1) scp_law.nd rfl (.inr rfl) (pe_callG (ok_bag FB ma) (hr.mono (by decide)) hG (by rfl) gB FB.kp bB .nil pass0 (pa_cons (pv 0) pa_nil)), fun w hT => (psd_cons (psd_for (pid_range T.m_range ped_int) (pg_name (i := 2) scp_law.nd rfl (Or.inl rfl)) (gd_name 2) (gName_mo 2)
    (psd_cons (psd_set (i := 3) (ped_f ((ok_things T).up (by decide)) hr hG (pad_cons (ped_var 1) (pad_cons (ped_f ((ok_take T).up (by decide)) hr hG (pad_cons (ped_var 1) (pad_cons ped_int pad_nil))) pad_nil))) scp_law.nd)
    (psd_cons (psd_if (PWd.pt (pwd_or (ptd_not (ptd_val (ped_f ((ok_right T).up (by decide)) hr hG (pad_cons (ped_var 3) (pad_cons (ped_f ((ok_take T).up (by decide)) hr hG (pad_cons (ped_var 1) (pad_cons ped_int pad_nil))) pad_nil))))) (pwd_or1 (ptd_not (ptd_val (ped_f ((ok_right T).up (by decide)) hr hG (pad_cons (ped_var 3) (pad_cons ped_int pad_nil)))))))) (psd_one (psd_ret ped_bl)) psd_nil)
    (psd_cons (psd_for (pid_range T.m_range ped_int) (pg_name (i := 4) scp_law.nd rfl (Or.inl rfl)) (gd_name 4) (gName_mo 4)
    (psd_cons (psd_setLc (i := 5) (own := [("_law_j", 11)]) scp_law.nd (pid_range T.m_range (ped_mul (ped_f ((ok_take T).up (by decide)) hr hG (pad_cons (ped_var 1) (pad_cons ped_int pad_nil))) (ped_intB T.m_int (pad_cons (ped_ne hr (ped_var 3) (ped_tup pad_nil)) pad_nil)))) (blkOk_by (own := [("_law_j", 11)]) (N := Np_law) (sc := defScope sp_law) (by decide +kernel)) (gd_name 11) (gName_mo 11) (by decide) (fun _ _ _ _ _ => (pg_name (i := 11) scp_law.nd rfl (Or.inl rfl))) (fun _ _ _ _ _ => ptsd_nil) (fun _ _ _ _ _ => (ped_f ((ok_one T).up (by decide)) hr hG (pad_cons (ped_var 1) (pad_cons (ped_var 3) pad_nil)))) s0 (sw_true rfl rfl rfl (by decide +kernel)))
    (psd_cons (psd_set (i := 6) (ped_lstF T.m_list (pad_cons (ped_var 5) pad_nil)) scp_law.nd)
    (psd_one (psd_if (PWd.pt (pwd_or (ptd_not (ptd_val (ped_f ((ok_alike T).up (by decide)) hr hG (pad_cons (ped_f ((okp_sum_of T).up (by decide)) hr hG (pad_cons (ped_var 6) pad_nil)) (pad_cons (ped_tupF T.m_tuple (pad_cons (ped_sorted hr T.m_sorted (pad_cons (ped_var 5) pad_nil)) pad_nil)) pad_nil))))) (pwd_or1 (ptd_ne hr (ped_var 6) (ped_var 5))))) (psd_one (psd_ret ped_bl)) psd_nil)))))
    (psd_cons (psd_setLc (i := 7) (own := [("_law_k", 4)]) scp_law.nd (pid_range T.m_range (ped_f ((ok_take T).up (by decide)) hr hG (pad_cons (ped_var 1) (pad_cons ped_int pad_nil)))) (blkOk_by (own := [("_law_k", 4)]) (N := Np_law) (sc := defScope sp_law) (by decide +kernel)) (gd_name 4) (gName_mo 4) (by decide) (fun _ _ _ _ _ => (pg_name (i := 4) scp_law.nd rfl (Or.inl rfl))) (fun _ _ _ _ _ => ptsd_nil) (fun _ _ _ _ _ => (ped_f ((ok_sum T).up (by decide)) hr hG (pad_cons (ped_var 1) (pad_cons (ped_var 3) (pad_cons (ped_f ((ok_take T).up (by decide)) hr hG (pad_cons (ped_var 1) (pad_cons ped_int pad_nil))) pad_nil))))) s0 (sw_true rfl rfl rfl (by decide +kernel)))
    (psd_cons (psd_set (i := 6) (ped_lstF T.m_list (pad_cons (ped_var 7) pad_nil)) scp_law.nd)
    (psd_cons (psd_setLc (i := 8) (own := [("_law_pair", 12)]) scp_law.nd (pid_list (ped_sorted hr T.m_sorted (pad_cons (ped_lc (own := [("_law_one_here", 13)]) scp_law.nd (pid_list (ped_var 7)) (blkOk_by (own := [("_law_one_here", 13)]) (N := Np_law) (sc := defScope sp_law) (by decide +kernel)) (gd_name 13) (gName_mo 13) (by decide) (fun _ _ _ _ _ => (pg_name (i := 13) scp_law.nd rfl (Or.inl rfl))) (fun _ _ _ _ _ => ptsd_nil) (fun _ _ _ _ _ => (ped_tup (pad_cons (ped_len T.m_len (pad_cons (ped_var 13) pad_nil)) (pad_cons (ped_var 13) pad_nil)))) s0) pad_nil))) (blkOk_by (own := [("_law_pair", 12)]) (N := Np_law) (sc := defScope sp_law) (by decide +kernel)) (gd_name 12) (gName_mo 12) (by decide) (fun _ _ _ _ _ => (pg_name (i := 12) scp_law.nd rfl (Or.inl rfl))) (fun _ _ _ _ _ => ptsd_nil) (fun _ _ _ _ _ => (ped_at (fun _ _ => rfl) (ped_var 12) ped_int)) s0 (sw_true rfl rfl rfl (by decide +kernel)))
    (psd_one (psd_for (pid_range T.m_range ped_int) (pg_name (i := 9) scp_law.nd rfl (Or.inl rfl)) (gd_name 9) (gName_mo 9)
    (psd_cons (psd_setF (i := 10) (pfd_fT hT ((okp_in_order T CI MI).up (by decide)) hr hG (pad_cons (ped_var 6) pad_nil)) scp_law.nd)
    (psd_cons (psd_if (ptd_open fun _ => (PWd.pt (pwd_or (ptd_not (ptd_val (ped_f ((ok_alike T).up (by decide)) hr hG (pad_cons (ped_var 10) (pad_cons (ped_var 8) pad_nil))))) (pwd_or1 (ptd_ne hr (ped_var 6) (ped_var 7)))))) (psd_one (psd_ret ped_bl)) psd_nil)
    (psd_one (psd_app (i := 10) (ped_tup pad_nil))))))))))))))
    (psd_one (psd_ret ped_bl))), ?_⟩
  refine ⟨_, rfl, by decide, by decide, ?_⟩
  refine forD_run (fun i r => ∃ s2 s3 s4 s5 s6 s7 s8 s9 s10 s11 s12 s13, r = [.no, .dat .bag, s2, s3, s4, s5, s6, s7, s8, s9, s10, s11, s12, s13]) ⟨_, _, _, _, _, _, _, _, _, _, _, _, rfl⟩ ?_ ?_
  · rintro r ⟨s2, s3, s4, s5, s6, s7, s8, s9, s10, s11, s12, s13, rfl⟩
    rfl
  rintro i d r nx hd ⟨s2, s3, s4, s5, s6, s7, s8, s9, s10, s11, s12, s13, rfl⟩ k
  refine ⟨_, rfl, _, rfl, 7, rfl, by decide, by decide, fun m m0 m1 => ?_⟩
  obtain ⟨m, rfl⟩ := Int.eq_ofNat_of_zero_le m0
  refine ⟨m, rfl, by omega, fun ts good hl => ?_⟩
  have asc := good.asc
  refine ⟨_, rfl, _, rfl, 3, rfl, by decide, by decide, fun n n0 n1 => ?_⟩
  obtain ⟨n, rfl⟩ := Int.eq_ofNat_of_zero_le n0
  refine ⟨ts, n, rfl, good, by omega, by omega, _, rfl, (if_neg Bool.false_ne_true).mpr ?_⟩
  refine ⟨_, rfl, ts, 3, rfl, good, by omega, by decide, _, rfl, (if_neg Bool.false_ne_true).mpr ?_⟩
  refine ⟨_, rfl, by decide, by decide, ?_⟩
  refine forD_run (fun i r => ∃ s2 s4 s5 s6 s7 s8 s9 s10 s11 s12 s13, r = [.no, .dat .bag, s2, .dat (strsD ts), s4, s5, s6, s7, s8, s9, s10, s11, s12, s13]) ⟨_, _, _, _, _, _, _, _, _, _, _, rfl⟩ ?_ ?_
  · rintro r ⟨s2, s4, s5, s6, s7, s8, s9, s10, s11, s12, s13, rfl⟩
    refine ⟨_, rfl, 12, rfl, by decide, by decide, fun c c0 c1 => ?_⟩
    obtain ⟨c, rfl⟩ := Int.eq_ofNat_of_zero_le c0
    refine ⟨_, rfl, by omega, by omega, ?_⟩
    rw [Int.toNat_natCast]
    refine lcD_all (fun d y => ∃ a, y = strsD a ∧ SumOf ts a) _ [] (by rw [rngD_len]; simp; omega) (fun d hd R hR => ?_) fun ys hy => ?_
    · refine ⟨_, rfl, _, rfl, _, rfl, 4, rfl, by decide, by decide, fun q q0 q1 => ?_⟩
      exact ⟨ts, q, rfl, asc, by omega, q0, by omega, fun a ha => hR _ ⟨a, rfl, ha⟩⟩
    have lb := paired_len hy
    rw [rngD_len] at lb
    obtain ⟨as, rfl, has⟩ : ∃ as : List (List Str), ys = as.map strsD ∧ ∀ a ∈ as, SumOf ts a := by
      have z : ∀ y ∈ ys, ∃ a, y = strsD a ∧ SumOf ts a := fun y hy' => by
        obtain ⟨x, _, z⟩ := paired_mem hy hy'
        exact z
      clear hy lb
      induction ys with
      | nil => exact ⟨[], rfl, fun _ h => by cases h⟩
      | cons y ys ih =>
        obtain ⟨as, rfl, h⟩ := ih fun y hy => z y (List.mem_cons_of_mem _ hy)
        obtain ⟨a, rfl, ha⟩ := z y List.mem_cons_self
        refine ⟨a :: as, rfl, fun x hx => ?_⟩
        rcases List.mem_cons.mp hx with e | e
        · rw [e]; exact ha
        · exact h x e
    rw [List.length_map] at lb
    rw [List.nil_append]
    refine ⟨_, rfl, _, _, rfl, rfl, ?_⟩
    refine ⟨_, rfl, _, rfl, ?_⟩
    refine lcD_mapM strsD lenD2 as (by omega) (fun a ha R hR => ?_) ?_
    · exact ⟨_, rfl, _, rfl, .inl ⟨_, rfl, _, rfl, show 2 ≤ sizeLine by decide, hR⟩⟩
    refine ⟨_, _, rfl, rfl, srtOk_len (by omega), _, rfl, ?_⟩
    rw [srt_len]
    have lo : (ordF as).length = as.length := List.length_mergeSort _
    refine lcD_mapM lenD2 strsD (ordF as) (by omega) (fun a ha R hR => ?_) ?_
    · exact ⟨_, rfl, _, rfl, hR⟩
    have zo : ∀ l : List (List Str), (∀ a ∈ l, a ∈ as) → l.length ≤ 11 → Sz (.lst (l.map strsD)) 2 3000 := fun l hl2 h11 => (sz_lst (n := 1) (c := 255) fun d hd => by
      obtain ⟨a, ha, rfl⟩ := List.mem_map.mp hd
      have so := has a (hl2 a ha)
      exact sz_sum good so.mem so.len).up (by decide) (by rw [List.length_map]; omega)
    have z1 := zo as (fun _ h => h) (by omega)
    have z2 := zo (ordF as) (fun a h => List.mem_mergeSort.mp h) (by omega)
    refine ⟨_, rfl, by decide, by decide, ?_⟩
    refine forD_run (fun i r => ∃ s2 s4 s5 s9 s10 s11 s12 s13, r = [.no, .dat .bag, s2, .dat (strsD ts), s4, s5, .dat (.lst (as.map strsD)), .dat (.lst (as.map strsD)), .dat (.lst ((ordF as).map strsD)), s9, s10, s11, s12, s13]) ⟨_, _, _, _, _, _, _, _, rfl⟩ ?_ ?_
    · rintro r ⟨s2, s4, s5, s9, s10, s11, s12, s13, rfl⟩
      exact k _ ⟨_, _, _, _, _, _, _, _, _, _, _, _, rfl⟩
    · rintro i2 d2 r nx2 hd2 ⟨s2, s4, s5, s9, s10, s11, s12, s13, rfl⟩ k2
      refine ⟨_, rfl, as, rfl, by rw [sizeLine_eq]; omega, ?_⟩
      refine ⟨_, rfl, _, rfl, _, 2, 3000, rfl, z2, by decide, by decide, _, rfl, (if_neg Bool.false_ne_true).mpr ?_⟩
      refine ⟨_, rfl, _, rfl, z1.shp (by decide), z1.shp (by decide), _, rfl, ?_⟩
      rw [eqd_refl z1]
      refine (if_neg Bool.false_ne_true).mpr ?_
      exact ⟨_, rfl, show 0 ≤ sizeLine by decide, by rw [List.length_map, sizeLine_eq]; omega, k2 _ ⟨_, _, _, _, _, _, _, _, rfl⟩⟩
  · rintro i2 d2 r nx2 hd2 ⟨s2, s4, s5, s6, s7, s8, s9, s10, s11, s12, s13, rfl⟩ k2
    refine ⟨_, rfl, 4, rfl, by decide, by decide, fun q q0 q1 => ?_⟩
    refine ⟨_, rfl, by decide, asc.shp, shp_unit, ?_⟩
    rw [eqd_tupNil]
    refine ⟨_, rfl, cmul_small' ⟨by omega, by omega⟩, ?_⟩
    obtain ⟨n2, n3, en, ne⟩ : ∃ n : Nat, n ≤ 3 ∧ (fun i j : Int => i * j) q (if (if true = true then !(List.map Da.str ts).isEmpty else (List.map Da.str ts).isEmpty) = true then 1 else 0) = ((n : Nat) : Int) ∧ (n ≠ 0 → ts ≠ []) := by
      obtain ⟨q, rfl⟩ := Int.eq_ofNat_of_zero_le q0
      cases ts with
      | nil => exact ⟨0, by decide, by show ((q : Nat) : Int) * 0 = 0; omega, fun h => absurd rfl h⟩
      | cons t ts => exact ⟨q, by omega, by show ((q : Nat) : Int) * 1 = q; omega, fun _ => List.cons_ne_nil _ _⟩
    refine ⟨_, rfl, ?_⟩
    rw [en]
    refine ⟨by omega, by omega, ?_⟩
    rw [Int.toNat_natCast]
    refine lcD_all (fun d y => ∃ t, y = .str t ∧ t ∈ ts) _ [] (by rw [rngD_len]; simp; omega) (fun d hd R hR => ?_) fun ys hy => ?_
    · have n0 : n2 ≠ 0 := fun z => by
        rw [z] at hd
        cases hd
      refine ⟨_, rfl, _, rfl, _, _, rfl, rfl, rfl, fun z => ne n0 (List.map_eq_nil_iff.mp z), by rw [List.length_map]; omega, fun d hd => ?_⟩
      obtain ⟨t, ht, rfl⟩ := List.mem_map.mp hd
      exact hR _ ⟨t, rfl, ht⟩
    have lb := paired_len hy
    rw [rngD_len] at lb
    obtain ⟨b, rfl, hb⟩ := all_strs (F := fun t => t ∈ ts) fun y hy' => by
      obtain ⟨x, _, z⟩ := paired_mem hy hy'
      exact z
    rw [List.length_map] at lb
    rw [List.nil_append]
    have bs : ∀ c : List Str, c.Perm b → ∀ x ∈ c, x ∈ ts := fun c p x hx => hb x (p.mem_iff.mp hx)
    refine ⟨_, rfl, _, _, rfl, rfl, ?_⟩
    refine ⟨_, rfl, b, rfl, by omega, fun c p so => ?_⟩
    obtain ⟨c2, e2, p2, so2⟩ := srt_strsS (a := b)
    refine ⟨_, rfl, _, _, rfl, rfl, srtOk_strs (by omega), _, rfl, .inl ⟨_, rfl, ?_⟩⟩
    rw [e2, sorted_uniq so so2 (p.trans p2.symm)]
    refine ⟨_, 1, 255, rfl, sz_sum good (bs c2 p2) (by rw [p2.length_eq]; omega), by decide, by decide, _, rfl, (if_neg Bool.false_ne_true).mpr ?_⟩
    have sb : shp (rowL b) = true := row_shp good hb
    refine ⟨_, rfl, _, rfl, sb, sb, _, rfl, ?_⟩
    rw [show eqd (.lst (b.map .str)) (.lst (b.map .str)) = decide (b = b) from eqd_lstrs, decide_eq_true rfl]
    exact (if_neg Bool.false_ne_true).mpr (k2 _ ⟨_, _, _, _, _, _, _, _, _, _, _, rfl⟩)
end
end K12
namespace K12
open PySem PySem.Spec PyProof.Rows L2 Pd
theorem all_mk {l : PySem.W.OpenLaw} {w : World} {K : PySem.W.Frag} {h : Heap} {mg : Str → Option Value} {fa  cL PL fp_sum_of fp_sums fp_in_order fp_pairs f_bag f_take f_alike f_one f_things f_sum f_all_sums f_right fp_law : Addr} (X : K.In h) (G : h.Ns mainGlobals mg) (hfa : mg "law" = some (.ref fa))
    {odp_sum_of anp_sum_of : Option Addr} {slp_sum_of : Array (Option Value)} {ocp_sum_of kVp_sum_of dcp_sum_of pmp_sum_of cdp_sum_of ctp_sum_of : Value}
    {odp_sums anp_sums : Option Addr} {slp_sums : Array (Option Value)} {ocp_sums kVp_sums dcp_sums pmp_sums cdp_sums ctp_sums : Value}
    {odp_in_order anp_in_order : Option Addr} {slp_in_order : Array (Option Value)} {ocp_in_order kVp_in_order dcp_in_order pmp_in_order cdp_in_order ctp_in_order : Value}
    {odp_pairs anp_pairs : Option Addr} {slp_pairs : Array (Option Value)} {ocp_pairs kVp_pairs dcp_pairs pmp_pairs cdp_pairs ctp_pairs : Value}
    {od_bag an_bag : Option Addr} {sl_bag : Array (Option Value)} {oc_bag kV_bag dc_bag pm_bag cd_bag ct_bag : Value}
    {od_take an_take : Option Addr} {sl_take : Array (Option Value)} {oc_take kV_take dc_take pm_take cd_take ct_take : Value}
    {od_alike an_alike : Option Addr} {sl_alike : Array (Option Value)} {oc_alike kV_alike dc_alike pm_alike cd_alike ct_alike : Value}
    {od_one an_one : Option Addr} {sl_one : Array (Option Value)} {oc_one kV_one dc_one pm_one cd_one ct_one : Value}
    {od_things an_things : Option Addr} {sl_things : Array (Option Value)} {oc_things kV_things dc_things pm_things cd_things ct_things : Value}
    {od_sum an_sum : Option Addr} {sl_sum : Array (Option Value)} {oc_sum kV_sum dc_sum pm_sum cd_sum ct_sum : Value}
    {od_all_sums an_all_sums : Option Addr} {sl_all_sums : Array (Option Value)} {oc_all_sums kV_all_sums dc_all_sums pm_all_sums cd_all_sums ct_all_sums : Value}
    {od_right an_right : Option Addr} {sl_right : Array (Option Value)} {oc_right kV_right dc_right pm_right cd_right ct_right : Value}
    {odp_law anp_law : Option Addr} {slp_law : Array (Option Value)} {ocp_law kVp_law dcp_law pmp_law cdp_law ctp_law : Value}
    (ap_sum_of : PySem.W.nsIn K mainGlobals "sum_of" = some (some (.ref fp_sum_of)))
    (lp_sum_of : K.lookup fp_sum_of = some ⟨ocp_sum_of, odp_sum_of, .func (PySem.W.fnOf "sum_of" "sum_of" (defArgs sp_sum_of) (defBody sp_sum_of) (defScope sp_sum_of) .none kVp_sum_of dcp_sum_of pmp_sum_of anp_sum_of cdp_sum_of ctp_sum_of), slp_sum_of⟩)
    (cp_sum_of : PySem.W.codeIn K cdp_sum_of "sum_of" = true) (kp_sum_of : PySem.W.keepIn K (.ref fp_sum_of) = true)
    (ap_sums : PySem.W.nsIn K mainGlobals "sums" = some (some (.ref fp_sums)))
    (lp_sums : K.lookup fp_sums = some ⟨ocp_sums, odp_sums, .func (PySem.W.fnOf "sums" "sums" (defArgs sp_sums) (defBody sp_sums) (defScope sp_sums) .none kVp_sums dcp_sums pmp_sums anp_sums cdp_sums ctp_sums), slp_sums⟩)
    (cp_sums : PySem.W.codeIn K cdp_sums "sums" = true) (kp_sums : PySem.W.keepIn K (.ref fp_sums) = true)
    (ap_in_order : PySem.W.nsIn K mainGlobals "in_order" = some (some (.ref fp_in_order)))
    (lp_in_order : K.lookup fp_in_order = some ⟨ocp_in_order, odp_in_order, .func (PySem.W.fnOf "in_order" "in_order" (defArgs sp_in_order) (defBody sp_in_order) (defScope sp_in_order) .none kVp_in_order dcp_in_order pmp_in_order anp_in_order cdp_in_order ctp_in_order), slp_in_order⟩)
    (cp_in_order : PySem.W.codeIn K cdp_in_order "in_order" = true) (kp_in_order : PySem.W.keepIn K (.ref fp_in_order) = true)
    (ap_pairs : PySem.W.nsIn K mainGlobals "pairs" = some (some (.ref fp_pairs)))
    (lp_pairs : K.lookup fp_pairs = some ⟨ocp_pairs, odp_pairs, .func (PySem.W.fnOf "pairs" "pairs" (defArgs sp_pairs) (defBody sp_pairs) (defScope sp_pairs) .none kVp_pairs dcp_pairs pmp_pairs anp_pairs cdp_pairs ctp_pairs), slp_pairs⟩)
    (cp_pairs : PySem.W.codeIn K cdp_pairs "pairs" = true) (kp_pairs : PySem.W.keepIn K (.ref fp_pairs) = true)
    (a_bag : PySem.W.nsIn K mainGlobals "_law_bag" = some (some (.ref f_bag)))
    (l_bag : K.lookup f_bag = some ⟨oc_bag, od_bag, .func (PySem.W.fnOf "_law_bag" "_law_bag" (defArgs s_bag) (defBody s_bag) (defScope s_bag) .none kV_bag dc_bag pm_bag an_bag cd_bag ct_bag), sl_bag⟩)
    (c_bag : PySem.W.codeIn K cd_bag "_law_bag" = true) (k_bag : PySem.W.keepIn K (.ref f_bag) = true)
    (a_take : PySem.W.nsIn K mainGlobals "_law_take" = some (some (.ref f_take)))
    (l_take : K.lookup f_take = some ⟨oc_take, od_take, .func (PySem.W.fnOf "_law_take" "_law_take" (defArgs s_take) (defBody s_take) (defScope s_take) .none kV_take dc_take pm_take an_take cd_take ct_take), sl_take⟩)
    (c_take : PySem.W.codeIn K cd_take "_law_take" = true) (k_take : PySem.W.keepIn K (.ref f_take) = true)
    (a_alike : PySem.W.nsIn K mainGlobals "_law_alike" = some (some (.ref f_alike)))
    (l_alike : K.lookup f_alike = some ⟨oc_alike, od_alike, .func (PySem.W.fnOf "_law_alike" "_law_alike" (defArgs s_alike) (defBody s_alike) (defScope s_alike) .none kV_alike dc_alike pm_alike an_alike cd_alike ct_alike), sl_alike⟩)
    (c_alike : PySem.W.codeIn K cd_alike "_law_alike" = true) (k_alike : PySem.W.keepIn K (.ref f_alike) = true)
    (a_one : PySem.W.nsIn K mainGlobals "_law_one" = some (some (.ref f_one)))
    (l_one : K.lookup f_one = some ⟨oc_one, od_one, .func (PySem.W.fnOf "_law_one" "_law_one" (defArgs s_one) (defBody s_one) (defScope s_one) .none kV_one dc_one pm_one an_one cd_one ct_one), sl_one⟩)
    (c_one : PySem.W.codeIn K cd_one "_law_one" = true) (k_one : PySem.W.keepIn K (.ref f_one) = true)
    (a_things : PySem.W.nsIn K mainGlobals "_law_things" = some (some (.ref f_things)))
    (l_things : K.lookup f_things = some ⟨oc_things, od_things, .func (PySem.W.fnOf "_law_things" "_law_things" (defArgs s_things) (defBody s_things) (defScope s_things) .none kV_things dc_things pm_things an_things cd_things ct_things), sl_things⟩)
    (c_things : PySem.W.codeIn K cd_things "_law_things" = true) (k_things : PySem.W.keepIn K (.ref f_things) = true)
    (a_sum : PySem.W.nsIn K mainGlobals "_law_sum" = some (some (.ref f_sum)))
    (l_sum : K.lookup f_sum = some ⟨oc_sum, od_sum, .func (PySem.W.fnOf "_law_sum" "_law_sum" (defArgs s_sum) (defBody s_sum) (defScope s_sum) .none kV_sum dc_sum pm_sum an_sum cd_sum ct_sum), sl_sum⟩)
    (c_sum : PySem.W.codeIn K cd_sum "_law_sum" = true) (k_sum : PySem.W.keepIn K (.ref f_sum) = true)
    (a_all_sums : PySem.W.nsIn K mainGlobals "_law_all_sums" = some (some (.ref f_all_sums)))
    (l_all_sums : K.lookup f_all_sums = some ⟨oc_all_sums, od_all_sums, .func (PySem.W.fnOf "_law_all_sums" "_law_all_sums" (defArgs s_all_sums) (defBody s_all_sums) (defScope s_all_sums) .none kV_all_sums dc_all_sums pm_all_sums an_all_sums cd_all_sums ct_all_sums), sl_all_sums⟩)
    (c_all_sums : PySem.W.codeIn K cd_all_sums "_law_all_sums" = true) (k_all_sums : PySem.W.keepIn K (.ref f_all_sums) = true)
    (a_right : PySem.W.nsIn K mainGlobals "_law_right" = some (some (.ref f_right)))
    (l_right : K.lookup f_right = some ⟨oc_right, od_right, .func (PySem.W.fnOf "_law_right" "_law_right" (defArgs s_right) (defBody s_right) (defScope s_right) .none kV_right dc_right pm_right an_right cd_right ct_right), sl_right⟩)
    (c_right : PySem.W.codeIn K cd_right "_law_right" = true) (k_right : PySem.W.keepIn K (.ref f_right) = true)
    (ap_law : PySem.W.nsIn K mainGlobals "law" = some (some (.ref fp_law)))
    (lp_law : K.lookup fp_law = some ⟨ocp_law, odp_law, .func (PySem.W.fnOf "law" "law" (defArgs sp_law) (defBody sp_law) (defScope sp_law) .none kVp_law dcp_law pmp_law anp_law cdp_law ctp_law), slp_law⟩)
    (cp_law : PySem.W.codeIn K cdp_law "law" = true) (kp_law : PySem.W.keepIn K (.ref fp_law) = true)
    (z_abs : PySem.W.nsIn K mainGlobals "abs" = some none)
    (z_enumerate : PySem.W.nsIn K mainGlobals "enumerate" = some none)
    (z_int : PySem.W.nsIn K mainGlobals "int" = some none)
    (z_len : PySem.W.nsIn K mainGlobals "len" = some none)
    (z_list : PySem.W.nsIn K mainGlobals "list" = some none)
    (z_range : PySem.W.nsIn K mainGlobals "range" = some none)
    (z_repr : PySem.W.nsIn K mainGlobals "repr" = some none)
    (z_sorted : PySem.W.nsIn K mainGlobals "sorted" = some none)
    (z_tuple : PySem.W.nsIn K mainGlobals "tuple" = some none)
    (eL : cdp_in_order = .ref cL)
    (tL : h.get? PL = some (PySem.W.tabObj #[]))
    (nL : K.lookup PL = none)
    (hL : PySem.W.codeHdIn K cL PL = true)
    : ∃ (fd : FuncData) (cs : List (Addr × Addr)) (T : List (Addr × Str)), (∀ (s : Shared) (u : Value), BindsTo s fd ⟨[u], []⟩ [("_law_script", u)]) ∧ (∀ p ∈ cs, h.get? p.2 = some (PySem.W.tabObj #[])) ∧ (∀ p ∈ cs, K.lookup p.2 = none) ∧ (∀ p ∈ cs, PySem.W.CodeHd h p.1 p.2) ∧ (∀ p ∈ T, ∃ c, (c, p.1) ∈ cs) ∧
        ∀ base : Heap, K.In base → base.Ns mainGlobals mg → (∃ o, base.get? sysModules = some o) → (∀ p ∈ cs, LamX.TabB base mg p.1 p.2) → FnG l.prog w K mg base CX0 8 fa fd ["_law_script"] (spLawT K T) := by
  have e := hfa.symm.trans (PySem.W.mg_of X G ap_law)
  cases e
  have FL := fun_mk (st := sp_law) lp_law cp_law kp_law
  have FB := fun_mk (st := s_bag) l_bag c_bag k_bag
  have bB := FB.binds (ps := ["_law_script"]) fun _ _ _ _ _ _ us hl => match us, hl with | [_], _ => rfl
  have T : Txt K mg := by
    constructor
    · exact defAt_mk X G a_take l_take c_take k_take fun _ _ _ _ _ _ us hl => match us, hl with | [_, _], _ => rfl
    · exact defAt_mk X G ap_sum_of lp_sum_of cp_sum_of kp_sum_of fun _ _ _ _ _ _ us hl => match us, hl with | [_], _ => rfl
    · exact defAt_mk X G ap_sums lp_sums cp_sums kp_sums fun _ _ _ _ _ _ us hl => match us, hl with | [_, _], _ => rfl
    · exact defAt_mk X G ap_in_order lp_in_order cp_in_order kp_in_order fun _ _ _ _ _ _ us hl => match us, hl with | [_], _ => rfl
    · exact defAt_mk X G ap_pairs lp_pairs cp_pairs kp_pairs fun _ _ _ _ _ _ us hl => match us, hl with | [_, _], _ => rfl
    · exact defAt_mk X G a_alike l_alike c_alike k_alike fun _ _ _ _ _ _ us hl => match us, hl with | [_, _], _ => rfl
    · exact defAt_mk X G a_one l_one c_one k_one fun _ _ _ _ _ _ us hl => match us, hl with | [_, _], _ => rfl
    · exact defAt_mk X G a_things l_things c_things k_things fun _ _ _ _ _ _ us hl => match us, hl with | [_, _], _ => rfl
    · exact defAt_mk X G a_sum l_sum c_sum k_sum fun _ _ _ _ _ _ us hl => match us, hl with | [_, _, _], _ => rfl
    · exact defAt_mk X G a_all_sums l_all_sums c_all_sums k_all_sums fun _ _ _ _ _ _ us hl => match us, hl with | [_, _], _ => rfl
    · exact defAt_mk X G a_right l_right c_right k_right fun _ _ _ _ _ _ us hl => match us, hl with | [_, _], _ => rfl
    · exact PySem.W.mg_none_of X G z_abs
    · exact PySem.W.mg_none_of X G z_enumerate
    · exact PySem.W.mg_none_of X G z_int
    · exact PySem.W.mg_none_of X G z_len
    · exact PySem.W.mg_none_of X G z_list
    · exact PySem.W.mg_none_of X G z_range
    · exact PySem.W.mg_none_of X G z_repr
    · exact PySem.W.mg_none_of X G z_sorted
    · exact PySem.W.mg_none_of X G z_tuple
  exact ⟨_, [(cL, PL)], [(PL, "in_order.<locals>.<lambda>")], fun s v => .of_eq rfl, fun p hp => by rw [List.mem_singleton.mp hp]; exact tL, fun p hp => by rw [List.mem_singleton.mp hp]; exact nL, fun p hp => by rw [List.mem_singleton.mp hp]; exact PySem.W.codeHd_of_K X hL, fun p hp => ⟨cL, by rw [List.mem_singleton.mp hp]; exact List.mem_cons_self⟩,
    fun base _ _ hb tb => ok_law ⟨⟨_, _, _, PySem.W.mg_of X G ap_in_order, lp_in_order, rfl, rfl⟩⟩ ⟨cL, PL, eL, tb _ List.mem_cons_self, List.mem_cons_self, fun p hp _ => by rw [List.mem_singleton.mp hp]⟩ FL FB (PySem.W.mg_of X G a_bag) bB (PySem.W.mg_none_of X G z_abs) T⟩
end K12
open PySem PySem.W PyProof.Rows
set_option maxHeartbeats 0 in
theorem PySem.Challenge.cw_asmuchas_k12_sums_listed_holds : PySem.Challenge.rw_asmuchas_k12_sums_listed.Holds := by
  w_on; o_law; k_head; (case hw => w_witness2)
  k_fill
  refine Pd.top_walkT (l := PySem.Challenge.rw_asmuchas_k12_sums_listed) (n := 63) (k := 8) (x := "_law_script") (by decide +kernel) rfl (by decide) (by decide) rfl ⟨rfl, by decide, by decide⟩ (fun w h Y => PySem.W.km_in_of Y) ?F
  case F =>
    intro w mg fa h Y KX G hmg
    refine' K12.all_mk KX G hmg ?ap_sum_of ?lp_sum_of ?cp_sum_of ?kp_sum_of ?ap_sums ?lp_sums ?cp_sums ?kp_sums ?ap_in_order ?lp_in_order ?cp_in_order ?kp_in_order ?ap_pairs ?lp_pairs ?cp_pairs ?kp_pairs ?a_bag ?l_bag ?c_bag ?k_bag ?a_take ?l_take ?c_take ?k_take ?a_alike ?l_alike ?c_alike ?k_alike ?a_one ?l_one ?c_one ?k_one ?a_things ?l_things ?c_things ?k_things ?a_sum ?l_sum ?c_sum ?k_sum ?a_all_sums ?l_all_sums ?c_all_sums ?k_all_sums ?a_right ?l_right ?c_right ?k_right ?ap_law ?lp_law ?cp_law ?kp_law ?z_abs ?z_enumerate ?z_int ?z_len ?z_list ?z_range ?z_repr ?z_sorted ?z_tuple ?eL ?tL ?nL ?hL
    (case ap_sum_of => k_is)
    (case lp_sum_of => k_is)
    (case cp_sum_of => k_is)
    (case kp_sum_of => k_is)
    (case ap_sums => k_is)
    (case lp_sums => k_is)
    (case cp_sums => k_is)
    (case kp_sums => k_is)
    (case ap_in_order => k_is)
    (case lp_in_order => k_is)
    (case cp_in_order => k_is)
    (case kp_in_order => k_is)
    (case ap_pairs => k_is)
    (case lp_pairs => k_is)
    (case cp_pairs => k_is)
    (case kp_pairs => k_is)
    (case a_bag => k_is)
    (case l_bag => k_is)
    (case c_bag => k_is)
    (case k_bag => k_is)
    (case a_take => k_is)
    (case l_take => k_is)
    (case c_take => k_is)
    (case k_take => k_is)
    (case a_alike => k_is)
    (case l_alike => k_is)
    (case c_alike => k_is)
    (case k_alike => k_is)
    (case a_one => k_is)
    (case l_one => k_is)
    (case c_one => k_is)
    (case k_one => k_is)
    (case a_things => k_is)
    (case l_things => k_is)
    (case c_things => k_is)
    (case k_things => k_is)
    (case a_sum => k_is)
    (case l_sum => k_is)
    (case c_sum => k_is)
    (case k_sum => k_is)
    (case a_all_sums => k_is)
    (case l_all_sums => k_is)
    (case c_all_sums => k_is)
    (case k_all_sums => k_is)
    (case a_right => k_is)
    (case l_right => k_is)
    (case c_right => k_is)
    (case k_right => k_is)
    (case ap_law => k_is)
    (case lp_law => k_is)
    (case cp_law => k_is)
    (case kp_law => k_is)
    (case z_abs => k_is)
    (case z_enumerate => k_is)
    (case z_int => k_is)
    (case z_len => k_is)
    (case z_list => k_is)
    (case z_range => k_is)
    (case z_repr => k_is)
    (case z_sorted => k_is)
    (case z_tuple => k_is)
    (case eL => rfl)
    (case tL => exact PySem.W.km_tabs_of Y _ List.mem_cons_self)
    (case nL => first | rfl | kernel_rfl)
    (case hL => kernel_rfl)

